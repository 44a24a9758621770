/- jitneyref03.Write: the document's text of a number is the same; over the translated program. -/
import Derived.Test.YtbkklgafdmhmlaaDoorDeciWrite
import Derived.Deep.QuietTactic
import Derived.BigQuiet
namespace Go.Proofs.YtbkklgafdmhmlaaDoor
namespace Deci
open Go Go.RowKit Go.Sort
theorem itoa_drop (n : Int) : (n < 0 → (Lib.itoa n).drop 1 = Lib.decDigits n.natAbs ∧ 1 ≤ (Lib.itoa n).length) ∧ (¬ n < 0 → Lib.itoa n = Lib.decDigits n.natAbs) := by
  refine ⟨fun h => ?_, fun h => ?_⟩
  · have e : Lib.itoa n = 45 :: Lib.decDigits n.natAbs := by unfold Lib.itoa; rw [if_pos h]
    rw [e]; simp
  · unfold Lib.itoa; rw [if_neg h]; congr 1; omega
/-- Noughts at the end, one by one. -/
theorem trim_step (l : List UInt8) : Lib.trimRightB (l ++ [48]) 48 = Lib.trimRightB l 48 := by
  unfold Lib.trimRightB; simp
theorem trim_stop (l : List UInt8) (c : UInt8) (h : c ≠ 48) : Lib.trimRightB (l ++ [c]) 48 = l ++ [c] := by
  unfold Lib.trimRightB
  have : (c == 48) = false := by simpa using h
  simp [this]
theorem trim_nil : Lib.trimRightB [] 48 = [] := rfl
set_option maxHeartbeats 2000000 in
theorem refWrite_any (n sc : Int) (w : World) (hE : Env w) (n1 : -9223372036854775808 ≤ n) (n2 : n ≤ 9223372036854775807) :
    Calls Tryd.prog 14 #[.int .i64 n, .int .i64 sc] w fun e w' => e = .returned (.string (strOf (writeV n sc))) ∧ Below w.heap.size w w' := by
  have hfi := Sh.strconv_FormatInt_10 n n1 n2 w hE.tab
  change Calls Tryd.prog 26 #[.int .i64 n, .int .i64 10] w fun e w' => e = .returned (.string (strOf (Lib.itoa n))) ∧ ∃ k os, w' = grow (w.drewN k) os at hfi
  have hh := fun w => refHeld_any sc 0 6 (by omega) w
  have hsc := heldV_bd (n := sc) (a := 0) (b := 6) (by omega)
  have hdl : (Lib.decDigits n.natAbs).length ≤ 20 := dig_len 19 _ (by have : (10 : Nat) ^ (19 + 1) = 100000000000000000000 := by decide
                                                                      omega)
  have hdn := List.length_pos_iff.2 (dig_ne n.natAbs)
  have hit := itoa_drop n
  have hil : (Lib.itoa n).length ≤ 21 := by
    by_cases h : n < 0
    · have := congrArg List.length (hit.1 h).1; simp at this; omega
    · rw [hit.2 h]; omega
  have hwv : writeV n sc = (if n < 0 then [45] else []) ++ (headV n sc ++ (if partV n sc = [] then [] else 46 :: partV n sc)) := rfl
  have hpv : partV n sc = Lib.trimRightB ((padL (heldV sc 0 6).toNat (Lib.decDigits n.natAbs)).drop ((padL (heldV sc 0 6).toNat (Lib.decDigits n.natAbs)).length - (heldV sc 0 6).toNat)) 48 := rfl
  have hhv : headV n sc = (padL (heldV sc 0 6).toNat (Lib.decDigits n.natAbs)).take ((padL (heldV sc 0 6).toNat (Lib.decDigits n.natAbs)).length - (heldV sc 0 6).toNat) := rfl
  generalize writeV n sc = V at *
  generalize headV n sc = H at *
  generalize partV n sc = P at *
  generalize Lib.itoa n = I at *
  generalize heldV sc 0 6 = k at *
  generalize Lib.decDigits n.natAbs = d at *
  clear hE
  obtain ⟨k1, k2⟩ := hsc
  obtain ⟨k, rfl⟩ : ∃ j : Nat, k = j := ⟨k.toNat, by omega⟩
  simp only [Int.toNat_natCast] at hpv hhv
  have hpad := padL_length k d
  have HFI := Lib.hid hfi; clear hfi
  have HH := Lib.hid hh; clear hh
  have HWV := Lib.hid hwv; clear hwv
  have HPV := Lib.hid hpv; clear hpv
  have HHV := Lib.hid hhv; clear hhv
  have HPAD := Lib.hid hpad; clear hpad
  have HIT := Lib.hid hit; clear hit
  have k2' : k ≤ 6 := by omega
  have his : (strOf I).size ≤ 21 := hil
  by_cases hn : n < 0
  · have his1 : 1 ≤ (strOf I).size := (HIT.out.1 hn).2
    have hcut : (strOf I).extract 1 (strOf I).size = strOf d := by rw [extract_back, data_strOf, (HIT.out.1 hn).1]
    have HCUT := Lib.hid hcut; clear hcut
    go_enter Tryd.func14, Tryd.ntmps14
    go_wp2_with (first
      | (go_at_call 28; (with_reducible refine (HH.out _).mono ?_); rintro e w' ⟨rfl, rfl⟩)
      | (go_at_call 26; (with_reducible refine HFI.out.mono ?_); rintro e W1 ⟨rfl, q, os, hW⟩; have hb := Lib.below_grow w.heap.size w (Nat.le_refl _) q os; rw [← hW] at hb; have HB := Lib.hid hb; clear hb hW))
    go_loop [5] (fun t => ∃ j : Nat, j ≤ k + 1 - d.length ∧ t = .string (strOf (List.replicate j 48 ++ d))) (fun t => k + 1 - (match t with | .string x => x.size | _ => 0))
    case atStart => exact ⟨0, Nat.zero_le _, by rw [HCUT.out]; rfl⟩
    case round =>
      obtain ⟨j, hj, rfl⟩ := hrel
      have hsz0 : (strOf (List.replicate j 48 ++ d)).size = j + d.length := by show (List.replicate j 48 ++ d).length = _; simp
      by_cases hlt : j + d.length ≤ k
      · have hlt' : ((strOf (List.replicate j 48 ++ d)).size : Int) ≤ (k : Int) := by omega
        have hlt2 : (strOf (List.replicate j 48 ++ d)).size ≤ k := by omega
        have hsz : (strOf (List.replicate j 48 ++ d)).size ≤ 100 := by omega
        have hsz1 : (strOf (List.replicate (j + 1) 48 ++ d)).size = j + 1 + d.length := by show (List.replicate (j + 1) 48 ++ d).length = _; simp
        have happ : (⟨#[48]⟩ : ByteArray) ++ strOf (List.replicate j 48 ++ d) = strOf (List.replicate (j + 1) 48 ++ d) := by
          rw [show (⟨#[48]⟩ : ByteArray) = strOf [48] from rfl, strOf_append, List.replicate_succ]; rfl
        have h0 : (ByteArray.mk #[48]).size = 1 := rfl
        obtain ⟨T, hT⟩ : ∃ T, T = strOf (List.replicate j 48 ++ d) := ⟨_, rfl⟩
        obtain ⟨T2, hT2⟩ : ∃ T2, T2 = strOf (List.replicate (j + 1) 48 ++ d) := ⟨_, rfl⟩
        rw [← hT2] at happ hsz1
        rw [← hT] at happ hsz0 hlt' hlt2 hsz ⊢
        have HT2 := Lib.hid hT2; clear hT2
        have HT := Lib.hid hT; clear hT
        have HS0 := Lib.hid hsz0; clear hsz0
        have HS1 := Lib.hid hsz1; clear hsz1
        go_wp2
        go_round
        case rel => exact ⟨j + 1, by omega, by first | rw [← HT2.out] | (rw [happ, ← HT2.out])⟩
        case measure =>
          have h1 := HS0.out
          have h2 := HS1.out
          simp
          first | omega | (rw [happ]; omega)
      · obtain rfl : j = k + 1 - d.length := by omega
        have hT : List.replicate (k + 1 - d.length) 48 ++ d = padL k d := rfl
        rw [hT] at hsz0 ⊢
        obtain ⟨T, hTT⟩ : ∃ T, T = strOf (padL k d) := ⟨_, rfl⟩
        rw [← hTT] at hsz0 ⊢
        obtain ⟨p, hp⟩ : ∃ p : Nat, T.size = p + k := ⟨T.size - k, by omega⟩
        have hps : p ≤ 100 := by omega
        have hpp : (T.size : Int) - (k : Int) = p := by omega
        have hTd : T.data.toList = padL k d := by rw [hTT]; rfl
        have hH : T.extract 0 p = strOf H := by rw [extract_front, hTd, HHV.out]; congr 2; have := HPAD.out; omega
        have hP : P = Lib.trimRightB (T.data.toList.drop p) 48 := by rw [hTd, HPV.out]; congr 2; have := HPAD.out; omega
        have hsn : ∀ m (h : m < T.size), p ≤ m → (T.data.toList.take (m + 1)).drop p = (T.data.toList.take m).drop p ++ [T[m]] := fun m h hm => by
          rw [take_snoc T m h, List.drop_append_of_le_length (by simp; omega)]
        have hTl : T.data.toList.length = T.size := by simp
        have hlt' : ¬ (T.size : Int) ≤ (k : Int) := by omega
        have hlt2 : ¬ T.size ≤ k := by omega
        have p1 : (p : Int) ≤ (T.size : Int) := by omega
        have p2 : (T.size : Int) ≤ 200 := by omega
        have p3 : 0 ≤ (T.size : Int) - (k : Int) := by omega
        have p4 : p ≤ T.size := by omega
        have p5 : T.size ≤ 200 := by omega
        have HP := Lib.hid hP; clear hP
        have HHH := Lib.hid hH; clear hH
        have HPP := Lib.hid hpp; clear hpp
        have HSN := Lib.hid hsn; clear hsn
        have HTL := Lib.hid hTl; clear hTl
        clear hTT hp hT hTd hsz0 hlt HPAD HHV HPV HFI HH HIT
        go_wp2_with fail
        rw [HPP.out]
        go_loop [8] (fun i => ∃ e : Nat, p ≤ e ∧ e ≤ T.size ∧ i = .int .i64 e ∧ P = Lib.trimRightB ((T.data.toList.take e).drop p) 48) (fun i => (intOf i).toNat)
        case atStart => exact ⟨T.size, p4, Nat.le_refl _, rfl, by rw [List.take_of_length_le (by rw [HTL.out]; exact Nat.le_refl _)]; exact HP.out⟩
        case round =>
          obtain ⟨e, he1, he2, rfl, hPe⟩ := hrel
          have HPE := Lib.hid hPe; clear hPe
          clear HP
          have hz0 : (ByteArray.mk #[46]).size = 1 := rfl
          have hz1 : (ByteArray.mk #[45]).size = 1 := rfl
          have hsH : (strOf H).size ≤ 200 := by rw [← HHH.out, ByteArray.size_extract]; omega
          by_cases hpe : p < e
          · obtain ⟨m, rfl⟩ : ∃ m, e = m + 1 := ⟨e - 1, by omega⟩
            have hm : m < T.size := by omega
            have hsn := HSN.out m hm (by omega)
            have hem : ((m + 1 : Nat) : Int) - 1 = m := by omega
            by_cases h48 : T[m] = 48
            · have hx : (T[m].toNat : Int) = 48 := by rw [h48]; rfl
              have hP2 : P = Lib.trimRightB ((T.data.toList.take m).drop p) 48 := by rw [HPE.out, hsn, h48, trim_step]
              have HP2 := Lib.hid hP2; clear hP2 hsn h48
              go_wp2
              go_round
              case rel => exact ⟨m, by omega, by omega, by go_num, HP2.out⟩
              case measure => simp [intOf] <;> omega
            · have hx : ¬ (T[m].toNat : Int) = 48 := by
                intro e; apply h48; apply UInt8.toNat_inj.1
                have : T[m].toNat = 48 := by omega
                rw [this]; rfl
              have hP2 : P = (T.data.toList.take (m + 1)).drop p := by rw [HPE.out, hsn, trim_stop _ _ h48]
              have hP3 : P ≠ [] := by rw [hP2, hsn]; simp
              have hcut : T.extract p (m + 1) = strOf P := by rw [← strOf_data (T.extract p (m + 1)), extract_data', hP2, List.drop_take]
              have hWV := HWV.out
              rw [if_neg hP3, if_pos (by omega : n < 0)] at hWV
              have hsP : (strOf P).size ≤ 200 := by rw [← hcut, ByteArray.size_extract]; omega
              have HCUTT := Lib.hid hcut; clear hcut hP2 hsn h48 hP3
              have hne2 : ¬ (m + 1 : Nat) = p := by omega
              have hne : (((m + 1 : Nat) : Int) == (p : Int)) = false := by simpa using (by omega : ¬ ((m : Int) + 1 = (p : Int)))
              have p6 : (p : Int) ≤ ((m + 1 : Nat) : Int) := by omega
              have p7 : ((m + 1 : Nat) : Int) ≤ (T.size : Int) := by omega
              clear HPE
              have hfin : (⟨#[45]⟩ : ByteArray) ++ T.extract 0 p ++ ⟨#[46]⟩ ++ T.extract p (m + 1) = strOf V := by
                rw [HHH.out, HCUTT.out, show (⟨#[45]⟩ : ByteArray) = strOf [45] from rfl, show (⟨#[46]⟩ : ByteArray) = strOf [46] from rfl, strOf_append, strOf_append, strOf_append, hWV]; congr 1; simp
              have HF := Lib.hid hfin; clear hfin hWV
              go_wp2
              go_quiet (fail)
              go_wp2
              go_ret
              exact ⟨ret_str HF.out, below_drewN HB.out _⟩
          · obtain rfl : e = p := by omega
            have hP2 : P = [] := by rw [HPE.out]; rw [List.drop_eq_nil_of_le (by simp; omega)]; exact trim_nil
            have hWV := HWV.out
            rw [if_pos hP2, List.append_nil, if_pos (by omega : n < 0)] at hWV
            clear HPE hP2
            have hfin : (⟨#[45]⟩ : ByteArray) ++ T.extract 0 e = strOf V := by
              rw [HHH.out, show (⟨#[45]⟩ : ByteArray) = strOf [45] from rfl, strOf_append, hWV]
            have HF := Lib.hid hfin; clear hfin hWV
            go_wp2
            go_ret
            exact ⟨ret_str HF.out, HB.out⟩
  · have hid2 := HIT.out.2 hn
    have hid3 := hid2.symm
    subst hid3
    go_enter Tryd.func14, Tryd.ntmps14
    go_wp2_with (first
      | (go_at_call 28; (with_reducible refine (HH.out _).mono ?_); rintro e w' ⟨rfl, rfl⟩)
      | (go_at_call 26; (with_reducible refine HFI.out.mono ?_); rintro e W1 ⟨rfl, q, os, hW⟩; have hb := Lib.below_grow w.heap.size w (Nat.le_refl _) q os; rw [← hW] at hb; have HB := Lib.hid hb; clear hb hW))
    go_loop [5] (fun t => ∃ j : Nat, j ≤ k + 1 - d.length ∧ t = .string (strOf (List.replicate j 48 ++ d))) (fun t => k + 1 - (match t with | .string x => x.size | _ => 0))
    case atStart => exact ⟨0, Nat.zero_le _, rfl⟩
    case round =>
      obtain ⟨j, hj, rfl⟩ := hrel
      have hsz0 : (strOf (List.replicate j 48 ++ d)).size = j + d.length := by show (List.replicate j 48 ++ d).length = _; simp
      by_cases hlt : j + d.length ≤ k
      · have hlt' : ((strOf (List.replicate j 48 ++ d)).size : Int) ≤ (k : Int) := by omega
        have hlt2 : (strOf (List.replicate j 48 ++ d)).size ≤ k := by omega
        have hsz : (strOf (List.replicate j 48 ++ d)).size ≤ 100 := by omega
        have hsz1 : (strOf (List.replicate (j + 1) 48 ++ d)).size = j + 1 + d.length := by show (List.replicate (j + 1) 48 ++ d).length = _; simp
        have happ : (⟨#[48]⟩ : ByteArray) ++ strOf (List.replicate j 48 ++ d) = strOf (List.replicate (j + 1) 48 ++ d) := by
          rw [show (⟨#[48]⟩ : ByteArray) = strOf [48] from rfl, strOf_append, List.replicate_succ]; rfl
        have h0 : (ByteArray.mk #[48]).size = 1 := rfl
        obtain ⟨T, hT⟩ : ∃ T, T = strOf (List.replicate j 48 ++ d) := ⟨_, rfl⟩
        obtain ⟨T2, hT2⟩ : ∃ T2, T2 = strOf (List.replicate (j + 1) 48 ++ d) := ⟨_, rfl⟩
        rw [← hT2] at happ hsz1
        rw [← hT] at happ hsz0 hlt' hlt2 hsz ⊢
        have HT2 := Lib.hid hT2; clear hT2
        have HT := Lib.hid hT; clear hT
        have HS0 := Lib.hid hsz0; clear hsz0
        have HS1 := Lib.hid hsz1; clear hsz1
        go_wp2
        go_round
        case rel => exact ⟨j + 1, by omega, by first | rw [← HT2.out] | (rw [happ, ← HT2.out])⟩
        case measure =>
          have h1 := HS0.out
          have h2 := HS1.out
          simp
          first | omega | (rw [happ]; omega)
      · obtain rfl : j = k + 1 - d.length := by omega
        have hT : List.replicate (k + 1 - d.length) 48 ++ d = padL k d := rfl
        rw [hT] at hsz0 ⊢
        obtain ⟨T, hTT⟩ : ∃ T, T = strOf (padL k d) := ⟨_, rfl⟩
        rw [← hTT] at hsz0 ⊢
        obtain ⟨p, hp⟩ : ∃ p : Nat, T.size = p + k := ⟨T.size - k, by omega⟩
        have hps : p ≤ 100 := by omega
        have hpp : (T.size : Int) - (k : Int) = p := by omega
        have hTd : T.data.toList = padL k d := by rw [hTT]; rfl
        have hH : T.extract 0 p = strOf H := by rw [extract_front, hTd, HHV.out]; congr 2; have := HPAD.out; omega
        have hP : P = Lib.trimRightB (T.data.toList.drop p) 48 := by rw [hTd, HPV.out]; congr 2; have := HPAD.out; omega
        have hsn : ∀ m (h : m < T.size), p ≤ m → (T.data.toList.take (m + 1)).drop p = (T.data.toList.take m).drop p ++ [T[m]] := fun m h hm => by
          rw [take_snoc T m h, List.drop_append_of_le_length (by simp; omega)]
        have hTl : T.data.toList.length = T.size := by simp
        have hlt' : ¬ (T.size : Int) ≤ (k : Int) := by omega
        have hlt2 : ¬ T.size ≤ k := by omega
        have p1 : (p : Int) ≤ (T.size : Int) := by omega
        have p2 : (T.size : Int) ≤ 200 := by omega
        have p3 : 0 ≤ (T.size : Int) - (k : Int) := by omega
        have p4 : p ≤ T.size := by omega
        have p5 : T.size ≤ 200 := by omega
        have HP := Lib.hid hP; clear hP
        have HHH := Lib.hid hH; clear hH
        have HPP := Lib.hid hpp; clear hpp
        have HSN := Lib.hid hsn; clear hsn
        have HTL := Lib.hid hTl; clear hTl
        clear hTT hp hT hTd hsz0 hlt HPAD HHV HPV HFI HH HIT
        go_wp2_with fail
        rw [HPP.out]
        go_loop [8] (fun i => ∃ e : Nat, p ≤ e ∧ e ≤ T.size ∧ i = .int .i64 e ∧ P = Lib.trimRightB ((T.data.toList.take e).drop p) 48) (fun i => (intOf i).toNat)
        case atStart => exact ⟨T.size, p4, Nat.le_refl _, rfl, by rw [List.take_of_length_le (by rw [HTL.out]; exact Nat.le_refl _)]; exact HP.out⟩
        case round =>
          obtain ⟨e, he1, he2, rfl, hPe⟩ := hrel
          have HPE := Lib.hid hPe; clear hPe
          clear HP
          have hz0 : (ByteArray.mk #[46]).size = 1 := rfl
          have hz1 : (ByteArray.mk #[45]).size = 1 := rfl
          have hsH : (strOf H).size ≤ 200 := by rw [← HHH.out, ByteArray.size_extract]; omega
          by_cases hpe : p < e
          · obtain ⟨m, rfl⟩ : ∃ m, e = m + 1 := ⟨e - 1, by omega⟩
            have hm : m < T.size := by omega
            have hsn := HSN.out m hm (by omega)
            have hem : ((m + 1 : Nat) : Int) - 1 = m := by omega
            by_cases h48 : T[m] = 48
            · have hx : (T[m].toNat : Int) = 48 := by rw [h48]; rfl
              have hP2 : P = Lib.trimRightB ((T.data.toList.take m).drop p) 48 := by rw [HPE.out, hsn, h48, trim_step]
              have HP2 := Lib.hid hP2; clear hP2 hsn h48
              go_wp2
              go_round
              case rel => exact ⟨m, by omega, by omega, by go_num, HP2.out⟩
              case measure => simp [intOf] <;> omega
            · have hx : ¬ (T[m].toNat : Int) = 48 := by
                intro e; apply h48; apply UInt8.toNat_inj.1
                have : T[m].toNat = 48 := by omega
                rw [this]; rfl
              have hP2 : P = (T.data.toList.take (m + 1)).drop p := by rw [HPE.out, hsn, trim_stop _ _ h48]
              have hP3 : P ≠ [] := by rw [hP2, hsn]; simp
              have hcut : T.extract p (m + 1) = strOf P := by rw [← strOf_data (T.extract p (m + 1)), extract_data', hP2, List.drop_take]
              have hWV := HWV.out
              rw [if_neg hP3, if_neg (by omega : ¬ n < 0)] at hWV
              have hsP : (strOf P).size ≤ 200 := by rw [← hcut, ByteArray.size_extract]; omega
              have HCUTT := Lib.hid hcut; clear hcut hP2 hsn h48 hP3
              have hne2 : ¬ (m + 1 : Nat) = p := by omega
              have hne : (((m + 1 : Nat) : Int) == (p : Int)) = false := by simpa using (by omega : ¬ ((m : Int) + 1 = (p : Int)))
              have p6 : (p : Int) ≤ ((m + 1 : Nat) : Int) := by omega
              have p7 : ((m + 1 : Nat) : Int) ≤ (T.size : Int) := by omega
              clear HPE
              have hfin : (⟨#[]⟩ : ByteArray) ++ T.extract 0 p ++ ⟨#[46]⟩ ++ T.extract p (m + 1) = strOf V := by
                rw [HHH.out, HCUTT.out, show (⟨#[]⟩ : ByteArray) = strOf [] from rfl, show (⟨#[46]⟩ : ByteArray) = strOf [46] from rfl, strOf_append, strOf_append, strOf_append, hWV]; congr 1; simp
              have HF := Lib.hid hfin; clear hfin hWV
              go_wp2
              go_quiet (fail)
              go_wp2
              go_ret
              exact ⟨ret_str HF.out, below_drewN HB.out _⟩
          · obtain rfl : e = p := by omega
            have hP2 : P = [] := by rw [HPE.out]; rw [List.drop_eq_nil_of_le (by simp; omega)]; exact trim_nil
            have hWV := HWV.out
            rw [if_pos hP2, List.append_nil, if_neg (by omega : ¬ n < 0)] at hWV
            clear HPE hP2
            have hfin : (⟨#[]⟩ : ByteArray) ++ T.extract 0 e = strOf V := by
              rw [HHH.out, show (⟨#[]⟩ : ByteArray) = strOf [] from rfl, strOf_append, hWV]
            have HF := Lib.hid hfin; clear hfin hWV
            go_wp2
            go_ret
            exact ⟨ret_str HF.out, HB.out⟩
end Deci
end Go.Proofs.YtbkklgafdmhmlaaDoor
