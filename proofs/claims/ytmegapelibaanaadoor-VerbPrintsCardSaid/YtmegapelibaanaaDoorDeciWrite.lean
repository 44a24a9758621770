/- deci.Write: a number as a decimal; over the translated program. -/
import Derived.Test.YtmegapelibaanaaDoorDeciRead
import Derived.Lib.AppendIntMem
namespace Go.Proofs.YtmegapelibaanaaDoor
namespace Deci
open Go Go.RowKit Go.Sort
theorem ret_str {a b : ByteArray} (h : a = b) : Ending.returned (.string a) = .returned (.string b) := by rw [h]
theorem dig_len : ∀ (k u : Nat), u < 10 ^ (k + 1) → (Lib.decDigits u).length ≤ k + 1
  | 0, u, h => by
    unfold Lib.decDigits
    have : u < 10 := by simpa using h
    rw [dif_pos this]; simp
  | k + 1, u, h => by
    unfold Lib.decDigits
    by_cases h10 : u < 10
    · rw [dif_pos h10]; simp
    · rw [dif_neg h10]
      have h2 : u / 10 < 10 ^ (k + 1) := by rw [Nat.div_lt_iff_lt_mul (by omega)]; rw [Nat.pow_succ] at h; exact h
      have := dig_len k (u / 10) h2
      simp; omega
theorem dig_ne (u : Nat) : Lib.decDigits u ≠ [] := by
  unfold Lib.decDigits
  split <;> simp
theorem of_dig {d : Nat} (h : d < 10) : (UInt8.ofNat (48 + d)).toNat = 48 + d := by
  simp [UInt8.toNat_ofNat]; omega
theorem dig_in (u : Nat) : inB 48 57 (Lib.decDigits u) = true := by
  induction u using Nat.strongRecOn with
  | _ u ih =>
    unfold Lib.decDigits
    by_cases h10 : u < 10
    · rw [dif_pos h10]; unfold inB; simp only [List.all_cons, List.all_nil, Bool.and_true]; rw [of_dig h10]; simp; omega
    · rw [dif_neg h10, inB_append, ih (u / 10) (by omega)]
      unfold inB; simp only [List.all_cons, List.all_nil, Bool.and_true, Bool.true_and]; rw [of_dig (by omega)]; simp; omega
theorem no_minus {l : List UInt8} (h : inB 48 57 l = true) : Lib.hasPrefix l [45] = false := by
  unfold Lib.hasPrefix
  cases l with
  | nil => rfl
  | cons b l =>
    unfold inB at h
    simp only [List.all_cons, Bool.and_eq_true, decide_eq_true_eq] at h
    have hb : ¬ b = 45 := by intro e; subst e; have := h.1.1; revert this; decide
    have hb' : (45 == b) = false := by simpa using fun e => hb e.symm
    simp [List.isPrefixOf, hb']
/-- A number's digits behind its minus. -/
theorem itoa_cut (n : Int) : Lib.trimPrefix (Lib.itoa n) [45] = Lib.decDigits n.natAbs ∧ Lib.hasPrefix (Lib.itoa n) [45] = decide (n < 0) := by
  by_cases h : n < 0
  · have e : Lib.itoa n = 45 :: Lib.decDigits n.natAbs := by unfold Lib.itoa; rw [if_pos h]
    have hp : Lib.hasPrefix (45 :: Lib.decDigits n.natAbs) [45] = true := by unfold Lib.hasPrefix; simp [List.isPrefixOf]
    rw [e]
    refine ⟨?_, by rw [hp]; simp [h]⟩
    unfold Lib.trimPrefix; rw [if_pos hp]; simp
  · have e : Lib.itoa n = Lib.decDigits n.natAbs := by unfold Lib.itoa; rw [if_neg h]; congr 1; omega
    have hp := no_minus (dig_in n.natAbs)
    rw [e]
    refine ⟨?_, by rw [hp]; simp [h]⟩
    unfold Lib.trimPrefix; rw [hp]; simp
/-- Digits, with noughts ahead, so that there are more than so many. -/
def padL (k : Nat) (d : List UInt8) : List UInt8 := List.replicate (k + 1 - d.length) 48 ++ d
theorem padL_length (k : Nat) (d : List UInt8) : (padL k d).length = max (k + 1) d.length := by unfold padL; simp; omega
def scV (sc : Int) : Int := heldV sc 0 6
def partV (n sc : Int) : List UInt8 := Lib.trimRightB ((padL (scV sc).toNat (Lib.decDigits n.natAbs)).drop ((padL (scV sc).toNat (Lib.decDigits n.natAbs)).length - (scV sc).toNat)) 48
def headV (n sc : Int) : List UInt8 := (padL (scV sc).toNat (Lib.decDigits n.natAbs)).take ((padL (scV sc).toNat (Lib.decDigits n.natAbs)).length - (scV sc).toNat)
/-- The text of a number. -/
def writeV (n sc : Int) : List UInt8 := (if n < 0 then [45] else []) ++ (headV n sc ++ (if partV n sc = [] then [] else 46 :: partV n sc))
set_option maxHeartbeats 2000000 in
theorem write_any (n sc : Int) (w : World) (hE : Env w) (n1 : -9223372036854775808 ≤ n) (n2 : n ≤ 9223372036854775807) :
    Calls Tryd.prog 29 #[.int .i64 n, .int .i64 sc] w fun e w' => e = .returned (.string (strOf (writeV n sc))) ∧ Below w.heap.size w w' := by
  have hfi := Sh.strconv_FormatInt_10 n n1 n2 w hE.tab
  have hcp := fun w => Sh.strings_CutPrefix (strOf (Lib.itoa n)) ⟨#[45]⟩ w
  change ∀ w, Calls Tryd.prog 42 #[.string (strOf (Lib.itoa n)), .string ⟨#[45]⟩] w fun e w' => e = .returned (.tuple #[.string (strOf (Lib.trimPrefix (Lib.itoa n) [45])), .bool (Lib.hasPrefix (Lib.itoa n) [45])]) ∧ w' = w at hcp
  obtain ⟨t1, t2⟩ := itoa_cut n
  rw [t1, t2] at hcp
  change Calls Tryd.prog 19 #[.int .i64 n, .int .i64 10] w fun e w' => e = .returned (.string (strOf (Lib.itoa n))) ∧ ∃ k os, w' = grow (w.drewN k) os at hfi
  have hh := fun w => held_any sc 0 6 (by omega) w
  have hsc := heldV_bd (n := sc) (a := 0) (b := 6) (by omega)
  have hdl : (Lib.decDigits n.natAbs).length ≤ 20 := dig_len 19 _ (by have : (10 : Nat) ^ (19 + 1) = 100000000000000000000 := by decide
                                                                      omega)
  have hwv : writeV n sc = (if n < 0 then [45] else []) ++ (headV n sc ++ (if partV n sc = [] then [] else 46 :: partV n sc)) := rfl
  have hpv : partV n sc = Lib.trimRightB ((padL (heldV sc 0 6).toNat (Lib.decDigits n.natAbs)).drop ((padL (heldV sc 0 6).toNat (Lib.decDigits n.natAbs)).length - (heldV sc 0 6).toNat)) 48 := rfl
  have hhv : headV n sc = (padL (heldV sc 0 6).toNat (Lib.decDigits n.natAbs)).take ((padL (heldV sc 0 6).toNat (Lib.decDigits n.natAbs)).length - (heldV sc 0 6).toNat) := rfl
  generalize writeV n sc = V at *
  generalize headV n sc = H at *
  generalize partV n sc = P at *
  generalize Lib.itoa n = I at *
  generalize heldV sc 0 6 = k at *
  generalize Lib.decDigits n.natAbs = d at *
  clear t1 t2 hE
  obtain ⟨k1, k2⟩ := hsc
  obtain ⟨k, rfl⟩ : ∃ j : Nat, k = j := ⟨k.toNat, by omega⟩
  simp only [Int.toNat_natCast] at hpv hhv
  have hpad := padL_length k d
  have hdd : (strOf d).size = d.length := rfl
  have HFI := Lib.hid hfi; clear hfi
  have HCP := Lib.hid hcp; clear hcp
  have HH := Lib.hid hh; clear hh
  have HWV := Lib.hid hwv; clear hwv
  have HPV := Lib.hid hpv; clear hpv
  have HHV := Lib.hid hhv; clear hhv
  have HPAD := Lib.hid hpad; clear hpad
  have k2' : k ≤ 6 := by omega
  have hds : (strOf d).size ≤ 20 := by omega
  have HDD := Lib.hid hdd; clear hdd
  go_enter Tryd.func29, Tryd.ntmps29
  go_wp2_with (first
    | (go_at_call 41; (with_reducible refine (HH.out _).mono ?_); rintro e w' ⟨rfl, rfl⟩)
    | (go_at_call 19; (with_reducible refine HFI.out.mono ?_); rintro e W1 ⟨rfl, q, os, hW⟩; have hb := Lib.below_grow w.heap.size w (Nat.le_refl _) q os; rw [← hW] at hb; have HB := Lib.hid hb; clear hb hW)
    | (go_at_call 42; (with_reducible refine (HCP.out _).mono ?_); rintro e w' ⟨rfl, rfl⟩))
  go_loop [5, 23] (fun t i => ∃ j : Nat, j ≤ k + 1 - d.length ∧ i = .int .i64 j ∧ t = .string (strOf (List.replicate j 48 ++ d))) (fun _ i => k + 1 - (intOf i).toNat)
  case atStart => exact ⟨0, Nat.zero_le _, rfl, by simp⟩
  case round =>
    obtain ⟨j, hj, rfl, rfl⟩ := hrel
    have hdd := HDD.out
    by_cases hlt : j < k + 1 - d.length
    · have hlt' : (j : Int) < (k : Int) + 1 - ((strOf d).size : Int) := by omega
      have hsz : (strOf (List.replicate j 48 ++ d)).size ≤ 100 := by show (List.replicate j 48 ++ d).length ≤ 100; simp; omega
      have happ : (⟨#[48]⟩ : ByteArray) ++ strOf (List.replicate j 48 ++ d) = strOf (List.replicate (j + 1) 48 ++ d) := by
        rw [show (⟨#[48]⟩ : ByteArray) = strOf [48] from rfl, strOf_append, List.replicate_succ]; rfl
      have h0 : (ByteArray.mk #[48]).size = 1 := rfl
      generalize strOf (List.replicate j 48 ++ d) = T at *
      obtain ⟨T2, hT2⟩ : ∃ T2, T2 = strOf (List.replicate (j + 1) 48 ++ d) := ⟨_, rfl⟩
      rw [← hT2] at happ
      have HT2 := Lib.hid hT2; clear hT2
      clear hdd
      go_wp2
      go_round
      case rel => exact ⟨j + 1, by omega, by go_num, by first | rw [← HT2.out] | (rw [happ, ← HT2.out])⟩
      case measure => simp [intOf]; omega
    · have hlt' : ¬ (j : Int) < (k : Int) + 1 - ((strOf d).size : Int) := by omega
      obtain rfl : j = k + 1 - d.length := by omega
      have hT : List.replicate (k + 1 - d.length) 48 ++ d = padL k d := rfl
      rw [hT]
      obtain ⟨T, hTT⟩ : ∃ T, T = strOf (padL k d) := ⟨_, rfl⟩
      rw [← hTT]
      have hTs : T.size = max (k + 1) d.length := by rw [hTT]; exact HPAD.out
      obtain ⟨p, hp⟩ : ∃ p : Nat, T.size = p + k := ⟨T.size - k, by omega⟩
      have hps : p ≤ 100 := by omega
      have hpp : (T.size : Int) - (k : Int) = p := by omega
      have hTd : T.data.toList = padL k d := by rw [hTT]; rfl
      have hH : T.extract 0 p = strOf H := by rw [extract_front, hTd, HHV.out]; congr 2; have := HPAD.out; omega
      have hP : (Lib.trimRightB (T.extract p T.size).data.toList 48) = P := by rw [extract_back, hTd, HPV.out, data_strOf]; congr 2; have := HPAD.out; omega
      have htr := fun w => Sh.strings_TrimRight_one (T.extract p T.size) 48 (by decide) w (by rw [ByteArray.size_extract]; omega)
      have hPs : P.length ≤ 300 := by
        rw [HPV.out]; unfold Lib.trimRightB
        rw [List.length_reverse]
        refine Nat.le_trans (List.dropWhile_sublist _).length_le ?_
        rw [List.length_reverse, List.length_drop]; have := HPAD.out; omega
      rw [hP] at htr
      have HTR := Lib.hid htr; clear htr
      have HHH := Lib.hid hH; clear hH
      have HPP := Lib.hid hpp; clear hpp
      have p1 : (p : Int) ≤ (T.size : Int) := by omega
      have p2 : (T.size : Int) ≤ 200 := by omega
      have p3 : 0 ≤ (T.size : Int) - (k : Int) := by omega
      clear hTT hTs hp hT hP hTd hdd hlt hds HPAD HDD HHV HPV HFI HCP HH
      go_wp2_with fail
      rw [HPP.out]
      go_quiet ((go_at_call 43; exact Calls.quiet_of_same (HTR.out _)))
      rw [HHH.out]
      have hWV := HWV.out
      have hsH : (strOf H).size ≤ 200 := by rw [← HHH.out, ByteArray.size_extract]; omega
      have hsP : (strOf P).size ≤ 300 := hPs
      have h46 : (⟨#[46]⟩ : ByteArray) ++ strOf P = strOf (46 :: P) := strOf_append [46] P
      have hHP : strOf H ++ strOf (46 :: P) = strOf (H ++ 46 :: P) := strOf_append H (46 :: P)
      have h45 : (⟨#[45]⟩ : ByteArray) ++ strOf H = strOf (45 :: H) := strOf_append [45] H
      have h45P : (⟨#[45]⟩ : ByteArray) ++ strOf (H ++ 46 :: P) = strOf (45 :: (H ++ 46 :: P)) := strOf_append [45] (H ++ 46 :: P)
      have hs46 : (strOf (46 :: P)).size ≤ 400 := by show (46 :: P).length ≤ _; have : P.length ≤ 300 := hPs; simp; omega
      have hsHP : (strOf (H ++ 46 :: P)).size ≤ 700 := by show (H ++ 46 :: P).length ≤ _; have : P.length ≤ 300 := hPs; have : H.length ≤ 200 := hsH; simp; omega
      have hz0 : (ByteArray.mk #[46]).size = 1 := rfl
      have hz1 : (ByteArray.mk #[45]).size = 1 := rfl
      change Exit.then _ _ _ { tmps := #[_, _, _, _, _, _, _, _, .string (strOf H), .string (strOf P), _, _, _, _, _, _, _, _, _, _, _, _, _, _, _, _, _, _, _, _, _, _, _, _, _, _, _, _, _, _, _, _, _, _, _, _, _, _, _], defers := [] } _
      have hPe : (strOf P).toList = P := by rw [Lib.toList_data]; rfl
      by_cases hP0 : P = []
      · rw [if_pos hP0, List.append_nil] at hWV
        have hPe2 : (strOf P).toList = [] := by rw [hPe, hP0]
        have hPe' : (strOf P).toList.isEmpty = true := by rw [hPe2]; rfl
        clear hPe
        generalize strOf P = SP at *
        clear hP0 h46 hHP h45P hs46 hsHP
        by_cases hn : n < 0
        · rw [if_pos hn] at hWV
          have hfin : strOf V = strOf (45 :: H) := by rw [hWV]; rfl
          have HF := Lib.hid hfin; clear hfin hWV HWV
          generalize strOf (45 :: H) = R at *
          go_wp2
          go_ret
          exact ⟨ret_str (by rw [HF.out]), below_drewN HB.out _⟩
        · rw [if_neg hn, List.nil_append] at hWV
          have HF := Lib.hid hWV; clear hWV HWV
          go_wp2
          go_ret
          exact ⟨ret_str (by rw [HF.out]), below_drewN HB.out _⟩
      · rw [if_neg hP0] at hWV
        have hPn : ¬ (strOf P).toList = [] := by rw [hPe]; exact hP0
        have hPe' : (strOf P).toList.isEmpty = false := by simpa using hPn
        clear h45 hPe
        by_cases hn : n < 0
        · rw [if_pos hn] at hWV
          have hfin : strOf V = strOf (45 :: (H ++ 46 :: P)) := by rw [hWV]; rfl
          have HF := Lib.hid hfin; clear hfin hWV HWV hP0
          generalize strOf (45 :: (H ++ 46 :: P)) = R at *
          generalize strOf (H ++ 46 :: P) = R2 at *
          generalize strOf (46 :: P) = R3 at *
          generalize strOf P = SP at *
          go_wp2
          go_ret
          exact ⟨ret_str (by rw [HF.out]), below_drewN HB.out _⟩
        · rw [if_neg hn, List.nil_append] at hWV
          have hfin : strOf V = strOf (H ++ 46 :: P) := by rw [hWV]
          have HF := Lib.hid hfin; clear hfin hWV HWV hP0 h45P
          generalize strOf (H ++ 46 :: P) = R2 at *
          generalize strOf (46 :: P) = R3 at *
          generalize strOf P = SP at *
          go_wp2
          go_ret
          exact ⟨ret_str (by rw [HF.out]), below_drewN HB.out _⟩
end Deci
end Go.Proofs.YtmegapelibaanaaDoor
