/- DeciBack: whatever the input, the law returns true, and each argument reads as it read before; the library's tables hold what the program's text lays. No other conditions. -/
import Derived.Test.YtbkklgafdmhmlaaDoorCards
import Derived.Test.YtbkklgafdmhmlaaDoorTie
import Derived.WalkKit
import Derived.ProofKit
import Derived.ShutString
import Derived.ChangeOld
import Derived.Below
import Derived.OpenShut
import Derived.Lib.SmallJoins
import Derived.Deep.DeepHandedRow
import Derived.SevenTiedAt
import Derived.Test.YtbkklgafdmhmlaaDoorDeciWorld
import Derived.Test.YtbkklgafdmhmlaaDoorDeciAlive
import Derived.Test.YtbkklgafdmhmlaaDoorDeciShort
namespace Go.Proofs.YtbkklgafdmhmlaaDoor.deciBack
open Go.ChangeShapes Go.WideShapes Go.ChangeAt Go.RowKit Go.Joins
open Go.ChangeMaps (open_string shut_string)
open Deci
set_option linter.unusedVariables false

theorem wf64 {n : Int} (h : (Lit.int .i64 n).wf = true) : -9223372036854775808 ≤ n ∧ n ≤ 9223372036854775807 := by
  simp [Lit.wf] at h
  exact h
theorem own : ownKnob Tryd.prog.godebug = none := by kernel_rfl
theorem tmod_bd (n k : Int) (hk : 0 < k) : -k < n.tmod k ∧ n.tmod k < k :=
  ⟨by have := Int.tmod_lt_of_pos (-n) hk; rw [Int.neg_tmod] at this; omega, Int.tmod_lt_of_pos n hk⟩
set_option maxHeartbeats 4000000 in
set_option maxRecDepth 100000 in
theorem walk (w : World) (hE : Env w) (a0 : Int) (w0 : (Lit.int .i64 a0).wf = true) (a1 : Int) (w1 : (Lit.int .i64 a1).wf = true) (s2 : ByteArray) (w2 : s2.size ≤ maxLen) :
    Calls Tryd.prog 5 #[.int .i64 a0, .int .i64 a1, .string s2] w fun e w' => e = .returned (.bool true) ∧ Below w.heap.size w w' := by
  have n0 := wf64 w0
  have n1 := wf64 w1
  have HE := Lib.hid hE; clear hE w0 w1
  by_cases s1 : a1 < 0
  · clear n0 n1
    go_enter Tryd.func5, Tryd.ntmps5
    go_wp2_with fail
    refine (alive_any _ HE.out).mono ?_
    rintro e W1 ⟨rfl, hb⟩
    go_wp2_with fail
    go_ret
    exact ⟨rfl, hb⟩
  · by_cases s2' : 6 < a1
    · clear n0 n1
      go_enter Tryd.func5, Tryd.ntmps5
      go_wp2_with fail
      refine (alive_any _ HE.out).mono ?_
      rintro e W1 ⟨rfl, hb⟩
      go_wp2_with fail
      go_ret
      exact ⟨rfl, hb⟩
    · by_cases s3 : 2000 < s2.size
      · clear n0 n1
        go_enter Tryd.func5, Tryd.ntmps5
        go_wp2_with fail
        refine (alive_any _ HE.out).mono ?_
        rintro e W1 ⟨rfl, hb⟩
        go_wp2_with fail
        go_ret
        exact ⟨rfl, hb⟩
      · obtain ⟨m1, m2⟩ := tmod_bd a0 1099511627777 (by omega)
        generalize hm : a0.tmod 1099511627777 = m at m1 m2
        obtain ⟨k, rfl⟩ : ∃ k : Nat, a1 = k := ⟨a1.toNat, by omega⟩
        have hk : k ≤ 6 := by omega
        clear n0 n1 s2' w2
        have hdl : (Lib.decDigits m.natAbs).length ≤ 13 := dig_len 12 _ (by have : (10 : Nat) ^ (12 + 1) = 10000000000000 := by decide
                                                                            omega)
        obtain ⟨e1, e2⟩ := read_write m k 0 (by omega) (by simp; omega) hdl
        simp only [Nat.add_zero, Int.pow_zero, Int.mul_one] at e1 e2
        have hlen : (Deci.strOf (writeV m k)).size ≤ 4294967000 := by
          show (writeV m k).length ≤ _
          have hp := parts m k hk
          have h1 := hp.hlen
          have h2 := hp.plen
          rw [write_eq]
          simp only [List.length_append]
          split <;> split <;> simp <;> omega
        have c1 := fun w hE => write_any m k w hE (by omega) (by omega)
        have c2 := fun w hE => read_any (Deci.strOf (writeV m k)) k w hE hlen
        rw [data_strOf, e1, e2] at c2
        have c3 := fun w hE => read_any s2 k w hE (by omega)
        have hrb : -1099511627776 ≤ readV s2.data.toList k ∧ readV s2.data.toList k ≤ 1099511627776 := by
          unfold readV
          split
          · omega
          · split
            · omega
            · split
              · omega
              · split <;> omega
        have c4 := fun w hE => write_any (readV s2.data.toList k) k w hE (by omega) (by omega)
        have hsh : readE s2.data.toList k = 0 → (Deci.strOf (writeV (readV s2.data.toList k) k)).size ≤ s2.size := fun h => by
          have := short s2.data.toList k hk h
          show (writeV _ _).length ≤ _
          simpa using this
        have c5 := fun w hE => lines_any s2 w hE (by unfold maxLen; omega)
        generalize Deci.strOf (writeV m k) = SW at c1 c2
        generalize readE s2.data.toList k = er at c3 hsh
        generalize readV s2.data.toList k = rv at c3 c4 hsh hrb
        generalize Deci.strOf (writeV rv k) = SR at c4 hsh
        have hll := fun h => lines_list s2.data.toList h
        have hlE : linesE s2.data.toList ≠ 0 → linesP s2.data.toList = [] := fun h => by
          unfold linesE at h
          unfold linesP
          split
          · rfl
          · rename_i h1
            rw [if_neg h1] at h
            split
            · rename_i h2; rw [if_pos h2] at h; exact absurd rfl h
            · rfl
        have hs2 : Deci.strOf s2.data.toList = s2 := strOf_data s2
        have hsl : s2.data.toList.length = s2.size := by simp
        generalize linesE s2.data.toList = le at c5 hll hlE
        generalize linesP s2.data.toList = lp at c5 hll hlE
        generalize s2.data.toList = l2 at hll hs2 hsl
        have C1 := Lib.hid c1; clear c1
        have C2 := Lib.hid c2; clear c2
        have C3 := Lib.hid c3; clear c3
        have C4 := Lib.hid c4; clear c4
        have C5 := Lib.hid c5; clear c5
        have HSH := Lib.hid hsh; clear hsh
        have HLL := Lib.hid hll; clear hll
        have HLE := Lib.hid hlE; clear hlE
        have HS2 := Lib.hid hs2; clear hs2
        have HSL := Lib.hid hsl; clear hsl
        obtain ⟨hk0, hk6⟩ : (0 : Int) ≤ (k : Int) ∧ (k : Int) ≤ 6 := by omega
        clear e1 e2 hdl hlen hrb hk
        go_enter Tryd.func5, Tryd.ntmps5
        go_wp2_with fail
        refine (alive_any _ HE.out).mono ?_
        rintro e W1 ⟨rfl, hb⟩
        have BB1 := Lib.hid hb; clear hb
        go_wp2_with fail
        refine (C1.out _ (HE.out.below BB1.out)).mono ?_
        rintro e W2 ⟨rfl, hb⟩
        have BB2 := Lib.hid (BB1.out.trans (hb.mono BB1.out.size)); clear hb
        go_wp2_with fail
        refine (C2.out _ (HE.out.below BB2.out)).mono ?_
        rintro e W3 ⟨rfl, hb⟩
        have BB3 := Lib.hid (BB2.out.trans (hb.mono BB2.out.size)); clear hb
        go_wp2_with fail
        refine (C3.out _ (HE.out.below BB3.out)).mono ?_
        rintro e W4 ⟨rfl, hb⟩
        have BB4 := Lib.hid (BB3.out.trans (hb.mono BB3.out.size)); clear hb
        by_cases t1 : er = 0
        · subst t1
          have hsz := HSH.out rfl
          have hsz' : ¬ (s2.size : Int) < (SR.size : Int) := by omega
          go_wp2_with fail
          refine (C4.out _ (HE.out.below BB4.out)).mono ?_
          rintro e W5 ⟨rfl, hb⟩
          have BB5 := Lib.hid (BB4.out.trans (hb.mono BB4.out.size)); clear hb
          go_wp2_with fail
          clear hsz hsz'
          refine (C5.out _ (HE.out.below BB5.out)).mono ?_
          rintro e W6 ⟨v6, rfl, ho, hb⟩
          have P6 := Lib.hid (hasStrs_of ho); clear ho
          obtain ⟨x6, y6, rfl⟩ := P6.out.slice
          have BB6 := Lib.hid (BB5.out.trans (hb.mono BB5.out.size)); clear hb
          by_cases t2 : le = 0
          · subst t2
            obtain ⟨L, hL1, hL2⟩ := HLL.out rfl
            subst hL1
            simp only [List.length_map]
            have hpl := line_size l2 L hL2
            have hft := fun i => flat_take 10 L i
            rw [hL2] at hft
            have HPL := Lib.hid hpl; clear hpl
            have HFT := Lib.hid hft; clear hft
            have HL2 := Lib.hid hL2; clear hL2
            have hLl : L.length ≤ 2000 := by
              have h1 := congrArg List.length HL2.out
              have h2 := flat_many 10 L
              have := HSL.out
              omega
            go_wp2_with fail
            go_loopw [14, 82] (fun al i wr => ∃ j : Nat, j ≤ L.length ∧ i = .int .i64 j ∧ al = .string (Deci.strOf (flat 10 (L.take j))) ∧ HasStrs wr (.slice x6 L.length y6) (L.map Deci.strOf) ∧ Below w.heap.size w wr) (fun _ i _ => L.length - (intOf i).toNat)
            case atStart => exact ⟨0, Nat.zero_le _, rfl, rfl, by have h := P6.out; rw [List.length_map] at h; exact h, BB6.out⟩
            case round =>
              obtain ⟨j, hj, rfl, rfl, hhs, hbw⟩ := hrel
              have HHS := Lib.hid hhs; clear hhs
              have BW := Lib.hid hbw; clear hbw
              by_cases hlt : j < L.length
              · obtain ⟨g, hx6, hg, hc⟩ : ∃ g, x6 = some ⟨g, 0, none⟩ ∧ g < wr.heap.size ∧ wr.cell? ⟨g, j, none⟩ = some (.string (Deci.strOf L[j])) := by
                  rcases HHS.out with ⟨_, h⟩ | ⟨g, cap, h1, h2, h3⟩
                  · have := congrArg List.length h
                    simp at this; rw [this] at hlt; simp at hlt
                  · have h4 := h3 j (by simpa using hlt)
                    simp only [List.getElem_map] at h4
                    exact ⟨g, by simpa using (Value.slice.inj h1).1, h2, h4⟩
                subst hx6
                have hsnoc : flat 10 (L.take (j + 1)) = flat 10 (L.take j) ++ (L[j] ++ [10]) := by
                  rw [List.take_succ_eq_append_getElem hlt, flat_snoc]
                have hpl := HPL.out L[j] (List.getElem_mem hlt)
                have hal := HFT.out j
                have hal2 := HFT.out (j + 1)
                rw [hsnoc] at hal2
                rw [HSL.out] at hpl hal hal2
                generalize L[j] = p at hc hsnoc hpl hal2
                obtain ⟨Q, hq1, hq2, hq3⟩ := words_list p
                have cw := fun w => words_any (Deci.strOf p) w (by show p.length ≤ _; omega)
                rw [data_strOf, hq1] at cw
                generalize wordsE p = we at cw hq3
                have hQl := flat_many 32 Q
                have hf2 := fun i => Nat.le_trans (joinW_flat 32 (Q.take i)) (flat_take 32 Q i)
                have hjn : we = 0 → Deci.strOf (joinW 32 Q) = Deci.strOf p := fun h => by rw [hq3 h]
                have hap : Deci.strOf p ++ (⟨#[10]⟩ : ByteArray) = Deci.strOf (p ++ [10]) := strOf_append p [10]
                have haa : Deci.strOf (flat 10 (L.take j)) ++ Deci.strOf (p ++ [10]) = Deci.strOf (flat 10 (L.take (j + 1))) := by rw [strOf_append, hsnoc]
                have z1 : (Deci.strOf p).size ≤ 2000 := by show p.length ≤ _; omega
                have z2 : (Deci.strOf (p ++ [10])).size ≤ 2001 := by show (p ++ [10]).length ≤ _; simp; omega
                have z3 : (Deci.strOf (flat 10 (L.take j))).size ≤ 2000 := by show (flat 10 (L.take j)).length ≤ _; omega
                have z10 : (ByteArray.mk #[10]).size = 1 := rfl
                have z32 : (ByteArray.mk #[32]).size = 1 := rfl
                have CW := Lib.hid cw; clear cw
                have HJN := Lib.hid hjn; clear hjn
                have HF2 : Hid (∀ i, (joinW 32 (Q.take i)).length ≤ 2001) := Lib.hid (fun i => by have := hf2 i; omega)
                have hQl2 : Q.length ≤ 2001 := by omega
                clear hsnoc hal hal2 hpl hq1 hq2 hq3 hf2 hQl
                generalize Deci.strOf p = SP at *
                generalize Deci.strOf (p ++ [10]) = SP2 at *
                generalize Deci.strOf (flat 10 (L.take j)) = SA at *
                obtain ⟨SA2, hSA2⟩ : ∃ X, X = Deci.strOf (flat 10 (L.take (j + 1))) := ⟨_, rfl⟩
                rw [← hSA2] at haa
                have HSA2 := Lib.hid hSA2; clear hSA2
                go_wp2_with fail
                refine (CW.out _).mono ?_
                rintro e W7 ⟨v7, rfl, ho, hb⟩
                have P7 := Lib.hid (hasStrs_of ho); clear ho
                have HHS := Lib.hid (HHS.out.below hb)
                have BW7 := Lib.hid (BW.out.trans (hb.mono BW.out.size)); clear hb
                obtain ⟨x7, y7, rfl⟩ := P7.out.slice
                simp only [List.length_map]
                go_wp2_with fail
                go_loop [19, 97] (fun ln i => ∃ r : Nat, r ≤ Q.length ∧ i = .int .i64 r ∧ ln = .string (Deci.strOf (joinW 32 (Q.take r)))) (fun _ i => Q.length - (intOf i).toNat)
                case atStart => exact ⟨0, Nat.zero_le _, rfl, rfl⟩
                case round =>
                  obtain ⟨r, hr, rfl, rfl⟩ := hrel
                  by_cases hlt2 : r < Q.length
                  · obtain ⟨g2, hx7, hc2⟩ : ∃ g, x7 = some ⟨g, 0, none⟩ ∧ W7.cell? ⟨g, r, none⟩ = some (.string (Deci.strOf Q[r])) := by
                      rcases P7.out with ⟨_, h⟩ | ⟨g, cap, h1, h2, h3⟩
                      · have := congrArg List.length h
                        simp at this; rw [this] at hlt2; simp at hlt2
                      · have h4 := h3 r (by simpa using hlt2)
                        simp only [List.getElem_map] at h4
                        exact ⟨g, by simpa using (Value.slice.inj h1).1, h4⟩
                    subst hx7
                    have hs := joinW_snoc 32 (Q.take r) Q[r]
                    rw [← List.take_succ_eq_append_getElem hlt2] at hs
                    have y1 := HF2.out r
                    have y2 := HF2.out (r + 1)
                    rw [hs] at y2
                    generalize Q[r] = q at hc2 hs y2
                    have y2' : q.length ≤ 2001 := by rw [List.length_append] at y2; omega
                    have u1 : (Deci.strOf q).size ≤ 2001 := y2'
                    have u2 : (Deci.strOf (joinW 32 (Q.take r))).size ≤ 2001 := y1
                    by_cases hr0 : r = 0
                    · have hfin : Deci.strOf (joinW 32 (Q.take r)) ++ Deci.strOf q = Deci.strOf (joinW 32 (Q.take (r + 1))) := by
                        have h0 : Q.take r = [] := by rw [hr0]; rfl
                        rw [hs, if_pos h0, h0]; exact strOf_append [] q
                      have hr0' : ¬ 0 < (r : Int) := by omega
                      obtain ⟨SJ, hSJ⟩ : ∃ X, X = Deci.strOf (joinW 32 (Q.take r)) := ⟨_, rfl⟩
                      obtain ⟨SJ2, hSJ2⟩ : ∃ X, X = Deci.strOf (joinW 32 (Q.take (r + 1))) := ⟨_, rfl⟩
                      rw [← hSJ, ← hSJ2] at hfin
                      rw [← hSJ] at u2 ⊢
                      have HSJ2 := Lib.hid hSJ2; clear hSJ2 hSJ hs y1 y2 y2' hr0
                      generalize Deci.strOf q = SQ at *
                      have hlt3 : (r : Int) < (Q.length : Int) := by omega
                      go_wp2
                      go_round
                      case rel => exact ⟨r + 1, by omega, by go_num, by first | rw [HSJ2.out] | (rw [hfin, HSJ2.out])⟩
                      case measure => simp [intOf]; omega
                    · have hne : Q.take r ≠ [] := by
                        intro h
                        have := congrArg List.length h
                        rw [List.length_take, List.length_nil] at this
                        omega
                      rw [if_neg hne] at hs
                      have hfin : Deci.strOf (joinW 32 (Q.take r)) ++ (⟨#[32]⟩ : ByteArray) ++ Deci.strOf q = Deci.strOf (joinW 32 (Q.take (r + 1))) := by
                        rw [hs, show (⟨#[32]⟩ : ByteArray) = Deci.strOf [32] from rfl, strOf_append, strOf_append]
                      have hmid : (Deci.strOf (joinW 32 (Q.take r)) ++ (⟨#[32]⟩ : ByteArray)).size ≤ 2002 := by rw [ByteArray.size_append, z32]; omega
                      have hr0' : 0 < (r : Int) := by omega
                      obtain ⟨SJ, hSJ⟩ : ∃ X, X = Deci.strOf (joinW 32 (Q.take r)) := ⟨_, rfl⟩
                      obtain ⟨SJ2, hSJ2⟩ : ∃ X, X = Deci.strOf (joinW 32 (Q.take (r + 1))) := ⟨_, rfl⟩
                      rw [← hSJ, ← hSJ2] at hfin
                      rw [← hSJ] at u2 hmid ⊢
                      have HSJ2 := Lib.hid hSJ2; clear hSJ2 hSJ hs y1 y2 y2' hne hr0
                      generalize Deci.strOf q = SQ at *
                      go_wp2
                      go_round
                      case rel => exact ⟨r + 1, by omega, by go_num, by first | rw [HSJ2.out] | (rw [hfin, HSJ2.out])⟩
                      case measure => simp [intOf]; omega
                  · obtain rfl : r = Q.length := by omega
                    rw [List.take_length]
                    by_cases hwe : we = 0
                    · rw [HJN.out hwe]
                      subst hwe
                      go_wp2_with fail
                      go_roundw
                      case rel => exact ⟨j + 1, by omega, by go_num, by first | rw [HSA2.out] | (rw [haa, HSA2.out]), HHS.out, BW7.out⟩
                      case measure => simp [intOf]; omega
                    · have hwe' : (we == 0) = false := by simpa using hwe
                      go_wp2_with fail
                      go_roundw
                      case rel => exact ⟨j + 1, by omega, by go_num, by first | rw [HSA2.out] | (rw [haa, HSA2.out]), HHS.out, BW7.out⟩
                      case measure => simp [intOf]; omega
              · obtain rfl : j = L.length := by omega
                have hfin : Deci.strOf (flat 10 (L.take L.length)) = s2 := by rw [List.take_length, HL2.out, HS2.out]
                rw [hfin]
                clear hfin
                go_wp2_with fail
                go_ret
                exact ⟨ret_bool (by simp), BW.out⟩
          · have hlp := HLE.out t2
            subst hlp
            have t2' : (le == 0) = false := by simpa using t2
            simp only [List.length_nil]
            go_wp2_with fail
            go_ret
            exact ⟨rfl, BB6.out⟩
        · have t1' : (er == 0) = false := by simpa using t1
          go_wp2_with fail
          obtain ⟨W5, hW5⟩ : ∃ W5, W5 = W4 := ⟨_, rfl⟩
          have BB5 := BB4
          rw [← hW5] at BB5 ⊢
          clear hW5 BB4
          refine (C5.out _ (HE.out.below BB5.out)).mono ?_
          rintro e W6 ⟨v6, rfl, ho, hb⟩
          have P6 := Lib.hid (hasStrs_of ho); clear ho
          obtain ⟨x6, y6, rfl⟩ := P6.out.slice
          have BB6 := Lib.hid (BB5.out.trans (hb.mono BB5.out.size)); clear hb
          by_cases t2 : le = 0
          · subst t2
            obtain ⟨L, hL1, hL2⟩ := HLL.out rfl
            subst hL1
            simp only [List.length_map]
            have hpl := line_size l2 L hL2
            have hft := fun i => flat_take 10 L i
            rw [hL2] at hft
            have HPL := Lib.hid hpl; clear hpl
            have HFT := Lib.hid hft; clear hft
            have HL2 := Lib.hid hL2; clear hL2
            have hLl : L.length ≤ 2000 := by
              have h1 := congrArg List.length HL2.out
              have h2 := flat_many 10 L
              have := HSL.out
              omega
            go_wp2_with fail
            go_loopw [14, 82] (fun al i wr => ∃ j : Nat, j ≤ L.length ∧ i = .int .i64 j ∧ al = .string (Deci.strOf (flat 10 (L.take j))) ∧ HasStrs wr (.slice x6 L.length y6) (L.map Deci.strOf) ∧ Below w.heap.size w wr) (fun _ i _ => L.length - (intOf i).toNat)
            case atStart => exact ⟨0, Nat.zero_le _, rfl, rfl, by have h := P6.out; rw [List.length_map] at h; exact h, BB6.out⟩
            case round =>
              obtain ⟨j, hj, rfl, rfl, hhs, hbw⟩ := hrel
              have HHS := Lib.hid hhs; clear hhs
              have BW := Lib.hid hbw; clear hbw
              by_cases hlt : j < L.length
              · obtain ⟨g, hx6, hg, hc⟩ : ∃ g, x6 = some ⟨g, 0, none⟩ ∧ g < wr.heap.size ∧ wr.cell? ⟨g, j, none⟩ = some (.string (Deci.strOf L[j])) := by
                  rcases HHS.out with ⟨_, h⟩ | ⟨g, cap, h1, h2, h3⟩
                  · have := congrArg List.length h
                    simp at this; rw [this] at hlt; simp at hlt
                  · have h4 := h3 j (by simpa using hlt)
                    simp only [List.getElem_map] at h4
                    exact ⟨g, by simpa using (Value.slice.inj h1).1, h2, h4⟩
                subst hx6
                have hsnoc : flat 10 (L.take (j + 1)) = flat 10 (L.take j) ++ (L[j] ++ [10]) := by
                  rw [List.take_succ_eq_append_getElem hlt, flat_snoc]
                have hpl := HPL.out L[j] (List.getElem_mem hlt)
                have hal := HFT.out j
                have hal2 := HFT.out (j + 1)
                rw [hsnoc] at hal2
                rw [HSL.out] at hpl hal hal2
                generalize L[j] = p at hc hsnoc hpl hal2
                obtain ⟨Q, hq1, hq2, hq3⟩ := words_list p
                have cw := fun w => words_any (Deci.strOf p) w (by show p.length ≤ _; omega)
                rw [data_strOf, hq1] at cw
                generalize wordsE p = we at cw hq3
                have hQl := flat_many 32 Q
                have hf2 := fun i => Nat.le_trans (joinW_flat 32 (Q.take i)) (flat_take 32 Q i)
                have hjn : we = 0 → Deci.strOf (joinW 32 Q) = Deci.strOf p := fun h => by rw [hq3 h]
                have hap : Deci.strOf p ++ (⟨#[10]⟩ : ByteArray) = Deci.strOf (p ++ [10]) := strOf_append p [10]
                have haa : Deci.strOf (flat 10 (L.take j)) ++ Deci.strOf (p ++ [10]) = Deci.strOf (flat 10 (L.take (j + 1))) := by rw [strOf_append, hsnoc]
                have z1 : (Deci.strOf p).size ≤ 2000 := by show p.length ≤ _; omega
                have z2 : (Deci.strOf (p ++ [10])).size ≤ 2001 := by show (p ++ [10]).length ≤ _; simp; omega
                have z3 : (Deci.strOf (flat 10 (L.take j))).size ≤ 2000 := by show (flat 10 (L.take j)).length ≤ _; omega
                have z10 : (ByteArray.mk #[10]).size = 1 := rfl
                have z32 : (ByteArray.mk #[32]).size = 1 := rfl
                have CW := Lib.hid cw; clear cw
                have HJN := Lib.hid hjn; clear hjn
                have HF2 : Hid (∀ i, (joinW 32 (Q.take i)).length ≤ 2001) := Lib.hid (fun i => by have := hf2 i; omega)
                have hQl2 : Q.length ≤ 2001 := by omega
                clear hsnoc hal hal2 hpl hq1 hq2 hq3 hf2 hQl
                generalize Deci.strOf p = SP at *
                generalize Deci.strOf (p ++ [10]) = SP2 at *
                generalize Deci.strOf (flat 10 (L.take j)) = SA at *
                obtain ⟨SA2, hSA2⟩ : ∃ X, X = Deci.strOf (flat 10 (L.take (j + 1))) := ⟨_, rfl⟩
                rw [← hSA2] at haa
                have HSA2 := Lib.hid hSA2; clear hSA2
                go_wp2_with fail
                refine (CW.out _).mono ?_
                rintro e W7 ⟨v7, rfl, ho, hb⟩
                have P7 := Lib.hid (hasStrs_of ho); clear ho
                have HHS := Lib.hid (HHS.out.below hb)
                have BW7 := Lib.hid (BW.out.trans (hb.mono BW.out.size)); clear hb
                obtain ⟨x7, y7, rfl⟩ := P7.out.slice
                simp only [List.length_map]
                go_wp2_with fail
                go_loop [19, 97] (fun ln i => ∃ r : Nat, r ≤ Q.length ∧ i = .int .i64 r ∧ ln = .string (Deci.strOf (joinW 32 (Q.take r)))) (fun _ i => Q.length - (intOf i).toNat)
                case atStart => exact ⟨0, Nat.zero_le _, rfl, rfl⟩
                case round =>
                  obtain ⟨r, hr, rfl, rfl⟩ := hrel
                  by_cases hlt2 : r < Q.length
                  · obtain ⟨g2, hx7, hc2⟩ : ∃ g, x7 = some ⟨g, 0, none⟩ ∧ W7.cell? ⟨g, r, none⟩ = some (.string (Deci.strOf Q[r])) := by
                      rcases P7.out with ⟨_, h⟩ | ⟨g, cap, h1, h2, h3⟩
                      · have := congrArg List.length h
                        simp at this; rw [this] at hlt2; simp at hlt2
                      · have h4 := h3 r (by simpa using hlt2)
                        simp only [List.getElem_map] at h4
                        exact ⟨g, by simpa using (Value.slice.inj h1).1, h4⟩
                    subst hx7
                    have hs := joinW_snoc 32 (Q.take r) Q[r]
                    rw [← List.take_succ_eq_append_getElem hlt2] at hs
                    have y1 := HF2.out r
                    have y2 := HF2.out (r + 1)
                    rw [hs] at y2
                    generalize Q[r] = q at hc2 hs y2
                    have y2' : q.length ≤ 2001 := by rw [List.length_append] at y2; omega
                    have u1 : (Deci.strOf q).size ≤ 2001 := y2'
                    have u2 : (Deci.strOf (joinW 32 (Q.take r))).size ≤ 2001 := y1
                    by_cases hr0 : r = 0
                    · have hfin : Deci.strOf (joinW 32 (Q.take r)) ++ Deci.strOf q = Deci.strOf (joinW 32 (Q.take (r + 1))) := by
                        have h0 : Q.take r = [] := by rw [hr0]; rfl
                        rw [hs, if_pos h0, h0]; exact strOf_append [] q
                      have hr0' : ¬ 0 < (r : Int) := by omega
                      obtain ⟨SJ, hSJ⟩ : ∃ X, X = Deci.strOf (joinW 32 (Q.take r)) := ⟨_, rfl⟩
                      obtain ⟨SJ2, hSJ2⟩ : ∃ X, X = Deci.strOf (joinW 32 (Q.take (r + 1))) := ⟨_, rfl⟩
                      rw [← hSJ, ← hSJ2] at hfin
                      rw [← hSJ] at u2 ⊢
                      have HSJ2 := Lib.hid hSJ2; clear hSJ2 hSJ hs y1 y2 y2' hr0
                      generalize Deci.strOf q = SQ at *
                      have hlt3 : (r : Int) < (Q.length : Int) := by omega
                      go_wp2
                      go_round
                      case rel => exact ⟨r + 1, by omega, by go_num, by first | rw [HSJ2.out] | (rw [hfin, HSJ2.out])⟩
                      case measure => simp [intOf]; omega
                    · have hne : Q.take r ≠ [] := by
                        intro h
                        have := congrArg List.length h
                        rw [List.length_take, List.length_nil] at this
                        omega
                      rw [if_neg hne] at hs
                      have hfin : Deci.strOf (joinW 32 (Q.take r)) ++ (⟨#[32]⟩ : ByteArray) ++ Deci.strOf q = Deci.strOf (joinW 32 (Q.take (r + 1))) := by
                        rw [hs, show (⟨#[32]⟩ : ByteArray) = Deci.strOf [32] from rfl, strOf_append, strOf_append]
                      have hmid : (Deci.strOf (joinW 32 (Q.take r)) ++ (⟨#[32]⟩ : ByteArray)).size ≤ 2002 := by rw [ByteArray.size_append, z32]; omega
                      have hr0' : 0 < (r : Int) := by omega
                      obtain ⟨SJ, hSJ⟩ : ∃ X, X = Deci.strOf (joinW 32 (Q.take r)) := ⟨_, rfl⟩
                      obtain ⟨SJ2, hSJ2⟩ : ∃ X, X = Deci.strOf (joinW 32 (Q.take (r + 1))) := ⟨_, rfl⟩
                      rw [← hSJ, ← hSJ2] at hfin
                      rw [← hSJ] at u2 hmid ⊢
                      have HSJ2 := Lib.hid hSJ2; clear hSJ2 hSJ hs y1 y2 y2' hne hr0
                      generalize Deci.strOf q = SQ at *
                      go_wp2
                      go_round
                      case rel => exact ⟨r + 1, by omega, by go_num, by first | rw [HSJ2.out] | (rw [hfin, HSJ2.out])⟩
                      case measure => simp [intOf]; omega
                  · obtain rfl : r = Q.length := by omega
                    rw [List.take_length]
                    by_cases hwe : we = 0
                    · rw [HJN.out hwe]
                      subst hwe
                      go_wp2_with fail
                      go_roundw
                      case rel => exact ⟨j + 1, by omega, by go_num, by first | rw [HSA2.out] | (rw [haa, HSA2.out]), HHS.out, BW7.out⟩
                      case measure => simp [intOf]; omega
                    · have hwe' : (we == 0) = false := by simpa using hwe
                      go_wp2_with fail
                      go_roundw
                      case rel => exact ⟨j + 1, by omega, by go_num, by first | rw [HSA2.out] | (rw [haa, HSA2.out]), HHS.out, BW7.out⟩
                      case measure => simp [intOf]; omega
              · obtain rfl : j = L.length := by omega
                have hfin : Deci.strOf (flat 10 (L.take L.length)) = s2 := by rw [List.take_length, HL2.out, HS2.out]
                rw [hfin]
                clear hfin
                go_wp2_with fail
                go_ret
                exact ⟨ret_bool (by simp), BW.out⟩
          · have hlp := HLE.out t2
            subst hlp
            have t2' : (le == 0) = false := by simpa using t2
            simp only [List.length_nil]
            go_wp2_with fail
            go_ret
            exact ⟨rfl, BB6.out⟩

set_option maxRecDepth 100000 in
theorem contract (H : Type) (enc : TypeId × Value → H) (W : World) (base : Nat) (args : Array Value) (ds gs : List (DataW H)) (before : List MemPlace)
    (hval0 : ∀ (j : Nat) t v, Tryd.f5.params[j]? = some t → args[j]? = some v → Value.okWide Tryd.prog W .any base t v)
    (hW : DataW.Whole enc Tryd.prog Tryd.f5.params.toList Rows.deciBackSpec.vars false W args.toList ds gs before) (hL : laidMetH Tryd.prog Rows.deciBackRow.laid W) (hS : W.ShapedOpen Tryd.prog) :
    Calls Tryd.prog 5 args W fun e W' => ∃ v, e = .returned v ∧ Rows.deciBackSpec.post enc Tryd.prog Tryd.f5 false true false false W args v W' := by
  have hval : ∀ (j : Nat) t v, Tryd.f5.params[j]? = some t → args[j]? = some v → Value.okWide Tryd.prog W .any base t v := hval0
  have hE : Env W := env_of hL hS
  have hW' := hW
  obtain ⟨p, q, hA0, hV, rfl, hfz, hnd⟩ := hW
  have hA : DataW.TrodAll enc Tryd.prog W 0 (fun _ => true) true Tryd.f5.params.toList args.toList ds p := hA0
  rw [Tryd.params5] at hA hval
  obtain ⟨v0, vs0, d0, ds0, p0, q0, hargs, rfl, rfl, h0, r0⟩ := trodAll_cons hA
  obtain ⟨v1, vs1, d1, ds1, p1, q1, rfl, rfl, rfl, h1, r1⟩ := trodAll_cons r0
  obtain ⟨v2, vs2, d2, ds2, p2, q2, rfl, rfl, rfl, h2, r2⟩ := trodAll_cons r1
  obtain ⟨rfl, rfl, rfl⟩ := trodAll_nil r2
  obtain rfl : args = #[v0, v1, v2] := by cases args; simp_all
  obtain ⟨rfl, rfl⟩ := trodVars_none hV
  obtain ⟨a0, rfl, rfl, rfl, w0⟩ := open_int Tryd.underlying2 (hval 0 2 v0 rfl rfl) h0
  obtain ⟨a1, rfl, rfl, rfl, w1⟩ := open_int Tryd.underlying3 (hval 1 3 v1 rfl rfl) h1
  obtain ⟨s2, rfl, rfl, rfl, w2⟩ := open_string Tryd.underlying9 (hval 2 9 v2 rfl rfl) h2
  clear hA0 hval0
  refine (walk W hE a0 w0 a1 w1 s2 w2).mono fun e W' ⟨he, bel⟩ => ?_
  subst he
  exact ⟨_, rfl, _, _, _, [], _, [], hW', trodAll_mk1 (shut_bool Tryd.underlying4 _), (trodAll_cons_mk (shut_int Tryd.underlying2 w0) (trodAll_cons_mk (shut_int Tryd.underlying3 w1) (trodAll_cons_mk (shut_string Tryd.underlying9 w2) trodAll_mk0))), rfl, bel.frame _, fun h => by cases h⟩

theorem reads (os : Os) {H : Type} (enc : TypeId × Value → H) : ∃ places, DataW.whole enc Tryd.prog ((laidWorld os).forCall (fun _ _ => 0) ⟨#[], #[.int .i64 0, .int .i64 0, .string ⟨#[]⟩], []⟩).memory Tryd.f5.params.toList Rows.deciBackSpec.vars false (#[.int .i64 0, .int .i64 0, .string ⟨#[]⟩] : Array Value).toList 8 = some ([.lit (.int .i64 0), .lit (.int .i64 0), .lit (.string [])], [], places) :=
  ⟨[], by kernel_rfl⟩
set_option maxRecDepth 100000 in
theorem lifted (os : Os) (started : os.Started) (H : Type) (enc : TypeId × Value → H) (F : Stop.Interp) :
    ReturnsInHanded {} Tryd.checked os 5 .any ((OpenSpec.ofChange Rows.deciBackSpec).preRow enc Tryd.prog Tryd.f5 Rows.deciBackRow.domain false Rows.deciBackRow.laid) (((OpenSpec.ofChange Rows.deciBackSpec).at F).post enc Tryd.prog Tryd.f5 false true false false) := by
  obtain ⟨places, hx⟩ := reads os enc
  refine returnsInHanded_of_row (C := Tryd.checked) (s := OpenSpec.ofChange Rows.deciBackSpec) own started (by kernel_rfl) Tryd.func5
    (witness_row_at (enc := enc) (C := Tryd.checked) false (laidWorld os) #[.int .i64 0, .int .i64 0, .string ⟨#[]⟩] rfl (by kernel_rfl) (by kernel_rfl) (by kernel_rfl)
      (OpenSpec.preRow_of_cond 8 hx (by kernel_rfl) (fun k hk => by cases hk) (by kernel_rfl) (laid_met os _))) ?_
  intro W base args ds gs before hval hW _ _ _ hL hS _
  exact contract H enc W base args ds gs before hval hW hL hS

theorem said : Rows.DeciBackSaid :=
  OpenClaim.holds_of_cond 5 Tryd.f5 rfl rfl rfl rfl rfl rfl rfl ⟨rfl, rfl, rfl, rfl, rfl⟩ rfl rfl rfl rfl rfl (by kernel_rfl) Tryd.func5 (by kernel_rfl)
    (of_decide_eq_true (by kernel_rfl)) (by unfold Func.isWrapper; first | (rw [if_pos (by decide +kernel)]; kernel_rfl) | (rw [if_neg (by decide +kernel)]; exact ⟨rfl, rfl⟩))
    (fun os started H enc _ F => by rw [OpenClaim.pre_eq_preRow]; exact lifted os started H enc F)

theorem plain (f : FuncId) (fn : Func) (hf : Tryd.pinned.checked.prog.funcNamed "jitney/jitneylaw03.DeciBack" = some f) (hfn : Tryd.pinned.checked.prog.funcs[f]? = some fn) :
    false = Tryd.pinned.checked.prog.looks [] ∧ ∀ (j : Nat) t, fn.params[j]? = some t → Tryd.pinned.checked.prog.wantsStandIn t = false := by
  obtain rfl : f = 5 := Option.some.inj ((show Tryd.prog.funcNamed "jitney/jitneylaw03.DeciBack" = some 5 by kernel_rfl).symm.trans hf) |>.symm
  obtain rfl : fn = Tryd.f5 := (Option.some.inj (Tryd.func5.symm.trans hfn)).symm
  refine ⟨by kernel_rfl, fun j t ht => ?_⟩
  rw [Tryd.params5] at ht
  have hm := Array.mem_of_getElem? ht
  simp only [List.mem_toArray, List.mem_cons, List.not_mem_nil, or_false] at hm
  rcases hm with rfl | rfl | rfl
  · exact (show Tryd.prog.wantsStandIn 2 = false by kernel_rfl)
  · exact (show Tryd.prog.wantsStandIn 3 = false by kernel_rfl)
  · exact (show Tryd.prog.wantsStandIn 9 = false by kernel_rfl)

/-- THE CARD -/
theorem card : Rows.DeciBackCardSaid :=
  Claim7.holds_tied_plain_at .later [] _ _ _ _ said (fun _ h => by cases h) (by kernel_rfl) (fun _ h => by cases h) deciBack_row_tie rfl ⟨rfl, rfl⟩ (by kernel_rfl) rfl plain (by kernel_rfl)
#print axioms card
end Go.Proofs.YtbkklgafdmhmlaaDoor.deciBack
