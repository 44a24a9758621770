/- DeciLines: whatever the input, the law returns true, and each argument reads as it read before; the library's tables hold what the program's text lays. No other conditions. -/
import Derived.Test.YtbkklgafdmhmlaaDoorCards
import Derived.Test.YtbkklgafdmhmlaaDoorTie
import Derived.WalkKit
import Derived.ProofKit
import Derived.ShutString
import Derived.ChangeOld
import Derived.Below
import Derived.OpenShut
import Derived.Lib.SmallJoins
import Derived.Deep.DeepHandedRow
import Derived.SevenTiedAt
import Derived.Test.YtbkklgafdmhmlaaDoorDeciWorld
import Derived.Test.YtbkklgafdmhmlaaDoorDeciAlive
import Derived.Test.YtbkklgafdmhmlaaDoorDeciParts
namespace Go.Proofs.YtbkklgafdmhmlaaDoor.deciLines
open Go.ChangeShapes Go.WideShapes Go.ChangeAt Go.RowKit Go.Joins
open Go.ChangeMaps (open_string shut_string)
open Deci
set_option linter.unusedVariables false

theorem wf64 {n : Int} (h : (Lit.int .i64 n).wf = true) : -9223372036854775808 ≤ n ∧ n ≤ 9223372036854775807 := by
  simp [Lit.wf] at h
  exact h
theorem own : ownKnob Tryd.prog.godebug = none := by kernel_rfl
set_option maxHeartbeats 4000000 in
set_option maxRecDepth 100000 in
theorem walk (w : World) (hE : Env w) (s0 : ByteArray) (w0 : s0.size ≤ maxLen) (s1 : ByteArray) (w1 : s1.size ≤ maxLen) :
    Calls Tryd.prog 7 #[.string s0, .string s1] w fun e w' => e = .returned (.bool true) ∧ Below w.heap.size w w' := by
  have HE := Lib.hid hE; clear hE
  by_cases hbig : 1000 < s0.size ∨ 1000 < s1.size
  · by_cases h0 : 1000 < s0.size
    · clear hbig
      go_enter Tryd.func7, Tryd.ntmps7
      go_wp2_with fail
      refine (alive_any _ HE.out).mono ?_
      rintro e W1 ⟨rfl, hb⟩
      go_wp2_with fail
      go_ret
      exact ⟨rfl, hb⟩
    · have h1 := hbig.resolve_left h0
      clear hbig
      go_enter Tryd.func7, Tryd.ntmps7
      go_wp2_with fail
      refine (alive_any _ HE.out).mono ?_
      rintro e W1 ⟨rfl, hb⟩
      go_wp2_with fail
      go_ret
      exact ⟨rfl, hb⟩
  · have h0 : ¬ 1000 < s0.size := fun h => hbig (.inl h)
    have h1 : ¬ 1000 < s1.size := fun h => hbig (.inr h)
    clear hbig w0 w1
    have hl0 : s0.data.toList.length = s0.size := by simp
    have hl1 : s1.data.toList.length = s1.size := by simp
    have hsz : (s0 ++ s1).size = s0.size + s1.size := by simp
    have hsz2 : (s0 ++ ⟨#[32]⟩ ++ s1).size = s0.size + 1 + s1.size := by simp; rfl
    have c1 := fun w hE => lines_any s0 w hE (by unfold maxLen; omega)
    have c2 := fun w hE => lines_any s1 w hE (by unfold maxLen; omega)
    have c3 := fun w hE => lines_any (s0 ++ s1) w hE (by unfold maxLen; omega)
    have c4 := fun w => words_any s0 w (by omega)
    have c5 := fun w => words_any s1 w (by omega)
    have c6 := fun w => words_any (s0 ++ ⟨#[32]⟩ ++ s1) w (by omega)
    have d3 : (s0 ++ s1).data.toList = s0.data.toList ++ s1.data.toList := append_data s0 s1
    have d6 : (s0 ++ ⟨#[32]⟩ ++ s1).data.toList = s0.data.toList ++ [32] ++ s1.data.toList := by rw [append_data, append_data]
    rw [d3] at c3
    rw [d6] at c6
    have hb1 := lines_both s0.data.toList s1.data.toList
    have hb2 := words_both s0.data.toList s1.data.toList
    have k1 : (linesP s0.data.toList).length ≤ 2000 := by
      unfold linesP; split
      · simp
      · split
        · have := pcs_length 10 s0.data.toList []; simp at this ⊢; omega
        · simp
    have k2 : (linesP s1.data.toList).length ≤ 2000 := by
      unfold linesP; split
      · simp
      · split
        · have := pcs_length 10 s1.data.toList []; simp at this ⊢; omega
        · simp
    have k4 : (wordsP s0.data.toList).length ≤ 2000 := by
      unfold wordsP; split
      · simp
      · split
        · have := pcs_length 32 s0.data.toList []; simp at this ⊢; omega
        · simp
    have k5 : (wordsP s1.data.toList).length ≤ 2000 := by
      unfold wordsP; split
      · simp
      · split
        · have := pcs_length 32 s1.data.toList []; simp at this ⊢; omega
        · simp
    have hb1' := fun h => hb1 h (by omega)
    clear hb1 d3 d6
    generalize linesE (s0.data.toList ++ s1.data.toList) = e3 at c3 hb1'
    generalize linesP (s0.data.toList ++ s1.data.toList) = p3 at c3 hb1'
    generalize linesE s0.data.toList = e1 at c1 hb1'
    generalize linesP s0.data.toList = p1 at c1 hb1' k1
    generalize linesE s1.data.toList = e2 at c2 hb1'
    generalize linesP s1.data.toList = p2 at c2 hb1' k2
    generalize wordsE (s0.data.toList ++ [32] ++ s1.data.toList) = e6 at c6 hb2
    generalize wordsP (s0.data.toList ++ [32] ++ s1.data.toList) = p6 at c6 hb2
    generalize wordsE s0.data.toList = e4 at c4 hb2
    generalize wordsP s0.data.toList = p4 at c4 hb2 k4
    generalize wordsE s1.data.toList = e5 at c5 hb2
    generalize wordsP s1.data.toList = p5 at c5 hb2 k5
    have HB1 := Lib.hid hb1'; clear hb1'
    have HB2 := Lib.hid hb2; clear hb2
    have C1 := Lib.hid c1; clear c1
    have C2 := Lib.hid c2; clear c2
    have C3 := Lib.hid c3; clear c3
    have C4 := Lib.hid c4; clear c4
    have C5 := Lib.hid c5; clear c5
    have C6 := Lib.hid c6; clear c6
    have h32 : (ByteArray.mk #[32]).size = 1 := rfl
    have hs2 : (s0 ++ ⟨#[32]⟩).size = s0.size + 1 := by simp; rfl
    clear hl0 hl1 hsz2
    have HSZ := Lib.hid hsz; clear hsz
    have HS2 := Lib.hid hs2; clear hs2
    obtain ⟨i0, hi, hz0, hz1, hz2⟩ := info_parts infoStr
    by_cases q1 : e1 = 0
    · subst q1
      obtain ⟨g1, g2⟩ := HB1.out rfl
      subst g1
      by_cases q2 : e3 = 0
      · subst q2
        obtain rfl := g2 rfl
        clear g2
        go_enter Tryd.func7, Tryd.ntmps7
        go_wp2_with fail
        refine (alive_any _ HE.out).mono ?_
        rintro e W1 ⟨rfl, hb⟩
        have BB1 := Lib.hid hb; clear hb
        go_wp2_with fail
        refine (C1.out _ (HE.out.below BB1.out)).mono ?_
        rintro e W2 ⟨v1, rfl, ho, hb⟩
        have HS12 := Lib.hid hb.size
        have R1 := Lib.hid ho; clear ho
        obtain ⟨x1, y1, rfl⟩ := row_slice R1.out
        have RL := Lib.hid (fun j hj => row_lt R1.out (j := j) hj)
        have BB2 := Lib.hid (BB1.out.trans (hb.mono BB1.out.size)); clear hb
        go_wp2_with fail
        refine (C2.out _ (HE.out.below BB2.out)).mono ?_
        rintro e W3 ⟨v2, rfl, ho, hb⟩
        have R1 := Lib.hid (row_below R1.out hb)
        have S23 := Lib.hid hb.size
        have HS13 := Lib.hid (Nat.le_trans HS12.out hb.size)
        have R2 := Lib.hid ho; clear ho
        obtain ⟨x2, y2, rfl⟩ := row_slice R2.out
        have BB3 := Lib.hid (BB2.out.trans (hb.mono BB2.out.size)); clear hb
        go_wp2_with fail
        have HSZ2 := HSZ.out
        refine (C3.out _ (HE.out.below BB3.out)).mono ?_
        rintro e W4 ⟨v3, rfl, ho, hb⟩
        have R1 := Lib.hid (row_below R1.out hb)
        have R2 := Lib.hid (row_below R2.out hb)
        have HS14 := Lib.hid (Nat.le_trans HS13.out hb.size)
        have R3 := Lib.hid ho; clear ho
        obtain ⟨x3, y3, rfl⟩ := row_slice R3.out
        have BB4 := Lib.hid (BB3.out.trans (hb.mono BB3.out.size)); clear hb HSZ2
        go_wp2_with (at_builtin; refine wpList_append_strs (by first | rfl | simp [Region.wanted, yielded, go_sem]) _ _ 34 rfl W1.heap.size 9 i0 (.string ⟨#[]⟩) 16 Tryd.underlying34 hi hz0 hz1 hz2 rfl _ p1.length _ rfl R1.out _ p2 rfl (hasStrs_of R2.out) (by unfold maxLen; omega) (by omega) HS14.out ?_; intro v' w1 hown' hgrow; obtain ⟨xa, ya, rfl⟩ := row_slice hown')
        change W4.grownBy w1 (Value.slice x1 p1.length y1).ownBlock at hgrow
        have BB5 := Lib.hid (below_grew BB4.out BB4.out.size BB1.out.size R1.out hgrow)
        have Q3 : Hid (HasStrs w1 (.slice x3 (p1.length + p2.length) y3) (p1 ++ p2)) := Lib.hid (by
          have h := hasStrs_of (row_apart R3.out hgrow (fun j hj => Nat.lt_of_lt_of_le (RL.out j hj) S23.out))
          rw [List.length_append] at h
          exact h)
        have Q1 : Hid (HasStrs w1 (.slice xa (p1.length + p2.length) ya) (p1 ++ p2)) := Lib.hid (hasStrs_of (base := W1.heap.size) (by simpa using hown'))
        clear hown' hgrow R1 R2 R3 RL S23
        (with_reducible refine (same_yes (.slice x3 (p1.length + p2.length) y3) (.slice xa (p1.length + p2.length) ya) (p1 ++ p2) _ Q3.out Q1.out (by simp; omega)).mono ?_)
        rintro e w' ⟨rfl, nn, rfl⟩
        have BB5 := Lib.hid (below_drewN BB5.out nn)
        obtain ⟨Wc, hWc⟩ : ∃ Wc, Wc = w1.drewN nn := ⟨_, rfl⟩
        rw [← hWc] at BB5 ⊢
        clear hWc Q3 Q1
        go_wp2_with fail
        refine (C4.out _).mono ?_
        rintro e W5 ⟨v4, rfl, ho, hb⟩
        have T45 := Lib.hid (Nat.le_refl Wc.heap.size)
        have RB := Lib.hid BB5.out.size
        have HS15 := Lib.hid hb.size
        have R4 := Lib.hid ho; clear ho
        obtain ⟨x4, y4, rfl⟩ := row_slice R4.out
        have RL4 := Lib.hid (fun j hj => row_lt R4.out (j := j) hj)
        have BB6 := Lib.hid (BB5.out.trans (hb.mono BB5.out.size)); clear hb
        go_wp2_with fail
        refine (C5.out _).mono ?_
        rintro e W6 ⟨v5, rfl, ho, hb⟩
        have R4 := Lib.hid (row_below R4.out hb)
        have S56 := Lib.hid hb.size
        have HS16 := Lib.hid (Nat.le_trans HS15.out hb.size)
        have R5 := Lib.hid ho; clear ho
        obtain ⟨x5, y5, rfl⟩ := row_slice R5.out
        have BB7 := Lib.hid (BB6.out.trans (hb.mono BB6.out.size)); clear hb
        have hs2 := HS2.out
        go_wp2_with fail
        refine (C6.out _).mono ?_
        rintro e W7 ⟨v6, rfl, ho, hb⟩
        have R4 := Lib.hid (row_below R4.out hb)
        have R5 := Lib.hid (row_below R5.out hb)
        have HS17 := Lib.hid (Nat.le_trans HS16.out hb.size)
        have R6 := Lib.hid ho; clear ho
        obtain ⟨x6, y6, rfl⟩ := row_slice R6.out
        have BB8 := Lib.hid (BB7.out.trans (hb.mono BB7.out.size)); clear hb
        clear hs2
        by_cases t1 : e4 = 0
        · subst t1
          by_cases t2 : e5 = 0
          · subst t2
            by_cases t3 : p4.length = 0
            · obtain rfl : e6 = 21 := HB2.out.2 (fun h => h.2.2.1 t3)
              rw [t3]
              go_wp2_with fail
              go_ret
              exact ⟨rfl, BB8.out⟩
            · have t3' : ¬ (p4.length : Int) = 0 := by omega
              have t3'' : ((p4.length : Int) == 0) = false := by simpa using t3'
              by_cases t4 : p5.length = 0
              · obtain rfl : e6 = 21 := HB2.out.2 (fun h => h.2.2.2 t4)
                have t4' : (p5.length : Int) = 0 := by omega
                clear t4
                rw [show (p5.length : Nat) = 0 by omega]
                clear t4'
                go_wp2_with fail
                go_ret
                exact ⟨rfl, BB8.out⟩
              · have t4' : ¬ (p5.length : Int) = 0 := by omega
                have t4'' : ((p5.length : Int) == 0) = false := by simpa using t4'
                obtain ⟨z1, z2⟩ := HB2.out.1 ⟨rfl, rfl, t3, t4⟩
                subst z1 z2
                go_wp2_with (at_builtin; refine wpList_append_strs (by first | rfl | simp [Region.wanted, yielded, go_sem]) _ _ 34 rfl Wc.heap.size 9 i0 (.string ⟨#[]⟩) 16 Tryd.underlying34 hi hz0 hz1 hz2 rfl _ p4.length _ rfl R4.out _ p5 rfl (hasStrs_of R5.out) (by unfold maxLen; omega) (by omega) HS17.out ?_; intro v' w1 hown' hgrow; obtain ⟨xa, ya, rfl⟩ := row_slice hown')
                change W7.grownBy w1 (Value.slice x4 p4.length y4).ownBlock at hgrow
                have BB9 := Lib.hid (below_grew BB8.out BB8.out.size RB.out R4.out hgrow)
                have Q3 : Hid (HasStrs w1 (.slice x6 (p4.length + p5.length) y6) (p4 ++ p5)) := Lib.hid (by
                  have h := hasStrs_of (row_apart R6.out hgrow (fun j hj => Nat.lt_of_lt_of_le (RL4.out j hj) S56.out))
                  rw [List.length_append] at h
                  exact h)
                have Q1 : Hid (HasStrs w1 (.slice xa (p4.length + p5.length) ya) (p4 ++ p5)) := Lib.hid (hasStrs_of (base := Wc.heap.size) (by simpa using hown'))
                clear hown' hgrow R4 R5 R6 RL4 S56
                (with_reducible refine (same_yes (.slice x6 (p4.length + p5.length) y6) (.slice xa (p4.length + p5.length) ya) (p4 ++ p5) _ Q3.out Q1.out (by simp; omega)).mono ?_)
                rintro e w' ⟨rfl, nn, rfl⟩
                go_wp2_with fail
                go_ret
                exact ⟨rfl, below_drewN BB9.out _⟩
          · have t2' : (e5 == 0) = false := by simpa using t2
            obtain rfl : e6 = 21 := HB2.out.2 (fun h => t2 h.2.1)
            go_wp2_with fail
            go_ret
            exact ⟨rfl, BB8.out⟩
        · have t1' : (e4 == 0) = false := by simpa using t1
          obtain rfl : e6 = 21 := HB2.out.2 (fun h => t1 h.1)
          go_wp2_with fail
          go_ret
          exact ⟨rfl, BB8.out⟩
      · clear g2
        have q2' : (e3 == 0) = false := by simpa using q2
        go_enter Tryd.func7, Tryd.ntmps7
        go_wp2_with fail
        refine (alive_any _ HE.out).mono ?_
        rintro e W1 ⟨rfl, hb⟩
        have BB1 := Lib.hid hb; clear hb
        go_wp2_with fail
        refine (C1.out _ (HE.out.below BB1.out)).mono ?_
        rintro e W2 ⟨v1, rfl, ho, hb⟩
        have HS12 := Lib.hid hb.size
        have R1 := Lib.hid ho; clear ho
        obtain ⟨x1, y1, rfl⟩ := row_slice R1.out
        have RL := Lib.hid (fun j hj => row_lt R1.out (j := j) hj)
        have BB2 := Lib.hid (BB1.out.trans (hb.mono BB1.out.size)); clear hb
        go_wp2_with fail
        refine (C2.out _ (HE.out.below BB2.out)).mono ?_
        rintro e W3 ⟨v2, rfl, ho, hb⟩
        have R1 := Lib.hid (row_below R1.out hb)
        have S23 := Lib.hid hb.size
        have HS13 := Lib.hid (Nat.le_trans HS12.out hb.size)
        have R2 := Lib.hid ho; clear ho
        obtain ⟨x2, y2, rfl⟩ := row_slice R2.out
        have BB3 := Lib.hid (BB2.out.trans (hb.mono BB2.out.size)); clear hb
        go_wp2_with fail
        have HSZ2 := HSZ.out
        refine (C3.out _ (HE.out.below BB3.out)).mono ?_
        rintro e W4 ⟨v3, rfl, ho, hb⟩
        have R1 := Lib.hid (row_below R1.out hb)
        have R2 := Lib.hid (row_below R2.out hb)
        have HS14 := Lib.hid (Nat.le_trans HS13.out hb.size)
        have R3 := Lib.hid ho; clear ho
        obtain ⟨x3, y3, rfl⟩ := row_slice R3.out
        have BB4 := Lib.hid (BB3.out.trans (hb.mono BB3.out.size)); clear hb HSZ2
        go_wp2_with fail
        have BB5 := BB4
        obtain ⟨Wc, hWc⟩ : ∃ Wc, Wc = W4 := ⟨_, rfl⟩
        rw [← hWc] at BB5 ⊢
        clear hWc R1 R2 R3 RL S23 HS14 BB4
        go_wp2_with fail
        refine (C4.out _).mono ?_
        rintro e W5 ⟨v4, rfl, ho, hb⟩
        have T45 := Lib.hid (Nat.le_refl Wc.heap.size)
        have RB := Lib.hid BB5.out.size
        have HS15 := Lib.hid hb.size
        have R4 := Lib.hid ho; clear ho
        obtain ⟨x4, y4, rfl⟩ := row_slice R4.out
        have RL4 := Lib.hid (fun j hj => row_lt R4.out (j := j) hj)
        have BB6 := Lib.hid (BB5.out.trans (hb.mono BB5.out.size)); clear hb
        go_wp2_with fail
        refine (C5.out _).mono ?_
        rintro e W6 ⟨v5, rfl, ho, hb⟩
        have R4 := Lib.hid (row_below R4.out hb)
        have S56 := Lib.hid hb.size
        have HS16 := Lib.hid (Nat.le_trans HS15.out hb.size)
        have R5 := Lib.hid ho; clear ho
        obtain ⟨x5, y5, rfl⟩ := row_slice R5.out
        have BB7 := Lib.hid (BB6.out.trans (hb.mono BB6.out.size)); clear hb
        have hs2 := HS2.out
        go_wp2_with fail
        refine (C6.out _).mono ?_
        rintro e W7 ⟨v6, rfl, ho, hb⟩
        have R4 := Lib.hid (row_below R4.out hb)
        have R5 := Lib.hid (row_below R5.out hb)
        have HS17 := Lib.hid (Nat.le_trans HS16.out hb.size)
        have R6 := Lib.hid ho; clear ho
        obtain ⟨x6, y6, rfl⟩ := row_slice R6.out
        have BB8 := Lib.hid (BB7.out.trans (hb.mono BB7.out.size)); clear hb
        clear hs2
        by_cases t1 : e4 = 0
        · subst t1
          by_cases t2 : e5 = 0
          · subst t2
            by_cases t3 : p4.length = 0
            · obtain rfl : e6 = 21 := HB2.out.2 (fun h => h.2.2.1 t3)
              rw [t3]
              go_wp2_with fail
              go_ret
              exact ⟨rfl, BB8.out⟩
            · have t3' : ¬ (p4.length : Int) = 0 := by omega
              have t3'' : ((p4.length : Int) == 0) = false := by simpa using t3'
              by_cases t4 : p5.length = 0
              · obtain rfl : e6 = 21 := HB2.out.2 (fun h => h.2.2.2 t4)
                have t4' : (p5.length : Int) = 0 := by omega
                clear t4
                rw [show (p5.length : Nat) = 0 by omega]
                clear t4'
                go_wp2_with fail
                go_ret
                exact ⟨rfl, BB8.out⟩
              · have t4' : ¬ (p5.length : Int) = 0 := by omega
                have t4'' : ((p5.length : Int) == 0) = false := by simpa using t4'
                obtain ⟨z1, z2⟩ := HB2.out.1 ⟨rfl, rfl, t3, t4⟩
                subst z1 z2
                go_wp2_with (at_builtin; refine wpList_append_strs (by first | rfl | simp [Region.wanted, yielded, go_sem]) _ _ 34 rfl Wc.heap.size 9 i0 (.string ⟨#[]⟩) 16 Tryd.underlying34 hi hz0 hz1 hz2 rfl _ p4.length _ rfl R4.out _ p5 rfl (hasStrs_of R5.out) (by unfold maxLen; omega) (by omega) HS17.out ?_; intro v' w1 hown' hgrow; obtain ⟨xa, ya, rfl⟩ := row_slice hown')
                change W7.grownBy w1 (Value.slice x4 p4.length y4).ownBlock at hgrow
                have BB9 := Lib.hid (below_grew BB8.out BB8.out.size RB.out R4.out hgrow)
                have Q3 : Hid (HasStrs w1 (.slice x6 (p4.length + p5.length) y6) (p4 ++ p5)) := Lib.hid (by
                  have h := hasStrs_of (row_apart R6.out hgrow (fun j hj => Nat.lt_of_lt_of_le (RL4.out j hj) S56.out))
                  rw [List.length_append] at h
                  exact h)
                have Q1 : Hid (HasStrs w1 (.slice xa (p4.length + p5.length) ya) (p4 ++ p5)) := Lib.hid (hasStrs_of (base := Wc.heap.size) (by simpa using hown'))
                clear hown' hgrow R4 R5 R6 RL4 S56
                (with_reducible refine (same_yes (.slice x6 (p4.length + p5.length) y6) (.slice xa (p4.length + p5.length) ya) (p4 ++ p5) _ Q3.out Q1.out (by simp; omega)).mono ?_)
                rintro e w' ⟨rfl, nn, rfl⟩
                go_wp2_with fail
                go_ret
                exact ⟨rfl, below_drewN BB9.out _⟩
          · have t2' : (e5 == 0) = false := by simpa using t2
            obtain rfl : e6 = 21 := HB2.out.2 (fun h => t2 h.2.1)
            go_wp2_with fail
            go_ret
            exact ⟨rfl, BB8.out⟩
        · have t1' : (e4 == 0) = false := by simpa using t1
          obtain rfl : e6 = 21 := HB2.out.2 (fun h => t1 h.1)
          go_wp2_with fail
          go_ret
          exact ⟨rfl, BB8.out⟩
    · have q1' : (e1 == 0) = false := by simpa using q1
      go_enter Tryd.func7, Tryd.ntmps7
      go_wp2_with fail
      refine (alive_any _ HE.out).mono ?_
      rintro e W1 ⟨rfl, hb⟩
      have BB1 := Lib.hid hb; clear hb
      go_wp2_with fail
      refine (C1.out _ (HE.out.below BB1.out)).mono ?_
      rintro e W2 ⟨v1, rfl, ho, hb⟩
      have HS12 := Lib.hid hb.size
      have R1 := Lib.hid ho; clear ho
      obtain ⟨x1, y1, rfl⟩ := row_slice R1.out
      have RL := Lib.hid (fun j hj => row_lt R1.out (j := j) hj)
      have BB2 := Lib.hid (BB1.out.trans (hb.mono BB1.out.size)); clear hb
      go_wp2_with fail
      refine (C2.out _ (HE.out.below BB2.out)).mono ?_
      rintro e W3 ⟨v2, rfl, ho, hb⟩
      have R1 := Lib.hid (row_below R1.out hb)
      have S23 := Lib.hid hb.size
      have HS13 := Lib.hid (Nat.le_trans HS12.out hb.size)
      have R2 := Lib.hid ho; clear ho
      obtain ⟨x2, y2, rfl⟩ := row_slice R2.out
      have BB3 := Lib.hid (BB2.out.trans (hb.mono BB2.out.size)); clear hb
      go_wp2_with fail
      have HSZ2 := HSZ.out
      refine (C3.out _ (HE.out.below BB3.out)).mono ?_
      rintro e W4 ⟨v3, rfl, ho, hb⟩
      have R1 := Lib.hid (row_below R1.out hb)
      have R2 := Lib.hid (row_below R2.out hb)
      have HS14 := Lib.hid (Nat.le_trans HS13.out hb.size)
      have R3 := Lib.hid ho; clear ho
      obtain ⟨x3, y3, rfl⟩ := row_slice R3.out
      have BB4 := Lib.hid (BB3.out.trans (hb.mono BB3.out.size)); clear hb HSZ2
      go_wp2_with fail
      have BB5 := BB4
      obtain ⟨Wc, hWc⟩ : ∃ Wc, Wc = W4 := ⟨_, rfl⟩
      rw [← hWc] at BB5 ⊢
      clear hWc R1 R2 R3 RL S23 HS14 BB4
      go_wp2_with fail
      refine (C4.out _).mono ?_
      rintro e W5 ⟨v4, rfl, ho, hb⟩
      have T45 := Lib.hid (Nat.le_refl Wc.heap.size)
      have RB := Lib.hid BB5.out.size
      have HS15 := Lib.hid hb.size
      have R4 := Lib.hid ho; clear ho
      obtain ⟨x4, y4, rfl⟩ := row_slice R4.out
      have RL4 := Lib.hid (fun j hj => row_lt R4.out (j := j) hj)
      have BB6 := Lib.hid (BB5.out.trans (hb.mono BB5.out.size)); clear hb
      go_wp2_with fail
      refine (C5.out _).mono ?_
      rintro e W6 ⟨v5, rfl, ho, hb⟩
      have R4 := Lib.hid (row_below R4.out hb)
      have S56 := Lib.hid hb.size
      have HS16 := Lib.hid (Nat.le_trans HS15.out hb.size)
      have R5 := Lib.hid ho; clear ho
      obtain ⟨x5, y5, rfl⟩ := row_slice R5.out
      have BB7 := Lib.hid (BB6.out.trans (hb.mono BB6.out.size)); clear hb
      have hs2 := HS2.out
      go_wp2_with fail
      refine (C6.out _).mono ?_
      rintro e W7 ⟨v6, rfl, ho, hb⟩
      have R4 := Lib.hid (row_below R4.out hb)
      have R5 := Lib.hid (row_below R5.out hb)
      have HS17 := Lib.hid (Nat.le_trans HS16.out hb.size)
      have R6 := Lib.hid ho; clear ho
      obtain ⟨x6, y6, rfl⟩ := row_slice R6.out
      have BB8 := Lib.hid (BB7.out.trans (hb.mono BB7.out.size)); clear hb
      clear hs2
      by_cases t1 : e4 = 0
      · subst t1
        by_cases t2 : e5 = 0
        · subst t2
          by_cases t3 : p4.length = 0
          · obtain rfl : e6 = 21 := HB2.out.2 (fun h => h.2.2.1 t3)
            rw [t3]
            go_wp2_with fail
            go_ret
            exact ⟨rfl, BB8.out⟩
          · have t3' : ¬ (p4.length : Int) = 0 := by omega
            have t3'' : ((p4.length : Int) == 0) = false := by simpa using t3'
            by_cases t4 : p5.length = 0
            · obtain rfl : e6 = 21 := HB2.out.2 (fun h => h.2.2.2 t4)
              have t4' : (p5.length : Int) = 0 := by omega
              clear t4
              rw [show (p5.length : Nat) = 0 by omega]
              clear t4'
              go_wp2_with fail
              go_ret
              exact ⟨rfl, BB8.out⟩
            · have t4' : ¬ (p5.length : Int) = 0 := by omega
              have t4'' : ((p5.length : Int) == 0) = false := by simpa using t4'
              obtain ⟨z1, z2⟩ := HB2.out.1 ⟨rfl, rfl, t3, t4⟩
              subst z1 z2
              go_wp2_with (at_builtin; refine wpList_append_strs (by first | rfl | simp [Region.wanted, yielded, go_sem]) _ _ 34 rfl Wc.heap.size 9 i0 (.string ⟨#[]⟩) 16 Tryd.underlying34 hi hz0 hz1 hz2 rfl _ p4.length _ rfl R4.out _ p5 rfl (hasStrs_of R5.out) (by unfold maxLen; omega) (by omega) HS17.out ?_; intro v' w1 hown' hgrow; obtain ⟨xa, ya, rfl⟩ := row_slice hown')
              change W7.grownBy w1 (Value.slice x4 p4.length y4).ownBlock at hgrow
              have BB9 := Lib.hid (below_grew BB8.out BB8.out.size RB.out R4.out hgrow)
              have Q3 : Hid (HasStrs w1 (.slice x6 (p4.length + p5.length) y6) (p4 ++ p5)) := Lib.hid (by
                have h := hasStrs_of (row_apart R6.out hgrow (fun j hj => Nat.lt_of_lt_of_le (RL4.out j hj) S56.out))
                rw [List.length_append] at h
                exact h)
              have Q1 : Hid (HasStrs w1 (.slice xa (p4.length + p5.length) ya) (p4 ++ p5)) := Lib.hid (hasStrs_of (base := Wc.heap.size) (by simpa using hown'))
              clear hown' hgrow R4 R5 R6 RL4 S56
              (with_reducible refine (same_yes (.slice x6 (p4.length + p5.length) y6) (.slice xa (p4.length + p5.length) ya) (p4 ++ p5) _ Q3.out Q1.out (by simp; omega)).mono ?_)
              rintro e w' ⟨rfl, nn, rfl⟩
              go_wp2_with fail
              go_ret
              exact ⟨rfl, below_drewN BB9.out _⟩
        · have t2' : (e5 == 0) = false := by simpa using t2
          obtain rfl : e6 = 21 := HB2.out.2 (fun h => t2 h.2.1)
          go_wp2_with fail
          go_ret
          exact ⟨rfl, BB8.out⟩
      · have t1' : (e4 == 0) = false := by simpa using t1
        obtain rfl : e6 = 21 := HB2.out.2 (fun h => t1 h.1)
        go_wp2_with fail
        go_ret
        exact ⟨rfl, BB8.out⟩

set_option maxRecDepth 100000 in
theorem contract (H : Type) (enc : TypeId × Value → H) (W : World) (base : Nat) (args : Array Value) (ds gs : List (DataW H)) (before : List MemPlace)
    (hval0 : ∀ (j : Nat) t v, Tryd.f7.params[j]? = some t → args[j]? = some v → Value.okWide Tryd.prog W .any base t v)
    (hW : DataW.Whole enc Tryd.prog Tryd.f7.params.toList Rows.deciLinesSpec.vars false W args.toList ds gs before) (hL : laidMetH Tryd.prog Rows.deciLinesRow.laid W) (hS : W.ShapedOpen Tryd.prog) :
    Calls Tryd.prog 7 args W fun e W' => ∃ v, e = .returned v ∧ Rows.deciLinesSpec.post enc Tryd.prog Tryd.f7 false true false false W args v W' := by
  have hval : ∀ (j : Nat) t v, Tryd.f7.params[j]? = some t → args[j]? = some v → Value.okWide Tryd.prog W .any base t v := hval0
  have hE : Env W := env_of hL hS
  have hW' := hW
  obtain ⟨p, q, hA0, hV, rfl, hfz, hnd⟩ := hW
  have hA : DataW.TrodAll enc Tryd.prog W 0 (fun _ => true) true Tryd.f7.params.toList args.toList ds p := hA0
  rw [Tryd.params7] at hA hval
  obtain ⟨v0, vs0, d0, ds0, p0, q0, hargs, rfl, rfl, h0, r0⟩ := trodAll_cons hA
  obtain ⟨v1, vs1, d1, ds1, p1, q1, rfl, rfl, rfl, h1, r1⟩ := trodAll_cons r0
  obtain ⟨rfl, rfl, rfl⟩ := trodAll_nil r1
  obtain rfl : args = #[v0, v1] := by cases args; simp_all
  obtain ⟨rfl, rfl⟩ := trodVars_none hV
  obtain ⟨s0, rfl, rfl, rfl, w0⟩ := open_string Tryd.underlying9 (hval 0 9 v0 rfl rfl) h0
  obtain ⟨s1, rfl, rfl, rfl, w1⟩ := open_string Tryd.underlying9 (hval 1 9 v1 rfl rfl) h1
  clear hA0 hval0
  refine (walk W hE s0 w0 s1 w1).mono fun e W' ⟨he, bel⟩ => ?_
  subst he
  exact ⟨_, rfl, _, _, _, [], _, [], hW', trodAll_mk1 (shut_bool Tryd.underlying4 _), (trodAll_cons_mk (shut_string Tryd.underlying9 w0) (trodAll_cons_mk (shut_string Tryd.underlying9 w1) trodAll_mk0)), rfl, bel.frame _, fun h => by cases h⟩

theorem reads (os : Os) {H : Type} (enc : TypeId × Value → H) : ∃ places, DataW.whole enc Tryd.prog ((laidWorld os).forCall (fun _ _ => 0) ⟨#[], #[.string ⟨#[]⟩, .string ⟨#[]⟩], []⟩).memory Tryd.f7.params.toList Rows.deciLinesSpec.vars false (#[.string ⟨#[]⟩, .string ⟨#[]⟩] : Array Value).toList 8 = some ([.lit (.string []), .lit (.string [])], [], places) :=
  ⟨[], by kernel_rfl⟩
set_option maxRecDepth 100000 in
theorem lifted (os : Os) (started : os.Started) (H : Type) (enc : TypeId × Value → H) (F : Stop.Interp) :
    ReturnsInHanded {} Tryd.checked os 7 .any ((OpenSpec.ofChange Rows.deciLinesSpec).preRow enc Tryd.prog Tryd.f7 Rows.deciLinesRow.domain false Rows.deciLinesRow.laid) (((OpenSpec.ofChange Rows.deciLinesSpec).at F).post enc Tryd.prog Tryd.f7 false true false false) := by
  obtain ⟨places, hx⟩ := reads os enc
  refine returnsInHanded_of_row (C := Tryd.checked) (s := OpenSpec.ofChange Rows.deciLinesSpec) own started (by kernel_rfl) Tryd.func7
    (witness_row_at (enc := enc) (C := Tryd.checked) false (laidWorld os) #[.string ⟨#[]⟩, .string ⟨#[]⟩] rfl (by kernel_rfl) (by kernel_rfl) (by kernel_rfl)
      (OpenSpec.preRow_of_cond 8 hx (by kernel_rfl) (fun k hk => by cases hk) (by kernel_rfl) (laid_met os _))) ?_
  intro W base args ds gs before hval hW _ _ _ hL hS _
  exact contract H enc W base args ds gs before hval hW hL hS

theorem said : Rows.DeciLinesSaid :=
  OpenClaim.holds_of_cond 7 Tryd.f7 rfl rfl rfl rfl rfl rfl rfl ⟨rfl, rfl, rfl, rfl, rfl⟩ rfl rfl rfl rfl rfl (by kernel_rfl) Tryd.func7 (by kernel_rfl)
    (of_decide_eq_true (by kernel_rfl)) (by unfold Func.isWrapper; first | (rw [if_pos (by decide +kernel)]; kernel_rfl) | (rw [if_neg (by decide +kernel)]; exact ⟨rfl, rfl⟩))
    (fun os started H enc _ F => by rw [OpenClaim.pre_eq_preRow]; exact lifted os started H enc F)

theorem plain (f : FuncId) (fn : Func) (hf : Tryd.pinned.checked.prog.funcNamed "jitney/jitneylaw03.DeciLines" = some f) (hfn : Tryd.pinned.checked.prog.funcs[f]? = some fn) :
    false = Tryd.pinned.checked.prog.looks [] ∧ ∀ (j : Nat) t, fn.params[j]? = some t → Tryd.pinned.checked.prog.wantsStandIn t = false := by
  obtain rfl : f = 7 := Option.some.inj ((show Tryd.prog.funcNamed "jitney/jitneylaw03.DeciLines" = some 7 by kernel_rfl).symm.trans hf) |>.symm
  obtain rfl : fn = Tryd.f7 := (Option.some.inj (Tryd.func7.symm.trans hfn)).symm
  refine ⟨by kernel_rfl, fun j t ht => ?_⟩
  rw [Tryd.params7] at ht
  have hm := Array.mem_of_getElem? ht
  simp only [List.mem_toArray, List.mem_cons, List.not_mem_nil, or_false, or_self] at hm
  rcases hm with rfl
  · exact (show Tryd.prog.wantsStandIn 9 = false by kernel_rfl)

/-- THE CARD -/
theorem card : Rows.DeciLinesCardSaid :=
  Claim7.holds_tied_plain_at .later [] _ _ _ _ said (fun _ h => by cases h) (by kernel_rfl) (fun _ h => by cases h) deciLines_row_tie rfl ⟨rfl, rfl⟩ (by kernel_rfl) rfl plain (by kernel_rfl)
#print axioms card
end Go.Proofs.YtbkklgafdmhmlaaDoor.deciLines
