/- jitneyref27's Name, wide and check: the document's answers; over the translated program. -/
import Derived.Test.YtmegapelibaanaaDoorVbRefLines
import Derived.Test.YtmegapelibaanaaDoorVbFind
namespace Go.Proofs.YtmegapelibaanaaDoor
namespace Vb
open Go Go.RowKit Deci
set_option linter.unusedVariables false
set_option maxHeartbeats 1000000 in
set_option maxRecDepth 100000 in
theorem refName_any (k : Int) (w : World) :
    Calls Tryd.prog 17 #[.int .i64 k] w fun e w' => e = .returned (.string (nameS k.toNat)) ∧ Below w.heap.size w w' := by
  have hb := fun (o : Obj) => (Below.refl w.heap.size w).alloc (Nat.le_refl _) o
  by_cases h1 : k < 1
  · rw [show k.toNat = 0 by omega, show nameS 0 = ⟨#[]⟩ from rfl]
    go_enter Tryd.func17, Tryd.ntmps17
    go_wp2
    go_ret
    exact ⟨rfl, hb _⟩
  by_cases h2 : 7 < k
  · rw [show nameS k.toNat = ⟨#[]⟩ from by
      obtain ⟨j, hj⟩ : ∃ j, k.toNat = j + 8 := ⟨k.toNat - 8, by omega⟩
      rw [hj]; rfl]
    go_enter Tryd.func17, Tryd.ntmps17
    go_wp2
    go_ret
    exact ⟨rfl, hb _⟩
  · rcases (show k = 1 ∨ k = 2 ∨ k = 3 ∨ k = 4 ∨ k = 5 ∨ k = 6 ∨ k = 7 by omega) with rfl | rfl | rfl | rfl | rfl | rfl | rfl
    all_goals
      clear h1 h2
      go_enter Tryd.func17, Tryd.ntmps17
      go_wp2
      go_ret
      exact ⟨rfl, hb _⟩
theorem wide_any (x : Int) (w : World) : Calls Tryd.prog 30 #[.int .i64 x] w fun e w' => e = .returned (.bool (beyB 0 x)) ∧ w' = w := by
  by_cases h1 : x < 0
  · have hr : beyB 0 x = true := by unfold beyB; simp [h1]
    rw [hr]
    go_enter Tryd.func30, Tryd.ntmps30
    go_wp2
    go_ret
    exact ⟨rfl, rfl⟩
  · by_cases h2 : 1099511627776 < x
    · have hr : beyB 0 x = true := by unfold beyB; simp [h2]
      rw [hr]
      go_enter Tryd.func30, Tryd.ntmps30
      go_wp2
      go_ret
      exact ⟨rfl, rfl⟩
    · have hr : beyB 0 x = false := by unfold beyB; simp [h1, h2]
      rw [hr]
      go_enter Tryd.func30, Tryd.ntmps30
      go_wp2
      go_ret
      exact ⟨rfl, rfl⟩
theorem any_cons (p : Int → Bool) (x : Int) (xs : List Int) : (x :: xs).any p = (p x || xs.any p) := rfl
set_option maxHeartbeats 8000000 in
set_option maxRecDepth 100000 in
theorem refCheck_any (c : CM) (dv : Value) (w : World) (hd : IsXs w dv c.draws) (hl : c.draws.length ≤ 100000) (ht : c.text.size ≤ 1000000) :
    Calls Tryd.prog 16 #[c.v dv] w fun e w' => e = .returned (.int .i64 (checkE c)) ∧ Below w.heap.size w w' := by
  have hck : checkE c = if nameL c.kind.toNat = [] then 50 else if (numL c).any (beyB (leastV c)) then 23 else if c.kind = 5 ∧ 4096 < c.draws.length then 3 else if c.kind = 1 ∧ linesB c.text.data.toList c.n = false then 21 else 0 := rfl
  have hnl : numL c = if 1 ≤ c.kind ∧ c.kind ≤ 3 then [c.n] else if c.kind = 4 then [c.clock] else if c.kind = 5 then c.n :: c.steps :: c.draws else [] := rfl
  have hle : leastV c = if c.kind = 4 then -1099511627776 else 0 := rfl
  have hlb : linesB c.text.data.toList c.n = (decide (linesE c.text.data.toList = 0) && decide (((linesP c.text.data.toList).length : Int) = c.n)) := rfl
  generalize checkE c = ck at *
  generalize numL c = nums at *
  generalize leastV c = m at *
  generalize linesB c.text.data.toList c.n = lb at *
  obtain ⟨X, hX⟩ : ∃ X, X = w.heap.size := ⟨_, rfl⟩
  obtain ⟨da, dc, rfl⟩ := hd.form
  obtain ⟨kind, n, steps, clock, draws, text⟩ := c
  unfold CM.v at *
  simp only at hck hnl hle hlb hl ht hd ⊢
  have hnm := fun W => refName_any kind W
  have hli := fun W => refLines_any text W (by unfold maxLen; omega)
  unfold Deci.Told at hli
  have hwd := fun x W => wide_any x W
  have hnd : (nameS kind.toNat).toList = nameL kind.toNat := by rw [Lib.toList_data]; rfl
  have hks : nameL kind.toNat = [] ∨ (1 ≤ kind ∧ kind ≤ 7 ∧ nameL kind.toNat ≠ []) := by
    by_cases hk : 1 ≤ kind ∧ kind ≤ 7
    · refine .inr ⟨hk.1, hk.2, ?_⟩
      rcases (show kind = 1 ∨ kind = 2 ∨ kind = 3 ∨ kind = 4 ∨ kind = 5 ∨ kind = 6 ∨ kind = 7 by omega) with rfl | rfl | rfl | rfl | rfl | rfl | rfl <;> decide
    · left
      rcases (show kind < 1 ∨ 8 ≤ kind by omega) with h | h
      · rw [show kind.toNat = 0 by omega]; rfl
      · obtain ⟨j, hj⟩ : ∃ j, kind.toNat = j + 8 := ⟨kind.toNat - 8, by omega⟩
        rw [hj]; rfl
  generalize nameS kind.toNat = nm at *
  generalize nameL kind.toNat = nl at *
  generalize linesE text.data.toList = le at *
  generalize linesP text.data.toList = ps at *
  obtain ⟨W0, hW0⟩ : ∃ W0, W0 = w.alloc (.cells #[.int .i64 kind, .int .i64 n, .int .i64 steps, .int .i64 clock, .slice da draws.length dc, .string text] 47) := ⟨_, rfl⟩
  have hb0 : Below X w W0 := by rw [hX, hW0]; exact (Below.refl _ _).alloc (Nat.le_refl _) _
  have hx0 : W0.heap[X]? = some (.cells #[.int .i64 kind, .int .i64 n, .int .i64 steps, .int .i64 clock, .slice da draws.length dc, .string text] 47) := by rw [hW0, hX]; exact World.alloc_heap_new w _
  have x00 : W0.cell? ⟨X, 0, none⟩ = some (.int .i64 kind) := (own_cell hx0).trans rfl
  have hat : ∀ k (hk : k < draws.length) W, Below X w W → ∃ g o, da = some ⟨g, o, none⟩ ∧ W.cell? ⟨g, o + k, none⟩ = some (.int .i64 draws[k]) := fun k hk W hW => by
    obtain ⟨a', c', e, -, -, hr⟩ := hd
    injection e with e1 e2 e3
    subst e1
    obtain ⟨g, o, e, hg, hc⟩ := hr.resolve_left (by intro e; rw [e] at hk; simp at hk)
    exact ⟨g, o, e, (hW.cell (p := ⟨g, o + k, none⟩) (by rw [hX]; exact hg)).trans (hc k hk)⟩
  have htk := fun k (hk : k < draws.length) => any_take (beyB 0) draws k hk
  have hin : ∀ k (hk : k < draws.length), beyB 0 draws[k] = true → draws.any (beyB 0) = true := fun k hk h => List.any_eq_true.2 ⟨_, List.getElem_mem hk, h⟩
  obtain ⟨nd, hnd2⟩ : ∃ nd, nd = draws.length := ⟨_, rfl⟩
  rw [← hX]
  have HX := Lib.hid hX; clear hX
  have HW0 := Lib.hid hW0; clear hW0
  have HB0 := Lib.hid hb0; clear hb0
  have HX0 := Lib.hid hx0; clear hx0
  have HNM := Lib.hid hnm; clear hnm
  have HLI := Lib.hid hli; clear hli
  have HWD := Lib.hid hwd; clear hwd
  have HAT := Lib.hid hat; clear hat
  have HTK := Lib.hid htk; clear htk
  have HIN := Lib.hid hin; clear hin
  have HND := Lib.hid hnd2
  clear hd
  rw [← hnd2] at hck hl ⊢
  clear hnd2
  have HCE : Hid (∀ W : World, W.heap[X]? = some (.cells #[.int .i64 kind, .int .i64 n, .int .i64 steps, .int .i64 clock, .slice da nd dc, .string text] 47) → W.cell? ⟨X, 0, none⟩ = some (.int .i64 kind) ∧ W.cell? ⟨X, 1, none⟩ = some (.int .i64 n) ∧ W.cell? ⟨X, 2, none⟩ = some (.int .i64 steps) ∧ W.cell? ⟨X, 3, none⟩ = some (.int .i64 clock) ∧ W.cell? ⟨X, 4, none⟩ = some (.slice da nd dc) ∧ W.cell? ⟨X, 5, none⟩ = some (.string text)) := Lib.hid fun W h =>
    ⟨(own_cell h).trans rfl, (own_cell h).trans rfl, (own_cell h).trans rfl, (own_cell h).trans rfl, (own_cell h).trans rfl, (own_cell h).trans rfl⟩
  rw [← HND.out] at HX0
  rcases hks with hn | ⟨hk1, hk7, hn⟩
  · rw [if_pos hn] at hck
    rw [hn] at hnd
    have he : nm.toList.isEmpty = true := by rw [hnd]; rfl
    subst hck
    clear hnl hle hlb
    go_enter Tryd.func16, Tryd.ntmps16
    go_wp2_with fail
    rw [← HX.out, HND.out, ← HW0.out]
    go_wp2_with fail
    refine (HNM.out _).mono ?_
    rintro e w1 ⟨rfl, hb1⟩
    have HB1 := Lib.hid (HB0.out.trans (hb1.mono (by have := own_lt HX0.out; omega))); clear hb1
    go_wp2_with fail
    go_ret
    exact ⟨rfl, HB1.out⟩
  rw [if_neg hn] at hck
  have hne : ¬ nm.toList = [] := by rw [hnd]; exact hn
  have he : nm.toList.isEmpty = false := by simpa using hne
  clear hn hnd
  by_cases h67 : 6 ≤ kind
  · rw [if_neg (by omega), if_neg (by omega), if_neg (by omega)] at hnl
    subst hnl
    rw [if_neg (by simp), if_neg (by omega), if_neg (by omega)] at hck
    subst hck
    clear hle hlb
    rcases (show kind = 6 ∨ kind = 7 by omega) with rfl | rfl
    all_goals
      clear hk1 hk7 h67
      go_enter Tryd.func16, Tryd.ntmps16
      go_wp2_with fail
      rw [← HX.out, HND.out, ← HW0.out, ← HND.out]
      go_wp2_with fail
      refine (HNM.out _).mono ?_
      rintro e w1 ⟨rfl, hb1⟩
      have hx1 := (hb1.block X (own_lt HX0.out)).trans HX0.out
      have HB1 := Lib.hid (HB0.out.trans (hb1.mono (by have := own_lt HX0.out; omega))); clear hb1 x00
      obtain ⟨z0, z1, z2, z3, z4, z5⟩ := HCE.out w1 hx1
      have HX1 := Lib.hid hx1; clear hx1
      go_wp2_with fail
      go_loopw [3] (fun i wr => i = .int .i64 0 ∧ wr = w1) (fun _ _ => 0)
      case atStart => exact ⟨by first | rfl | trivial, by first | rfl | trivial⟩
      case round =>
        obtain ⟨rfl, rfl⟩ := hrel
        by_cases hd0 : nd = 0
        · have hd1 : ¬ (0 : Int) < (nd : Int) := by omega
          go_wp2_with fail
          refine (HLI.out wr).mono ?_
          rintro e w2 ⟨v, rfl, hown, hb2⟩
          have hx2 := (hb2.block X (own_lt HX1.out)).trans HX1.out
          obtain ⟨lv, lc, rfl⟩ := own_slice hown
          clear z0 z1 z2 z3 z4 z5 hown
          obtain ⟨z0, z1, z2, z3, z4, z5⟩ := HCE.out w2 hx2
          have HB2 := Lib.hid (HB1.out.trans (hb2.mono (by have := own_lt HX1.out; omega))); clear hb2 hx2
          go_wp2_with fail
          go_ret
          exact ⟨rfl, HB2.out⟩
        · have hd1 : (0 : Int) < (nd : Int) := by omega
          go_wp2_with fail
          refine (HLI.out wr).mono ?_
          rintro e w2 ⟨v, rfl, hown, hb2⟩
          have hx2 := (hb2.block X (own_lt HX1.out)).trans HX1.out
          obtain ⟨lv, lc, rfl⟩ := own_slice hown
          clear z0 z1 z2 z3 z4 z5 hown
          obtain ⟨z0, z1, z2, z3, z4, z5⟩ := HCE.out w2 hx2
          have HB2 := Lib.hid (HB1.out.trans (hb2.mono (by have := own_lt HX1.out; omega))); clear hb2 hx2
          go_wp2_with fail
          go_ret
          exact ⟨rfl, HB2.out⟩
  by_cases h4 : kind = 4
  · subst h4
    rw [if_pos rfl] at hle
    rw [if_neg (by omega), if_pos rfl] at hnl
    subst hle hnl
    have hany : [clock].any (beyB (-1099511627776)) = beyB (-1099511627776) clock := by simp
    rw [hany] at hck
    clear hk1 hk7 h67 hlb hany
    by_cases hc1 : clock < -1099511627776
    · have hb : beyB (-1099511627776) clock = true := by unfold beyB; simp [hc1]
      rw [hb, if_pos rfl] at hck
      subst hck
      clear hb
      go_enter Tryd.func16, Tryd.ntmps16
      go_wp2_with fail
      rw [← HX.out, HND.out, ← HW0.out, ← HND.out]
      go_wp2_with fail
      refine (HNM.out _).mono ?_
      rintro e w1 ⟨rfl, hb1⟩
      have hx1 := (hb1.block X (own_lt HX0.out)).trans HX0.out
      have HB1 := Lib.hid (HB0.out.trans (hb1.mono (by have := own_lt HX0.out; omega))); clear hb1 x00
      obtain ⟨z0, z1, z2, z3, z4, z5⟩ := HCE.out w1 hx1
      have HX1 := Lib.hid hx1; clear hx1
      go_wp2_with fail
      go_loopw [3] (fun i wr => i = .int .i64 0 ∧ wr = w1) (fun _ _ => 0)
      case atStart => exact ⟨by first | rfl | trivial, by first | rfl | trivial⟩
      case round =>
        obtain ⟨rfl, rfl⟩ := hrel
        by_cases hd0 : nd = 0
        · have hd1 : ¬ (0 : Int) < (nd : Int) := by omega
          go_wp2_with fail
          go_ret
          exact ⟨rfl, HB1.out⟩
        · have hd1 : (0 : Int) < (nd : Int) := by omega
          go_wp2_with fail
          go_ret
          exact ⟨rfl, HB1.out⟩
    by_cases hc2 : 1099511627776 < clock
    · have hb : beyB (-1099511627776) clock = true := by unfold beyB; simp [hc2]
      rw [hb, if_pos rfl] at hck
      subst hck
      clear hb
      go_enter Tryd.func16, Tryd.ntmps16
      go_wp2_with fail
      rw [← HX.out, HND.out, ← HW0.out, ← HND.out]
      go_wp2_with fail
      refine (HNM.out _).mono ?_
      rintro e w1 ⟨rfl, hb1⟩
      have hx1 := (hb1.block X (own_lt HX0.out)).trans HX0.out
      have HB1 := Lib.hid (HB0.out.trans (hb1.mono (by have := own_lt HX0.out; omega))); clear hb1 x00
      obtain ⟨z0, z1, z2, z3, z4, z5⟩ := HCE.out w1 hx1
      have HX1 := Lib.hid hx1; clear hx1
      go_wp2_with fail
      go_loopw [3] (fun i wr => i = .int .i64 0 ∧ wr = w1) (fun _ _ => 0)
      case atStart => exact ⟨by first | rfl | trivial, by first | rfl | trivial⟩
      case round =>
        obtain ⟨rfl, rfl⟩ := hrel
        by_cases hd0 : nd = 0
        · have hd1 : ¬ (0 : Int) < (nd : Int) := by omega
          go_wp2_with fail
          go_ret
          exact ⟨rfl, HB1.out⟩
        · have hd1 : (0 : Int) < (nd : Int) := by omega
          go_wp2_with fail
          go_ret
          exact ⟨rfl, HB1.out⟩
    · have hb : beyB (-1099511627776) clock = false := by unfold beyB; simp [hc1, hc2]
      rw [hb, if_neg (by simp), if_neg (by omega), if_neg (by omega)] at hck
      subst hck
      clear hb
      go_enter Tryd.func16, Tryd.ntmps16
      go_wp2_with fail
      rw [← HX.out, HND.out, ← HW0.out, ← HND.out]
      go_wp2_with fail
      refine (HNM.out _).mono ?_
      rintro e w1 ⟨rfl, hb1⟩
      have hx1 := (hb1.block X (own_lt HX0.out)).trans HX0.out
      have HB1 := Lib.hid (HB0.out.trans (hb1.mono (by have := own_lt HX0.out; omega))); clear hb1 x00
      obtain ⟨z0, z1, z2, z3, z4, z5⟩ := HCE.out w1 hx1
      have HX1 := Lib.hid hx1; clear hx1
      go_wp2_with fail
      go_loopw [3] (fun i wr => i = .int .i64 0 ∧ wr = w1) (fun _ _ => 0)
      case atStart => exact ⟨by first | rfl | trivial, by first | rfl | trivial⟩
      case round =>
        obtain ⟨rfl, rfl⟩ := hrel
        by_cases hd0 : nd = 0
        · have hd1 : ¬ (0 : Int) < (nd : Int) := by omega
          go_wp2_with fail
          refine (HLI.out wr).mono ?_
          rintro e w2 ⟨v, rfl, hown, hb2⟩
          have hx2 := (hb2.block X (own_lt HX1.out)).trans HX1.out
          obtain ⟨lv, lc, rfl⟩ := own_slice hown
          clear z0 z1 z2 z3 z4 z5 hown
          obtain ⟨z0, z1, z2, z3, z4, z5⟩ := HCE.out w2 hx2
          have HB2 := Lib.hid (HB1.out.trans (hb2.mono (by have := own_lt HX1.out; omega))); clear hb2 hx2
          go_wp2_with fail
          go_ret
          exact ⟨rfl, HB2.out⟩
        · have hd1 : (0 : Int) < (nd : Int) := by omega
          go_wp2_with fail
          refine (HLI.out wr).mono ?_
          rintro e w2 ⟨v, rfl, hown, hb2⟩
          have hx2 := (hb2.block X (own_lt HX1.out)).trans HX1.out
          obtain ⟨lv, lc, rfl⟩ := own_slice hown
          clear z0 z1 z2 z3 z4 z5 hown
          obtain ⟨z0, z1, z2, z3, z4, z5⟩ := HCE.out w2 hx2
          have HB2 := Lib.hid (HB1.out.trans (hb2.mono (by have := own_lt HX1.out; omega))); clear hb2 hx2
          go_wp2_with fail
          go_ret
          exact ⟨rfl, HB2.out⟩
  by_cases h5 : kind = 5
  · subst h5
    rw [if_neg (by omega)] at hle
    rw [if_neg (by omega), if_neg (by omega), if_pos rfl] at hnl
    subst hle hnl
    rw [any_cons, any_cons] at hck
    clear hk1 hk7 h67 h4 hlb
    cases hb1 : beyB 0 n with
    | true =>
      rw [hb1, Bool.true_or, if_pos rfl] at hck
      subst hck
      have hw := HWD.out n
      rw [hb1] at hw
      have HW := Lib.hid hw; clear hw hb1
      go_enter Tryd.func16, Tryd.ntmps16
      go_wp2_with fail
      rw [← HX.out, HND.out, ← HW0.out, ← HND.out]
      go_wp2_with fail
      refine (HNM.out _).mono ?_
      rintro e w1 ⟨rfl, hb1⟩
      have hx1 := (hb1.block X (own_lt HX0.out)).trans HX0.out
      have HB1 := Lib.hid (HB0.out.trans (hb1.mono (by have := own_lt HX0.out; omega))); clear hb1 x00
      obtain ⟨z0, z1, z2, z3, z4, z5⟩ := HCE.out w1 hx1
      have HX1 := Lib.hid hx1; clear hx1
      go_wp2_with fail
      refine (HW.out _).mono ?_
      rintro e w2 ⟨rfl, rfl⟩
      go_wp2_with fail
      go_ret
      exact ⟨rfl, HB1.out⟩
    | false =>
      rw [hb1, Bool.false_or] at hck
      have hw := HWD.out n
      rw [hb1] at hw
      have HW := Lib.hid hw; clear hw hb1
      cases hb2 : beyB 0 steps with
      | true =>
        rw [hb2, Bool.true_or, if_pos rfl] at hck
        subst hck
        have hw := HWD.out steps
        rw [hb2] at hw
        have HW2 := Lib.hid hw; clear hw hb2
        go_enter Tryd.func16, Tryd.ntmps16
        go_wp2_with fail
        rw [← HX.out, HND.out, ← HW0.out, ← HND.out]
        go_wp2_with fail
        refine (HNM.out _).mono ?_
        rintro e w1 ⟨rfl, hb1⟩
        have hx1 := (hb1.block X (own_lt HX0.out)).trans HX0.out
        have HB1 := Lib.hid (HB0.out.trans (hb1.mono (by have := own_lt HX0.out; omega))); clear hb1 x00
        obtain ⟨z0, z1, z2, z3, z4, z5⟩ := HCE.out w1 hx1
        have HX1 := Lib.hid hx1; clear hx1
        go_wp2_with fail
        refine (HW.out _).mono ?_
        rintro e w2 ⟨rfl, rfl⟩
        go_wp2_with fail
        refine (HW2.out _).mono ?_
        rintro e w2 ⟨rfl, rfl⟩
        go_wp2_with fail
        go_ret
        exact ⟨rfl, HB1.out⟩
      | false =>
        rw [hb2, Bool.false_or] at hck
        have hw := HWD.out steps
        rw [hb2] at hw
        have HW2 := Lib.hid hw; clear hw hb2
        obtain ⟨ab, hab⟩ : ∃ ab, ab = draws.any (beyB 0) := ⟨_, rfl⟩
        rw [← hab] at hck
        have HAB := Lib.hid hab; clear hab
        have HCK := Lib.hid hck; clear hck
        go_enter Tryd.func16, Tryd.ntmps16
        go_wp2_with fail
        rw [← HX.out, HND.out, ← HW0.out, ← HND.out]
        go_wp2_with fail
        refine (HNM.out _).mono ?_
        rintro e w1 ⟨rfl, hb1⟩
        have hx1 := (hb1.block X (own_lt HX0.out)).trans HX0.out
        have HB1 := Lib.hid (HB0.out.trans (hb1.mono (by have := own_lt HX0.out; omega))); clear hb1 x00
        obtain ⟨z0, z1, z2, z3, z4, z5⟩ := HCE.out w1 hx1
        have HX1 := Lib.hid hx1; clear hx1
        go_wp2_with fail
        refine (HW.out _).mono ?_
        rintro e w2 ⟨rfl, rfl⟩
        go_wp2_with fail
        refine (HW2.out _).mono ?_
        rintro e w3 ⟨rfl, rfl⟩
        go_wp2_with fail
        go_loopw [3] (fun i wr => ∃ k : Nat, k ≤ nd ∧ i = .int .i64 k ∧ wr = w3 ∧ Hid ((draws.take k).any (beyB 0) = false)) (fun i _ => nd - (intOf i).toNat)
        case atStart => exact ⟨0, Nat.zero_le _, (by first | rfl | trivial), (by first | rfl | trivial), Lib.hid rfl⟩
        case round =>
          obtain ⟨k, hk, rfl, rfl, HA⟩ := hrel
          by_cases hlt : k < nd
          · have hkl : k < draws.length := by rw [← HND.out]; exact hlt
            obtain ⟨g, o, rfl, hc⟩ := HAT.out k hkl wr HB1.out
            have htk := HTK.out k hkl
            rw [HA.out, Bool.false_or] at htk
            have hin := HIN.out k hkl
            generalize draws[k] = y at *
            have hw := HWD.out y
            have i0 : (k : Int) < (nd : Int) := by omega
            have i1 : (0 : Int) ≤ k := by omega
            cases hb : beyB 0 y with
            | true =>
              have hck := HCK.out
              rw [HAB.out, hin hb, if_pos rfl] at hck
              subst hck
              rw [hb] at hw
              have HW3 := Lib.hid hw; clear hw hb htk hin
              go_wp2_with fail
              refine (HW3.out _).mono ?_
              rintro e w4 ⟨rfl, rfl⟩
              go_wp2_with fail
              go_ret
              exact ⟨rfl, HB1.out⟩
            | false =>
              rw [hb] at htk hw
              have HT := Lib.hid htk; clear htk
              have HW3 := Lib.hid hw; clear hw hb hin
              go_wp2_with fail
              refine (HW3.out _).mono ?_
              rintro e w4 ⟨rfl, rfl⟩
              go_wp2_with fail
              go_roundw
              case rel => exact ⟨k + 1, by omega, by go_num, (by first | rfl | trivial), HT⟩
              case measure => simp [intOf]; omega
          · obtain rfl : k = nd := by omega
            have hck := HCK.out
            have ha := HA.out
            rw [show draws.take k = draws by rw [HND.out, List.take_length]] at ha
            rw [HAB.out, ha, if_neg (by simp)] at hck
            clear ha
            by_cases hd : 4096 < k
            · rw [if_pos (by first | exact ⟨rfl, hd⟩ | exact ⟨trivial, hd⟩)] at hck
              subst hck
              have hd' : (4096 : Int) < (k : Int) := by omega
              go_wp2_with fail
              go_ret
              exact ⟨rfl, HB1.out⟩
            · rw [if_neg (by simp; omega), if_neg (by simp)] at hck
              subst hck
              have hd' : ¬ (4096 : Int) < (k : Int) := by omega
              go_wp2_with fail
              refine (HLI.out wr).mono ?_
              rintro e w2 ⟨v, rfl, hown, hb2⟩
              have hx2 := (hb2.block X (own_lt HX1.out)).trans HX1.out
              obtain ⟨lv, lc, rfl⟩ := own_slice hown
              clear z0 z1 z2 z3 z4 z5 hown
              obtain ⟨z0, z1, z2, z3, z4, z5⟩ := HCE.out w2 hx2
              have HB2 := Lib.hid (HB1.out.trans (hb2.mono (by have := own_lt HX1.out; omega))); clear hb2 hx2
              go_wp2_with fail
              go_ret
              exact ⟨rfl, HB2.out⟩
  · have h3 : 1 ≤ kind ∧ kind ≤ 3 := by omega
    rw [if_neg h4] at hle
    rw [if_pos h3] at hnl
    subst hle hnl
    have hany : [n].any (beyB 0) = beyB 0 n := by simp
    rw [hany] at hck
    clear hany hk1 hk7 h67 h4 h5
    have hw := HWD.out n
    cases hb : beyB 0 n with
    | true =>
      rw [hb, if_pos rfl] at hck
      rw [hb] at hw
      subst hck
      have HW := Lib.hid hw; clear hw hb hlb
      rcases (show kind = 1 ∨ kind = 2 ∨ kind = 3 by omega) with rfl | rfl | rfl
      all_goals
        clear h3
        go_enter Tryd.func16, Tryd.ntmps16
        go_wp2_with fail
        rw [← HX.out, HND.out, ← HW0.out, ← HND.out]
        go_wp2_with fail
        refine (HNM.out _).mono ?_
        rintro e w1 ⟨rfl, hb1⟩
        have hx1 := (hb1.block X (own_lt HX0.out)).trans HX0.out
        have HB1 := Lib.hid (HB0.out.trans (hb1.mono (by have := own_lt HX0.out; omega))); clear hb1 x00
        obtain ⟨z0, z1, z2, z3, z4, z5⟩ := HCE.out w1 hx1
        have HX1 := Lib.hid hx1; clear hx1
        go_wp2_with fail
        refine (HW.out _).mono ?_
        rintro e w2 ⟨rfl, rfl⟩
        go_wp2_with fail
        go_ret
        exact ⟨rfl, HB1.out⟩
    | false =>
      rw [hb, if_neg (by simp)] at hck
      rw [hb] at hw
      have HW := Lib.hid hw; clear hw hb
      by_cases h1 : kind = 1
      · subst h1
        have hck' : ck = if lb = false then 21 else 0 := by simpa using hck
        clear hck h3
        by_cases hle0 : le = 0
        · subst hle0
          by_cases hln : (ps.length : Int) = n
          · have e : ck = 0 := by rw [hck', hlb]; simp [hln]
            clear hck' hlb
            subst e
            have hln' : ((ps.length : Int) != n) = false := by simpa using hln
            go_enter Tryd.func16, Tryd.ntmps16
            go_wp2_with fail
            rw [← HX.out, HND.out, ← HW0.out, ← HND.out]
            go_wp2_with fail
            refine (HNM.out _).mono ?_
            rintro e w1 ⟨rfl, hb1⟩
            have hx1 := (hb1.block X (own_lt HX0.out)).trans HX0.out
            have HB1 := Lib.hid (HB0.out.trans (hb1.mono (by have := own_lt HX0.out; omega))); clear hb1 x00
            obtain ⟨z0, z1, z2, z3, z4, z5⟩ := HCE.out w1 hx1
            have HX1 := Lib.hid hx1; clear hx1
            go_wp2_with fail
            refine (HW.out _).mono ?_
            rintro e w2 ⟨rfl, rfl⟩
            go_wp2_with fail
            go_loopw [3] (fun i wr => i = .int .i64 0 ∧ wr = w2) (fun _ _ => 0)
            case atStart => exact ⟨by first | rfl | trivial, by first | rfl | trivial⟩
            case round =>
              obtain ⟨rfl, rfl⟩ := hrel
              by_cases hd0 : nd = 0
              · have hd1 : ¬ (0 : Int) < (nd : Int) := by omega
                go_wp2_with fail
                refine (HLI.out wr).mono ?_
                rintro e w2 ⟨v, rfl, hown, hb2⟩
                have hx2 := (hb2.block X (own_lt HX1.out)).trans HX1.out
                obtain ⟨lv, lc, rfl⟩ := own_slice hown
                clear z0 z1 z2 z3 z4 z5 hown
                obtain ⟨z0, z1, z2, z3, z4, z5⟩ := HCE.out w2 hx2
                have HB2 := Lib.hid (HB1.out.trans (hb2.mono (by have := own_lt HX1.out; omega))); clear hb2 hx2
                go_wp2_with fail
                go_ret
                exact ⟨rfl, HB2.out⟩
              · have hd1 : (0 : Int) < (nd : Int) := by omega
                go_wp2_with fail
                refine (HLI.out wr).mono ?_
                rintro e w2 ⟨v, rfl, hown, hb2⟩
                have hx2 := (hb2.block X (own_lt HX1.out)).trans HX1.out
                obtain ⟨lv, lc, rfl⟩ := own_slice hown
                clear z0 z1 z2 z3 z4 z5 hown
                obtain ⟨z0, z1, z2, z3, z4, z5⟩ := HCE.out w2 hx2
                have HB2 := Lib.hid (HB1.out.trans (hb2.mono (by have := own_lt HX1.out; omega))); clear hb2 hx2
                go_wp2_with fail
                go_ret
                exact ⟨rfl, HB2.out⟩
          · have e : ck = 21 := by rw [hck', hlb]; simp [hln]
            clear hck' hlb
            subst e
            have hln' : ((ps.length : Int) != n) = true := by simpa using hln
            go_enter Tryd.func16, Tryd.ntmps16
            go_wp2_with fail
            rw [← HX.out, HND.out, ← HW0.out, ← HND.out]
            go_wp2_with fail
            refine (HNM.out _).mono ?_
            rintro e w1 ⟨rfl, hb1⟩
            have hx1 := (hb1.block X (own_lt HX0.out)).trans HX0.out
            have HB1 := Lib.hid (HB0.out.trans (hb1.mono (by have := own_lt HX0.out; omega))); clear hb1 x00
            obtain ⟨z0, z1, z2, z3, z4, z5⟩ := HCE.out w1 hx1
            have HX1 := Lib.hid hx1; clear hx1
            go_wp2_with fail
            refine (HW.out _).mono ?_
            rintro e w2 ⟨rfl, rfl⟩
            go_wp2_with fail
            go_loopw [3] (fun i wr => i = .int .i64 0 ∧ wr = w2) (fun _ _ => 0)
            case atStart => exact ⟨by first | rfl | trivial, by first | rfl | trivial⟩
            case round =>
              obtain ⟨rfl, rfl⟩ := hrel
              by_cases hd0 : nd = 0
              · have hd1 : ¬ (0 : Int) < (nd : Int) := by omega
                go_wp2_with fail
                refine (HLI.out wr).mono ?_
                rintro e w2 ⟨v, rfl, hown, hb2⟩
                have hx2 := (hb2.block X (own_lt HX1.out)).trans HX1.out
                obtain ⟨lv, lc, rfl⟩ := own_slice hown
                clear z0 z1 z2 z3 z4 z5 hown
                obtain ⟨z0, z1, z2, z3, z4, z5⟩ := HCE.out w2 hx2
                have HB2 := Lib.hid (HB1.out.trans (hb2.mono (by have := own_lt HX1.out; omega))); clear hb2 hx2
                go_wp2_with fail
                go_ret
                exact ⟨rfl, HB2.out⟩
              · have hd1 : (0 : Int) < (nd : Int) := by omega
                go_wp2_with fail
                refine (HLI.out wr).mono ?_
                rintro e w2 ⟨v, rfl, hown, hb2⟩
                have hx2 := (hb2.block X (own_lt HX1.out)).trans HX1.out
                obtain ⟨lv, lc, rfl⟩ := own_slice hown
                clear z0 z1 z2 z3 z4 z5 hown
                obtain ⟨z0, z1, z2, z3, z4, z5⟩ := HCE.out w2 hx2
                have HB2 := Lib.hid (HB1.out.trans (hb2.mono (by have := own_lt HX1.out; omega))); clear hb2 hx2
                go_wp2_with fail
                go_ret
                exact ⟨rfl, HB2.out⟩
        · have e : ck = 21 := by rw [hck', hlb]; simp [hle0]
          clear hck' hlb
          subst e
          have hle1 : (le != 0) = true := by simpa using hle0
          go_enter Tryd.func16, Tryd.ntmps16
          go_wp2_with fail
          rw [← HX.out, HND.out, ← HW0.out, ← HND.out]
          go_wp2_with fail
          refine (HNM.out _).mono ?_
          rintro e w1 ⟨rfl, hb1⟩
          have hx1 := (hb1.block X (own_lt HX0.out)).trans HX0.out
          have HB1 := Lib.hid (HB0.out.trans (hb1.mono (by have := own_lt HX0.out; omega))); clear hb1 x00
          obtain ⟨z0, z1, z2, z3, z4, z5⟩ := HCE.out w1 hx1
          have HX1 := Lib.hid hx1; clear hx1
          go_wp2_with fail
          refine (HW.out _).mono ?_
          rintro e w2 ⟨rfl, rfl⟩
          go_wp2_with fail
          go_loopw [3] (fun i wr => i = .int .i64 0 ∧ wr = w2) (fun _ _ => 0)
          case atStart => exact ⟨by first | rfl | trivial, by first | rfl | trivial⟩
          case round =>
            obtain ⟨rfl, rfl⟩ := hrel
            by_cases hd0 : nd = 0
            · have hd1 : ¬ (0 : Int) < (nd : Int) := by omega
              go_wp2_with fail
              refine (HLI.out wr).mono ?_
              rintro e w2 ⟨v, rfl, hown, hb2⟩
              have hx2 := (hb2.block X (own_lt HX1.out)).trans HX1.out
              obtain ⟨lv, lc, rfl⟩ := own_slice hown
              clear z0 z1 z2 z3 z4 z5 hown
              obtain ⟨z0, z1, z2, z3, z4, z5⟩ := HCE.out w2 hx2
              have HB2 := Lib.hid (HB1.out.trans (hb2.mono (by have := own_lt HX1.out; omega))); clear hb2 hx2
              go_wp2_with fail
              go_ret
              exact ⟨rfl, HB2.out⟩
            · have hd1 : (0 : Int) < (nd : Int) := by omega
              go_wp2_with fail
              refine (HLI.out wr).mono ?_
              rintro e w2 ⟨v, rfl, hown, hb2⟩
              have hx2 := (hb2.block X (own_lt HX1.out)).trans HX1.out
              obtain ⟨lv, lc, rfl⟩ := own_slice hown
              clear z0 z1 z2 z3 z4 z5 hown
              obtain ⟨z0, z1, z2, z3, z4, z5⟩ := HCE.out w2 hx2
              have HB2 := Lib.hid (HB1.out.trans (hb2.mono (by have := own_lt HX1.out; omega))); clear hb2 hx2
              go_wp2_with fail
              go_ret
              exact ⟨rfl, HB2.out⟩
      · rw [if_neg (by omega), if_neg (by simp [h1])] at hck
        subst hck
        clear hlb
        rcases (show kind = 2 ∨ kind = 3 by omega) with rfl | rfl
        all_goals
          clear h3 h1
          go_enter Tryd.func16, Tryd.ntmps16
          go_wp2_with fail
          rw [← HX.out, HND.out, ← HW0.out, ← HND.out]
          go_wp2_with fail
          refine (HNM.out _).mono ?_
          rintro e w1 ⟨rfl, hb1⟩
          have hx1 := (hb1.block X (own_lt HX0.out)).trans HX0.out
          have HB1 := Lib.hid (HB0.out.trans (hb1.mono (by have := own_lt HX0.out; omega))); clear hb1 x00
          obtain ⟨z0, z1, z2, z3, z4, z5⟩ := HCE.out w1 hx1
          have HX1 := Lib.hid hx1; clear hx1
          go_wp2_with fail
          refine (HW.out _).mono ?_
          rintro e w2 ⟨rfl, rfl⟩
          go_wp2_with fail
          go_loopw [3] (fun i wr => i = .int .i64 0 ∧ wr = w2) (fun _ _ => 0)
          case atStart => exact ⟨by first | rfl | trivial, by first | rfl | trivial⟩
          case round =>
            obtain ⟨rfl, rfl⟩ := hrel
            by_cases hd0 : nd = 0
            · have hd1 : ¬ (0 : Int) < (nd : Int) := by omega
              go_wp2_with fail
              refine (HLI.out wr).mono ?_
              rintro e w2 ⟨v, rfl, hown, hb2⟩
              have hx2 := (hb2.block X (own_lt HX1.out)).trans HX1.out
              obtain ⟨lv, lc, rfl⟩ := own_slice hown
              clear z0 z1 z2 z3 z4 z5 hown
              obtain ⟨z0, z1, z2, z3, z4, z5⟩ := HCE.out w2 hx2
              have HB2 := Lib.hid (HB1.out.trans (hb2.mono (by have := own_lt HX1.out; omega))); clear hb2 hx2
              go_wp2_with fail
              go_ret
              exact ⟨rfl, HB2.out⟩
            · have hd1 : (0 : Int) < (nd : Int) := by omega
              go_wp2_with fail
              refine (HLI.out wr).mono ?_
              rintro e w2 ⟨v, rfl, hown, hb2⟩
              have hx2 := (hb2.block X (own_lt HX1.out)).trans HX1.out
              obtain ⟨lv, lc, rfl⟩ := own_slice hown
              clear z0 z1 z2 z3 z4 z5 hown
              obtain ⟨z0, z1, z2, z3, z4, z5⟩ := HCE.out w2 hx2
              have HB2 := Lib.hid (HB1.out.trans (hb2.mono (by have := own_lt HX1.out; omega))); clear hb2 hx2
              go_wp2_with fail
              go_ret
              exact ⟨rfl, HB2.out⟩
end Vb
end Go.Proofs.YtmegapelibaanaaDoor
