/- Package verb's numbers, isLines, check; over the translated program. -/
import Derived.Test.YtmegapelibaanaaDoorVbFind
namespace Go.Proofs.YtmegapelibaanaaDoor
namespace Vb
open Go Go.RowKit Deci
set_option linter.unusedVariables false
theorem islines_any (t : ByteArray) (n : Int) (w : World) (hE : EnvV w) (hs : t.size ≤ maxLen) :
    Calls Tryd.prog 26 #[.string t, .int .i64 n] w fun e w' => e = .returned (.bool (linesB t.data.toList n)) ∧ Below w.heap.size w w' := by
  have h := lines_any t w hE.base hs
  unfold linesB
  generalize linesP t.data.toList = ps at *
  generalize linesE t.data.toList = er at *
  have H := Lib.hid h; clear h hE hs
  by_cases h1 : er = 0
  · subst h1
    go_enter Tryd.func26, Tryd.ntmps26
    go_wp2_with fail
    refine H.out.mono ?_
    rintro e w1 ⟨v, rfl, hown, hb⟩
    obtain ⟨a, cap, rfl⟩ := own_slice hown
    have HB := Lib.hid hb; clear hb hown
    go_wp2_with fail
    go_ret
    exact ⟨ret_bool (by simp only [decide_true, Bool.true_and]; exact Bool.eq_iff_iff.2 (by simp)), HB.out⟩
  · go_enter Tryd.func26, Tryd.ntmps26
    go_wp2_with fail
    refine H.out.mono ?_
    rintro e w1 ⟨v, rfl, hown, hb⟩
    obtain ⟨a, cap, rfl⟩ := own_slice hown
    have HB := Lib.hid hb; clear hb hown
    go_wp2_with fail
    go_ret
    exact ⟨ret_bool (by simp [h1]), HB.out⟩

/-- A literal of numbers is a slice of its own. -/
theorem own_lit (B P : Nat) (W : World) (x : Int) (hP : P = W.heap.size) (hB : B ≤ P) : OwnXs B (W.alloc (.cells #[.int .i64 x] 3)) (.slice (some ⟨P, 0, none⟩) 1 1) [x] := by
  subst hP
  refine ⟨_, _, rfl, Nat.le_refl _, by simp, .inr ⟨_, 0, _, rfl, hB, World.alloc_heap_new W _, fun j hj => ?_⟩⟩
  have : j = 0 := by simpa using hj
  subst this; rfl
set_option maxHeartbeats 2000000 in
set_option maxRecDepth 100000 in
theorem numbers_any (c : CM) (dv : Value) (w : World) (hd : IsXs w dv c.draws) (hl : c.draws.length ≤ 100000000) :
    Calls Tryd.prog 25 #[c.v dv] w fun e w' => ∃ v, e = .returned v ∧ OwnXs w.heap.size w' v (numL c) ∧ Below w.heap.size w w' := by
  obtain ⟨kind, n, steps, clock, draws, text⟩ := c
  unfold CM.v
  simp only at hd hl ⊢
  obtain ⟨da, dc, rfl⟩ := hd.form
  obtain ⟨X, hX⟩ : ∃ X, X = w.heap.size := ⟨_, rfl⟩
  obtain ⟨W0, hW0⟩ : ∃ W0, W0 = w.alloc (.cells #[.int .i64 kind, .int .i64 n, .int .i64 steps, .int .i64 clock, .slice da draws.length dc, .string text] 37) := ⟨_, rfl⟩
  have hb0 : Below X w W0 := by rw [hX, hW0]; exact (Below.refl _ _).alloc (Nat.le_refl _) _
  have hx0 : W0.heap[X]? = some (.cells #[.int .i64 kind, .int .i64 n, .int .i64 steps, .int .i64 clock, .slice da draws.length dc, .string text] 37) := by rw [hW0, hX]; exact World.alloc_heap_new w _
  have hd0 : IsXs W0 (.slice da draws.length dc) draws := hd.below (by rw [← hX]; exact hb0)
  have hz0 : X + 1 = W0.heap.size := by rw [hW0, hX]; simp
  have hs0 : X ≤ W0.heap.size := by omega
  have x0 : W0.cell? ⟨X, 0, none⟩ = some (.int .i64 kind) := (own_cell hx0).trans rfl
  have x1 : W0.cell? ⟨X, 1, none⟩ = some (.int .i64 n) := (own_cell hx0).trans rfl
  have x2 : W0.cell? ⟨X, 2, none⟩ = some (.int .i64 steps) := (own_cell hx0).trans rfl
  have x3 : W0.cell? ⟨X, 3, none⟩ = some (.int .i64 clock) := (own_cell hx0).trans rfl
  have x4 : W0.cell? ⟨X, 4, none⟩ = some (.slice da draws.length dc) := (own_cell hx0).trans rfl
  rw [← hX]
  have HX := Lib.hid hX; clear hX
  have HW0 := Lib.hid hW0; clear hW0
  have HB0 := Lib.hid hb0; clear hb0
  have HX0 := Lib.hid hx0; clear hx0
  have HD0 := Lib.hid hd0; clear hd0 hd
  have o1 := fun (y : Int) => own_lit X (X + 1) W0 y hz0 (by omega)
  have b1 := fun (o : Obj) => HB0.out.alloc hs0 o
  by_cases h123 : 1 ≤ kind ∧ kind ≤ 3
  · have hn : numL ⟨kind, n, steps, clock, draws, text⟩ = [n] := by unfold numL; rw [if_pos h123]
    rw [hn]
    have O1 := Lib.hid (o1 n); clear o1
    have B1 := Lib.hid b1; clear b1
    clear hn hs0 x2 x3 x4
    rcases (show kind = 1 ∨ kind = 2 ∨ kind = 3 by omega) with rfl | rfl | rfl
    all_goals
      clear h123
      go_enter Tryd.func25, Tryd.ntmps25
      go_wp2_with fail
      rw [← HX.out, ← HW0.out]
      go_wp2_with fail
      go_ret
      exact ⟨_, rfl, O1.out, B1.out _⟩
  by_cases h4 : kind = 4
  · have hn : numL ⟨kind, n, steps, clock, draws, text⟩ = [clock] := by unfold numL; rw [if_neg h123, if_pos h4]
    rw [hn]
    have O1 := Lib.hid (o1 clock); clear o1
    have B1 := Lib.hid b1; clear b1
    clear hn hs0 h123 x1 x2 x4
    subst h4
    go_enter Tryd.func25, Tryd.ntmps25
    go_wp2_with fail
    rw [← HX.out, ← HW0.out]
    go_wp2_with fail
    go_ret
    exact ⟨_, rfl, O1.out, B1.out _⟩
  by_cases h5 : kind = 5
  · have hn : numL ⟨kind, n, steps, clock, draws, text⟩ = n :: steps :: draws := by unfold numL; rw [if_neg h123, if_neg h4, if_pos h5]
    rw [hn]
    clear hn h123 h4 x3 o1
    have b2 := b1 (.cells #[.int .i64 n, .int .i64 steps] 3)
    obtain ⟨W1, hW1⟩ : ∃ W1, W1 = W0.alloc (.cells #[.int .i64 n, .int .i64 steps] 3) := ⟨_, rfl⟩
    have hown : W1.ownsRow X 3 1 (.slice (some ⟨W0.heap.size, 0, none⟩) 2 2) 2 [.int .i64 n, .int .i64 steps] := by
      rw [hW1]
      refine ⟨rfl, .inr ⟨_, 2, _, rfl, hs0, World.alloc_heap_new W0 _, by omega, by unfold maxLen; omega, rfl, rfl⟩⟩
    rw [← hz0] at hown
    have hd1 : IsXs W1 (.slice da draws.length dc) draws := HD0.out.below (by rw [hW1]; exact (Below.refl _ _).alloc (Nat.le_refl _) _)
    have x41 : W1.cell? ⟨X, 4, none⟩ = some (.slice da draws.length dc) := by
      have hb : Below W0.heap.size W0 W1 := by rw [hW1]; exact (Below.refl _ _).alloc (Nat.le_refl _) _
      exact (hb.cell (p := ⟨X, 4, none⟩) (own_lt HX0.out)).trans x4
    have hsz : W0.heap.size ≤ W1.heap.size := by rw [hW1]; simp
    rw [← hW1] at b2
    obtain ⟨i0, hi, hq0, hq1, hq2⟩ := info_parts info_int
    subst h5
    have HW1 := Lib.hid hW1; clear hW1
    have HO := Lib.hid hown; clear hown
    have HD1 := Lib.hid hd1; clear hd1
    have B2 := Lib.hid b2; clear b2 b1
    have HS := Lib.hid hsz; clear hsz
    have HS0 := Lib.hid hs0; clear hs0
    go_enter Tryd.func25, Tryd.ntmps25
    go_wp2_with (at_builtin; rw [← HX.out, ← HW0.out, ← HW1.out]; refine wpList_append_ints rfl _ _ 35 rfl X 3 i0 (.int .i64 0) 8 Tryd.underlying35 hi hq0 hq1 hq2 rfl _ _ _ rfl HO.out _ _ rfl HD1.out ?c1 ?c2 ?c3 ?_)
    case c1 => unfold maxLen; omega
    case c2 => omega
    case c3 => have := HS.out; have := HS0.out; omega
    intro v' w2 hown' hgrow
    have hb2 : Below X w w2 := B2.out.grown hgrow (by have := HS.out; have := HS0.out; omega) (fun k hk => by first | exact (HO.out.lt k hk).1 | (rw [← hz0] at hk; exact (HO.out.lt k hk).1))
    have ho2 : OwnXs X w2 v' (n :: steps :: draws) := isXs_own (by
      have : (n :: steps :: draws).length = 2 + draws.length := by simp; omega
      rw [this]; exact hown')
    have HB2 := Lib.hid hb2; clear hb2 hgrow
    have HO2 := Lib.hid ho2; clear ho2 hown'
    go_wp2_with fail
    go_ret
    exact ⟨_, rfl, HO2.out, HB2.out⟩
  · have hn : numL ⟨kind, n, steps, clock, draws, text⟩ = [] := by unfold numL; rw [if_neg h123, if_neg h4, if_neg h5]
    rw [hn]
    have k1 : ¬ kind = 1 := by omega
    have k2 : ¬ kind = 2 := by omega
    have k3 : ¬ kind = 3 := by omega
    clear hn h123 x1 x2 x3 x4 o1 b1
    go_enter Tryd.func25, Tryd.ntmps25
    go_wp2_with fail
    rw [← HX.out, ← HW0.out]
    go_wp2_with fail
    go_ret
    exact ⟨_, rfl, OwnXs.nil _ _, HB0.out⟩
end Vb
end Go.Proofs.YtmegapelibaanaaDoor
