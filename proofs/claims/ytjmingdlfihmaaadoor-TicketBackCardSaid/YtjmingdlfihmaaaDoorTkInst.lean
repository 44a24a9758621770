/- Package inst at the example's instance: four stops, one ride. -/
import Derived.Test.YtjmingdlfihmaaaDoorTkA
namespace Go.Proofs.YtjmingdlfihmaaaDoor
namespace Tk
open Go Go.RowKit Deci
set_option linter.unusedVariables false
theorem heap2 (w : World) (a b : Obj) : ((w.alloc a).alloc b).heap[w.heap.size]? = some a ∧ ((w.alloc a).alloc b).heap[w.heap.size + 1]? = some b := by
  constructor
  · rw [Below.heap_alloc _ _ _ (by simp)]; exact World.alloc_heap_new w _
  · rw [← World.size_alloc w a]; exact World.alloc_heap_new _ _
theorem heap3 (w : World) (a b c : Obj) : (((w.alloc a).alloc b).alloc c).heap[w.heap.size]? = some a ∧ (((w.alloc a).alloc b).alloc c).heap[w.heap.size + 1]? = some b ∧ (((w.alloc a).alloc b).alloc c).heap[w.heap.size + 1 + 1]? = some c := by
  refine ⟨?_, ?_, ?_⟩
  · rw [Below.heap_alloc _ _ _ (by simp; omega)]; exact (heap2 w a b).1
  · rw [Below.heap_alloc _ _ _ (by simp)]; exact (heap2 w a b).2
  · rw [← World.size_alloc w a, ← World.size_alloc _ b]; exact World.alloc_heap_new _ _
section
variable (s r : Nat)
theorem count_any (w : World) : Calls Tryd.prog 14 #[.agg #[.slice none 0 0, .slice (some ⟨s, 0, none⟩) 4 4, .slice (some ⟨r, 0, none⟩) 1 1, .slice none 0 0]] w fun e w' => e = .returned (.int .i64 1) ∧ Below w.heap.size w w' := by
  go_enter Tryd.func14, Tryd.ntmps14
  go_wp2
  go_ret
  exact ⟨rfl, (Below.refl _ _).alloc (Nat.le_refl _) _⟩
theorem pick_one (w : World) : Calls Tryd.prog 15 #[.agg #[.slice none 0 0, .slice (some ⟨s, 0, none⟩) 4 4, .slice (some ⟨r, 0, none⟩) 1 1, .slice none 0 0], .int .i64 1] w fun e w' => e = .returned (.int .i64 1) ∧ Below w.heap.size w w' := by
  have HC := Lib.hid fun w => count_any s r w
  have HB0 := Lib.hid (fun o => (Below.refl w.heap.size w).alloc (Nat.le_refl _) o)
  go_enter Tryd.func15, Tryd.ntmps15
  go_wp2_with fail
  refine (HC.out _).mono ?_
  rintro e w1 ⟨rfl, hb⟩
  have HB1 := Lib.hid ((HB0.out _).trans (hb.mono (by simp))); clear hb
  go_wp2_with fail
  go_ret
  exact ⟨rfl, HB1.out⟩
theorem pick_nine (w : World) : Calls Tryd.prog 15 #[.agg #[.slice none 0 0, .slice (some ⟨s, 0, none⟩) 4 4, .slice (some ⟨r, 0, none⟩) 1 1, .slice none 0 0], .int .i64 9] w fun e w' => e = .returned (.int .i64 0) ∧ Below w.heap.size w w' := by
  have HC := Lib.hid fun w => count_any s r w
  have HB0 := Lib.hid (fun o => (Below.refl w.heap.size w).alloc (Nat.le_refl _) o)
  go_enter Tryd.func15, Tryd.ntmps15
  go_wp2_with fail
  refine (HC.out _).mono ?_
  rintro e w1 ⟨rfl, hb⟩
  have HB1 := Lib.hid ((HB0.out _).trans (hb.mono (by simp))); clear hb
  go_wp2_with fail
  go_ret
  exact ⟨rfl, HB1.out⟩
theorem drop_one (w : World) : Calls Tryd.prog 46 #[.agg #[.slice none 0 0, .slice (some ⟨s, 0, none⟩) 4 4, .slice (some ⟨r, 0, none⟩) 1 1, .slice none 0 0], .int .i64 1] w fun e w' => e = .returned (.int .i64 2) ∧ Below w.heap.size w w' := by
  have HC := Lib.hid fun w => count_any s r w
  have HB0 := Lib.hid (fun o => (Below.refl w.heap.size w).alloc (Nat.le_refl _) o)
  obtain ⟨X, hX⟩ : ∃ X, X = w.heap.size := ⟨_, rfl⟩
  obtain ⟨W0, hW0⟩ : ∃ W0, W0 = w.alloc (.cells #[.slice none 0 0, .slice (some ⟨s, 0, none⟩) 4 4, .slice (some ⟨r, 0, none⟩) 1 1, .slice none 0 0] 41) := ⟨_, rfl⟩
  have hx0 : W0.heap[X]? = some (.cells #[.slice none 0 0, .slice (some ⟨s, 0, none⟩) 4 4, .slice (some ⟨r, 0, none⟩) 1 1, .slice none 0 0] 41) := by rw [hW0, hX]; exact World.alloc_heap_new w _
  have hb0 : Below X w W0 := by rw [hW0, hX]; exact (Below.refl _ _).alloc (Nat.le_refl _) _
  have HX0 := Lib.hid hx0; clear hx0
  have HBB := Lib.hid hb0; clear hb0
  have HX := Lib.hid hX; clear hX
  have HW0 := Lib.hid hW0; clear hW0
  go_enter Tryd.func46, Tryd.ntmps46
  go_wp2_with fail
  rw [← HX.out, ← HW0.out]
  refine (HC.out _).mono ?_
  rintro e w1 ⟨rfl, hb⟩
  have hx1 := (hb.block X (own_lt HX0.out)).trans HX0.out
  have hb1 := HBB.out.trans (hb.mono (Nat.le_of_lt (own_lt HX0.out)))
  have q0 : w1.cell? ⟨X, 0, none⟩ = some (.slice none 0 0) := (own_cell hx1).trans rfl
  have q1 : w1.cell? ⟨X, 1, none⟩ = some (.slice (some ⟨s, 0, none⟩) 4 4) := (own_cell hx1).trans rfl
  have q2 : w1.cell? ⟨X, 2, none⟩ = some (.slice (some ⟨r, 0, none⟩) 1 1) := (own_cell hx1).trans rfl
  have q3 : w1.cell? ⟨X, 3, none⟩ = some (.slice none 0 0) := (own_cell hx1).trans rfl
  have hl1 := own_lt hx1
  have HB1 := Lib.hid hb1; clear hb1 hb hx1
  go_wp2_with fail
  refine (HC.out _).mono ?_
  rintro e w2 ⟨rfl, hb⟩
  have HB2 := Lib.hid (HB1.out.trans (hb.mono (by omega))); clear hb q0 q1 q2 q3
  go_wp2_with fail
  go_ret
  exact ⟨rfl, by rw [← HX.out]; exact HB2.out⟩
/-- The request of a stop. -/
def reqV (k : Nat) : Int := if k = 1 ∨ k = 2 then 1 else 0
theorem request_any (k : Nat) (hk : k < 4) (w : World) : Calls Tryd.prog 44 #[.agg #[.slice none 0 0, .slice (some ⟨s, 0, none⟩) 4 4, .slice (some ⟨r, 0, none⟩) 1 1, .slice none 0 0], .int .i64 (k : Int)] w fun e w' => e = .returned (.int .i64 (reqV k)) ∧ Below w.heap.size w w' := by
  have HC := Lib.hid fun w => count_any s r w
  have HB0 := Lib.hid (fun o => (Below.refl w.heap.size w).alloc (Nat.le_refl _) o)
  rcases (show k = 0 ∨ k = 1 ∨ k = 2 ∨ k = 3 by omega) with rfl | rfl | rfl | rfl
  all_goals
    simp only [show reqV 0 = 0 from rfl, show reqV 1 = 1 from rfl, show reqV 2 = 1 from rfl, show reqV 3 = 0 from rfl]
    go_enter Tryd.func44, Tryd.ntmps44
    go_wp2_with fail
    refine (HC.out _).mono ?_
    rintro e w1 ⟨rfl, hb⟩
    have HB1 := Lib.hid ((HB0.out _).trans (hb.mono (by simp))); clear hb
    go_wp2_with fail
    go_ret
    exact ⟨rfl, HB1.out⟩
end
end Tk
end Go.Proofs.YtjmingdlfihmaaaDoor
