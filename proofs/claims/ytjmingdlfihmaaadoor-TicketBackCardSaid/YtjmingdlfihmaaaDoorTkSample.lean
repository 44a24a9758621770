/- jitneylaw24.sample: the example's instance. -/
import Derived.Test.YtjmingdlfihmaaaDoorTkInst
import Derived.OwnWalk
namespace Go.Proofs.YtjmingdlfihmaaaDoor
namespace Tk
open Go Go.RowKit Deci
set_option linter.unusedVariables false
theorem store_cx (P : Program) (w : World) (a : Addr) (k : FloatKind) (m : Mode) (re im : Nat) : (store a (.complex k re im) m).run P w = stored P w a (.complex k re im) m := run_store P w a _ m rfl
attribute [local go_sem] store_cx
set_option maxHeartbeats 4000000 in
set_option maxRecDepth 100000 in
theorem sample_any (w : World) : Calls Tryd.prog 8 #[] w fun e w' => ∃ s r, e = .returned (.agg #[.slice none 0 0, .slice (some ⟨s, 0, none⟩) 4 4, .slice (some ⟨r, 0, none⟩) 1 1, .slice none 0 0]) ∧ w'.cell? ⟨s, 8, none⟩ = some (.int .i64 1) ∧ Below w.heap.size w w' := by
  go_enter Tryd.func8, Tryd.ntmps8
  go_wp2_with fail
  obtain ⟨X, hX⟩ : ∃ X, X = w.heap.size := ⟨_, rfl⟩
  obtain ⟨W3, hW3⟩ : ∃ W3, W3 = ((w.alloc (.cells #[.slice none 0 0, .slice (some ⟨w.heap.size + 1 + 1, 0, none⟩) 4 4, .slice (some ⟨w.heap.size + 1, 0, none⟩) 1 1, .slice none 0 0] 41)).alloc (.cells #[.int .i64 20] 2)).alloc (.cells #[.int .i64 0, .int .i64 0, .int .i64 0, .int .i64 0, .int .i64 0, .complex .f64 0 0, .int .i64 0, .int .i64 0, .int .i64 1, .int .i64 0, .int .i64 0, .complex .f64 0 0, .int .i64 0, .int .i64 0, .int .i64 0, .int .i64 0, .int .i64 0, .complex .f64 0 0, .int .i64 0, .int .i64 0, .int .i64 0, .int .i64 0, .int .i64 0, .complex .f64 0 0] 66) := ⟨_, rfl⟩
  have hb3 : Below w.heap.size w W3 := by rw [hW3]; exact (((Below.refl _ _).alloc (Nat.le_refl _) _).alloc (by simp) _).alloc (by simp; omega) _
  have hx3 : W3.heap[w.heap.size]? = some (.cells #[.slice none 0 0, .slice (some ⟨w.heap.size + 1 + 1, 0, none⟩) 4 4, .slice (some ⟨w.heap.size + 1, 0, none⟩) 1 1, .slice none 0 0] 41) := by
    rw [hW3]; exact (heap3 _ _ _ _).1
  have hs3 : W3.heap[w.heap.size + 1 + 1]? = some (.cells #[.int .i64 0, .int .i64 0, .int .i64 0, .int .i64 0, .int .i64 0, .complex .f64 0 0, .int .i64 0, .int .i64 0, .int .i64 1, .int .i64 0, .int .i64 0, .complex .f64 0 0, .int .i64 0, .int .i64 0, .int .i64 0, .int .i64 0, .int .i64 0, .complex .f64 0 0, .int .i64 0, .int .i64 0, .int .i64 0, .int .i64 0, .int .i64 0, .complex .f64 0 0] 66) := by
    rw [hW3]; exact (heap3 _ _ _ _).2.2
  rw [← hW3]
  clear hW3
  refine bodyPost_ret (v := .agg #[.slice none 0 0, .slice (some ⟨w.heap.size + 1 + 1, 0, none⟩) 4 4, .slice (some ⟨w.heap.size + 1, 0, none⟩) 1 1, .slice none 0 0]) (by simp [results, Tryd.results8, go_sem, World.cell?, hx3]) rfl ?_
  exact ⟨_, _, rfl, (own_cell hs3).trans rfl, hb3⟩
end Tk
end Go.Proofs.YtjmingdlfihmaaaDoor
