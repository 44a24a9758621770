/- Package ticket's telling: serve, and the closure of goBy, at the example; over the translated program. -/
import Derived.Test.YtjmingdlfihmaaaDoorTkInst
import Derived.Deep.RegionHeld3
import Derived.StillTailTactics
import Derived.Deep.DeepCutAuto
import Derived.Outline
namespace Go.Proofs.YtjmingdlfihmaaaDoor
namespace Tk
open Go Go.RowKit Deci
set_option linter.unusedVariables false
/-- THE TELLING's STATE: T its block, G the lines', M the marks', s the stops'. -/
structure TS (T G M s r : Nat) (mc ln : Array Value) (W : World) : Prop where
  tel : W.heap[T]? = some (.cells #[.slice none 0 0, .slice (some ⟨s, 0, none⟩) 4 4, .slice (some ⟨r, 0, none⟩) 1 1, .slice none 0 0, .slice (some ⟨G, 0, none⟩) 1 1, .slice (some ⟨M, 0, none⟩) 4 4] 84)
  met : W.heap[M]? = some (.cells mc 101)
  lin : W.heap[G]? = some (.cells ln 25)
  srv : W.cell? ⟨s, 8, none⟩ = some (.int .i64 1)
  ne : T ≠ G ∧ T ≠ M ∧ G ≠ M ∧ s ≠ G ∧ s ≠ M
section
variable {T G M s r : Nat} {mc ln mc' ln' : Array Value} {w w' : World}
theorem TS.below (h : TS T G M s r mc ln w) (hb : Below w.heap.size w w') : TS T G M s r mc ln w' :=
  ⟨(hb.block _ (own_lt h.tel)).trans h.tel, (hb.block _ (own_lt h.met)).trans h.met, (hb.block _ (own_lt h.lin)).trans h.lin, (hb.cell (p := ⟨s, 8, none⟩) (World.block_lt_of_cell? _ _ h.srv)).trans h.srv, h.ne⟩
theorem TS.c (h : TS T G M s r mc ln w) : w.cell? ⟨T, 0, none⟩ = some (.slice none 0 0) ∧ w.cell? ⟨T, 1, none⟩ = some (.slice (some ⟨s, 0, none⟩) 4 4) ∧ w.cell? ⟨T, 2, none⟩ = some (.slice (some ⟨r, 0, none⟩) 1 1) ∧ w.cell? ⟨T, 3, none⟩ = some (.slice none 0 0) ∧ w.cell? ⟨T, 4, none⟩ = some (.slice (some ⟨G, 0, none⟩) 1 1) ∧ w.cell? ⟨T, 5, none⟩ = some (.slice (some ⟨M, 0, none⟩) 4 4) :=
  ⟨(own_cell h.tel).trans rfl, (own_cell h.tel).trans rfl, (own_cell h.tel).trans rfl, (own_cell h.tel).trans rfl, (own_cell h.tel).trans rfl, (own_cell h.tel).trans rfl⟩
theorem TS.line (h : TS T G M s r mc ln w) (h' : w'.heap[G]? = some (.cells ln' 25)) (hg : w.grownBy w' (some G)) : TS T G M s r mc ln' w' := by
  obtain ⟨n1, n2, n3, n4, n5⟩ := h.ne
  refine ⟨own_kept hg (Ne.symm n1) h.tel, own_kept hg n3 h.met, h', ?_, h.ne⟩
  rw [World.cell?_of_block (w := w) (a := ⟨s, 8, none⟩) (hg.block s (World.block_lt_of_cell? _ _ h.srv) (fun e => n4 (by injection e)))]
  exact h.srv
theorem TS.mark (h : TS T G M s r mc ln w) (h' : w'.heap[M]? = some (.cells mc' 101)) (hg : w.grownBy w' (some M)) : TS T G M s r mc' ln w' := by
  obtain ⟨n1, n2, n3, n4, n5⟩ := h.ne
  refine ⟨own_kept hg (Ne.symm n2) h.tel, h', own_kept hg (Ne.symm n3) h.lin, ?_, h.ne⟩
  rw [World.cell?_of_block (w := w) (a := ⟨s, 8, none⟩) (hg.block s (World.block_lt_of_cell? _ _ h.srv) (fun e => n5 (by injection e)))]
  exact h.srv
end
set_option maxHeartbeats 4000000 in
set_option maxRecDepth 100000 in
theorem serve_any (T G M s r : Nat) (mc : Array Value) (w : World) (h : TS T G M s r mc #[.int .i64 1, .int .i64 0, .int .i64 0, .int .i64 0, .int .i64 0, .bool false] w) :
    Calls Tryd.prog 47 #[.pointer (some ⟨T, 0, none⟩), .int .i64 1, .int .i64 0, .int .i64 0, .int .i64 6] w fun e w' => e = .returned (.tuple #[]) ∧ TS T G M s r mc #[.int .i64 1, .int .i64 0, .int .i64 0, .int .i64 6, .int .i64 5, .bool true] w' ∧ w.grownBy w' (some G) := by
  obtain ⟨X, hX⟩ : ∃ X, X = w.heap.size := ⟨_, rfl⟩
  obtain ⟨W0, hW0⟩ : ∃ W0, W0 = w.alloc (.cells #[.int .i64 1, .int .i64 0, .int .i64 0, .int .i64 6, .int .i64 0, .bool true] 25) := ⟨_, rfl⟩
  have hb0 : Below X w W0 := by rw [hW0, hX]; exact (Below.refl _ _).alloc (Nat.le_refl _) _
  have hx0 : W0.heap[X]? = some (.cells #[.int .i64 1, .int .i64 0, .int .i64 0, .int .i64 6, .int .i64 0, .bool true] 25) := by rw [hW0, hX]; exact World.alloc_heap_new w _
  have hGX : G < X := by rw [hX]; exact own_lt h.lin
  have h0 := h.below (by rw [← hX]; exact hb0)
  obtain ⟨c0, c1, c2, c3, c4, c5⟩ := h0.c
  have HP := Lib.hid fun W => pick_one s r W
  have HB0 := Lib.hid hb0; clear hb0
  have HX0 := Lib.hid hx0; clear hx0
  have H := Lib.hid h; clear h
  have H0 := Lib.hid h0; clear h0
  have HX := Lib.hid hX; clear hX
  rw [hW0] at c0 c1 c2 c3 c4 c5
  have HW0 := Lib.hid hW0; clear hW0
  go_enter Tryd.func47, Tryd.ntmps47
  go_wp2_with fail
  rw [← HX.out, ← HW0.out]
  refine (HP.out _).mono ?_
  rintro e w1 ⟨rfl, hb⟩
  clear c0 c1 c2 c3 c4 c5
  have h1 := H0.out.below hb
  have hx1 := (hb.block X (own_lt HX0.out)).trans HX0.out
  obtain ⟨c0, c1, c2, c3, c4, c5⟩ := h1.c
  have d := h1.srv
  have y0 : w1.cell? ⟨X, 0, none⟩ = some (.int .i64 1) := (own_cell hx1).trans rfl
  have y1 : w1.cell? ⟨X, 1, none⟩ = some (.int .i64 0) := (own_cell hx1).trans rfl
  have y2 : w1.cell? ⟨X, 2, none⟩ = some (.int .i64 0) := (own_cell hx1).trans rfl
  have y3 : w1.cell? ⟨X, 3, none⟩ = some (.int .i64 6) := (own_cell hx1).trans rfl
  have y4 : w1.cell? ⟨X, 4, none⟩ = some (.int .i64 0) := (own_cell hx1).trans rfl
  have y5 : w1.cell? ⟨X, 5, none⟩ = some (.bool true) := (own_cell hx1).trans rfl
  have fx : ∀ j, w1.frozen? ⟨X, j, none⟩ = false := fun j => own_free hx1
  have fg : ∀ j, w1.frozen? ⟨G, j, none⟩ = false := fun j => own_free h1.lin
  have g0 : w1.cell? ⟨G, 0, none⟩ = some (.int .i64 1) := (own_cell h1.lin).trans rfl
  have g1 : w1.cell? ⟨G, 1, none⟩ = some (.int .i64 0) := (own_cell h1.lin).trans rfl
  have g2 : w1.cell? ⟨G, 2, none⟩ = some (.int .i64 0) := (own_cell h1.lin).trans rfl
  have g3 : w1.cell? ⟨G, 3, none⟩ = some (.int .i64 0) := (own_cell h1.lin).trans rfl
  have g4 : w1.cell? ⟨G, 4, none⟩ = some (.int .i64 0) := (own_cell h1.lin).trans rfl
  have g5 : w1.cell? ⟨G, 5, none⟩ = some (.bool false) := (own_cell h1.lin).trans rfl
  have hGXn : G ≠ X := by omega
  have hXGn : X ≠ G := by omega
  have hTG : T ≠ G := h1.ne.1
  have hTX : T ≠ X := by
    have := own_lt H.out.tel
    rw [← HX.out] at this; omega
  have HX1 := Lib.hid hx1; clear hx1
  have H1 := Lib.hid h1; clear h1
  have HB1 := Lib.hid (HB0.out.trans (hb.mono (Nat.le_of_lt (own_lt HX0.out)))); clear hb
  go_upto_region 4 with fail
  clear c0 c1 c2 c3 c4 c5 d y0 y1 y2 y3 y4 y5 fx fg g0 g1 g2 g3 g4 g5
  obtain ⟨W2, hW2⟩ : ∃ W2, W2 = w1.setCell ⟨X, 4, none⟩ (.int .i64 5) := ⟨_, rfl⟩
  have hg2 : w.grownBy W2 (some G) := by
    rw [hW2]
    have := grown_of (w := w) (w' := w1) (by rw [← HX.out]; exact HB1.out) (some G)
    exact grown_own this (a := ⟨X, 4, none⟩) (by rw [← HX.out]; exact Nat.le_refl _) _
  have hx2 : W2.heap[X]? = some (.cells #[.int .i64 1, .int .i64 0, .int .i64 0, .int .i64 6, .int .i64 5, .bool true] 25) := by rw [hW2]; exact own_set HX1.out _
  have ht2 := own_other (K := X) (i := 4) H1.out.tel hTX (.int .i64 5)
  have hl2 := own_other (K := X) (i := 4) H1.out.lin hGXn (.int .i64 5)
  rw [← hW2] at ht2 hl2
  rw [← hW2]
  clear hW2
  have y0 : W2.cell? ⟨X, 0, none⟩ = some (.int .i64 1) := (own_cell hx2).trans rfl
  have y1 : W2.cell? ⟨X, 1, none⟩ = some (.int .i64 0) := (own_cell hx2).trans rfl
  have y2 : W2.cell? ⟨X, 2, none⟩ = some (.int .i64 0) := (own_cell hx2).trans rfl
  have y3 : W2.cell? ⟨X, 3, none⟩ = some (.int .i64 6) := (own_cell hx2).trans rfl
  have y4 : W2.cell? ⟨X, 4, none⟩ = some (.int .i64 5) := (own_cell hx2).trans rfl
  have y5 : W2.cell? ⟨X, 5, none⟩ = some (.bool true) := (own_cell hx2).trans rfl
  have fg : ∀ j, W2.frozen? ⟨G, j, none⟩ = false := fun j => own_free hl2
  have g0 : W2.cell? ⟨G, 0, none⟩ = some (.int .i64 1) := (own_cell hl2).trans rfl
  have g1 : W2.cell? ⟨G, 1, none⟩ = some (.int .i64 0) := (own_cell hl2).trans rfl
  have g2 : W2.cell? ⟨G, 2, none⟩ = some (.int .i64 0) := (own_cell hl2).trans rfl
  have g3 : W2.cell? ⟨G, 3, none⟩ = some (.int .i64 0) := (own_cell hl2).trans rfl
  have g4 : W2.cell? ⟨G, 4, none⟩ = some (.int .i64 0) := (own_cell hl2).trans rfl
  have g5 : W2.cell? ⟨G, 5, none⟩ = some (.bool false) := (own_cell hl2).trans rfl
  have c4 : W2.cell? ⟨T, 4, none⟩ = some (.slice (some ⟨G, 0, none⟩) 1 1) := (own_cell ht2).trans rfl
  have HG2 := Lib.hid hg2; clear hg2
  have HL2 := Lib.hid hl2; clear hl2
  clear hx2 ht2
  go_region
  all_goals
    clear y0 y1 y2 y3 y4 y5 fg g0 g1 g2 g3 g4 g5 c4
    go_wp2_with fail
    go_end0
    obtain ⟨W3, hW3⟩ : ∃ W3, W3 = ((((((W2.setCell ⟨G, 0, none⟩ (.int .i64 1)).setCell ⟨G, 1, none⟩ (.int .i64 0)).setCell ⟨G, 2, none⟩ (.int .i64 0)).setCell ⟨G, 3, none⟩ (.int .i64 6)).setCell ⟨G, 4, none⟩ (.int .i64 5)).setCell ⟨G, 5, none⟩ (.bool true)).drew := ⟨_, rfl⟩
    have hl3 : W3.heap[G]? = some (.cells #[.int .i64 1, .int .i64 0, .int .i64 0, .int .i64 6, .int .i64 5, .bool true] 25) := by
      rw [hW3, drew_heap]; exact own_set (own_set (own_set (own_set (own_set (own_set HL2.out _) _) _) _) _) _
    have hg3 : w.grownBy W3 (some G) := by
      have e : W2.grownBy W3 (some G) := by
        rw [hW3]
        exact ((((((grown_set W2 ⟨G, 0, none⟩ _).trans (grown_set _ ⟨G, 1, none⟩ _)).trans (grown_set _ ⟨G, 2, none⟩ _)).trans (grown_set _ ⟨G, 3, none⟩ _)).trans (grown_set _ ⟨G, 4, none⟩ _)).trans (grown_set _ ⟨G, 5, none⟩ _)).trans (grown_of (Below.refl _ _).drew _)
      exact HG2.out.trans e
    rw [← hW3]
    exact ⟨rfl, H.out.line hl3 hg3, hg3⟩
end Tk
end Go.Proofs.YtjmingdlfihmaaaDoor
