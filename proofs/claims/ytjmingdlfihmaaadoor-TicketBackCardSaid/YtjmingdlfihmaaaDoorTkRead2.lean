/- Package ticket's read, of lines that may be; over the translated program. -/
import Derived.Test.YtjmingdlfihmaaaDoorTkRead
namespace Go.Proofs.YtjmingdlfihmaaaDoor
namespace Tk
open Go Go.RowKit Deci
set_option linter.unusedVariables false
theorem words_told (l : LN) (h : l.Ok) (w : World) : Calls Tryd.prog 24 #[.string (strOf (lineB l))] w (Deci.Told w ((wordsL l).map strOf) 0) := by
  have h1 := words_any (strOf (lineB l)) w (by have := line_len h; show (lineB l).length ≤ _; omega)
  rw [data_strOf, (line_words h).1, (line_words h).2] at h1
  exact h1
set_option maxHeartbeats 4000000 in
set_option maxRecDepth 100000 in
theorem read_no_ (i : Int) (w : World) (hE : EnvAt w.heap.size w) (hok : (LN.mk i 0 0 0 0 false).Ok) :
    Calls Tryd.prog 11 #[.string (strOf (lineB ⟨i, 0, 0, 0, 0, false⟩))] w fun e w' => e = .returned (.tuple #[.agg #[.int .i64 i, .int .i64 0, .int .i64 0, .int .i64 0, .int .i64 0, .bool false], .int .i64 0]) ∧ Below w.heap.size w w' := by
  obtain ⟨A, hA⟩ : ∃ A, A = w.heap.size := ⟨_, rfl⟩
  obtain ⟨W0, hW0⟩ : ∃ W0, W0 = w.alloc (.cells #[.int .i64 0, .int .i64 0, .int .i64 0, .int .i64 0, .int .i64 0, .bool false] 25) := ⟨_, rfl⟩
  have hb0 : Below A w W0 := by rw [hA, hW0]; exact (Below.refl _ _).alloc (Nat.le_refl _) _
  have hx0 : W0.heap[A]? = some (.cells #[.int .i64 0, .int .i64 0, .int .i64 0, .int .i64 0, .int .i64 0, .bool false] 25) := by rw [hW0, hA]; exact World.alloc_heap_new w _
  have hw := words_told ⟨i, 0, 0, 0, 0, false⟩ hok W0
  rw [show (wordsL ⟨i, 0, 0, 0, 0, false⟩).map strOf = [strOf (writeV i 0), unsS] from by unfold wordsL; simp [uns_str]] at hw
  have hr := rng_row (x := i) hok.rid
  have h0 := fun W (hb : Below A w W) => by
    have h := whole_any (strOf (writeV i 0)) W (hE.below (by rw [← hA]; exact hb)).env (by have := hr.2; omega)
    rw [data_strOf, (whole_ok (x := i) hok.rid hok.zid).1, (whole_ok (x := i) hok.rid hok.zid).2] at h
    exact h
  generalize strOf (lineB ⟨i, 0, 0, 0, 0, false⟩) = text at *
  generalize strOf (writeV i 0) = S at *
  have HA := Lib.hid hA; clear hA
  have HW0 := Lib.hid hW0; clear hW0
  have HB0 := Lib.hid hb0; clear hb0
  have HX0 := Lib.hid hx0; clear hx0
  have HW := Lib.hid hw; clear hw
  have H0 := Lib.hid h0; clear h0
  clear hr hE hok
  go_enter Tryd.func11, Tryd.ntmps11
  go_wp2_with fail

  rw [← HA.out, ← HW0.out]
  refine HW.out.mono ?_
  rintro e w1 ⟨v, rfl, hown, hb1⟩
  obtain ⟨a, cap, rfl, hcap, hs⟩ := strs_of hown
  obtain ⟨g, o, rfl, hg, hat⟩ := hs.resolve_left (by simp)
  have hx1 := (hb1.block A (own_lt HX0.out)).trans HX0.out
  have hb01 : Below A w w1 := HB0.out.trans (hb1.mono (by have := HB0.out.size; have := own_lt HX0.out; omega))
  have hl : ([S, unsS] : List ByteArray).length = 2 := rfl
  rw [hl] at *
  have q0 : w1.cell? ⟨g, o, none⟩ = some (.string S) := hat 0 (by simp)
  have q1 : w1.cell? ⟨g, o + 1, none⟩ = some (.string ⟨#[117, 110, 115, 101, 114, 118, 101, 100]⟩) := hat 1 (by simp)
  clear hat hs hown hl
  have HB1 := Lib.hid hb01; clear hb01 hb1
  have HX1 := Lib.hid hx1; clear hx1
  go_wp2_with fail
  refine (H0.out _ HB1.out).mono ?_
  rintro e w2 ⟨rfl, hb2⟩
  have hx2 := (hb2.block A (own_lt HX1.out)).trans HX1.out
  have hb02 : Below A w w2 := HB1.out.trans (hb2.mono (by have := own_lt HX1.out; omega))
  have HB2 := Lib.hid hb02; clear hb02 hb2
  have z0 : w2.cell? ⟨A, 0, none⟩ = some (.int .i64 0) := (own_cell hx2).trans rfl
  have z1 : w2.cell? ⟨A, 1, none⟩ = some (.int .i64 0) := (own_cell hx2).trans rfl
  have z2 : w2.cell? ⟨A, 2, none⟩ = some (.int .i64 0) := (own_cell hx2).trans rfl
  have z3 : w2.cell? ⟨A, 3, none⟩ = some (.int .i64 0) := (own_cell hx2).trans rfl
  have z4 : w2.cell? ⟨A, 4, none⟩ = some (.int .i64 0) := (own_cell hx2).trans rfl
  have z5 : w2.cell? ⟨A, 5, none⟩ = some (.bool false) := (own_cell hx2).trans rfl
  have fz : ∀ j, w2.frozen? ⟨A, j, none⟩ = false := fun j => own_free hx2
  have HX2 := Lib.hid hx2; clear hx2
  clear q0 q1 H0 HW HB0 HX0 HW0 HB1 HX1
  go_wp2_with fail
  clear z0 z1 z2 z3 z4 z5 fz
  obtain ⟨W8, hW8⟩ : ∃ W8, W8 = (((((w2.setCell ⟨A, 0, none⟩ (.int .i64 i)).setCell ⟨A, 1, none⟩ (.int .i64 0)).setCell ⟨A, 2, none⟩ (.int .i64 0)).setCell ⟨A, 3, none⟩ (.int .i64 0)).setCell ⟨A, 4, none⟩ (.int .i64 0)).setCell ⟨A, 5, none⟩ (.bool false) := ⟨_, rfl⟩
  have hx8 : W8.heap[A]? = some (.cells #[.int .i64 i, .int .i64 0, .int .i64 0, .int .i64 0, .int .i64 0, .bool false] 25) := by
    rw [hW8]; exact own_set (own_set (own_set (own_set (own_set (own_set HX2.out _) _) _) _) _) _
  have hb8 : Below A w W8 := by
    rw [hW8]
    exact (((((HB2.out.setCell (p := ⟨A, 0, none⟩) (Nat.le_refl _) _).setCell (p := ⟨A, 1, none⟩) (Nat.le_refl _) _).setCell (p := ⟨A, 2, none⟩) (Nat.le_refl _) _).setCell (p := ⟨A, 3, none⟩) (Nat.le_refl _) _).setCell (p := ⟨A, 4, none⟩) (Nat.le_refl _) _).setCell (p := ⟨A, 5, none⟩) (Nat.le_refl _) _
  rw [← hW8]
  clear hW8
  refine bodyPost_ret (v := .tuple #[.agg #[.int .i64 i, .int .i64 0, .int .i64 0, .int .i64 0, .int .i64 0, .bool false], .int .i64 0]) (by simp [results, Tryd.results11, go_sem, World.cell?, hx8]) rfl ?_
  rw [← HA.out]
  exact ⟨rfl, hb8⟩
set_option maxHeartbeats 4000000 in
set_option maxRecDepth 100000 in
theorem read_yes_ (i c p d r : Int) (w : World) (hE : EnvAt w.heap.size w) (hok : (LN.mk i c p d r true).Ok) :
    Calls Tryd.prog 11 #[.string (strOf (lineB ⟨i, c, p, d, r, true⟩))] w fun e w' => e = .returned (.tuple #[.agg #[.int .i64 i, .int .i64 c, .int .i64 p, .int .i64 d, .int .i64 r, .bool true], .int .i64 0]) ∧ Below w.heap.size w w' := by
  obtain ⟨A, hA⟩ : ∃ A, A = w.heap.size := ⟨_, rfl⟩
  obtain ⟨W0, hW0⟩ : ∃ W0, W0 = w.alloc (.cells #[.int .i64 0, .int .i64 0, .int .i64 0, .int .i64 0, .int .i64 0, .bool false] 25) := ⟨_, rfl⟩
  have hb0 : Below A w W0 := by rw [hA, hW0]; exact (Below.refl _ _).alloc (Nat.le_refl _) _
  have hx0 : W0.heap[A]? = some (.cells #[.int .i64 0, .int .i64 0, .int .i64 0, .int .i64 0, .int .i64 0, .bool false] 25) := by rw [hW0, hA]; exact World.alloc_heap_new w _
  have hw := words_told ⟨i, c, p, d, r, true⟩ hok W0
  rw [show (wordsL ⟨i, c, p, d, r, true⟩).map strOf = [strOf (writeV i 0), strOf (writeV c 0), strOf (writeV p 0), strOf (writeV d 0), strOf (writeV r 0)] from by unfold wordsL; simp] at hw
  have h0 := fun v W (hb : Below A w W) hS => readServed_any v _ i c p d r W ((hE.below (by rw [← hA]; exact hb)).mono (by have := hb.size; omega)) hS rfl hok
  obtain ⟨ws, hws⟩ : ∃ ws, ws = [strOf (writeV i 0), strOf (writeV c 0), strOf (writeV p 0), strOf (writeV d 0), strOf (writeV r 0)] := ⟨_, rfl⟩
  have hl : ws.length = 5 := by rw [hws]; rfl
  rw [← hws] at h0 hw
  generalize strOf (lineB ⟨i, c, p, d, r, true⟩) = text at *
  have HA := Lib.hid hA; clear hA
  have HW0 := Lib.hid hW0; clear hW0
  have HB0 := Lib.hid hb0; clear hb0
  have HX0 := Lib.hid hx0; clear hx0
  have HW := Lib.hid hw; clear hw
  have H0 := Lib.hid h0; clear h0
  have HL := Lib.hid hl; clear hl
  clear hE hok hws
  go_enter Tryd.func11, Tryd.ntmps11
  go_wp2_with fail
  rw [← HA.out, ← HW0.out]
  refine HW.out.mono ?_
  rintro e w1 ⟨v, rfl, hown, hb1⟩
  have hS := strs_of hown
  have hS' := hS
  obtain ⟨a, cap, rfl, hcap, -⟩ := hS
  have hx1 := (hb1.block A (own_lt HX0.out)).trans HX0.out
  have hb01 : Below A w w1 := HB0.out.trans (hb1.mono (by have := HB0.out.size; have := own_lt HX0.out; omega))
  rw [HL.out] at hS' hcap ⊢
  have h1 := H0.out _ w1 hb01 hS'
  have HC := Lib.hid h1; clear h1
  have HB1 := Lib.hid hb01; clear hb01 hb1
  have HX1 := Lib.hid hx1; clear hx1
  clear hown hS'
  go_wp2_with fail
  refine HC.out.mono ?_
  rintro e w2 ⟨rfl, hb2⟩
  have hx2 := (hb2.block A (own_lt HX1.out)).trans HX1.out
  have hb02 : Below A w w2 := HB1.out.trans (hb2.mono (by have := own_lt HX1.out; omega))
  have HB2 := Lib.hid hb02; clear hb02 hb2
  have z0 : w2.cell? ⟨A, 0, none⟩ = some (.int .i64 0) := (own_cell hx2).trans rfl
  have z1 : w2.cell? ⟨A, 1, none⟩ = some (.int .i64 0) := (own_cell hx2).trans rfl
  have z2 : w2.cell? ⟨A, 2, none⟩ = some (.int .i64 0) := (own_cell hx2).trans rfl
  have z3 : w2.cell? ⟨A, 3, none⟩ = some (.int .i64 0) := (own_cell hx2).trans rfl
  have z4 : w2.cell? ⟨A, 4, none⟩ = some (.int .i64 0) := (own_cell hx2).trans rfl
  have z5 : w2.cell? ⟨A, 5, none⟩ = some (.bool false) := (own_cell hx2).trans rfl
  have fz : ∀ j, w2.frozen? ⟨A, j, none⟩ = false := fun j => own_free hx2
  have HX2 := Lib.hid hx2; clear hx2
  clear H0 HW HB0 HX0 HW0 HB1 HX1 HC
  go_wp2_with fail
  clear z0 z1 z2 z3 z4 z5 fz
  obtain ⟨W8, hW8⟩ : ∃ W8, W8 = (((((w2.setCell ⟨A, 0, none⟩ (.int .i64 i)).setCell ⟨A, 1, none⟩ (.int .i64 c)).setCell ⟨A, 2, none⟩ (.int .i64 p)).setCell ⟨A, 3, none⟩ (.int .i64 d)).setCell ⟨A, 4, none⟩ (.int .i64 r)).setCell ⟨A, 5, none⟩ (.bool true) := ⟨_, rfl⟩
  have hx8 : W8.heap[A]? = some (.cells #[.int .i64 i, .int .i64 c, .int .i64 p, .int .i64 d, .int .i64 r, .bool true] 25) := by
    rw [hW8]; exact own_set (own_set (own_set (own_set (own_set (own_set HX2.out _) _) _) _) _) _
  have hb8 : Below A w W8 := by
    rw [hW8]
    exact (((((HB2.out.setCell (p := ⟨A, 0, none⟩) (Nat.le_refl _) _).setCell (p := ⟨A, 1, none⟩) (Nat.le_refl _) _).setCell (p := ⟨A, 2, none⟩) (Nat.le_refl _) _).setCell (p := ⟨A, 3, none⟩) (Nat.le_refl _) _).setCell (p := ⟨A, 4, none⟩) (Nat.le_refl _) _).setCell (p := ⟨A, 5, none⟩) (Nat.le_refl _) _
  rw [← hW8]
  clear hW8
  refine bodyPost_ret (v := .tuple #[.agg #[.int .i64 i, .int .i64 c, .int .i64 p, .int .i64 d, .int .i64 r, .bool true], .int .i64 0]) (by simp [results, Tryd.results11, go_sem, World.cell?, hx8]) rfl ?_
  rw [← HA.out]
  exact ⟨rfl, hb8⟩
theorem read_line (i c p d r : Int) (s : Bool) (w : World) (hE : EnvAt w.heap.size w) (hok : (LN.mk i c p d r s).Ok) :
    Calls Tryd.prog 11 #[.string (strOf (lineB ⟨i, c, p, d, r, s⟩))] w fun e w' => e = .returned (.tuple #[.agg #[.int .i64 i, .int .i64 c, .int .i64 p, .int .i64 d, .int .i64 r, .bool s], .int .i64 0]) ∧ Below w.heap.size w w' := by
  cases s with
  | true => exact read_yes_ i c p d r w hE hok
  | false =>
    obtain ⟨h1, h2, h3, h4⟩ := hok.idle rfl
    simp only at h1 h2 h3 h4
    subst h1 h2 h3 h4
    exact read_no_ i w hE hok
end Tk
end Go.Proofs.YtjmingdlfihmaaaDoor
