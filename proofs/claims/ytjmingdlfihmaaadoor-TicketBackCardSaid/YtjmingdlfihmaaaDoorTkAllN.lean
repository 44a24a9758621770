/- Package ticket's ofAll, of a plan that has no rows; over the translated program. -/
import Derived.Test.YtjmingdlfihmaaaDoorTkAll
namespace Go.Proofs.YtjmingdlfihmaaaDoor
namespace Tk
open Go Go.RowKit Deci
set_option linter.unusedVariables false
set_option maxHeartbeats 4000000 in
set_option maxRecDepth 100000 in
theorem ofAll_no (s r : Nat) (w : World) (hsv : w.cell? ⟨s, 8, none⟩ = some (.int .i64 1)) :
    Calls Tryd.prog 17 #[.agg #[.slice none 0 0, .slice (some ⟨s, 0, none⟩) 4 4, .slice (some ⟨r, 0, none⟩) 1 1, .slice none 0 0], .agg #[.slice none 0 0, .slice none 0 0, .slice none 0 0, .int .i64 0]] w fun e w' => ∃ G, e = .returned (.slice (some ⟨G, 0, none⟩) 1 1) ∧ w'.heap[G]? = some (.cells line0 25) ∧ Below w.heap.size w w' := by
  obtain ⟨X, hX⟩ : ∃ X, X = w.heap.size := ⟨_, rfl⟩
  obtain ⟨W0, hW0⟩ : ∃ W0, W0 = (w.alloc (.cells #[.slice none 0 0, .slice (some ⟨s, 0, none⟩) 4 4, .slice (some ⟨r, 0, none⟩) 1 1, .slice none 0 0] 41)).alloc (.cells #[.slice none 0 0, .slice none 0 0, .slice none 0 0, .int .i64 0] 36) := ⟨_, rfl⟩
  have hb0 : Below X w W0 := by rw [hW0, hX]; exact ((Below.refl _ _).alloc (Nat.le_refl _) _).alloc (by simp) _
  have hx0 : W0.heap[X]? = some (.cells #[.slice none 0 0, .slice (some ⟨s, 0, none⟩) 4 4, .slice (some ⟨r, 0, none⟩) 1 1, .slice none 0 0] 41) := by rw [hW0, hX]; exact (heap2 w _ _).1
  have hy0 : W0.heap[X + 1]? = some (.cells #[.slice none 0 0, .slice none 0 0, .slice none 0 0, .int .i64 0] 36) := by rw [hW0, hX]; exact (heap2 w _ _).2
  have HC := Lib.hid fun W => count_any s r W
  have HX := Lib.hid hX; clear hX
  have HW0 := Lib.hid hW0; clear hW0
  have HB0 := Lib.hid hb0; clear hb0
  have HX0 := Lib.hid hx0; clear hx0
  have HY0 := Lib.hid hy0; clear hy0
  have HSV := Lib.hid hsv; clear hsv
  go_enter Tryd.func17, Tryd.ntmps17
  go_wp2_with fail
  rw [← HX.out, ← HW0.out]
  refine (HC.out _).mono ?_
  rintro e w1 ⟨rfl, hb⟩
  have hx1 := (hb.block X (own_lt HX0.out)).trans HX0.out
  have hy1 := (hb.block (X + 1) (own_lt HY0.out)).trans HY0.out
  have hb1 := HB0.out.trans (hb.mono (Nat.le_of_lt (own_lt HX0.out)))
  have q0 : w1.cell? ⟨X, 0, none⟩ = some (.slice none 0 0) := (own_cell hx1).trans rfl
  have q1 : w1.cell? ⟨X, 1, none⟩ = some (.slice (some ⟨s, 0, none⟩) 4 4) := (own_cell hx1).trans rfl
  have q2 : w1.cell? ⟨X, 2, none⟩ = some (.slice (some ⟨r, 0, none⟩) 1 1) := (own_cell hx1).trans rfl
  have q3 : w1.cell? ⟨X, 3, none⟩ = some (.slice none 0 0) := (own_cell hx1).trans rfl
  have hXl : X < w1.heap.size := own_lt hx1
  have HX1 := Lib.hid hx1; clear hx1
  have HY1 := Lib.hid hy1; clear hy1
  have HB1 := Lib.hid hb1; clear hb1 hb
  have HSV1 : Hid (w1.cell? ⟨s, 8, none⟩ = some (.int .i64 1)) := Lib.hid ((HB1.out.cell (p := ⟨s, 8, none⟩) (by have := World.block_lt_of_cell? _ _ HSV.out; rw [HX.out]; exact this)).trans HSV.out)
  go_upto_region 2 with fail
  go_cut [6] (fun s6 wx => AQ w1 s r s6 wx)
  case first =>
    have h1 := fun W => made_line W
    have h2 := fun W => made_mark W
    have hwr : IntKind.i64.wrap (IntKind.i64.wrap 2 + 2) = 4 := by decide
    have h3 : ∀ W, (Instr.makeSlice 82 (.int .i64 (IntKind.i64.wrap (IntKind.i64.wrap 2 + 2))) (.int .i64 (IntKind.i64.wrap (IntKind.i64.wrap 2 + 2)))).run Tryd.prog W = .ok (.slice (some ⟨W.heap.size, 0, none⟩) 4 4) (W.alloc (.cells mark0 101)) := fun W => by rw [hwr]; exact made_mark W
    clear hwr
    have h4 : ∀ W, (Instr.makeSlice 82 (.int .i64 (IntKind.i64.wrap 4)) (.int .i64 (IntKind.i64.wrap 4))).run Tryd.prog W = .ok (.slice (some ⟨W.heap.size, 0, none⟩) 4 4) (W.alloc (.cells mark0 101)) := made_mark
    have k1 : ∀ A j, (w1.alloc A).cell? ⟨X, j, none⟩ = w1.cell? ⟨X, j, none⟩ := fun A j => ((Below.refl _ _).alloc (Nat.le_refl _) A).cell (p := ⟨X, j, none⟩) hXl
    have k2 : ∀ A B j, ((w1.alloc A).alloc B).cell? ⟨X, j, none⟩ = w1.cell? ⟨X, j, none⟩ := fun A B j => (((Below.refl _ _).alloc (Nat.le_refl _) A).alloc (by simp) B).cell (p := ⟨X, j, none⟩) hXl
    have k3 : ∀ A B C j, (((w1.alloc A).alloc B).alloc C).cell? ⟨X, j, none⟩ = w1.cell? ⟨X, j, none⟩ := fun A B C j => ((((Below.refl _ _).alloc (Nat.le_refl _) A).alloc (by simp) B).alloc (by simp; omega) C).cell (p := ⟨X, j, none⟩) hXl
    go_region_held3 (fun w' => w'.cell? ⟨X, 0, none⟩ = some (.slice none 0 0) ∧ w'.cell? ⟨X, 1, none⟩ = some (.slice (some ⟨s, 0, none⟩) 4 4) ∧ w'.cell? ⟨X, 2, none⟩ = some (.slice (some ⟨r, 0, none⟩) 1 1) ∧ w'.cell? ⟨X, 3, none⟩ = some (.slice none 0 0)) (go_keep) (fail)
    all_goals
      go_wp2_with fail
      go_meet
      apply aQ_mk
      · first | exact (heap3 _ _ _ _).1 | exact (heap3 _ _ _ _).2.1 | exact (heap3 _ _ _ _).2.2
      · first | exact (heap3 _ _ _ _).1 | exact (heap3 _ _ _ _).2.1 | exact (heap3 _ _ _ _).2.2
      · first | exact (heap3 _ _ _ _).1 | exact (heap3 _ _ _ _).2.1 | exact (heap3 _ _ _ _).2.2
      · exact ((((Below.refl _ _).alloc (Nat.le_refl _) _).alloc (by simp) _).alloc (by simp; omega) _).drew
      · exact HSV1.out
      · omega
      · omega
  case rest =>
    obtain ⟨T, G, M, rfl, hts, hbw, hT, hG, hM⟩ := hcut
    clear q0 q1 q2 q3
    obtain ⟨c0, c1, c2, c3, c4, c5⟩ := hts.c
    have HTS := Lib.hid hts; clear hts
    have HBW := Lib.hid hbw; clear hbw
    go_wp2_with fail
    clear c0 c1 c2 c3 c4 c5
    have HY1l : X + 1 < w1.heap.size := own_lt HY1.out
    go_loopw [24] (fun i wr => ∃ k : Nat, k ≤ 1 ∧ i = .int .i64 k ∧ Hid (TS T G M s r mark0 (if k = 0 then zeroL else line0) wr ∧ Below w1.heap.size w1 wr)) (fun i _ => 1 - (intOf i).toNat)
    case atStart => exact ⟨0, by omega, rfl, Lib.hid ⟨HTS.out, HBW.out⟩⟩
    case round =>
      obtain ⟨k, hk, rfl, HK⟩ := hrel
      rcases (show k = 0 ∨ k = 1 by omega) with rfl | rfl
      · have hts : TS T G M s r mark0 zeroL wr := HK.out.1
        obtain ⟨c0, c1, c2, c3, c4, c5⟩ := hts.c
        have g0 : wr.cell? ⟨G, 0, none⟩ = some (.int .i64 0) := (own_cell hts.lin).trans rfl
        have fg : wr.frozen? ⟨G, 0, none⟩ = false := own_free hts.lin
        have hg := grown_set wr ⟨G, 0, none⟩ (.int .i64 1)
        have hl : (wr.setCell ⟨G, 0, none⟩ (.int .i64 1)).heap[G]? = some (.cells line0 25) := own_set hts.lin _
        have hn : TS T G M s r mark0 line0 (wr.setCell ⟨G, 0, none⟩ (.int .i64 1)) ∧ Below w1.heap.size w1 (wr.setCell ⟨G, 0, none⟩ (.int .i64 1)) := ⟨hts.line hl hg, HK.out.2.setCell (p := ⟨G, 0, none⟩) hG _⟩
        have HN := Lib.hid hn; clear hn hl hg hts
        go_wp2_with fail
        go_roundw
        case rel => exact ⟨1, by omega, by go_num, HN⟩
        case measure => simp [intOf]
      · have hts : TS T G M s r mark0 line0 wr := HK.out.1
        have hbl := HK.out.2
        clear HK
        have hy := (hbl.block (X + 1) HY1l).trans HY1.out
        have y0 : wr.cell? ⟨X + 1, 0, none⟩ = some (.slice none 0 0) := (own_cell hy).trans rfl
        have y1 : wr.cell? ⟨X + 1, 1, none⟩ = some (.slice none 0 0) := (own_cell hy).trans rfl
        have HTS1 := Lib.hid hts; clear hts
        have HBL1 := Lib.hid hbl; clear hbl hy
        rw [show ((1 : Nat) : Int) = 1 from rfl]
        go_wp2_with fail
        clear y0 y1
        obtain ⟨c0, c1, c2, c3, c4, c5⟩ := HTS1.out.c
        have hfin : wr.heap[G]? = some (.cells line0 25) ∧ Below w.heap.size w wr := ⟨HTS1.out.lin, by rw [← HX.out]; exact HB1.out.trans (HBL1.out.mono (by omega))⟩
        have HF := Lib.hid hfin; clear hfin
        go_loopw [42] (fun i wx => i = .int .i64 0 ∧ Hid (wx = wr)) (fun i _ => 0)
        case atStart => exact ⟨rfl, Lib.hid rfl⟩
        case round =>
          obtain ⟨rfl, HK⟩ := hrel
          obtain rfl := HK.out
          clear HK
          go_wp2_with fail
          go_ret
          exact ⟨_, rfl, HF.out⟩
end Tk
end Go.Proofs.YtjmingdlfihmaaaDoor
