/- Package ticket's ofAll, at the example: what it makes; over the translated program. -/
import Derived.Test.YtjmingdlfihmaaaDoorTkGoBy
import Derived.OwnWalk
namespace Go.Proofs.YtjmingdlfihmaaaDoor
namespace Tk
open Go Go.RowKit Deci
set_option linter.unusedVariables false
theorem info_mark : (Tryd.prog.info? 101).map (fun i => (i.zero, i.size, i.bytes)) = some (some (.agg #[.int .i64 0, .int .i64 0]), 2, 16) := by kernel_rfl
theorem made_line (W : World) : (Instr.makeSlice 22 (.int .i64 1) (.int .i64 1)).run Tryd.prog W = .ok (.slice (some ⟨W.heap.size, 0, none⟩) 1 1) (W.alloc (.cells #[.int .i64 0, .int .i64 0, .int .i64 0, .int .i64 0, .int .i64 0, .bool false] 25)) := by
  obtain ⟨i, hi, hz, hs, hb⟩ := info_parts info_line
  have := run_make (P := Tryd.prog) W 22 25 i _ Tryd.underlying22 hi hz .i64 .i64 1 1 (by omega) (Int.le_refl _) (by rw [hb]; omega) (by omega)
  rw [this, hs, show madeCells (Value.agg #[.int .i64 0, .int .i64 0, .int .i64 0, .int .i64 0, .int .i64 0, .bool false]).cells (Int.toNat 1 * 6) = #[.int .i64 0, .int .i64 0, .int .i64 0, .int .i64 0, .int .i64 0, .bool false] by kernel_rfl]
  rfl
theorem made_mark (W : World) : (Instr.makeSlice 82 (.int .i64 4) (.int .i64 4)).run Tryd.prog W = .ok (.slice (some ⟨W.heap.size, 0, none⟩) 4 4) (W.alloc (.cells mark0 101)) := by
  obtain ⟨i, hi, hz, hs, hb⟩ := info_parts info_mark
  have := run_make (P := Tryd.prog) W 82 101 i _ Tryd.underlying82 hi hz .i64 .i64 4 4 (by omega) (Int.le_refl _) (by rw [hb]; omega) (by omega)
  rw [this, hs, show madeCells (Value.agg #[.int .i64 0, .int .i64 0]).cells (Int.toNat 4 * 2) = mark0 by kernel_rfl]
  rfl
def zeroL : Array Value := #[.int .i64 0, .int .i64 0, .int .i64 0, .int .i64 0, .int .i64 0, .bool false]
/-- What the making of it leaves. -/
def AQ (w1 : World) (s r : Nat) (v : Value) (wx : World) : Prop := ∃ T G M, v = .pointer (some ⟨T, 0, none⟩) ∧ TS T G M s r mark0 zeroL wx ∧ Below w1.heap.size w1 wx ∧ w1.heap.size ≤ T ∧ w1.heap.size ≤ G ∧ w1.heap.size ≤ M
theorem aQ_mk {w1 wx : World} {s r T G M : Nat} (h1 : wx.heap[T]? = some (.cells #[.slice none 0 0, .slice (some ⟨s, 0, none⟩) 4 4, .slice (some ⟨r, 0, none⟩) 1 1, .slice none 0 0, .slice (some ⟨G, 0, none⟩) 1 1, .slice (some ⟨M, 0, none⟩) 4 4] 84))
    (h2 : wx.heap[M]? = some (.cells mark0 101)) (h3 : wx.heap[G]? = some (.cells zeroL 25)) (h4 : Below w1.heap.size w1 wx) (h5 : w1.cell? ⟨s, 8, none⟩ = some (.int .i64 1))
    (h6 : w1.heap.size ≤ T ∧ w1.heap.size ≤ G ∧ w1.heap.size ≤ M) (h7 : T ≠ G ∧ T ≠ M ∧ G ≠ M) : AQ w1 s r (.pointer (some ⟨T, 0, none⟩)) wx := by
  have hs := World.block_lt_of_cell? _ _ h5
  have hs' : s < w1.heap.size := hs
  exact ⟨T, G, M, rfl, ⟨h1, h2, h3, (h4.cell (p := ⟨s, 8, none⟩) hs).trans h5, h7.1, h7.2.1, h7.2.2, by omega, by omega⟩, h4, h6⟩
set_option maxHeartbeats 4000000 in
set_option maxRecDepth 100000 in
theorem ofAll_yes (s r RR TT R Q : Nat) (w : World) (hsv : w.cell? ⟨s, 8, none⟩ = some (.int .i64 1)) (hRR : w.cell? ⟨RR, 0, none⟩ = some (.slice (some ⟨R, 0, none⟩) 4 4)) (hTT : w.cell? ⟨TT, 0, none⟩ = some (.slice (some ⟨Q, 0, none⟩) 4 4))
    (hrow : ∀ k, k < 4 → w.cell? ⟨R, k, none⟩ = some (.int .i64 (k : Int))) (htim : w.cell? ⟨Q, 1, none⟩ = some (.int .i64 0) ∧ w.cell? ⟨Q, 2, none⟩ = some (.int .i64 6)) :
    Calls Tryd.prog 17 #[.agg #[.slice none 0 0, .slice (some ⟨s, 0, none⟩) 4 4, .slice (some ⟨r, 0, none⟩) 1 1, .slice none 0 0], .agg #[.slice (some ⟨RR, 0, none⟩) 1 1, .slice (some ⟨TT, 0, none⟩) 1 1, .slice none 0 0, .int .i64 0]] w fun e w' => ∃ G, e = .returned (.slice (some ⟨G, 0, none⟩) 1 1) ∧ w'.heap[G]? = some (.cells line1 25) ∧ Below w.heap.size w w' := by
  obtain ⟨X, hX⟩ : ∃ X, X = w.heap.size := ⟨_, rfl⟩
  obtain ⟨W0, hW0⟩ : ∃ W0, W0 = (w.alloc (.cells #[.slice none 0 0, .slice (some ⟨s, 0, none⟩) 4 4, .slice (some ⟨r, 0, none⟩) 1 1, .slice none 0 0] 41)).alloc (.cells #[.slice (some ⟨RR, 0, none⟩) 1 1, .slice (some ⟨TT, 0, none⟩) 1 1, .slice none 0 0, .int .i64 0] 36) := ⟨_, rfl⟩
  have hb0 : Below X w W0 := by rw [hW0, hX]; exact ((Below.refl _ _).alloc (Nat.le_refl _) _).alloc (by simp) _
  have hx0 : W0.heap[X]? = some (.cells #[.slice none 0 0, .slice (some ⟨s, 0, none⟩) 4 4, .slice (some ⟨r, 0, none⟩) 1 1, .slice none 0 0] 41) := by rw [hW0, hX]; exact (heap2 w _ _).1
  have hy0 : W0.heap[X + 1]? = some (.cells #[.slice (some ⟨RR, 0, none⟩) 1 1, .slice (some ⟨TT, 0, none⟩) 1 1, .slice none 0 0, .int .i64 0] 36) := by rw [hW0, hX]; exact (heap2 w _ _).2
  have HC := Lib.hid fun W => count_any s r W
  have HX := Lib.hid hX; clear hX
  have HW0 := Lib.hid hW0; clear hW0
  have HB0 := Lib.hid hb0; clear hb0
  have HX0 := Lib.hid hx0; clear hx0
  have HY0 := Lib.hid hy0; clear hy0
  have HSV := Lib.hid hsv; clear hsv
  have HRR := Lib.hid hRR; clear hRR
  have HTT := Lib.hid hTT; clear hTT
  have HROW := Lib.hid hrow; clear hrow
  have HTIM := Lib.hid htim; clear htim
  go_enter Tryd.func17, Tryd.ntmps17
  go_wp2_with fail
  rw [← HX.out, ← HW0.out]
  refine (HC.out _).mono ?_
  rintro e w1 ⟨rfl, hb⟩
  have hx1 := (hb.block X (own_lt HX0.out)).trans HX0.out
  have hy1 := (hb.block (X + 1) (own_lt HY0.out)).trans HY0.out
  have hb1 := HB0.out.trans (hb.mono (Nat.le_of_lt (own_lt HX0.out)))
  have q0 : w1.cell? ⟨X, 0, none⟩ = some (.slice none 0 0) := (own_cell hx1).trans rfl
  have q1 : w1.cell? ⟨X, 1, none⟩ = some (.slice (some ⟨s, 0, none⟩) 4 4) := (own_cell hx1).trans rfl
  have q2 : w1.cell? ⟨X, 2, none⟩ = some (.slice (some ⟨r, 0, none⟩) 1 1) := (own_cell hx1).trans rfl
  have q3 : w1.cell? ⟨X, 3, none⟩ = some (.slice none 0 0) := (own_cell hx1).trans rfl
  have hXl : X < w1.heap.size := own_lt hx1
  have HX1 := Lib.hid hx1; clear hx1
  have HY1 := Lib.hid hy1; clear hy1
  have HB1 := Lib.hid hb1; clear hb1 hb
  have HSV1 : Hid (w1.cell? ⟨s, 8, none⟩ = some (.int .i64 1)) := Lib.hid ((HB1.out.cell (p := ⟨s, 8, none⟩) (by have := World.block_lt_of_cell? _ _ HSV.out; rw [HX.out]; exact this)).trans HSV.out)
  go_upto_region 2 with fail
  go_cut [6] (fun s6 wx => AQ w1 s r s6 wx)
  case first =>
    have h1 := fun W => made_line W
    have h2 := fun W => made_mark W
    have hwr : IntKind.i64.wrap (IntKind.i64.wrap 2 + 2) = 4 := by decide
    have h3 : ∀ W, (Instr.makeSlice 82 (.int .i64 (IntKind.i64.wrap (IntKind.i64.wrap 2 + 2))) (.int .i64 (IntKind.i64.wrap (IntKind.i64.wrap 2 + 2)))).run Tryd.prog W = .ok (.slice (some ⟨W.heap.size, 0, none⟩) 4 4) (W.alloc (.cells mark0 101)) := fun W => by rw [hwr]; exact made_mark W
    clear hwr
    have h4 : ∀ W, (Instr.makeSlice 82 (.int .i64 (IntKind.i64.wrap 4)) (.int .i64 (IntKind.i64.wrap 4))).run Tryd.prog W = .ok (.slice (some ⟨W.heap.size, 0, none⟩) 4 4) (W.alloc (.cells mark0 101)) := made_mark
    have k1 : ∀ A j, (w1.alloc A).cell? ⟨X, j, none⟩ = w1.cell? ⟨X, j, none⟩ := fun A j => ((Below.refl _ _).alloc (Nat.le_refl _) A).cell (p := ⟨X, j, none⟩) hXl
    have k2 : ∀ A B j, ((w1.alloc A).alloc B).cell? ⟨X, j, none⟩ = w1.cell? ⟨X, j, none⟩ := fun A B j => (((Below.refl _ _).alloc (Nat.le_refl _) A).alloc (by simp) B).cell (p := ⟨X, j, none⟩) hXl
    have k3 : ∀ A B C j, (((w1.alloc A).alloc B).alloc C).cell? ⟨X, j, none⟩ = w1.cell? ⟨X, j, none⟩ := fun A B C j => ((((Below.refl _ _).alloc (Nat.le_refl _) A).alloc (by simp) B).alloc (by simp; omega) C).cell (p := ⟨X, j, none⟩) hXl
    go_region_held3 (fun w' => w'.cell? ⟨X, 0, none⟩ = some (.slice none 0 0) ∧ w'.cell? ⟨X, 1, none⟩ = some (.slice (some ⟨s, 0, none⟩) 4 4) ∧ w'.cell? ⟨X, 2, none⟩ = some (.slice (some ⟨r, 0, none⟩) 1 1) ∧ w'.cell? ⟨X, 3, none⟩ = some (.slice none 0 0)) (go_keep) (fail)
    all_goals
      go_wp2_with fail
      go_meet
      apply aQ_mk
      · first | exact (heap3 _ _ _ _).1 | exact (heap3 _ _ _ _).2.1 | exact (heap3 _ _ _ _).2.2
      · first | exact (heap3 _ _ _ _).1 | exact (heap3 _ _ _ _).2.1 | exact (heap3 _ _ _ _).2.2
      · first | exact (heap3 _ _ _ _).1 | exact (heap3 _ _ _ _).2.1 | exact (heap3 _ _ _ _).2.2
      · exact ((((Below.refl _ _).alloc (Nat.le_refl _) _).alloc (by simp) _).alloc (by simp; omega) _).drew
      · exact HSV1.out
      · omega
      · omega
  case rest =>
    obtain ⟨T, G, M, rfl, hts, hbw, hT, hG, hM⟩ := hcut
    clear q0 q1 q2 q3
    obtain ⟨c0, c1, c2, c3, c4, c5⟩ := hts.c
    have HTS := Lib.hid hts; clear hts
    have HBW := Lib.hid hbw; clear hbw
    go_wp2_with fail
    clear c0 c1 c2 c3 c4 c5
    have hRl : R < w1.heap.size := by
      have h1 := World.block_lt_of_cell? _ _ (HROW.out 0 (by omega))
      have h2 := HB1.out.size
      have h1' : R < w.heap.size := h1
      omega
    have hQl : Q < w1.heap.size := by
      have h1 := World.block_lt_of_cell? _ _ HTIM.out.1
      have h2 := HB1.out.size
      have h1' : Q < w.heap.size := h1
      omega
    have HY1l : X + 1 < w1.heap.size := own_lt HY1.out
    have HLIFT : Hid (∀ b j v, w.cell? ⟨b, j, none⟩ = some v → ∀ W, Below w1.heap.size w1 W → W.cell? ⟨b, j, none⟩ = some v) := Lib.hid fun b j v hv W hb => by
      have h1 := World.block_lt_of_cell? _ _ hv
      have h1' : b < w.heap.size := h1
      have h2 := HB1.out.size
      have hX' := HX.out
      exact (hb.cell (p := ⟨b, j, none⟩) (by show b < w1.heap.size; omega)).trans ((HB1.out.cell (p := ⟨b, j, none⟩) (by show b < X; omega)).trans hv)
    go_loopw [24] (fun i wr => ∃ k : Nat, k ≤ 1 ∧ i = .int .i64 k ∧ Hid (TS T G M s r mark0 (if k = 0 then zeroL else line0) wr ∧ Below w1.heap.size w1 wr)) (fun i _ => 1 - (intOf i).toNat)
    case atStart => exact ⟨0, by omega, rfl, Lib.hid ⟨HTS.out, HBW.out⟩⟩
    case round =>
      obtain ⟨k, hk, rfl, HK⟩ := hrel
      rcases (show k = 0 ∨ k = 1 by omega) with rfl | rfl
      · have hts : TS T G M s r mark0 zeroL wr := HK.out.1
        obtain ⟨c0, c1, c2, c3, c4, c5⟩ := hts.c
        have g0 : wr.cell? ⟨G, 0, none⟩ = some (.int .i64 0) := (own_cell hts.lin).trans rfl
        have fg : wr.frozen? ⟨G, 0, none⟩ = false := own_free hts.lin
        have hg := grown_set wr ⟨G, 0, none⟩ (.int .i64 1)
        have hl : (wr.setCell ⟨G, 0, none⟩ (.int .i64 1)).heap[G]? = some (.cells line0 25) := own_set hts.lin _
        have hn : TS T G M s r mark0 line0 (wr.setCell ⟨G, 0, none⟩ (.int .i64 1)) ∧ Below w1.heap.size w1 (wr.setCell ⟨G, 0, none⟩ (.int .i64 1)) := ⟨hts.line hl hg, HK.out.2.setCell (p := ⟨G, 0, none⟩) hG _⟩
        have HN := Lib.hid hn; clear hn hl hg hts
        go_wp2_with fail
        go_roundw
        case rel => exact ⟨1, by omega, by go_num, HN⟩
        case measure => simp [intOf]
      · have hts : TS T G M s r mark0 line0 wr := HK.out.1
        have hbl := HK.out.2
        clear HK
        have hy := (hbl.block (X + 1) HY1l).trans HY1.out
        have y0 : wr.cell? ⟨X + 1, 0, none⟩ = some (.slice (some ⟨RR, 0, none⟩) 1 1) := (own_cell hy).trans rfl
        have y1 : wr.cell? ⟨X + 1, 1, none⟩ = some (.slice (some ⟨TT, 0, none⟩) 1 1) := (own_cell hy).trans rfl
        have HTS1 := Lib.hid hts; clear hts
        have HBL1 := Lib.hid hbl; clear hbl hy
        rw [show ((1 : Nat) : Int) = 1 from rfl]
        go_wp2_with fail
        clear y0 y1
        go_loopw [42] (fun i wx => ∃ k : Nat, k ≤ 1 ∧ i = .int .i64 k ∧ Hid ((k = 0 → TS T G M s r mark0 line0 wx) ∧ (k = 1 → ∃ mc, TS T G M s r mc line1 wx) ∧ Below w1.heap.size w1 wx)) (fun i _ => 1 - (intOf i).toNat)
        case atStart => exact ⟨0, by omega, rfl, Lib.hid ⟨fun _ => HTS1.out, (fun h => absurd h (by omega)), HBL1.out⟩⟩
        case round =>
          clear HTS1 HBL1
          obtain ⟨k, hk, rfl, HK⟩ := hrel
          rcases (show k = 0 ∨ k = 1 by omega) with rfl | rfl
          · have hts := HK.out.1 rfl
            have hbl := HK.out.2.2
            have hy := (hbl.block (X + 1) HY1l).trans HY1.out
            have y0 : wr.cell? ⟨X + 1, 0, none⟩ = some (.slice (some ⟨RR, 0, none⟩) 1 1) := (own_cell hy).trans rfl
            have y1 : wr.cell? ⟨X + 1, 1, none⟩ = some (.slice (some ⟨TT, 0, none⟩) 1 1) := (own_cell hy).trans rfl
            have r0 := HLIFT.out _ _ _ HRR.out wr hbl
            have r1 := HLIFT.out _ _ _ HTT.out wr hbl
            have HBL := Lib.hid hbl; clear hbl hy HK
            have HTS2 := Lib.hid hts; clear hts
            go_upto_region 11 with fail
            go_quiet (fail)
            obtain ⟨W4, hW4⟩ : ∃ W4, W4 = wr.drewN nq := ⟨_, rfl⟩
            have hb4 : Below wr.heap.size wr W4 := by rw [hW4]; exact below_drewN (Below.refl _ _) _
            rw [← hW4]
            clear hW4 y0 y1 r0 r1
            have hbw4 : Below w1.heap.size w1 W4 := HBL.out.trans (hb4.mono HBL.out.size)
            have hgo := goBy_any w1.heap.size T G M R Q s r W4 (HTS2.out.below hb4) ⟨hG, hM⟩ ⟨by omega, by omega, by omega, by omega⟩ (fun k hk => HLIFT.out _ _ _ (HROW.out k hk) W4 hbw4) ⟨HLIFT.out _ _ _ HTIM.out.1 W4 hbw4, HLIFT.out _ _ _ HTIM.out.2 W4 hbw4⟩
            have HGO := Lib.hid hgo; clear hgo hb4
            have HBW4 := Lib.hid hbw4; clear hbw4
            go_wp2_with fail
            refine HGO.out.mono ?_
            rintro e w5 ⟨rfl, hb5, hts5⟩
            have HN := Lib.hid hts5
            have HNB := Lib.hid (HBW4.out.trans hb5)
            clear hb5 hts5
            go_wp2_with fail
            go_roundw
            case rel => exact ⟨1, by omega, by go_num, Lib.hid ⟨fun h => absurd h (by omega), fun _ => HN.out, HNB.out⟩⟩
            case measure => simp [intOf]
          · obtain ⟨mc, hts⟩ := HK.out.2.1 rfl
            obtain ⟨c0, c1, c2, c3, c4, c5⟩ := hts.c
            have hfin : wr.heap[G]? = some (.cells line1 25) ∧ Below w.heap.size w wr := ⟨hts.lin, by rw [← HX.out]; exact HB1.out.trans (HK.out.2.2.mono (by omega))⟩
            have HF := Lib.hid hfin; clear hfin hts
            go_wp2_with fail
            go_ret
            exact ⟨_, rfl, HF.out⟩
end Tk
end Go.Proofs.YtjmingdlfihmaaaDoor
