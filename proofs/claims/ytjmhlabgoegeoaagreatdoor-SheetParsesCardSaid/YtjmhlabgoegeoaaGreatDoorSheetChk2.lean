/- inst.Pick, Drop, idle, loadsRight; over the translated program. -/
import Derived.Test.YtjmhlabgoegeoaaGreatDoorSheetChk
import Derived.Deep.RegionHeld3
import Derived.Deep.RegionWith
import Derived.Deep.DeepCutAuto
import Derived.Outline
namespace Go.Proofs.YtjmhlabgoegeoaaGreatDoor
namespace Sheet
open Go Go.RowKit Deci
attribute [local go_sem] store_cx
section
variable (a1 a2 a3 a4 : Option Addr) (n1 c1 n2 c2 n3 c3 n4 c4 : Nat) (w : World)
set_option maxHeartbeats 1000000 in
theorem pick_any (r : Nat) (h3 : n3 ≤ 5000) (h1 : 1 ≤ r) (h2 : r ≤ n3) :
    Calls Tryz.prog 64 #[.agg #[.slice a1 n1 c1, .slice a2 n2 c2, .slice a3 n3 c3, .slice a4 n4 c4], .int .i64 r] w fun e w' => e = .returned (.int .i64 r) ∧ Below w.heap.size w w' := by
  have h := fun w => count_any a1 a2 a3 a4 n1 c1 n2 c2 n3 c3 n4 c4 w h3
  have H := Lib.hid h; clear h
  have d1 : decide ((r : Int) < 1) = false := by simp; omega
  have d2 : decide (n3 < r) = false := by simp; omega
  have d3 : ¬ (r : Int) < 1 := by omega
  have d4 : ¬ (n3 : Int) < (r : Int) := by omega
  go_enter Tryz.func64, Tryz.ntmps64
  go_wp2_with (go_at_call 29; refine (H.out _).mono ?_; rintro e w1 ⟨rfl, hb⟩; have HB := Lib.hid hb; clear hb)
  go_ret
  exact ⟨rfl, ((Below.refl _ _).alloc (Nat.le_refl _) _).trans (HB.out.mono (by simp))⟩
set_option maxHeartbeats 1000000 in
theorem drop_any (r : Nat) (h3 : n3 ≤ 5000) (h1 : 1 ≤ r) (h2 : r ≤ n3) :
    Calls Tryz.prog 65 #[.agg #[.slice a1 n1 c1, .slice a2 n2 c2, .slice a3 n3 c3, .slice a4 n4 c4], .int .i64 r] w fun e w' => e = .returned (.int .i64 (n3 + r : Nat)) ∧ Below w.heap.size w w' := by
  have h := fun w => count_any a1 a2 a3 a4 n1 c1 n2 c2 n3 c3 n4 c4 w h3
  have H := Lib.hid h; clear h
  have d1 : decide ((r : Int) < 1) = false := by simp; omega
  have d2 : decide (n3 < r) = false := by simp; omega
  have d3 : ¬ (r : Int) < 1 := by omega
  have d4 : ¬ (n3 : Int) < (r : Int) := by omega
  have hz : w.heap.size < (w.alloc (.cells #[.slice a1 n1 c1, .slice a2 n2 c2, .slice a3 n3 c3, .slice a4 n4 c4] 28)).heap.size := by simp
  have hn : (w.alloc (.cells #[.slice a1 n1 c1, .slice a2 n2 c2, .slice a3 n3 c3, .slice a4 n4 c4] 28)).heap[w.heap.size]? = some (.cells #[.slice a1 n1 c1, .slice a2 n2 c2, .slice a3 n3 c3, .slice a4 n4 c4] 28) := World.alloc_heap_new w _
  have HN := Lib.hid hn; clear hn
  have HZ := Lib.hid hz; clear hz
  go_enter Tryz.func65, Tryz.ntmps65
  go_wp2_with fail
  refine (H.out _).mono ?_
  rintro e w1 ⟨rfl, hb⟩
  have hn1 := (hb.block _ HZ.out).trans HN.out
  have q0 : w1.cell? ⟨w.heap.size, 0, none⟩ = some (.slice a1 n1 c1) := (own_cell hn1).trans rfl
  have q1 : w1.cell? ⟨w.heap.size, 1, none⟩ = some (.slice a2 n2 c2) := (own_cell hn1).trans rfl
  have q2 : w1.cell? ⟨w.heap.size, 2, none⟩ = some (.slice a3 n3 c3) := (own_cell hn1).trans rfl
  have q3 : w1.cell? ⟨w.heap.size, 3, none⟩ = some (.slice a4 n4 c4) := (own_cell hn1).trans rfl
  have HB := Lib.hid hb; clear hb hn1
  go_wp2_with fail
  refine (H.out _).mono ?_
  rintro e w2 ⟨rfl, hb⟩
  have HB2 := Lib.hid hb; clear hb
  clear q0 q1 q2 q3
  go_wp2_with fail
  go_ret
  exact ⟨ret_int (by omega), (((Below.refl _ _).alloc (Nat.le_refl _) _).trans (HB.out.mono (by simp))).trans (HB2.out.mono (by have := HB.out.size; have := HZ.out; omega))⟩
end
set_option maxHeartbeats 1000000 in
theorem idle_any (s t a b c : Int) (x y : Nat) (w : World) :
    Calls Tryz.prog 67 #[.agg #[.int .i64 s, .int .i64 t, .int .i64 a, .int .i64 b, .int .i64 c, .complex .f64 x y]] w fun e w' => e = .returned (.bool (decide (s = 0) && (decide (t = 0) && decide (a = 0)))) ∧ Below w.heap.size w w' := by
  by_cases h1 : s = 0 <;> by_cases h2 : t = 0 <;> by_cases h3 : a = 0
  all_goals
    have e1 : (s == 0) = decide (s = 0) := by simp [BEq.beq]
    have e2 : (t == 0) = decide (t = 0) := by simp [BEq.beq]
    have e3 : (a == 0) = decide (a = 0) := by simp [BEq.beq]
    simp only [h1, h2, h3, decide_true, decide_false] at e1 e2 e3
    have H1 := Lib.hid h1; clear h1
    have H2 := Lib.hid h2; clear h2
    have H3 := Lib.hid h3; clear h3
    go_enter Tryz.func67, Tryz.ntmps67
    go_wp2_with fail
    go_ret
    exact ⟨ret_bool (by simp [H1.out, H2.out, H3.out]), (Below.refl _ _).alloc (Nat.le_refl _) _⟩
theorem set_same {w : World} {a : Addr} {u v : Value} (h : w.cell? a = some u) : (w.setCell a v).cell? a = some v := World.cell?_setCell_same w a v h
theorem drew_heap' (W : World) : W.drew.heap = W.heap := rfl
/-- Two loads, each in a variable of its own. -/
def LoadsAt (N : Nat) (W0 : World) (a b c d : Int) (s t : Value) (W : World) : Prop :=
  ∃ A C, s = .pointer (some ⟨A, 0, none⟩) ∧ t = .pointer (some ⟨C, 0, none⟩) ∧ Hid (Below N W0 W ∧ W.cell? ⟨A, 0, none⟩ = some (.int .i64 a) ∧ W.cell? ⟨A, 1, none⟩ = some (.int .i64 b) ∧ W.cell? ⟨C, 0, none⟩ = some (.int .i64 c) ∧ W.cell? ⟨C, 1, none⟩ = some (.int .i64 d))
set_option maxHeartbeats 4000000 in
set_option maxRecDepth 100000 in
theorem loadsRight_any (p : IP) (a1 a2 a3 a4 : Option Addr) (n1 c1 c2 c3 n4 c4 : Nat) (w : World) (hP : p.P ≤ 4096) (hs : IsStop w a2 p.P p.sa p.sb p.sv p.se p.sl p.px p.py) :
    Calls Tryz.prog 36 #[.agg #[.slice a1 n1 c1, .slice a2 p.P c2, .slice a3 p.R c3, .slice a4 n4 c4]] w fun e w' => e = .returned (.bool p.loadsB) ∧ Below w.heap.size w w' := by
  have hPR : p.P = 2 * p.R + 2 := rfl
  obtain ⟨X, hX⟩ : ∃ X, X = w.heap.size := ⟨_, rfl⟩
  obtain ⟨W0, hW0⟩ : ∃ W0, W0 = w.alloc (.cells #[.slice a1 n1 c1, .slice a2 p.P c2, .slice a3 p.R c3, .slice a4 n4 c4] 28) := ⟨_, rfl⟩
  have hb0 : Below X w W0 := by rw [hX, hW0]; exact (Below.refl _ _).alloc (Nat.le_refl _) _
  have hx0 : W0.heap[X]? = some (.cells #[.slice a1 n1 c1, .slice a2 p.P c2, .slice a3 p.R c3, .slice a4 n4 c4] 28) := by rw [hX, hW0]; exact World.alloc_heap_new w _
  have hz0 : W0.heap.size = X + 1 := by rw [hX, hW0]; simp
  have hs0 : IsStop W0 a2 p.P p.sa p.sb p.sv p.se p.sl p.px p.py := hs.below (by rw [hX] at hb0; exact hb0)
  rcases hs0 with h | ⟨b, off, rfl, hbz, hcell⟩
  · omega
  have hsf : ∀ W, Below (X + 1) W0 W → (W.cell? ⟨X, 0, none⟩ = some (.slice a1 n1 c1) ∧ W.cell? ⟨X, 1, none⟩ = some (.slice (some ⟨b, off, none⟩) p.P c2) ∧ W.cell? ⟨X, 2, none⟩ = some (.slice a3 p.R c3) ∧ W.cell? ⟨X, 3, none⟩ = some (.slice a4 n4 c4)) ∧
      ∀ j, j < p.P → W.cell? ⟨b, off + j * 6, none⟩ = some (.int .i64 (p.sa j)) ∧ W.cell? ⟨b, off + j * 6 + 1, none⟩ = some (.int .i64 (p.sb j)) ∧ W.cell? ⟨b, off + j * 6 + 2, none⟩ = some (.int .i64 (p.sv j)) ∧ W.cell? ⟨b, off + j * 6 + 3, none⟩ = some (.int .i64 (p.se j)) ∧ W.cell? ⟨b, off + j * 6 + 4, none⟩ = some (.int .i64 (p.sl j)) ∧ W.cell? ⟨b, off + j * 6 + 5, none⟩ = some (.complex .f64 (p.px j) (p.py j)) := by
    intro W hb
    have hx := (hb.block X (by omega)).trans hx0
    refine ⟨⟨(own_cell hx).trans rfl, (own_cell hx).trans rfl, (own_cell hx).trans rfl, (own_cell hx).trans rfl⟩, fun j hj => ?_⟩
    have hlt : b < X + 1 := by omega
    obtain ⟨e0, e1, e2, e3, e4, e5⟩ := hcell j hj
    exact ⟨(hb.cell hlt).trans e0, (hb.cell hlt).trans e1, (hb.cell hlt).trans e2, (hb.cell hlt).trans e3, (hb.cell hlt).trans e4, (hb.cell hlt).trans e5⟩
  have HSF := Lib.hid hsf; clear hsf hcell hs
  rw [← hX]
  have HX := Lib.hid hX; clear hX
  have HW := Lib.hid hW0; clear hW0
  have HB0 := Lib.hid hb0; clear hb0
  have HZ0 := Lib.hid hz0; clear hz0
  have HBZ := Lib.hid (show b < X + 1 by rw [← HZ0.out]; exact hbz)
  clear hx0 hbz
  have hlb : p.loadsB = (!anyTo (fun r => !p.loadOk (1 + r)) p.R && (p.idleOk 0 && p.idleOk (p.P - 1))) := rfl
  generalize p.loadsB = lb at *
  have HLB := Lib.hid hlb; clear hlb
  have HPR := Lib.hid hPR; clear hPR
  generalize p.P = P at *
  go_enter Tryz.func36, Tryz.ntmps36
  go_wp2_with fail
  rw [← HW.out, ← HX.out]
  go_loopw [3] (fun i wr => ∃ r : Nat, 1 ≤ r ∧ r ≤ p.R + 1 ∧ i = .int .i64 r ∧ Hid (Below (X + 1) W0 wr) ∧ Hid (anyTo (fun r => !p.loadOk (1 + r)) (r - 1) = false)) (fun i _ => p.R + 1 - (intOf i).toNat)
  case atStart => exact ⟨1, by omega, by omega, rfl, Lib.hid (Below.refl _ _), Lib.hid rfl⟩
  case round =>
    obtain ⟨r, hr1, hr2, rfl, BW, AN⟩ := hrel
    have hrx : r ≤ 5000 := by have := HPR.out; omega
    have hcount := fun w => count_any a1 (some ⟨b, off, none⟩) a3 a4 n1 c1 P c2 p.R c3 n4 c4 w (by have := HPR.out; omega)
    have HCNT := Lib.hid hcount; clear hcount
    have hsr := HSF.out _ BW.out
    obtain ⟨⟨x0, x1, x2, x3⟩, hst⟩ := hsr
    clear hst
    go_wp2_with fail
    refine (HCNT.out _).mono ?_
    rintro e w1 ⟨rfl, hb⟩
    have hb1 : Below (X + 1) W0 w1 := BW.out.trans (hb.mono (by have := BW.out.size; rw [HZ0.out] at this; exact this))
    have B1 := Lib.hid hb1; clear hb1 hb x0 x1 x2 x3
    obtain ⟨⟨x0, x1, x2, x3⟩, hst⟩ := HSF.out _ B1.out
    clear BW
    by_cases hlt : r ≤ p.R
    · have hPR := HPR.out
      obtain ⟨d, hd⟩ : ∃ d, d = p.R + r := ⟨_, rfl⟩
      obtain ⟨y0, y1, -⟩ := hst r (by omega)
      obtain ⟨z0, z1, -⟩ := hst d (by omega)
      clear hst
      have hpk := fun w => pick_any a1 (some ⟨b, off, none⟩) a3 a4 n1 c1 P c2 p.R c3 n4 c4 w r (by omega) hr1 hlt
      have hdr := fun w => drop_any a1 (some ⟨b, off, none⟩) a3 a4 n1 c1 P c2 p.R c3 n4 c4 w r (by omega) hr1 hlt
      rw [← hd] at hdr
      have HPK := Lib.hid hpk; clear hpk
      have HDR := Lib.hid hdr; clear hdr
      have i0 : (0 : Int) ≤ (r : Int) := by omega
      have i1 : (r : Int) < (P : Int) := by omega
      have i2 : (0 : Int) ≤ (d : Int) := by omega
      have i3 : (d : Int) < (P : Int) := by omega
      have HD := Lib.hid hd; clear hd
      clear hPR
      go_upto_region 4 with fail
      go_cut [4, 5] (fun s4 s5 wx => LoadsAt (X + 1) W0 (p.sa r) (p.sb r) (p.sa d) (p.sb d) s4 s5 wx)
      case first =>
        generalize p.sa r = e1 at *
        generalize p.sb r = e2 at *
        generalize p.sa d = e3 at *
        generalize p.sb d = e4 at *
        have hz1 : X + 1 ≤ w1.heap.size := by have := B1.out.size; rw [HZ0.out] at this; exact this
        have hcells : ∀ W, Below (X + 1) w1 W → (W.cell? ⟨X, 0, none⟩ = some (.slice a1 n1 c1) ∧ W.cell? ⟨X, 1, none⟩ = some (.slice (some ⟨b, off, none⟩) P c2) ∧ W.cell? ⟨X, 2, none⟩ = some (.slice a3 p.R c3) ∧ W.cell? ⟨X, 3, none⟩ = some (.slice a4 n4 c4)) ∧ (W.cell? ⟨b, off + r * 6, none⟩ = some (.int .i64 e1) ∧ W.cell? ⟨b, off + r * 6 + 1, none⟩ = some (.int .i64 e2)) ∧ W.cell? ⟨b, off + d * 6, none⟩ = some (.int .i64 e3) ∧ W.cell? ⟨b, off + d * 6 + 1, none⟩ = some (.int .i64 e4) :=
          fun W hb => ⟨⟨(hb.cell (p := ⟨X, 0, none⟩) (Nat.lt_succ_self X)).trans x0, (hb.cell (p := ⟨X, 1, none⟩) (Nat.lt_succ_self X)).trans x1, (hb.cell (p := ⟨X, 2, none⟩) (Nat.lt_succ_self X)).trans x2, (hb.cell (p := ⟨X, 3, none⟩) (Nat.lt_succ_self X)).trans x3⟩, ⟨(hb.cell HBZ.out).trans y0, (hb.cell HBZ.out).trans y1⟩, (hb.cell HBZ.out).trans z0, (hb.cell HBZ.out).trans z1⟩
        have HCS := Lib.hid hcells; clear hcells
        have HZ1 := Lib.hid hz1; clear hz1
        go_region_held3 (fun w' => (w'.cell? ⟨X, 0, none⟩ = some (.slice a1 n1 c1) ∧ w'.cell? ⟨X, 1, none⟩ = some (.slice (some ⟨b, off, none⟩) P c2) ∧ w'.cell? ⟨X, 2, none⟩ = some (.slice a3 p.R c3) ∧ w'.cell? ⟨X, 3, none⟩ = some (.slice a4 n4 c4)) ∧ (w'.cell? ⟨b, off + r * 6, none⟩ = some (.int .i64 e1) ∧ w'.cell? ⟨b, off + r * 6 + 1, none⟩ = some (.int .i64 e2)) ∧ w'.cell? ⟨b, off + d * 6, none⟩ = some (.int .i64 e3) ∧ w'.cell? ⟨b, off + d * 6 + 1, none⟩ = some (.int .i64 e4))
          (exact HCS.out _ (by repeat (first | (with_reducible exact HD3.out) | (with_reducible exact HP3.out) | (with_reducible exact Below.refl _ _) | (with_reducible refine Below.drew ?_) | (with_reducible refine Below.setCell ?_ (by first | (have := HDZ.out; have := HZ1.out; simp; omega) | (have := HPZ.out; have := HZ1.out; simp; omega) | (have := HZ1.out; simp; omega)) _) | (with_reducible refine Below.alloc ?_ (by first | (have := HDZ.out; simp; omega) | (have := HPZ.out; simp; omega) | (have := HZ1.out; simp; omega)) _))))
          (first
            | (go_at_call 64; refine (HPK.out _).mono ?_; rintro e w3 ⟨rfl, hb⟩; have HP3 : Hid (Below (X + 1) w1 w3) := Lib.hid (Below.trans (by repeat (first | (with_reducible exact Below.refl _ _) | (with_reducible refine Below.drew ?_) | (with_reducible refine Below.alloc ?_ (by have := HZ1.out; simp; omega) _))) (hb.mono (by have := HZ1.out; simp; omega))); have HPZ := Lib.hid (Nat.le_trans HZ1.out HP3.out.size); obtain ⟨hc3, hf3⟩ := Load.bcell hb; have hz3 := hb.size; (try simp only [drew_heap', World.size_alloc] at hc3 hf3 hz3); (try have hy3 : w1.heap.size < w3.heap.size := by omega); (try have hx3 : w1.heap.size + 1 < w3.heap.size := by omega); clear hb)
            | (go_at_call 65; refine (HDR.out _).mono ?_; rintro e w4 ⟨rfl, hb⟩; have HD3 : Hid (Below (X + 1) w1 w4) := Lib.hid (Below.trans (by repeat (first | (with_reducible exact HP3.out) | (with_reducible refine Below.drew ?_) | (with_reducible refine Below.alloc ?_ (by have := HPZ.out; simp; omega) _))) (hb.mono (by have := HPZ.out; simp; omega))); have HDZ := Lib.hid (Nat.le_trans HZ1.out HD3.out.size); obtain ⟨hc4, hf4⟩ := Load.bcell hb; have hz4 := hb.size; (try simp only [World.size_alloc] at hc4 hf4 hz4); (try have hy4 : w1.heap.size < w4.heap.size := by omega); (try have hx4 : w1.heap.size + 1 < w4.heap.size := by omega); (try have hv4 : w3.heap.size < w4.heap.size := by omega); (try have hu4 : w3.heap.size + 1 < w4.heap.size := by omega); clear hb))
        all_goals
          clear x0 x1 x2 x3 y0 y1 z0 z1
          go_wp2_with fail
          go_meet
          refine ⟨_, _, rfl, rfl, Lib.hid ⟨B1.out.trans (by repeat (first | (with_reducible exact HD3.out) | (with_reducible exact HP3.out) | (with_reducible exact Below.refl _ _) | (with_reducible refine Below.drew ?_) | (with_reducible refine Below.setCell ?_ (by first | (have := HDZ.out; have := HPZ.out; have := HZ1.out; simp; omega) | (have := HPZ.out; have := HZ1.out; simp; omega) | (have := HZ1.out; simp; omega)) _) | (with_reducible refine Below.alloc ?_ (by first | (have := HDZ.out; simp; omega) | (have := HPZ.out; simp; omega) | (have := HZ1.out; simp; omega)) _))), ?_, ?_, ?_, ?_⟩⟩
          all_goals (clear HCS HSF HB0 HPK HDR HCNT; first | (go_simp; done) | (go_simp; refine set_same (u := .int .i64 0) ?_; go_simp; done))
      case rest =>
        obtain ⟨A, C, rfl, rfl, HL⟩ := hcut
        obtain ⟨hbc, g0, g1, g2, g3⟩ := HL.out
        have hA : A < wc.heap.size := World.block_lt_of_cell? _ _ g0
        have hC : C < wc.heap.size := World.block_lt_of_cell? _ _ g2
        have hfk : ∀ W, Below wc.heap.size wc W → (W.cell? ⟨A, 0, none⟩ = some (.int .i64 (p.sa r)) ∧ W.cell? ⟨A, 1, none⟩ = some (.int .i64 (p.sb r))) ∧ W.cell? ⟨C, 0, none⟩ = some (.int .i64 (p.sa d)) ∧ W.cell? ⟨C, 1, none⟩ = some (.int .i64 (p.sb d)) :=
          fun W hb => ⟨⟨(hb.cell hA).trans g0, (hb.cell hA).trans g1⟩, (hb.cell hC).trans g2, (hb.cell hC).trans g3⟩
        have HFK := Lib.hid hfk; clear hfk HL hA hC
        have HBC := Lib.hid hbc; clear hbc
        have hright := fun w => Load.right_any (p.sa r) (p.sb r) w
        have hneg := fun w => Load.neg_any (p.sa r) (p.sb r) w
        have hok : p.loadOk r = (Load.rightL (p.sa r) (p.sb r) && (decide (p.sa d = -p.sa r) && decide (p.sb d = -p.sb r))) := by rw [HD.out]; rfl
        have b1 := sa_bd p r
        have b2 := sb_bd p r
        have b3 := sa_bd p d
        have b4 := sb_bd p d
        have hnv : Load.negV (p.sa r) (p.sb r) (p.sa r) = -p.sa r ∧ Load.negV (p.sa r) (p.sb r) (p.sb r) = -p.sb r := by
          have hm : Load.mayL (p.sa r) (p.sb r) = true := by unfold Load.mayL Load.mayP Load.btw; simp; omega
          unfold Load.negV
          rw [hm]
          exact ⟨rfl, rfl⟩
        rw [hnv.1, hnv.2] at hneg
        generalize p.sa r = e1 at *
        generalize p.sb r = e2 at *
        generalize p.sa d = e3 at *
        generalize p.sb d = e4 at *
        generalize Load.rightL e1 e2 = rb at *
        obtain ⟨b11, b12⟩ := b1
        obtain ⟨b21, b22⟩ := b2
        obtain ⟨b31, b32⟩ := b3
        obtain ⟨b41, b42⟩ := b4
        have HRT := Lib.hid hright; clear hright
        have HNG := Lib.hid hneg; clear hneg
        have HOK := Lib.hid hok; clear hok hnv
        clear HPK HDR x0 x1 x2 x3 y0 y1 z0 z1 i0 i1 i2 i3
        have hno : p.loadOk r = false → lb = false := by
          intro h
          rw [HLB.out]
          have : anyTo (fun r => !p.loadOk (1 + r)) p.R = true := anyTo_iff.2 ⟨r - 1, by omega, by rw [show 1 + (r - 1) = r by omega, h]; rfl⟩
          rw [this]; rfl
        have HNO := Lib.hid hno; clear hno
        have hBn : Below (X + 1) W0 wc := HBC.out
        have hzc : X + 1 ≤ wc.heap.size := by have := HBC.out.size; rw [HZ0.out] at this; exact this
        have HZC := Lib.hid hzc; clear hzc hBn
        cases hrb : rb with
        | false =>
          have hlb0 := HNO.out (by rw [HOK.out, hrb]; rfl)
          subst hlb0
          rw [hrb] at HRT
          clear HOK hrb HNO HNG
          obtain ⟨⟨q0, q1⟩, q2, q3⟩ := HFK.out wc (Below.refl _ _)
          go_wp2_with fail
          (skip; (go_region_with (first | (go_at_call 61; refine (HRT.out _).mono ?_; rintro e w5 ⟨rfl, hb⟩; have HB5 : Hid (Below wc.heap.size wc w5) := Lib.hid ((Below.refl wc.heap.size wc).drew.trans hb); clear hb))))
          all_goals
            clear q0 q1 q2 q3
            go_wp2_with fail
            go_ret
            exact ⟨rfl, HB0.out.trans ((HBC.out.trans (HB5.out.mono HZC.out)).mono (by omega))⟩
        | true =>
          rw [hrb] at HRT HOK
          clear hrb
          obtain ⟨⟨q0, q1⟩, q2, q3⟩ := HFK.out wc (Below.refl _ _)
          by_cases hall : e3 = -e1 ∧ e4 = -e2
          · have hok := HOK.out
            rw [decide_eq_true hall.1, decide_eq_true hall.2] at hok
            have HOK1 := Lib.hid hok; clear hok HOK HNO
            have m1 : (e3 == -e1) = true := by simp [hall.1]
            have m2 : (e4 == -e2) = true := by simp [hall.2]
            have HALL := Lib.hid hall; clear hall
            go_wp2_with fail
            (skip; (go_region_with (first | (go_at_call 61; refine (HRT.out _).mono ?_; rintro e w5 ⟨rfl, hb⟩; have HB5 : Hid (Below wc.heap.size wc w5) := Lib.hid ((Below.refl wc.heap.size wc).drew.trans hb); clear hb; have k5 := (HFK.out w5 HB5.out).1.1; have k51 := (HFK.out w5 HB5.out).1.2; have k52 := (HFK.out w5 HB5.out).2.1; have k53 := (HFK.out w5 HB5.out).2.2) | (go_at_call 66; refine (HNG.out _).mono ?_; rintro e w6 ⟨rfl, hb⟩; have HB6 : Hid (Below wc.heap.size wc w6) := Lib.hid (HB5.out.trans (hb.mono HB5.out.size)); clear hb; have k6 := (HFK.out w6 HB6.out).1.1; have k61 := (HFK.out w6 HB6.out).1.2; have k62 := (HFK.out w6 HB6.out).2.1; have k63 := (HFK.out w6 HB6.out).2.2))))
            all_goals
              clear q0 q1 q2 q3 k5 k51 k52 k53 k6 k61 k62 k63
              go_wp2_with fail
              go_roundw
              case rel => exact ⟨r + 1, by omega, by omega, by go_num, Lib.hid (HBC.out.trans (HB6.out.mono HZC.out)), Lib.hid (by rw [show r + 1 - 1 = (r - 1) + 1 by omega]; unfold anyTo; rw [AN.out, show 1 + (r - 1) = r by omega, HOK1.out]; rfl)⟩
              case measure => simp [intOf]; omega
          · have hlb0 := HNO.out (by rw [HOK.out]; simp only [Bool.true_and]; rw [← Bool.decide_and]; exact decide_eq_false hall)
            subst hlb0
            clear HOK HNO
            rcases (show (e3 == -e1) = false ∨ ((e3 == -e1) = true ∧ (e4 == -e2) = false) by
              by_cases h : e3 = -e1
              · exact .inr ⟨by simp [h], by simpa using fun h' => hall ⟨h, h'⟩⟩
              · exact .inl (by simpa using h)) with m1 | ⟨m1, m2⟩
            all_goals
              have HALL := Lib.hid hall; clear hall
              go_wp2_with fail
              (skip; (go_region_with (first | (go_at_call 61; refine (HRT.out _).mono ?_; rintro e w5 ⟨rfl, hb⟩; have HB5 : Hid (Below wc.heap.size wc w5) := Lib.hid ((Below.refl wc.heap.size wc).drew.trans hb); clear hb; have k5 := (HFK.out w5 HB5.out).1.1; have k51 := (HFK.out w5 HB5.out).1.2; have k52 := (HFK.out w5 HB5.out).2.1; have k53 := (HFK.out w5 HB5.out).2.2) | (go_at_call 66; refine (HNG.out _).mono ?_; rintro e w6 ⟨rfl, hb⟩; have HB6 : Hid (Below wc.heap.size wc w6) := Lib.hid (HB5.out.trans (hb.mono HB5.out.size)); clear hb; have k6 := (HFK.out w6 HB6.out).1.1; have k61 := (HFK.out w6 HB6.out).1.2; have k62 := (HFK.out w6 HB6.out).2.1; have k63 := (HFK.out w6 HB6.out).2.2))))
              all_goals
                clear q0 q1 q2 q3 k5 k51 k52 k53 k6 k61 k62 k63
                go_wp2_with fail
                go_ret
                exact ⟨rfl, HB0.out.trans ((HBC.out.trans (HB6.out.mono HZC.out)).mono (by omega))⟩
    · obtain rfl : r = p.R + 1 := by omega
      have hPR := HPR.out
      obtain ⟨m, rfl⟩ : ∃ m, P = m + 1 := ⟨P - 1, by omega⟩
      have i0 := hst 0 (by omega)
      have im := hst m (by omega)
      clear hst hPR hlt
      have hlb := HLB.out
      rw [show p.R + 1 - 1 = p.R by omega] at AN
      rw [AN.out, show m + 1 - 1 = m by omega] at hlb
      clear HLB AN HSF
      have hid0 := fun w => idle_any (p.sa 0) (p.sb 0) (p.sv 0) (p.se 0) (p.sl 0) (p.px 0) (p.py 0) w
      have hidm := fun w => idle_any (p.sa m) (p.sb m) (p.sv m) (p.se m) (p.sl m) (p.px m) (p.py m) w
      change ∀ w, Calls _ _ _ _ (fun e w' => e = .returned (.bool (p.idleOk 0)) ∧ _) at hid0
      change ∀ w, Calls _ _ _ _ (fun e w' => e = .returned (.bool (p.idleOk m)) ∧ _) at hidm
      have HI0 := Lib.hid hid0; clear hid0
      have HIM := Lib.hid hidm; clear hidm
      have HLB := Lib.hid hlb; clear hlb
      obtain ⟨e0, e1, e2, e3, e4, e5⟩ := i0
      obtain ⟨f0, f1, f2, f3, f4, f5⟩ := im
      have hbz := HBZ.out
      have hz1 : X + 1 ≤ w1.heap.size := by have := B1.out.size; rw [HZ0.out] at this; exact this
      have hfk : ∀ W, Below w1.heap.size w1 W → (W.cell? ⟨X, 0, none⟩ = some (.slice a1 n1 c1) ∧ W.cell? ⟨X, 1, none⟩ = some (.slice (some ⟨b, off, none⟩) (m + 1) c2) ∧ W.cell? ⟨X, 2, none⟩ = some (.slice a3 p.R c3) ∧ W.cell? ⟨X, 3, none⟩ = some (.slice a4 n4 c4)) ∧ (W.cell? ⟨b, off + m * 6, none⟩ = some (.int .i64 (p.sa m)) ∧ W.cell? ⟨b, off + m * 6 + 1, none⟩ = some (.int .i64 (p.sb m)) ∧ W.cell? ⟨b, off + m * 6 + 2, none⟩ = some (.int .i64 (p.sv m)) ∧ W.cell? ⟨b, off + m * 6 + 3, none⟩ = some (.int .i64 (p.se m)) ∧ W.cell? ⟨b, off + m * 6 + 4, none⟩ = some (.int .i64 (p.sl m)) ∧ W.cell? ⟨b, off + m * 6 + 5, none⟩ = some (.complex .f64 (p.px m) (p.py m))) :=
        fun W hb => by
          have hX1 : X < w1.heap.size := by omega
          have hb1 : b < w1.heap.size := by omega
          exact ⟨⟨(hb.cell hX1).trans x0, (hb.cell hX1).trans x1, (hb.cell hX1).trans x2, (hb.cell hX1).trans x3⟩, (hb.cell hb1).trans f0, (hb.cell hb1).trans f1, (hb.cell hb1).trans f2, (hb.cell hb1).trans f3, (hb.cell hb1).trans f4, (hb.cell hb1).trans f5⟩
      have HFK := Lib.hid hfk; clear hfk f0 f1 f2 f3 f4 f5 hbz
      have HZ1 := Lib.hid hz1; clear hz1
      simp only [Nat.zero_mul, Nat.add_zero] at e0 e1 e2 e3 e4 e5
      generalize p.idleOk 0 = q0 at *
      generalize p.idleOk m = qm at *
      have hmx : m ≤ 4096 := by omega
      cases q0 with
      | false =>
        go_wp2_with fail
        refine (HI0.out _).mono ?_
        rintro e w2 ⟨rfl, hb2⟩
        have HB2 := Lib.hid hb2; clear hb2
        clear e0 e1 e2 e3 e4 e5 x0 x1 x2 x3
        go_wp2_with fail
        go_ret
        exact ⟨ret_bool (by rw [HLB.out]; rfl), HB0.out.trans ((B1.out.trans (HB2.out.mono HZ1.out)).mono (by omega))⟩
      | true =>
        go_wp2_with fail
        refine (HI0.out _).mono ?_
        rintro e w2 ⟨rfl, hb2⟩
        obtain ⟨⟨y0, y1, y2, y3⟩, f0, f1, f2, f3, f4, f5⟩ := HFK.out w2 hb2
        have HB2 := Lib.hid hb2; clear hb2
        clear e0 e1 e2 e3 e4 e5 x0 x1 x2 x3
        go_wp2_with fail
        refine (HIM.out _).mono ?_
        rintro e w3 ⟨rfl, hb3⟩
        have HB3 := Lib.hid (HB2.out.trans (hb3.mono HB2.out.size)); clear hb3
        clear f0 f1 f2 f3 f4 f5 y0 y1 y2 y3
        go_wp2_with fail
        go_ret
        exact ⟨ret_bool (by rw [HLB.out]; simp), HB0.out.trans ((B1.out.trans (HB3.out.mono HZ1.out)).mono (by omega))⟩
end Sheet
end Go.Proofs.YtjmhlabgoegeoaaGreatDoor
