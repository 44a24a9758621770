/- inst.checkMatrix, Check; over the translated program. -/
import Derived.Test.YtjmhlabgoegeoaaGreatDoorSheetChk2
namespace Go.Proofs.YtjmhlabgoegeoaaGreatDoor
namespace Sheet
open Go Go.RowKit Deci
attribute [local go_sem] store_cx
theorem noTime_below (n : Int) (w : World) : Calls Tryz.prog 33 #[.int .i64 n] w fun e w' => e = .returned (.bool (!timeB n)) ∧ Below w.heap.size w w' :=
  (noTime_any n w).mono fun _ _ h => ⟨h.1, h.2 ▸ Below.refl _ _⟩
theorem uneven_any (a : Option Addr) (n c : Nat) (X : Nat) (a2 : Option Addr) (P c2 : Nat) (w : World) (hX : w.cell? ⟨X, 1, none⟩ = some (.slice a2 P c2)) (hn : n = P) :
    Calls Tryz.prog 68 #[.slice a n c, .pointer (some ⟨X, 0, none⟩)] w fun e w' => e = .returned (.bool false) ∧ Below w.heap.size w w' := by
  subst hn
  go_enter Tryz.func68, Tryz.ntmps68
  go_wp2_with fail
  go_ret
  exact ⟨ret_bool (by simp), Below.refl _ _⟩
set_option maxRecDepth 10000 in
theorem wrong_any (a : Option Addr) (n c : Nat) (x : Nat → Int) (w : World) (h : IsLong w a n x) (hn : n ≤ 5000) :
    Calls Tryz.prog 69 #[.slice a n c] w fun e w' => e = .returned (.bool (anyTo (fun t => !timeB (x t)) n)) ∧ Below w.heap.size w w' := by
  have hc := contains_long a n c x (fun t => !timeB (x t)) 33 #[] w (fun _ _ => rfl) h hn (fun j _ W _ => by rw [Array.append_empty]; exact noTime_below (x j) W)
  have HC := Lib.hid hc; clear hc h
  go_enter Tryz.func69, Tryz.ntmps69
  go_wp2_with fail
  refine HC.out.mono ?_
  rintro e w' ⟨rfl, hb⟩
  have HB := Lib.hid hb; clear hb
  go_wp2_with fail
  go_ret
  exact ⟨rfl, HB.out⟩
set_option maxHeartbeats 2000000 in
set_option maxRecDepth 10000 in
theorem checkMatrix_any (p : IP) (base : Nat) (a1 a2 a3 a4 : Option Addr) (n1 c1 c2 n3 c3 c4 : Nat) (V : Nat → Value) (w : World) (hP : p.P ≤ 4096) (hr : IsRow w a4 p.P V) (hd : ∀ j, j < p.P → DeepAt base p j (V j) w) :
    Calls Tryz.prog 37 #[.agg #[.slice a1 n1 c1, .slice a2 p.P c2, .slice a3 n3 c3, .slice a4 p.P c4]] w fun e w' => e = .returned (.int .i64 (if anyTo (fun i => !p.rowOk i) p.P then 23 else 0)) ∧ Below w.heap.size w w' := by
  obtain ⟨X, hX⟩ : ∃ X, X = w.heap.size := ⟨_, rfl⟩
  obtain ⟨W0, hW0⟩ : ∃ W0, W0 = w.alloc (.cells #[.slice a1 n1 c1, .slice a2 p.P c2, .slice a3 n3 c3, .slice a4 p.P c4] 28) := ⟨_, rfl⟩
  have hb0 : Below X w W0 := by rw [hX, hW0]; exact (Below.refl _ _).alloc (Nat.le_refl _) _
  have hx0 : W0.heap[X]? = some (.cells #[.slice a1 n1 c1, .slice a2 p.P c2, .slice a3 n3 c3, .slice a4 p.P c4] 28) := by rw [hX, hW0]; exact World.alloc_heap_new w _
  have hz0 : W0.heap.size = X + 1 := by rw [hX, hW0]; simp
  have hr0 : IsRow W0 a4 p.P V := hr.below (by rw [hX] at hb0; exact hb0)
  have hd0 : ∀ j, j < p.P → DeepAt base p j (V j) W0 := fun j hj => (hd j hj).below (by rw [hX] at hb0; exact hb0)
  have hxk : ∀ W, Below W0.heap.size W0 W → W.cell? ⟨X, 1, none⟩ = some (.slice a2 p.P c2) := fun W hb => (hb.cell (by rw [hz0]; exact Nat.lt_succ_self X)).trans ((own_cell hx0).trans rfl)
  have k1 := fun W (hb : Below W0.heap.size W0 W) => contains_row a4 p.P c4 V (fun _ => false) 68 #[.pointer (some ⟨X, 0, none⟩)] W (fun _ _ => rfl) (hr0.below hb) (by omega) (fun j hj W' hW' => by
    obtain ⟨g, cap, hv, -⟩ := isLong_of (hd0 j hj)
    rw [hv]
    exact uneven_any _ p.P cap X a2 p.P c2 W' (hxk W' (hb.trans (hW'.mono hb.size))) rfl)
  have k2 := fun W (hb : Below W0.heap.size W0 W) => contains_row a4 p.P c4 V (fun i => !p.rowOk i) 69 #[] W (fun _ _ => rfl) (hr0.below hb) (by omega) (fun j hj W' hW' => by
    obtain ⟨g, cap, hv, -, hl⟩ := isLong_of ((hd0 j hj).below (hb.trans (hW'.mono hb.size)))
    rw [hv]
    have h := wrong_any _ p.P cap _ W' hl (by omega)
    have e : anyTo (fun t => !timeB (p.rowV j t)) p.P = !p.rowOk j := by unfold IP.rowOk; rw [Bool.not_not]
    rw [e] at h
    rw [Array.append_empty]
    exact h)
  rw [show anyTo (fun _ => false) p.P = false from anyTo_false.2 fun _ _ => rfl] at k1
  have x1 : W0.cell? ⟨X, 1, none⟩ = some (.slice a2 p.P c2) := (own_cell hx0).trans rfl
  have x3 : W0.cell? ⟨X, 3, none⟩ = some (.slice a4 p.P c4) := (own_cell hx0).trans rfl
  have hx3k : ∀ W, Below W0.heap.size W0 W → W.cell? ⟨X, 3, none⟩ = some (.slice a4 p.P c4) := fun W hb => (hb.cell (by rw [hz0]; exact Nat.lt_succ_self X)).trans x3
  have HK1 := Lib.hid k1; clear k1
  have HK2 := Lib.hid k2; clear k2
  have HX3 := Lib.hid hx3k; clear hx3k hxk hr hd hr0 hd0 hx0
  rw [← hX]
  have HX := Lib.hid hX; clear hX
  have HW := Lib.hid hW0; clear hW0
  have HB0 := Lib.hid hb0; clear hb0
  have HZ0 := Lib.hid hz0; clear hz0
  have hmf : ∀ (fn : Fn) (first cap : Array Value) (w : World), (Instr.makeFunc fn first cap).run Tryz.prog w = .ok (.func fn first cap) w := fun _ _ _ _ => rfl
  generalize anyTo (fun i => !p.rowOk i) p.P = an at *
  generalize p.P = P at *
  go_enter Tryz.func37, Tryz.ntmps37
  go_wp2_with fail
  rw [← HX.out, ← HW.out]
  refine (HK1.out _ (Below.refl _ _)).mono ?_
  rintro e w1 ⟨rfl, hb1⟩
  have y3 := HX3.out w1 hb1
  have HK2' := Lib.hid (HK2.out w1 hb1)
  have hz1 : X ≤ w1.heap.size := by have := hb1.size; rw [HZ0.out] at this; omega
  have HZ1 := Lib.hid hz1; clear hz1
  have HB1 := Lib.hid (HB0.out.trans (hb1.mono (by rw [HZ0.out]; omega))); clear hb1
  clear x1 x3
  go_wp2_with fail
  refine HK2'.out.mono ?_
  rintro e w2 ⟨rfl, hb2⟩
  have HB2 := Lib.hid (HB1.out.trans (hb2.mono (by have := HZ1.out; omega))); clear hb2
  clear y3
  cases an with
  | false =>
    go_wp2_with fail
    go_ret
    exact ⟨rfl, HB2.out⟩
  | true =>
    go_wp2_with fail
    go_ret
    exact ⟨rfl, HB2.out⟩
theorem spot_ok (p : IP) (hT : p.T = false) (j : Nat) : ∃ x y, Fl.Sp (p.px j) (p.py j) x y ∧ Spot.Near x ∧ Spot.Near y := by
  unfold IP.px IP.py
  simp only [hT, Bool.false_eq_true, if_false]
  have n1 : Spot.Near (stopS p.L (1 + p.C + j) 0 16777216) := smallV_near _ _ (by decide)
  have n2 : Spot.Near (stopS p.L (1 + p.C + j) 1 16777216) := smallV_near _ _ (by decide)
  exact ⟨_, _, ⟨Spot.isz_wd n1, Spot.isz_wd n2⟩, n1, n2⟩
set_option maxHeartbeats 4000000 in
set_option maxRecDepth 100000 in
theorem check_any (p : IP) (hok : p.Ok) (base : Nat) (v : Value) (w : World) (h : InstAt base p v w) :
    Calls Tryz.prog 15 #[v] w fun e w' => e = .returned (.int .i64 p.chk) ∧ Below w.heap.size w w' := by
  obtain ⟨vc, vs, vr, vm, V, rfl, h⟩ := h
  obtain ⟨a1, c1, rfl, hc⟩ := isCar_of h.cars
  obtain ⟨a2, c2, rfl, hs⟩ := isStop_of h.stops
  obtain ⟨a3, c3, rfl, hr⟩ := isRide_of h.rides
  obtain ⟨a4, c4, rfl, hm⟩ := isRow_of h.rows
  have hd := h.deep
  obtain ⟨hC1, hC2, hP⟩ := hok
  have hPR : p.P = 2 * p.R + 2 := rfl
  have hR : p.R ≤ 2048 := by omega
  clear h
  obtain ⟨X, hX⟩ : ∃ X, X = w.heap.size := ⟨_, rfl⟩
  obtain ⟨W0, hW0⟩ : ∃ W0, W0 = w.alloc (.cells #[.slice a1 p.C c1, .slice a2 p.P c2, .slice a3 p.R c3, .slice a4 p.more c4] 28) := ⟨_, rfl⟩
  have hb0 : Below X w W0 := by rw [hX, hW0]; exact (Below.refl _ _).alloc (Nat.le_refl _) _
  have hx0 : W0.heap[X]? = some (.cells #[.slice a1 p.C c1, .slice a2 p.P c2, .slice a3 p.R c3, .slice a4 p.more c4] 28) := by rw [hX, hW0]; exact World.alloc_heap_new w _
  have hz0 : W0.heap.size = X + 1 := by rw [hX, hW0]; simp
  have hb0' : Below w.heap.size w W0 := by rw [hX] at hb0; exact hb0
  have hxk : ∀ W, Below W0.heap.size W0 W → W.cell? ⟨X, 0, none⟩ = some (.slice a1 p.C c1) ∧ W.cell? ⟨X, 1, none⟩ = some (.slice a2 p.P c2) ∧ W.cell? ⟨X, 2, none⟩ = some (.slice a3 p.R c3) ∧ W.cell? ⟨X, 3, none⟩ = some (.slice a4 p.more c4) := fun W hb => by
    have hx := (hb.block X (by omega)).trans hx0
    exact ⟨(own_cell hx).trans rfl, (own_cell hx).trans rfl, (own_cell hx).trans rfl, (own_cell hx).trans rfl⟩
  have k1 := fun W (hb : Below W0.heap.size W0 W) => contains_car a1 p.C c1 p.ca p.cb p.cm (fun j => !p.carOk j) 31 #[] W (fun _ _ => rfl) ((hc.below hb0').below hb) (by omega) (fun j _ W' _ => by rw [Array.append_empty]; exact wrongCar_any _ _ _ W')
  have k2 := fun W (hb : Below W0.heap.size W0 W) => contains_long a3 p.R c3 p.rd (fun j => !p.rideOk j) 33 #[] W (fun _ _ => rfl) ((hr.below hb0').below hb) (by omega) (fun j _ W' _ => by rw [Array.append_empty]; exact noTime_below _ W')
  have k3 := fun W (hb : Below W0.heap.size W0 W) => contains_stop a2 p.P c2 p.sa p.sb p.sv p.se p.sl p.px p.py (fun j => !p.timeOk j) 35 #[] W (fun _ _ => rfl) ((hs.below hb0').below hb) (by omega) (fun j _ W' _ => by rw [Array.append_empty]; exact wrongTimes_any _ _ _ _ _ _ _ W')
  have k4 := fun W (hb : Below W0.heap.size W0 W) => loadsRight_any p a1 a2 a3 a4 p.C c1 c2 c3 p.more c4 W hP ((hs.below hb0').below hb)
  have k5 : p.T = true → ∀ W, Below W0.heap.size W0 W → Calls Tryz.prog 37 #[.agg #[.slice a1 p.C c1, .slice a2 p.P c2, .slice a3 p.R c3, .slice a4 p.more c4]] W fun e w' => e = .returned (.int .i64 (if anyTo (fun i => !p.rowOk i) p.more then 23 else 0)) ∧ Below W.heap.size W w' := fun hT W hb => by
    have hmo : p.more = p.P := by unfold IP.more; rw [if_pos hT]
    rw [hmo] at hm hd ⊢
    exact checkMatrix_any p base a1 a2 a3 a4 p.C c1 c2 p.R c3 c4 V W hP ((hm.below hb0').below hb) (fun j hj => ((hd j hj).below hb0').below hb)
  have k6 : p.T = false → ∀ W, Below W0.heap.size W0 W → _ := fun hT W hb => contains_stop a2 p.P c2 p.sa p.sb p.sv p.se p.sl p.px p.py (fun _ => false) 38 #[] W (fun _ _ => rfl) ((hs.below hb0').below hb) (by omega) (fun j _ W' _ => by
    obtain ⟨x, y, h1, h2, h3⟩ := spot_ok p hT j
    rw [Array.append_empty]; exact nowhere_any _ _ _ _ _ _ _ x y W' h1 h2 h3)
  rw [show anyTo (fun _ => false) p.P = false from anyTo_false.2 fun _ _ => rfl] at k6
  have k7 := fun W => count_any a1 a2 a3 a4 p.C c1 p.P c2 p.R c3 p.more c4 W (by omega)
  have hchk : p.chk = if anyTo (fun j => !p.carOk j) p.C || (anyTo (fun j => !p.rideOk j) p.R || anyTo (fun j => !p.timeOk j) p.P) then 23 else if p.loadsB = false then 33 else if anyTo (fun i => !p.rowOk i) p.more then 23 else 0 := rfl
  have hmore : (p.T = true → p.more = p.P) ∧ (p.T = false → p.more = 0) := by unfold IP.more; exact ⟨fun h => if_pos h, fun h => if_neg (by simp [h])⟩
  generalize anyTo (fun j => !p.carOk j) p.C = x1 at *
  generalize anyTo (fun j => !p.rideOk j) p.R = x2 at *
  generalize anyTo (fun j => !p.timeOk j) p.P = x3 at *
  generalize hx4 : anyTo (fun i => !p.rowOk i) p.more = x4 at *
  generalize p.loadsB = x5 at *
  generalize p.chk = ck at *
  have HX4 := Lib.hid hx4; clear hx4
  have HCK := Lib.hid hchk; clear hchk
  have K1 := Lib.hid k1; clear k1
  have K2 := Lib.hid k2; clear k2
  have K3 := Lib.hid k3; clear k3
  have K4 := Lib.hid k4; clear k4
  have K5 := Lib.hid k5; clear k5
  have K6 := Lib.hid k6; clear k6
  have K7 := Lib.hid k7; clear k7
  have HMO := Lib.hid hmore; clear hmore
  have HXK := Lib.hid hxk; clear hxk
  clear hc hs hr hm hd hx0 hb0'
  rw [← hX]
  have HX := Lib.hid hX; clear hX
  have HW := Lib.hid hW0; clear hW0
  have HB0 := Lib.hid hb0; clear hb0
  have HZ0 := Lib.hid hz0; clear hz0
  generalize hTT : p.T = T at *
  have HTT := Lib.hid hTT; clear hTT
  generalize p.more = mo at *
  generalize p.P = P at *
  generalize p.C = C at *
  generalize p.R = R at *
  have d1 : decide ((64 : Int) < (C : Int)) = false := by simp; omega
  have d2 : decide (64 < C) = false := by simp; omega
  have d3 : decide ((4096 : Int) < (P : Int)) = false := by simp; omega
  have d4 : decide (4096 < P) = false := by simp; omega
  have d5 : ((P : Int) != 2 * (R : Int) + 2) = false := by simp; omega
  have d6 : decide ((P : Int) = 2 * (R : Int) + 2) = true := by simp; omega
  have d7 : ((P : Int) == 2 * (R : Int) + 2) = true := by simp; omega
  have w1 : IntKind.i64.wrap (2 * (R : Int)) = 2 * (R : Int) := by unfold IntKind.wrap; simp [IntKind.signed, IntKind.bits]; omega
  have w2 : IntKind.i64.wrap (2 * (R : Int) + 2) = 2 * (R : Int) + 2 := by unfold IntKind.wrap; simp [IntKind.signed, IntKind.bits]; omega
  have d8 : ((P : Int) != IntKind.i64.wrap (IntKind.i64.wrap (2 * (R : Int)) + 2)) = false := by rw [w1, w2]; exact d5
  clear w1 w2
  have HPR := Lib.hid hPR; clear hPR
  go_enter Tryz.func15, Tryz.ntmps15
  go_wp2_with fail
  rw [← HX.out, ← HW.out]
  obtain ⟨q0, q1, q2, q3⟩ := HXK.out W0 (Below.refl _ _)
  go_region_with (first | (go_at_call 29; refine (K7.out _).mono ?_; rintro e w1 ⟨rfl, hb⟩; have B1 : Hid (Below W0.heap.size W0 w1) := Lib.hid ((Below.refl W0.heap.size W0).drew.trans hb); clear hb; have r0 := (HXK.out w1 B1.out).1; have r1 := (HXK.out w1 B1.out).2.1; have r2 := (HXK.out w1 B1.out).2.2.1; have r3 := (HXK.out w1 B1.out).2.2.2))
  all_goals
    clear q0 q1 q2 q3
    go_wp2_with fail
    clear d1 d2 d3 d4 d5 d6 d7 d8
    refine (K1.out w1 B1.out).mono ?_
    rintro e w2 ⟨rfl, hb⟩
    have B2 := Lib.hid (B1.out.trans (hb.mono B1.out.size)); clear hb
    clear r0 r1 r2 r3
    cases x1 with
    | true =>
      have hck : ck = 23 := by rw [HCK.out]; first | rfl | simp
      subst hck
      go_wp2_with fail
      go_ret
      exact ⟨rfl, HB0.out.trans (B2.out.mono (by rw [HZ0.out]; omega))⟩
    | false =>
      obtain ⟨s0, s1, s2, s3⟩ := HXK.out w2 B2.out
      go_wp2_with fail
      refine (K2.out w2 B2.out).mono ?_
      rintro e w3 ⟨rfl, hb⟩
      have B3 := Lib.hid (B2.out.trans (hb.mono B2.out.size)); clear hb
      clear s0 s1 s2 s3
      cases x2 with
      | true =>
        have hck : ck = 23 := by rw [HCK.out]; first | rfl | simp
        subst hck
        go_wp2_with fail
        go_ret
        exact ⟨rfl, HB0.out.trans (B3.out.mono (by rw [HZ0.out]; omega))⟩
      | false =>
        obtain ⟨s0, s1, s2, s3⟩ := HXK.out w3 B3.out
        go_wp2_with fail
        refine (K3.out w3 B3.out).mono ?_
        rintro e w4 ⟨rfl, hb⟩
        have B4 := Lib.hid (B3.out.trans (hb.mono B3.out.size)); clear hb
        clear s0 s1 s2 s3
        cases x3 with
        | true =>
          have hck : ck = 23 := by rw [HCK.out]; first | rfl | simp
          subst hck
          go_wp2_with fail
          go_ret
          exact ⟨rfl, HB0.out.trans (B4.out.mono (by rw [HZ0.out]; omega))⟩
        | false =>
          obtain ⟨s0, s1, s2, s3⟩ := HXK.out w4 B4.out
          go_wp2_with fail
          refine (K4.out w4 B4.out).mono ?_
          rintro e w5 ⟨rfl, hb⟩
          have B5 := Lib.hid (B4.out.trans (hb.mono B4.out.size)); clear hb
          clear s0 s1 s2 s3
          cases x5 with
          | false =>
            have hck : ck = 33 := by rw [HCK.out]; first | rfl | simp
            subst hck
            go_wp2_with fail
            go_ret
            exact ⟨rfl, HB0.out.trans (B5.out.mono (by rw [HZ0.out]; omega))⟩
          | true =>
            obtain ⟨s0, s1, s2, s3⟩ := HXK.out w5 B5.out
            cases T with
            | true =>
              have hmo := HMO.out.1 rfl
              have hmo0 : decide ((0 : Int) < (mo : Int)) = true := by have := HPR.out; simp; omega
              have hmo1 : decide (0 < mo) = true := by have := HPR.out; simp; omega
              have HM1 := Lib.hid hmo; clear hmo
              go_wp2_with fail
              refine (K5.out (by first | trivial | rfl) w5 B5.out).mono ?_
              rintro e w6 ⟨rfl, hb⟩
              have B6 := Lib.hid (B5.out.trans (hb.mono B5.out.size)); clear hb
              clear s0 s1 s2 s3
              have hck : ck = (if x4 = true then 23 else 0) := by rw [HCK.out]; rfl
              generalize (if x4 = true then (23 : Int) else 0) = z at *
              subst hck
              go_wp2_with fail
              go_ret
              exact ⟨rfl, HB0.out.trans (B6.out.mono (by rw [HZ0.out]; omega))⟩
            | false =>
              have hmo := HMO.out.2 rfl
              have hx40 := HX4.out
              subst hmo
              have hx4f : x4 = false := by rw [← hx40]; rfl
              subst hx4f
              have HX40 := Lib.hid hx40; clear hx40
              go_wp2_with fail
              refine (K6.out (by first | trivial | rfl) w5 B5.out).mono ?_
              rintro e w6 ⟨rfl, hb⟩
              have B6 := Lib.hid (B5.out.trans (hb.mono B5.out.size)); clear hb
              clear s0 s1 s2 s3
              have hck : ck = 0 := by rw [HCK.out]; first | rfl | simp
              subst hck
              go_wp2_with fail
              go_ret
              exact ⟨rfl, HB0.out.trans (B6.out.mono (by rw [HZ0.out]; omega))⟩
end Sheet
end Go.Proofs.YtjmhlabgoegeoaaGreatDoor
