/- jitneyref01.SameLongs, jitneyref05.Same of two instances that hold the same; over the translated program. -/
import Derived.Test.YtjmhlabgoegeoaaGreatDoorSheetChk
import Derived.Deep.QuietTactic
import Derived.BigQuiet
import Derived.Deep.RegionHeld3
namespace Go.Proofs.YtjmhlabgoegeoaaGreatDoor
namespace Sheet
open Go Go.RowKit Deci
attribute [local go_sem] store_cx
set_option maxHeartbeats 1000000 in
theorem sameLongs_any (a1 a2 : Option Addr) (n c1 c2 : Nat) (x : Nat → Int) (w : World) (hn : n ≤ 5000) (h1 : IsLong w a1 n x) (h2 : IsLong w a2 n x) :
    Calls Tryz.prog 14 #[.slice a1 n c1, .slice a2 n c2] w fun e w' => e = .returned (.bool true) ∧ ∃ m, w' = w.drewN m := by
  have H1 := Lib.hid h1; clear h1
  have H2 := Lib.hid h2; clear h2
  go_enter Tryz.func14, Tryz.ntmps14
  go_wp2_with fail
  go_loopw [5] (fun i wr => ∃ k : Nat, k ≤ n ∧ i = .int .i64 k ∧ Hid (∃ q, wr = w.drewN q)) (fun i _ => n - (intOf i).toNat)
  case atStart => exact ⟨0, Nat.zero_le _, rfl, Lib.hid ⟨0, rfl⟩⟩
  case round =>
    obtain ⟨k, hk, rfl, HD⟩ := hrel
    obtain ⟨qq, rfl⟩ := HD.out; clear HD
    by_cases hlt : k < n
    · rcases H1.out with h | ⟨b1, o1, rfl, hb1, hc1⟩
      · omega
      · rcases H2.out with h | ⟨b2, o2, rfl, hb2, hc2⟩
        · omega
        · have d1 := hc1 k hlt
          have d2 := hc2 k hlt
          have i0 : (0 : Int) ≤ (k : Int) := by omega
          have i1 : (k : Int) < (n : Int) := by omega
          clear hc1 hc2
          generalize x k = xk at *
          go_wp2_with fail
          go_quiet (fail)
          clear i0 i1
          go_wp2_with fail
          go_roundw
          case rel => exact ⟨k + 1, by omega, by go_num, Lib.hid ⟨_, rfl⟩⟩
          case measure => simp [intOf]; omega
    · obtain rfl : k = n := by omega
      go_wp2_with fail
      go_ret
      exact ⟨rfl, qq, rfl⟩
theorem spot_all (p : IP) (j : Nat) : ∃ x y, Fl.Sp (p.px j) (p.py j) x y := by
  unfold IP.px IP.py
  cases hT : p.T with
  | true =>
    simp only [if_true]
    exact ⟨0, 0, Fl.isz_zero, Fl.isz_zero⟩
  | false =>
    simp only [Bool.false_eq_true, if_false]
    exact ⟨_, _, Spot.isz_wd (smallV_near _ _ (by decide)), Spot.isz_wd (smallV_near _ _ (by decide))⟩
theorem order_self {x : Nat} {n : Int} (h : Fl.Isz x n) : (FloatKind.f64.format.order x x == some .eq) = true := by
  have : FloatKind.f64.format.order x x = some (compare n n) := Fl.isz_order h h
  rw [this]; simp
theorem eq_cx {a b : Nat} (w : World) (h1 : (FloatKind.f64.format.order a a == some .eq) = true) (h2 : (FloatKind.f64.format.order b b == some .eq) = true) :
    (Op.equalIn 9999 55 (.complex .f64 a b) (.complex .f64 a b)).run Tryz.prog w = .ok true w := by
  have hp : Tryz.prog.underlying 55 = some (.complex .f64) := by kernel_rfl
  have h : ∀ d : Nat, (Op.equalIn (d + 1) 55 (.complex .f64 a b) (.complex .f64 a b)).run Tryz.prog w = .ok true w := fun d => by
    simp [Op.equalIn, run_underlying hp, Op.floatEq, h1, h2]
  exact h 9998
set_option maxHeartbeats 4000000 in
set_option maxRecDepth 100000 in
theorem same_all (a1 a2 a3 a4 b1 b2 b3 b4 : Option Addr) (nc ns nr nm c1 c2 c3 c4 e1 e2 e3 e4 : Nat) (x y z s t u v l rd : Nat → Int) (px py : Nat → Nat) (V U : Nat → Value) (w : World) (hn : nc ≤ 5000 ∧ ns ≤ 5000 ∧ nr ≤ 5000 ∧ nm ≤ 5000)
    (hc1 : IsCar w a1 nc x y z) (hc2 : IsCar w b1 nc x y z) (hs1 : IsStop w a2 ns s t u v l px py) (hs2 : IsStop w b2 ns s t u v l px py) (hr1 : IsLong w a3 nr rd) (hr2 : IsLong w b3 nr rd) (hm1 : IsRow w a4 nm V) (hm2 : IsRow w b4 nm U)
    (hsp : ∀ j, ∃ m n, Fl.Sp (px j) (py j) m n)
    (hd : ∀ j, j < nm → ∃ g h m d f xx, V j = .slice g m d ∧ U j = .slice h m f ∧ m ≤ 5000 ∧ IsLong w g m xx ∧ IsLong w h m xx) :
    Calls Tryz.prog 7 #[.agg #[.slice a1 nc c1, .slice a2 ns c2, .slice a3 nr c3, .slice a4 nm c4], .agg #[.slice b1 nc e1, .slice b2 ns e2, .slice b3 nr e3, .slice b4 nm e4]] w fun e w' => e = .returned (.bool true) ∧ Below w.heap.size w w' := by
  obtain ⟨n1, n2, n3, n4⟩ := hn
  obtain ⟨X, hX⟩ : ∃ X, X = w.heap.size := ⟨_, rfl⟩
  obtain ⟨W0, hW0⟩ : ∃ W0, W0 = (w.alloc (.cells #[.slice a1 nc c1, .slice a2 ns c2, .slice a3 nr c3, .slice a4 nm c4] 28)).alloc (.cells #[.slice b1 nc e1, .slice b2 ns e2, .slice b3 nr e3, .slice b4 nm e4] 28) := ⟨_, rfl⟩
  have hb0 : Below X w W0 := by rw [hX, hW0]; exact ((Below.refl _ _).alloc (Nat.le_refl _) _).alloc (by simp) _
  have hb0' : Below w.heap.size w W0 := by rw [hX] at hb0; exact hb0
  have hx0 : W0.heap[X]? = some (.cells #[.slice a1 nc c1, .slice a2 ns c2, .slice a3 nr c3, .slice a4 nm c4] 28) := by rw [hX, hW0, Below.heap_alloc _ _ _ (by simp)]; exact World.alloc_heap_new w _
  have hy0 : W0.heap[X + 1]? = some (.cells #[.slice b1 nc e1, .slice b2 ns e2, .slice b3 nr e3, .slice b4 nm e4] 28) := by
    rw [hX, hW0]
    rw [← World.size_alloc w (.cells #[.slice a1 nc c1, .slice a2 ns c2, .slice a3 nr c3, .slice a4 nm c4] 28)]; exact World.alloc_heap_new _ _
  have hz0 : W0.heap.size = X + 1 + 1 := by rw [hX, hW0]; simp
  have hxk : ∀ W, Below (X + 1 + 1) W0 W → (W.cell? ⟨X, 0, none⟩ = some (.slice a1 nc c1) ∧ W.cell? ⟨X, 1, none⟩ = some (.slice a2 ns c2) ∧ W.cell? ⟨X, 2, none⟩ = some (.slice a3 nr c3) ∧ W.cell? ⟨X, 3, none⟩ = some (.slice a4 nm c4)) ∧
      W.cell? ⟨X + 1, 0, none⟩ = some (.slice b1 nc e1) ∧ W.cell? ⟨X + 1, 1, none⟩ = some (.slice b2 ns e2) ∧ W.cell? ⟨X + 1, 2, none⟩ = some (.slice b3 nr e3) ∧ W.cell? ⟨X + 1, 3, none⟩ = some (.slice b4 nm e4) := fun W hb => by
    have h1 := (hb.block X (by omega)).trans hx0
    have h2 := (hb.block (X + 1) (by omega)).trans hy0
    exact ⟨⟨(own_cell h1).trans rfl, (own_cell h1).trans rfl, (own_cell h1).trans rfl, (own_cell h1).trans rfl⟩, (own_cell h2).trans rfl, (own_cell h2).trans rfl, (own_cell h2).trans rfl, (own_cell h2).trans rfl⟩
  have k : ∀ W, Below (X + 1 + 1) W0 W → Below w.heap.size w W := fun W hb => hb0'.trans (hb.mono (by omega))
  have K1 := Lib.hid fun W hb => hc1.below (k W hb)
  have K2 := Lib.hid fun W hb => hc2.below (k W hb)
  have K3 := Lib.hid fun W hb => hs1.below (k W hb)
  have K4 := Lib.hid fun W hb => hs2.below (k W hb)
  have K5 := Lib.hid fun W hb => hr1.below (k W hb)
  have K6 := Lib.hid fun W hb => hr2.below (k W hb)
  have K7 := Lib.hid fun W hb => hm1.below (k W hb)
  have K8 := Lib.hid fun W hb => hm2.below (k W hb)
  have hd' : ∀ W, Below (X + 1 + 1) W0 W → ∀ j, j < nm → ∃ g h m d f xx, V j = .slice g m d ∧ U j = .slice h m f ∧ m ≤ 5000 ∧ IsLong W g m xx ∧ IsLong W h m xx := fun W hb j hj => by
    obtain ⟨g, h, m, d, f, xx, q1, q2, q3, q4, q5⟩ := hd j hj
    exact ⟨g, h, m, d, f, xx, q1, q2, q3, q4.below (k W hb), q5.below (k W hb)⟩
  have KD := Lib.hid hd'; clear hd' hd
  have HXK := Lib.hid hxk; clear hxk
  have HSP := Lib.hid hsp; clear hsp
  clear hc1 hc2 hs1 hs2 hr1 hr2 hm1 hm2 k hx0 hy0 hb0'
  rw [← hX]
  have HX := Lib.hid hX; clear hX
  have HW := Lib.hid hW0; clear hW0
  have HB0 := Lib.hid hb0; clear hb0
  have HZ0 := Lib.hid hz0; clear hz0
  go_enter Tryz.func7, Tryz.ntmps7
  go_wp2_with fail
  rw [← HX.out, ← HW.out]
  refine (sameLongs_any a3 b3 nr c3 e3 rd W0 n3 (K5.out W0 (Below.refl _ _)) (K6.out W0 (Below.refl _ _))).mono ?_
  rintro e w1 ⟨rfl, mq, rfl⟩
  have hb : Below (X + 1 + 1) W0 (W0.drewN mq) := Joins.below_draws _ _ _
  have B1 : Hid (Below (X + 1 + 1) W0 (W0.drewN mq)) := Lib.hid hb; clear hb
  obtain ⟨⟨q0, q1, q2, q3⟩, r0, r1, r2, r3⟩ := HXK.out _ B1.out
  go_wp2_with fail
  clear q0 q1 q2 q3 r0 r1 r2 r3
  go_loopw [5] (fun i wr => ∃ k : Nat, k ≤ nc ∧ i = .int .i64 k ∧ Hid (Below (X + 1 + 1) W0 wr)) (fun i _ => nc - (intOf i).toNat)
  case atStart => exact ⟨0, Nat.zero_le _, rfl, B1⟩
  case round =>
    obtain ⟨k, hk, rfl, HD⟩ := hrel
    obtain ⟨⟨q0, q1, q2, q3⟩, r0, r1, r2, r3⟩ := HXK.out wr HD.out
    by_cases hlt : k < nc
    · rcases K1.out wr HD.out with h | ⟨u1, o1, rfl, hb1, g1⟩
      · omega
      · rcases K2.out wr HD.out with h | ⟨u2, o2, rfl, hb2, g2⟩
        · omega
        · obtain ⟨d1, d2, d3⟩ := g1 k hlt
          obtain ⟨f1, f2, f3⟩ := g2 k hlt
          have i0 : (0 : Int) ≤ (k : Int) := by omega
          have i1 : (k : Int) < (nc : Int) := by omega
          clear g1 g2
          generalize x k = xk at *
          generalize y k = yk at *
          generalize z k = zk at *
          go_wp2_with fail
          go_quiet (fail)
          clear i0 i1
          go_wp2_with fail
          go_roundw
          case rel => exact ⟨k + 1, by omega, by go_num, Lib.hid (HD.out.trans (Joins.below_draws _ _ _))⟩
          case measure => simp [intOf]; omega
    · obtain rfl : k = nc := by omega
      go_wp2_with fail
      clear q0 q1 q2 q3 r0 r1 r2 r3
      have B2 := HD; clear HD
      go_loopw [6] (fun i wr => ∃ k : Nat, k ≤ ns ∧ i = .int .i64 k ∧ Hid (Below (X + 1 + 1) W0 wr)) (fun i _ => ns - (intOf i).toNat)
      case atStart => exact ⟨0, Nat.zero_le _, rfl, Lib.hid (B2.out.trans (by first | exact Below.refl _ _ | exact Joins.below_draws _ _ _))⟩
      case round =>
        obtain ⟨k, hk, rfl, HD⟩ := hrel
        obtain ⟨⟨q0, q1, q2, q3⟩, r0, r1, r2, r3⟩ := HXK.out wr HD.out
        by_cases hlt : k < ns
        · rcases K3.out wr HD.out with h | ⟨u1, o1, rfl, hb1, g1⟩
          · omega
          · rcases K4.out wr HD.out with h | ⟨u2, o2, rfl, hb2, g2⟩
            · omega
            · obtain ⟨d1, d2, d3, d4, d5, d6⟩ := g1 k hlt
              obtain ⟨f1, f2, f3, f4, f5, f6⟩ := g2 k hlt
              have i0 : (0 : Int) ≤ (k : Int) := by omega
              have i1 : (k : Int) < (ns : Int) := by omega
              obtain ⟨m0, n0, hsx, hsy⟩ := HSP.out k
              have o3 := order_self hsx
              have o4 := order_self hsy
              have EQ := fun W => eq_cx W o3 o4
              clear g1 g2 hsx hsy o3 o4
              generalize s k = sk at *
              generalize t k = tk at *
              generalize u k = uk at *
              generalize v k = vk at *
              generalize l k = lk at *
              generalize px k = pk at *
              generalize py k = yk at *
              go_wp2_with fail
              go_quiet (fail)
              clear i0 i1
              go_wp2_with fail
              go_roundw
              case rel => exact ⟨k + 1, by omega, by go_num, Lib.hid (HD.out.trans (Joins.below_draws _ _ _))⟩
              case measure => simp [intOf]; omega
        · obtain rfl : k = ns := by omega
          go_wp2_with fail
          clear q0 q1 q2 q3 r0 r1 r2 r3
          have B2 := HD; clear HD
          go_loopw [7] (fun i wr => ∃ k : Nat, k ≤ nm ∧ i = .int .i64 k ∧ Hid (Below (X + 1 + 1) W0 wr)) (fun i _ => nm - (intOf i).toNat)
          case atStart => exact ⟨0, Nat.zero_le _, rfl, Lib.hid (B2.out.trans (by first | exact Below.refl _ _ | exact Joins.below_draws _ _ _))⟩
          case round =>
            obtain ⟨k, hk, rfl, HD⟩ := hrel
            obtain ⟨⟨q0, q1, q2, q3⟩, r0, r1, r2, r3⟩ := HXK.out wr HD.out
            by_cases hlt : k < nm
            · obtain ⟨g, h, mm, dc, fc, xx, hv, hu, hm, hg, hh⟩ := KD.out wr HD.out k hlt
              rcases K7.out wr HD.out with h | ⟨u1, o1, rfl, hb1, g1⟩
              · omega
              · rcases K8.out wr HD.out with h | ⟨u2, o2, rfl, hb2, g2⟩
                · omega
                · have d1 := (g1 k hlt).trans (congrArg some hv)
                  have f1 := (g2 k hlt).trans (congrArg some hu)
                  have i0 : (0 : Int) ≤ (k : Int) := by omega
                  have i1 : (k : Int) < (nm : Int) := by omega
                  have SL : Hid (∀ q, Calls Tryz.prog 14 #[.slice g mm dc, .slice h mm fc] (wr.drewN q) fun e w' => e = .returned (.bool true) ∧ ∃ m, w' = (wr.drewN q).drewN m) :=
                    Lib.hid fun q => sameLongs_any _ _ _ _ _ xx _ hm (hg.below (Joins.below_draws _ _ _)) (hh.below (Joins.below_draws _ _ _))
                  clear g1 g2 hv hu hg hh
                  go_wp2_with fail
                  go_quiet ((go_at_call 14; exact Calls.quiet_of (SL.out _)))
                  clear i0 i1
                  go_wp2_with fail
                  go_roundw
                  case rel => exact ⟨k + 1, by omega, by go_num, Lib.hid (HD.out.trans (Joins.below_draws _ _ _))⟩
                  case measure => simp [intOf]; omega
            · obtain rfl : k = nm := by omega
              go_wp2_with fail
              go_ret
              exact ⟨rfl, HB0.out.trans (HD.out.mono (Nat.le_succ_of_le (Nat.le_succ _)))⟩
/-- Two instances of the same letters are the same. -/
theorem same_any (p : IP) (hok : p.Ok) (base base' : Nat) (v v' : Value) (w : World) (h : InstAt base p v w) (h' : InstAt base' p v' w) :
    Calls Tryz.prog 7 #[v, v'] w fun e w' => e = .returned (.bool true) ∧ Below w.heap.size w w' := by
  obtain ⟨vc, vs, vr, vm, V, rfl, h⟩ := h
  obtain ⟨uc, us, ur, um, U, rfl, h'⟩ := h'
  obtain ⟨a1, c1, rfl, hc⟩ := isCar_of h.cars
  obtain ⟨a2, c2, rfl, hs⟩ := isStop_of h.stops
  obtain ⟨a3, c3, rfl, hr⟩ := isRide_of h.rides
  obtain ⟨a4, c4, rfl, hm⟩ := isRow_of h.rows
  obtain ⟨b1, e1, rfl, gc⟩ := isCar_of h'.cars
  obtain ⟨b2, e2, rfl, gs⟩ := isStop_of h'.stops
  obtain ⟨b3, e3, rfl, gr⟩ := isRide_of h'.rides
  obtain ⟨b4, e4, rfl, gm⟩ := isRow_of h'.rows
  obtain ⟨hC1, hC2, hP⟩ := hok
  have hPR : p.P = 2 * p.R + 2 := rfl
  have hM : p.more ≤ p.P := by unfold IP.more; split <;> omega
  refine same_all _ _ _ _ _ _ _ _ _ _ _ _ _ _ _ _ _ _ _ _ _ _ _ _ _ _ _ _ _ _ _ _ _ w ⟨by omega, by omega, by omega, by omega⟩ hc gc hs gs hr gr hm gm (spot_all p) fun j hj => ?_
  obtain ⟨g, d, h1, _, h2⟩ := isLong_of (h.deep j hj)
  obtain ⟨g', d', h1', _, h2'⟩ := isLong_of (h'.deep j hj)
  exact ⟨_, _, _, _, _, _, h1, h1', by omega, h2, h2'⟩
theorem same_none (w : World) : Calls Tryz.prog 7 #[.agg #[.slice none 0 0, .slice none 0 0, .slice none 0 0, .slice none 0 0], .agg #[.slice none 0 0, .slice none 0 0, .slice none 0 0, .slice none 0 0]] w fun e w' => e = .returned (.bool true) ∧ Below w.heap.size w w' :=
  same_all none none none none none none none none 0 0 0 0 0 0 0 0 0 0 0 0 (fun _ => 0) (fun _ => 0) (fun _ => 0) (fun _ => 0) (fun _ => 0) (fun _ => 0) (fun _ => 0) (fun _ => 0) (fun _ => 0) (fun _ => 0) (fun _ => 0) (fun _ => .nilFunc) (fun _ => .nilFunc) w
    ⟨by decide, by decide, by decide, by decide⟩ (.inl rfl) (.inl rfl) (.inl rfl) (.inl rfl) (.inl rfl) (.inl rfl) (.inl rfl) (.inl rfl) (fun _ => ⟨0, 0, Fl.isz_zero, Fl.isz_zero⟩) (fun j hj => absurd hj (by omega))
end Sheet
end Go.Proofs.YtjmhlabgoegeoaaGreatDoor
