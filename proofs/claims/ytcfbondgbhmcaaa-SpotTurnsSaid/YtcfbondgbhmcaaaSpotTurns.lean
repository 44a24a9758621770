/- SpotTurns: whatever the input, the law returns true, and each argument reads as it read before. No conditions but the row's own. -/
import Derived.Test.YtcfbondgbhmcaaaRows
import Derived.WalkKit
import Derived.ProofKit
import Derived.ShutString
import Derived.Below
import Derived.OpenShut
import Derived.Carry
import Derived.Test.YtcfbondgbhmcaaaSortSaid
import Derived.Test.YtcfbondgbhmcaaaSpotAlive
import Derived.Test.YtcfbondgbhmcaaaSpotFacts
namespace Go.Proofs.Ytcfbondgbhmcaaa.spotTurns
open Go.ChangeShapes Go.WideShapes Go.ChangeAt Go.RowKit
open Go.ChangeMaps (open_string shut_string)
set_option linter.unusedVariables false      -- a walk need not use every 'w<i>' (that an integer argument fits its kind)

theorem own : ownKnob Try.prog.godebug = none := by kernel_rfl

/-! ### STEP 1: THE WALK: the Go text returns true. 'Below w.heap.size w w'': the world has at most new blocks (Derived/RowKit3.lean). Part the cases AHEAD of 'go_enter' where a test parts the walk; take each callee by a contract of your own. -/
open Spot in
theorem side_moved (ax ay bx by' dx dy : Int) : side dx dy (ax + dx) (ay + dy) (bx + dx) (by' + dy) = side 0 0 ax ay bx by' := by
  unfold side; simp only [Int.sub_zero, Int.add_sub_cancel]
open Spot in
theorem sq_moved (ax ay bx by' dx dy : Int) : sq (ax + dx) (ay + dy) (bx + dx) (by' + dy) = sq ax ay bx by' := by
  unfold sq
  rw [show bx + dx - (ax + dx) = bx - ax by omega, show by' + dy - (ay + dy) = by' - ay by omega]
open Spot in
theorem side_turned (ax ay bx by' : Int) : side 0 0 (-ay) ax (-by') bx = side 0 0 ax ay bx by' := by
  unfold side cross
  simp only [Int.sub_zero]
  rw [Int.neg_mul, Int.mul_neg, show -(ay * bx) - -(ax * by') = ax * by' - ay * bx by omega]
open Spot in
theorem sq_turned (ax ay bx by' : Int) : sq (-ay) ax (-by') bx = sq ax ay bx by' := by
  unfold sq
  rw [show -by' - -ay = -(by' - ay) by omega, Int.neg_mul_neg]; omega
open Spot in
theorem side_mirror (ax ay bx by' : Int) : side 0 0 ax (-ay) bx (-by') = -side 0 0 ax ay bx by' := by
  unfold side
  rw [← sgn_neg]
  congr 1
  unfold cross
  simp only [Int.sub_zero]
  rw [Int.mul_neg, Int.neg_mul]; omega
open Spot in
theorem sq_mirror (ax ay bx by' : Int) : sq ax (-ay) bx (-by') = sq ax ay bx by' := by
  unfold sq
  rw [show -by' - -ay = -(by' - ay) by omega, Int.neg_mul_neg]
set_option maxHeartbeats 1000000 in
set_option maxRecDepth 100000 in
theorem walk (a0 : Int) (a1 : Int) (a2 : Int) (a3 : Int) (a4 : Int) (a5 : Int) (w0 : (Lit.int .i64 a0).wf = true) (w1 : (Lit.int .i64 a1).wf = true) (w2 : (Lit.int .i64 a2).wf = true) (w3 : (Lit.int .i64 a3).wf = true) (w4 : (Lit.int .i64 a4).wf = true) (w5 : (Lit.int .i64 a5).wf = true) (w : World) :
    Calls Try.prog 11 #[.int .i64 a0, .int .i64 a1, .int .i64 a2, .int .i64 a3, .int .i64 a4, .int .i64 a5] w fun e w' => e = .returned (.bool true) ∧ Below w.heap.size w w' := by
  obtain ⟨g1, g2⟩ := Num.wf64 w0
  obtain ⟨g3, g4⟩ := Num.wf64 w1
  obtain ⟨g5, g6⟩ := Num.wf64 w2
  obtain ⟨g7, g8⟩ := Num.wf64 w3
  obtain ⟨g9, g10⟩ := Num.wf64 w4
  obtain ⟨g11, g12⟩ := Num.wf64 w5
  have r1 := Spot.tmod_range a0 1000000 (by omega)
  have r2 := Spot.tmod_range a1 1000000 (by omega)
  have r3 := Spot.tmod_range a2 1000000 (by omega)
  have r4 := Spot.tmod_range a3 1000000 (by omega)
  have r5 := Spot.tmod_range a4 1000000 (by omega)
  have r6 := Spot.tmod_range a5 1000000 (by omega)
  generalize hm0 : a0.tmod 1000000 = ax at *
  generalize hm1 : a1.tmod 1000000 = ay at *
  generalize hm2 : a2.tmod 1000000 = bx at *
  generalize hm3 : a3.tmod 1000000 = by' at *
  generalize hm4 : a4.tmod 1000000 = dx at *
  generalize hm5 : a5.tmod 1000000 = dy at *
  have n0 : Spot.Near 0 := ⟨by decide, by decide⟩
  have n1 : Spot.Near ax := ⟨by omega, by omega⟩
  have n2 : Spot.Near ay := ⟨by omega, by omega⟩
  have n3 : Spot.Near bx := ⟨by omega, by omega⟩
  have n4 : Spot.Near by' := ⟨by omega, by omega⟩
  have n5 : Spot.Near dx := ⟨by omega, by omega⟩
  have n6 : Spot.Near dy := ⟨by omega, by omega⟩
  have m1 : Spot.Near (ax + dx) := ⟨by omega, by omega⟩
  have m2 : Spot.Near (ay + dy) := ⟨by omega, by omega⟩
  have m3 : Spot.Near (bx + dx) := ⟨by omega, by omega⟩
  have m4 : Spot.Near (by' + dy) := ⟨by omega, by omega⟩
  have m5 : Spot.Near (-ay) := ⟨by omega, by omega⟩
  have m6 : Spot.Near (-by') := ⟨by omega, by omega⟩
  have z0 : Fl.Sp 0 0 0 0 := ⟨Fl.isz_zero, Fl.isz_zero⟩
  have s1 : Fl.Sp (Spot.wd ax) (Spot.wd ay) ax ay := ⟨Spot.isz_wd n1, Spot.isz_wd n2⟩
  have s2 : Fl.Sp (Spot.wd bx) (Spot.wd by') bx by' := ⟨Spot.isz_wd n3, Spot.isz_wd n4⟩
  have s3 : Fl.Sp (Spot.wd dx) (Spot.wd dy) dx dy := ⟨Spot.isz_wd n5, Spot.isz_wd n6⟩
  have s4 : Fl.Sp (Spot.wd ax) (Spot.wd (-ay)) ax (-ay) := ⟨Spot.isz_wd n1, Spot.isz_wd m5⟩
  have s5 : Fl.Sp (Spot.wd bx) (Spot.wd (-by')) bx (-by') := ⟨Spot.isz_wd n3, Spot.isz_wd m6⟩
  have im : Fl.Sp 0 4607182418800017408 0 1 := ⟨Fl.isz_zero, Spot.isz1⟩
  obtain ⟨pr, pi, pe, ps⟩ := Fl.cadd s1 s3 (Fl.abs_of (b := 16777216) m1.1 m1.2 (by decide)) (Fl.abs_of (b := 16777216) m2.1 m2.2 (by decide))
  obtain ⟨qr, qi, qe, qs⟩ := Fl.cadd s2 s3 (Fl.abs_of (b := 16777216) m3.1 m3.2 (by decide)) (Fl.abs_of (b := 16777216) m4.1 m4.2 (by decide))
  obtain ⟨tr, ti, te, ts⟩ := Fl.cmul s1 im ⟨by omega, by omega⟩ ⟨by omega, by omega⟩ ⟨by decide, by decide⟩ ⟨by decide, by decide⟩
  obtain ⟨ur, ui, ue, us⟩ := Fl.cmul s2 im ⟨by omega, by omega⟩ ⟨by omega, by omega⟩ ⟨by decide, by decide⟩ ⟨by decide, by decide⟩
  rw [show ax * 0 - ay * 1 = -ay by omega, show ax * 1 + ay * 0 = ax by omega] at ts
  rw [show bx * 0 - by' * 1 = -by' by omega, show bx * 1 + by' * 0 = bx by omega] at us
  have e1 := fun w => run_complex_sum w .add (Or.inl rfl) 36 .f64 _ _ _ _ pr pi pe (P := Try.prog)
  have e2 := fun w => run_complex_sum w .add (Or.inl rfl) 36 .f64 _ _ _ _ qr qi qe (P := Try.prog)
  have e3 := fun w => run_complex_mul w 36 _ _ _ _ tr ti te (P := Try.prog)
  have e4 := fun w => run_complex_mul w 36 _ _ _ _ ur ui ue (P := Try.prog)
  have k1 := fun w => Spot.at_yes _ _ w n1 n2
  have k2 := fun w => Spot.at_yes _ _ w n3 n4
  have k3 := fun w => Spot.at_yes _ _ w n5 n6
  have k4 := fun w => Spot.at_yes _ _ w n1 m5
  have k5 := fun w => Spot.at_yes _ _ w n3 m6
  have x1 := fun w => Spot.xy_yes _ _ _ _ w s1 n1 n2
  have x2 := fun w => Spot.xy_yes _ _ _ _ w s2 n3 n4
  have t1 := fun w => Spot.Turn_yes _ _ _ _ _ _ _ _ _ _ _ _ w z0 s1 s2 n0 n0 n1 n2 n3 n4
  have t2 := fun w => Spot.Turn_yes _ _ _ _ _ _ _ _ _ _ _ _ w s3 ps qs n5 n6 m1 m2 m3 m4
  have t3 := fun w => Spot.Turn_yes _ _ _ _ _ _ _ _ _ _ _ _ w z0 ts us n0 n0 m5 n1 m6 n3
  have t4 := fun w => Spot.Turn_yes _ _ _ _ _ _ _ _ _ _ _ _ w z0 s4 s5 n0 n0 n1 m5 n3 m6
  have q1 := fun w => Spot.square_yes _ _ _ _ _ _ _ _ w s1 s2 n1 n2 n3 n4
  have q2 := fun w => Spot.square_yes _ _ _ _ _ _ _ _ w ps qs m1 m2 m3 m4
  have q3 := fun w => Spot.square_yes _ _ _ _ _ _ _ _ w ts us m5 n1 m6 n3
  have q4 := fun w => Spot.square_yes _ _ _ _ _ _ _ _ w s4 s5 n1 m5 n3 m6
  rw [side_moved] at t2
  rw [side_turned] at t3
  rw [side_mirror] at t4
  rw [sq_moved] at q2
  rw [sq_turned] at q3
  rw [sq_mirror] at q4
  obtain ⟨p1, p2⟩ := Spot.side_range 0 0 ax ay bx by'
  generalize Spot.side 0 0 ax ay bx by' = t at *
  generalize Spot.sq ax ay bx by' = q at *
  generalize Spot.wd ax = u1 at *
  generalize Spot.wd ay = u2 at *
  generalize Spot.wd bx = u3 at *
  generalize Spot.wd by' = u4 at *
  generalize Spot.wd dx = u5 at *
  generalize Spot.wd dy = u6 at *
  generalize Spot.wd (-ay) = u7 at *
  generalize Spot.wd (-by') = u8 at *
  have K1 := Lib.hid k1; clear k1
  have K2 := Lib.hid k2; clear k2
  have K3 := Lib.hid k3; clear k3
  have K4 := Lib.hid k4; clear k4
  have K5 := Lib.hid k5; clear k5
  have X1 := Lib.hid x1; clear x1
  have X2 := Lib.hid x2; clear x2
  have T1 := Lib.hid t1; clear t1
  have T2 := Lib.hid t2; clear t2
  have T3 := Lib.hid t3; clear t3
  have T4 := Lib.hid t4; clear t4
  have Q1 := Lib.hid q1; clear q1
  have Q2 := Lib.hid q2; clear q2
  have Q3 := Lib.hid q3; clear q3
  have Q4 := Lib.hid q4; clear q4
  obtain ⟨r21, r22⟩ := r2
  obtain ⟨r41, r42⟩ := r4
  clear s1 s2 s3 s4 s5 n0 n1 n2 n3 n4 n5 n6 m1 m2 m3 m4 m5 m6 z0 im pe qe te ue ps qs ts us r1 r3 r5 r6
  go_enter Try.func11, Try.ntmps11
  go_wp2_with fail
  refine (Spot.alive_any Spot.sortSaid _).mono ?_
  rintro e W1 ⟨rfl, hb⟩
  go_wp2_with fail
  refine (K1.out _).mono ?_
  rintro e w' ⟨rfl, rfl⟩
  go_wp2_with fail
  refine (K2.out _).mono ?_
  rintro e w' ⟨rfl, rfl⟩
  go_wp2_with fail
  refine (K3.out _).mono ?_
  rintro e w' ⟨rfl, rfl⟩
  go_wp2_with fail
  refine (T1.out _).mono ?_
  rintro e w' ⟨rfl, rfl⟩
  go_wp2_with fail
  refine (Q1.out _).mono ?_
  rintro e w' ⟨rfl, rfl⟩
  go_wp2_with fail
  refine (T2.out _).mono ?_
  rintro e w' ⟨rfl, rfl⟩
  go_wp2_with fail
  refine (Q2.out _).mono ?_
  rintro e w' ⟨rfl, rfl⟩
  go_wp2_with fail
  refine (T3.out _).mono ?_
  rintro e w' ⟨rfl, rfl⟩
  go_wp2_with fail
  refine (Q3.out _).mono ?_
  rintro e w' ⟨rfl, rfl⟩
  go_wp2_with fail
  refine (X1.out _).mono ?_
  rintro e w' ⟨rfl, rfl⟩
  go_wp2_with fail
  refine (X2.out _).mono ?_
  rintro e w' ⟨rfl, rfl⟩
  go_wp2_with fail
  refine (K4.out _).mono ?_
  rintro e w' ⟨rfl, rfl⟩
  go_wp2_with fail
  refine (K5.out _).mono ?_
  rintro e w' ⟨rfl, rfl⟩
  go_wp2_with fail
  refine (T4.out _).mono ?_
  rintro e w' ⟨rfl, rfl⟩
  go_wp2_with fail
  refine (Q4.out _).mono ?_
  rintro e w' ⟨rfl, rfl⟩
  go_wp2_with fail
  go_ret
  exact ⟨rfl, hb⟩

/-! ### THE ROW's STEP: WRITTEN OUT: LEAVE IT -/
set_option maxRecDepth 100000 in
theorem lifted (os : Os) (started : os.Started) (H : Type) (enc : TypeId × Value → H) :
    ReturnsInHanded {} Try.checked os 11 .any (Rows.spotTurnsSpec.pre6 enc Try.prog Try.f11 Rows.spotTurnsRow.domain false) (Rows.spotTurnsSpec.post enc Try.prog Try.f11 false true false false) := by
  refine returnsInHanded_of_change (C := Try.checked) own started (by kernel_rfl) Try.func11
    (ChangeSpec.witness6 (enc := enc) (C := Try.checked) false ⟨#[], #[.int .i64 0, .int .i64 0, .int .i64 0, .int .i64 0, .int .i64 0, .int .i64 0], []⟩ 8 (by kernel_rfl) (by kernel_rfl) (by kernel_rfl) (by kernel_rfl)) ?_
  intro W base args ds gs before hval0 hW hcnd _
  have hval : ∀ (j : Nat) t v, Try.f11.params[j]? = some t → args[j]? = some v → Value.okWide Try.prog W .any base t v := hval0
  have hW' := hW
  obtain ⟨p, q, hA0, hV, rfl, hfz, hnd⟩ := hW
  have hA : DataW.TrodAll enc Try.prog W 0 (fun _ => true) true Try.f11.params.toList args.toList ds p := hA0
  rw [Try.params11] at hA hval
  obtain ⟨v0, vs0, d0, ds0, p0, q0, hargs, rfl, rfl, h0, r0⟩ := trodAll_cons hA
  obtain ⟨v1, vs1, d1, ds1, p1, q1, rfl, rfl, rfl, h1, r1⟩ := trodAll_cons r0
  obtain ⟨v2, vs2, d2, ds2, p2, q2, rfl, rfl, rfl, h2, r2⟩ := trodAll_cons r1
  obtain ⟨v3, vs3, d3, ds3, p3, q3, rfl, rfl, rfl, h3, r3⟩ := trodAll_cons r2
  obtain ⟨v4, vs4, d4, ds4, p4, q4, rfl, rfl, rfl, h4, r4⟩ := trodAll_cons r3
  obtain ⟨v5, vs5, d5, ds5, p5, q5, rfl, rfl, rfl, h5, r5⟩ := trodAll_cons r4
  obtain ⟨rfl, rfl, rfl⟩ := trodAll_nil r5
  obtain rfl : args = #[v0, v1, v2, v3, v4, v5] := by cases args; simp_all
  obtain ⟨rfl, rfl⟩ := trodVars_none hV
  obtain ⟨a0, rfl, rfl, rfl, w0⟩ := open_int Try.underlying3 (hval 0 3 v0 rfl rfl) h0
  obtain ⟨a1, rfl, rfl, rfl, w1⟩ := open_int Try.underlying3 (hval 1 3 v1 rfl rfl) h1
  obtain ⟨a2, rfl, rfl, rfl, w2⟩ := open_int Try.underlying3 (hval 2 3 v2 rfl rfl) h2
  obtain ⟨a3, rfl, rfl, rfl, w3⟩ := open_int Try.underlying3 (hval 3 3 v3 rfl rfl) h3
  obtain ⟨a4, rfl, rfl, rfl, w4⟩ := open_int Try.underlying3 (hval 4 3 v4 rfl rfl) h4
  obtain ⟨a5, rfl, rfl, rfl, w5⟩ := open_int Try.underlying3 (hval 5 3 v5 rfl rfl) h5
  clear hA0 hval0
  simp only [List.append_nil] at hW'
  refine (walk a0 a1 a2 a3 a4 a5 w0 w1 w2 w3 w4 w5 W).mono fun e W' ⟨he, bel⟩ => ?_
  subst he
  exact ⟨_, rfl, _, _, _, [], _, [], hW', trodAll_mk1 (shut_bool Try.underlying4 _), (trodAll_cons_mk (shut_int Try.underlying3 w0) (trodAll_cons_mk (shut_int Try.underlying3 w1) (trodAll_cons_mk (shut_int Try.underlying3 w2) (trodAll_cons_mk (shut_int Try.underlying3 w3) (trodAll_cons_mk (shut_int Try.underlying3 w4) (trodAll_cons_mk (shut_int Try.underlying3 w5) trodAll_mk0)))))), rfl, bel.frame _, fun h => by cases h⟩

theorem over : Rows.spotTurnsRow.holds Try.pinned (OpenSpec.ofChange Rows.spotTurnsSpec) :=
  OpenClaim.holds_of_wide 11 Try.f11 rfl rfl rfl rfl rfl rfl rfl ⟨rfl, rfl, rfl, rfl, rfl⟩ rfl rfl rfl rfl rfl (by kernel_rfl) Try.func11 (by kernel_rfl)
    (of_decide_eq_true (by kernel_rfl)) (by unfold Func.isWrapper; first | (rw [if_pos (by decide +kernel)]; kernel_rfl) | (rw [if_neg (by decide +kernel)]; exact ⟨rfl, rfl⟩))
    (fun os started H enc _ => lifted os started H enc)

/-- ████ THE STATEMENT ████ -/
theorem proved : Rows.SpotTurnsSaid :=
  over
#print axioms proved
end Go.Proofs.Ytcfbondgbhmcaaa.spotTurns
