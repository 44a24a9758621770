/- NumOrders: whatever the input, the law returns true, and each argument reads as it read before. No conditions but the row's own. -/
import Derived.Test.YtcfbondgbhmcaaaRows
import Derived.WalkKit
import Derived.ProofKit
import Derived.OpenShut
import Derived.Test.YtcfbondgbhmcaaaNumFacts
namespace Go.Proofs.Ytcfbondgbhmcaaa.numOrders
open Go.ChangeShapes Go.WideShapes Go.ChangeAt Go.RowKit
set_option linter.unusedVariables false      -- a walk need not use every 'w<i>' (that an integer argument fits its kind)

theorem own : ownKnob Try.prog.godebug = none := by kernel_rfl

set_option maxHeartbeats 2000000 in
set_option maxRecDepth 100000 in
/-! ### STEP 1: THE WALK: the Go text returns true. 'Grown w w'': the world has at most new blocks (Derived/RowKit3.lean). Part the cases AHEAD of 'go_enter' where a test parts the walk; take each callee by a contract of your own. -/
theorem walk (a0 : Int) (a1 : Int) (a2 : Int) (w0 : (Lit.int .i64 a0).wf = true) (w1 : (Lit.int .i64 a1).wf = true) (w2 : (Lit.int .i64 a2).wf = true) (w : World) :
    Calls Try.prog 6 #[.int .i64 a0, .int .i64 a1, .int .i64 a2] w fun e w' => e = .returned (.bool true) ∧ Grown w w' := by
  have c1 := Num.addV_comm a0 a1
  have c2 := Num.addB_comm a0 a1
  have c3 := Num.mulV_comm a0 a1
  have c4 := Num.mulB_comm a0 a1
  have hback := Num.add_back a0 a1
  have hone := Num.mul_one' a0
  obtain ⟨k1, k2⟩ := Num.low_ten a2
  generalize hk : bits .and .i64 a2 1023 = k at *
  obtain ⟨r1, r2⟩ := Num.held_between a0 0 576460752303423488 (by omega)
  generalize hr : Num.heldV a0 0 576460752303423488 = r at *
  generalize hx : Num.addV a0 a1 = x at *
  generalize hxb : Num.addB a0 a1 = xb at *
  generalize hy : Num.mulV a0 a1 = y at *
  generalize hyb : Num.mulB a0 a1 = yb at *
  have hmono := Num.rootV_mono r (r + k) (by omega) (by omega)
  generalize hr1 : Num.rootV r = root1 at *
  generalize hr2 : Num.rootV (r + k) = root2 at *
  have HK := Lib.hid hk; clear hk
  have HR1 := Lib.hid hr1; clear hr1
  have HR2 := Lib.hid hr2; clear hr2
  have HX := Lib.hid hx; clear hx
  have HXB := Lib.hid hxb; clear hxb
  have HY := Lib.hid hy; clear hy
  have HYB := Lib.hid hyb; clear hyb
  have HR := Lib.hid hr; clear hr
  have C1 := Lib.hid c1; clear c1
  have C2 := Lib.hid c2; clear c2
  have C3 := Lib.hid c3; clear c3
  have C4 := Lib.hid c4; clear c4
  generalize hz : Num.mulV a0 1 = z at *
  generalize hzb : Num.mulB a0 1 = zb at *
  have HZ := Lib.hid hz; clear hz
  have HZB := Lib.hid hzb; clear hzb
  cases xb with
  | true =>
    obtain ⟨e1, e2, e3, e4⟩ := hback rfl
    obtain ⟨b1, b2⟩ := Num.mayB_true e2
    clear hback e2
    subst e1
    have E3 := Lib.hid e3; clear e3
    have E4 := Lib.hid e4; clear e4
    rcases hone with ⟨rfl, rfl⟩ | ⟨rfl, rfl⟩
    all_goals
      go_enter Try.func6, Try.ntmps6
      go_wp2_with fail
      refine (Num.alive_any _).mono ?_
      rintro e w' ⟨rfl, rfl⟩
      go_wp2_with fail
      refine (Num.add_any _ _ _).mono ?_
      rintro e w' ⟨rfl, rfl⟩
      rw [HX.out, HXB.out]
      go_wp2_with fail
      refine (Num.add_any _ _ _).mono ?_
      rintro e w' ⟨rfl, rfl⟩
      rw [C1.out, C2.out]
      go_wp2_with fail
      refine (Num.add_any _ _ _).mono ?_
      rintro e w' ⟨rfl, rfl⟩
      rw [E3.out, E4.out]
      go_wp2_with fail
      refine (Num.mul_any _ _ _).mono ?_
      rintro e w' ⟨rfl, rfl⟩
      rw [HY.out, HYB.out]
      go_wp2_with fail
      refine (Num.mul_any _ _ _).mono ?_
      rintro e w' ⟨rfl, rfl⟩
      rw [C3.out, C4.out]
      go_wp2_with fail
      refine (Num.mul_any _ _ _).mono ?_
      rintro e w' ⟨rfl, rfl⟩
      rw [HZ.out, HZB.out]
      go_wp2_with fail
      refine (Num.held_any _ _ _ _).mono ?_
      rintro e w' ⟨rfl, rfl⟩
      rw [HR.out]
      go_wp2_with fail
      refine (Num.root_any _ _).mono ?_
      rintro e w' ⟨rfl, rfl⟩
      rw [HR1.out]
      go_wp2_with fail
      rw [HK.out, show wrap64 (r + k) = r + k from by unfold wrap64; omega]
      refine (Num.root_any _ _).mono ?_
      rintro e w' ⟨rfl, rfl⟩
      rw [HR2.out]
      go_wp2_with fail
      go_ret
      exact ⟨rfl, (Grown.refl _).alloc _ _⟩
  | false =>
    clear hback
    rcases hone with ⟨rfl, rfl⟩ | ⟨rfl, rfl⟩
    all_goals
      go_enter Try.func6, Try.ntmps6
      go_wp2_with fail
      refine (Num.alive_any _).mono ?_
      rintro e w' ⟨rfl, rfl⟩
      go_wp2_with fail
      refine (Num.add_any _ _ _).mono ?_
      rintro e w' ⟨rfl, rfl⟩
      rw [HX.out, HXB.out]
      go_wp2_with fail
      refine (Num.add_any _ _ _).mono ?_
      rintro e w' ⟨rfl, rfl⟩
      rw [C1.out, C2.out]
      go_wp2_with fail
      refine (Num.mul_any _ _ _).mono ?_
      rintro e w' ⟨rfl, rfl⟩
      rw [HY.out, HYB.out]
      go_wp2_with fail
      refine (Num.mul_any _ _ _).mono ?_
      rintro e w' ⟨rfl, rfl⟩
      rw [C3.out, C4.out]
      go_wp2_with fail
      refine (Num.mul_any _ _ _).mono ?_
      rintro e w' ⟨rfl, rfl⟩
      rw [HZ.out, HZB.out]
      go_wp2_with fail
      refine (Num.held_any _ _ _ _).mono ?_
      rintro e w' ⟨rfl, rfl⟩
      rw [HR.out]
      go_wp2_with fail
      refine (Num.root_any _ _).mono ?_
      rintro e w' ⟨rfl, rfl⟩
      rw [HR1.out]
      go_wp2_with fail
      rw [HK.out, show wrap64 (r + k) = r + k from by unfold wrap64; omega]
      refine (Num.root_any _ _).mono ?_
      rintro e w' ⟨rfl, rfl⟩
      rw [HR2.out]
      go_wp2_with fail
      go_ret
      exact ⟨rfl, (Grown.refl _).alloc _ _⟩

/-! ### THE ROW's STEP: WRITTEN OUT: LEAVE IT -/
set_option maxRecDepth 100000 in
theorem lifted (os : Os) (started : os.Started) (H : Type) (enc : TypeId × Value → H) :
    ReturnsInHanded {} Try.checked os 6 .any (Rows.numOrdersSpec.pre6 enc Try.prog Try.f6 Rows.numOrdersRow.domain false) (Rows.numOrdersSpec.post enc Try.prog Try.f6 false true false false) := by
  refine returnsInHanded_of_change (C := Try.checked) own started (by kernel_rfl) Try.func6
    (ChangeSpec.witness6 (enc := enc) (C := Try.checked) false ⟨#[], #[.int .i64 0, .int .i64 0, .int .i64 0], []⟩ 8 (by kernel_rfl) (by kernel_rfl) (by kernel_rfl) (by kernel_rfl)) ?_
  intro W base args ds gs before hval0 hW hcnd _
  have hval : ∀ (j : Nat) t v, Try.f6.params[j]? = some t → args[j]? = some v → Value.okWide Try.prog W .any base t v := hval0
  have hW' := hW
  obtain ⟨p, q, hA0, hV, rfl, hfz, hnd⟩ := hW
  have hA : DataW.TrodAll enc Try.prog W 0 (fun _ => true) true Try.f6.params.toList args.toList ds p := hA0
  rw [Try.params6] at hA hval
  obtain ⟨v0, vs0, d0, ds0, p0, q0, hargs, rfl, rfl, h0, r0⟩ := trodAll_cons hA
  obtain ⟨v1, vs1, d1, ds1, p1, q1, rfl, rfl, rfl, h1, r1⟩ := trodAll_cons r0
  obtain ⟨v2, vs2, d2, ds2, p2, q2, rfl, rfl, rfl, h2, r2⟩ := trodAll_cons r1
  obtain ⟨rfl, rfl, rfl⟩ := trodAll_nil r2
  obtain rfl : args = #[v0, v1, v2] := by cases args; simp_all
  obtain ⟨rfl, rfl⟩ := trodVars_none hV
  obtain ⟨a0, rfl, rfl, rfl, w0⟩ := open_int Try.underlying2 (hval 0 2 v0 rfl rfl) h0
  obtain ⟨a1, rfl, rfl, rfl, w1⟩ := open_int Try.underlying2 (hval 1 2 v1 rfl rfl) h1
  obtain ⟨a2, rfl, rfl, rfl, w2⟩ := open_int Try.underlying3 (hval 2 3 v2 rfl rfl) h2
  clear hA0 hval0
  simp only [List.append_nil] at hW'
  refine (walk a0 a1 a2 w0 w1 w2 W).mono fun e W' ⟨he, hg⟩ => ?_
  subst he
  exact ⟨_, rfl, post_of_same (pa := []) (pv := []) hW' (fun _ _ _ => (trodAll_cons_mk (shut_bool Try.underlying4 _) trodAll_mk0)) (fun sp _ => (trodAll_cons_mk (shut_int Try.underlying2 w0) (trodAll_cons_mk (shut_int Try.underlying2 w1) (trodAll_cons_mk (shut_int Try.underlying3 w2) trodAll_mk0)))) (fun _ _ => rfl) rfl
    (hg.frame _) hg.2.1 (ok_one (by kernel_rfl) rfl (okWide_bool_mk Try.underlying4 _))⟩

theorem over : Rows.numOrdersRow.holds Try.pinned (OpenSpec.ofChange Rows.numOrdersSpec) :=
  OpenClaim.holds_of_wide 6 Try.f6 rfl rfl rfl rfl rfl rfl rfl ⟨rfl, rfl, rfl, rfl, rfl⟩ rfl rfl rfl rfl rfl (by kernel_rfl) Try.func6 (by kernel_rfl)
    (of_decide_eq_true (by kernel_rfl)) (by unfold Func.isWrapper; first | (rw [if_pos (by decide +kernel)]; kernel_rfl) | (rw [if_neg (by decide +kernel)]; exact ⟨rfl, rfl⟩))
    (fun os started H enc _ => lifted os started H enc)

/-- ████ THE STATEMENT ████ -/
theorem proved : Rows.NumOrdersSaid :=
  over
#print axioms proved
end Go.Proofs.Ytcfbondgbhmcaaa.numOrders
