/- NumTwo: whatever the input, the law returns true, and each argument reads as it read before. No conditions but the row's own. -/
import Derived.Test.YtcfbondgbhmcaaaRows
import Derived.WalkKit
import Derived.ProofKit
import Derived.OpenShut
import Derived.Test.YtcfbondgbhmcaaaNumAlive
namespace Go.Proofs.Ytcfbondgbhmcaaa.numTwo
open Go.ChangeShapes Go.WideShapes Go.ChangeAt Go.RowKit
set_option linter.unusedVariables false      -- a walk need not use every 'w<i>' (that an integer argument fits its kind)

theorem own : ownKnob Try.prog.godebug = none := by kernel_rfl

theorem sum_two (a b : Int) : Num.sumV [a, b] = Num.addV a b ∧ Num.sumB [a, b] = Num.addB a b := by
  have h0 : Num.mayB 0 = true := by decide
  unfold Num.sumV Num.sumB
  simp only [Num.sumO, Int.zero_add]
  have e : Num.addB 0 a = Num.mayB a := by simp [Num.addB, h0]
  rw [e]
  cases ha : Num.mayB a with
  | false => simp [Num.addV, Num.addB, ha]
  | true =>
    cases hb : Num.addB a b with
    | false => simp [Num.addV, hb]
    | true => simp [Num.addV, hb]
theorem refSum_two (n : Nat) (a b : Int) (w : World) (h0 : w.cell? ⟨n, 0, none⟩ = some (.int .i64 a)) (h1 : w.cell? ⟨n, 1, none⟩ = some (.int .i64 b)) :
    Calls Try.prog 15 #[.slice (some ⟨n, 0, none⟩) 2 2] w fun e w' => e = .returned (.tuple #[.int .i64 (Num.addV a b), .bool (Num.addB a b)]) ∧ w = w' := by
  have h := Num.refSum_any n 0 2 [a, b] w (by simp) (fun j hj => by
    simp only [List.length_cons, List.length_nil] at hj
    match j, hj with
    | 0, _ => exact h0
    | 1, _ => exact h1)
  rw [(sum_two a b).1, (sum_two a b).2] at h
  exact h
set_option maxHeartbeats 2000000 in
set_option maxRecDepth 100000 in
/-! ### STEP 1: THE WALK: the Go text returns true. 'Grown w w'': the world has at most new blocks (Derived/RowKit3.lean). Part the cases AHEAD of 'go_enter' where a test parts the walk; take each callee by a contract of your own. -/
theorem walk (a0 : Int) (a1 : Int) (a2 : Int) (w0 : (Lit.int .i64 a0).wf = true) (w1 : (Lit.int .i64 a1).wf = true) (w2 : (Lit.int .i64 a2).wf = true) (w : World) :
    Calls Try.prog 3 #[.int .i64 a0, .int .i64 a1, .int .i64 a2] w fun e w' => e = .returned (.bool true) ∧ Grown w w' := by
  generalize hx : Num.addV a0 a1 = x
  generalize hxb : Num.addB a0 a1 = xb
  generalize hy : Num.mulV a0 a1 = y
  generalize hyb : Num.mulB a0 a1 = yb
  generalize hz : Num.heldV a0 a1 a2 = z
  generalize hr : Num.rootV a0 = r
  have HX := Lib.hid hx; clear hx
  have HXB := Lib.hid hxb; clear hxb
  have HY := Lib.hid hy; clear hy
  have HYB := Lib.hid hyb; clear hyb
  have HZ := Lib.hid hz; clear hz
  have HR := Lib.hid hr; clear hr
  go_enter Try.func3, Try.ntmps3
  go_wp2_with fail
  refine (Num.alive_any _).mono ?_
  rintro e w' ⟨rfl, rfl⟩
  go_wp2_with fail
  refine (Num.add_any _ _ _).mono ?_
  rintro e w' ⟨rfl, rfl⟩
  rw [HX.out, HXB.out]
  go_wp2_with fail
  refine (refSum_two _ a0 a1 _ (by go_simp) (by go_simp)).mono ?_
  rintro e w' ⟨rfl, rfl⟩
  rw [HX.out, HXB.out]
  go_wp2_with fail
  refine (Num.mul_any _ _ _).mono ?_
  rintro e w' ⟨rfl, rfl⟩
  rw [HY.out, HYB.out]
  go_wp2_with fail
  refine (Num.refMul_any _ _ _).mono ?_
  rintro e w' ⟨rfl, rfl⟩
  rw [HY.out, HYB.out]
  go_wp2_with fail
  refine (Num.held_any _ _ _ _).mono ?_
  rintro e w' ⟨rfl, rfl⟩
  rw [HZ.out]
  go_wp2_with fail
  refine (Num.refHeld_any _ _ _ _).mono ?_
  rintro e w' ⟨rfl, rfl⟩
  rw [HZ.out]
  go_wp2_with fail
  refine (Num.root_any _ _).mono ?_
  rintro e w' ⟨rfl, rfl⟩
  rw [HR.out]
  go_wp2_with fail
  refine (Num.refRoot_any _ _).mono ?_
  rintro e w' ⟨rfl, rfl⟩
  rw [HR.out]
  go_wp2_with fail
  go_ret
  exact ⟨rfl, ((Grown.refl _).alloc _ _).alloc _ _⟩

/-! ### THE ROW's STEP: WRITTEN OUT: LEAVE IT -/
set_option maxRecDepth 100000 in
theorem lifted (os : Os) (started : os.Started) (H : Type) (enc : TypeId × Value → H) :
    ReturnsInHanded {} Try.checked os 3 .any (Rows.numTwoSpec.pre6 enc Try.prog Try.f3 Rows.numTwoRow.domain false) (Rows.numTwoSpec.post enc Try.prog Try.f3 false true false false) := by
  refine returnsInHanded_of_change (C := Try.checked) own started (by kernel_rfl) Try.func3
    (ChangeSpec.witness6 (enc := enc) (C := Try.checked) false ⟨#[], #[.int .i64 0, .int .i64 0, .int .i64 0], []⟩ 8 (by kernel_rfl) (by kernel_rfl) (by kernel_rfl) (by kernel_rfl)) ?_
  intro W base args ds gs before hval0 hW hcnd _
  have hval : ∀ (j : Nat) t v, Try.f3.params[j]? = some t → args[j]? = some v → Value.okWide Try.prog W .any base t v := hval0
  have hW' := hW
  obtain ⟨p, q, hA0, hV, rfl, hfz, hnd⟩ := hW
  have hA : DataW.TrodAll enc Try.prog W 0 (fun _ => true) true Try.f3.params.toList args.toList ds p := hA0
  rw [Try.params3] at hA hval
  obtain ⟨v0, vs0, d0, ds0, p0, q0, hargs, rfl, rfl, h0, r0⟩ := trodAll_cons hA
  obtain ⟨v1, vs1, d1, ds1, p1, q1, rfl, rfl, rfl, h1, r1⟩ := trodAll_cons r0
  obtain ⟨v2, vs2, d2, ds2, p2, q2, rfl, rfl, rfl, h2, r2⟩ := trodAll_cons r1
  obtain ⟨rfl, rfl, rfl⟩ := trodAll_nil r2
  obtain rfl : args = #[v0, v1, v2] := by cases args; simp_all
  obtain ⟨rfl, rfl⟩ := trodVars_none hV
  obtain ⟨a0, rfl, rfl, rfl, w0⟩ := open_int Try.underlying2 (hval 0 2 v0 rfl rfl) h0
  obtain ⟨a1, rfl, rfl, rfl, w1⟩ := open_int Try.underlying2 (hval 1 2 v1 rfl rfl) h1
  obtain ⟨a2, rfl, rfl, rfl, w2⟩ := open_int Try.underlying2 (hval 2 2 v2 rfl rfl) h2
  clear hA0 hval0
  simp only [List.append_nil] at hW'
  refine (walk a0 a1 a2 w0 w1 w2 W).mono fun e W' ⟨he, hg⟩ => ?_
  subst he
  exact ⟨_, rfl, post_of_same (pa := []) (pv := []) hW' (fun _ _ _ => (trodAll_cons_mk (shut_bool Try.underlying4 _) trodAll_mk0)) (fun sp _ => (trodAll_cons_mk (shut_int Try.underlying2 w0) (trodAll_cons_mk (shut_int Try.underlying2 w1) (trodAll_cons_mk (shut_int Try.underlying2 w2) trodAll_mk0)))) (fun _ _ => rfl) rfl
    (hg.frame _) hg.2.1 (ok_one (by kernel_rfl) rfl (okWide_bool_mk Try.underlying4 _))⟩

theorem over : Rows.numTwoRow.holds Try.pinned (OpenSpec.ofChange Rows.numTwoSpec) :=
  OpenClaim.holds_of_wide 3 Try.f3 rfl rfl rfl rfl rfl rfl rfl ⟨rfl, rfl, rfl, rfl, rfl⟩ rfl rfl rfl rfl rfl (by kernel_rfl) Try.func3 (by kernel_rfl)
    (of_decide_eq_true (by kernel_rfl)) (by unfold Func.isWrapper; first | (rw [if_pos (by decide +kernel)]; kernel_rfl) | (rw [if_neg (by decide +kernel)]; exact ⟨rfl, rfl⟩))
    (fun os started H enc _ => lifted os started H enc)

/-- ████ THE STATEMENT ████ -/
theorem proved : Rows.NumTwoSaid :=
  over
#print axioms proved
end Go.Proofs.Ytcfbondgbhmcaaa.numTwo
