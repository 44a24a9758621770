/- NumCeilSums: whatever the input, the law returns true, and each argument reads as it read before. No conditions but the row's own. -/
import Derived.Test.YtcfbondgbhmcaaaRows
import Derived.WalkKit
import Derived.ProofKit
import Derived.OpenShut
import Derived.Test.YtcfbondgbhmcaaaNumFacts
namespace Go.Proofs.Ytcfbondgbhmcaaa.numCeilSums
open Go.ChangeShapes Go.WideShapes Go.ChangeAt Go.RowKit
set_option linter.unusedVariables false      -- a walk need not use every 'w<i>' (that an integer argument fits its kind)

theorem own : ownKnob Try.prog.godebug = none := by kernel_rfl

theorem ceil_sums (a b by' : Int) (hb : 1 ≤ by') : Num.ceilV (a + b) by' ≤ Num.ceilV a by' + Num.ceilV b by' ∧ Num.ceilV a by' + Num.ceilV b by' - 1 ≤ Num.ceilV (a + b) by' := by
  obtain ⟨a1, a2⟩ := Num.ceil_spec a by' hb
  obtain ⟨b1, b2⟩ := Num.ceil_spec b by' hb
  constructor
  · exact Num.ceil_le _ _ hb _ (by rw [Int.add_mul]; omega)
  · refine Num.le_ceil _ _ hb _ ?_
    rw [Int.sub_mul, Int.one_mul] at a2 b2
    rw [Int.sub_mul, Int.sub_mul, Int.add_mul, Int.one_mul]; omega
theorem ceil_bounds (a by' : Int) (h0 : 0 ≤ a) (hb : 1 ≤ by') : 0 ≤ Num.ceilV a by' ∧ Num.ceilV a by' ≤ a := by
  constructor
  · exact Num.le_ceil _ _ hb _ (by rw [Int.sub_mul]; omega)
  · exact Num.ceil_le _ _ hb _ (by have := Int.mul_le_mul_of_nonneg_left hb h0; omega)
set_option maxHeartbeats 2000000 in
set_option maxRecDepth 100000 in
/-! ### STEP 1: THE WALK: the Go text returns true. 'Grown w w'': the world has at most new blocks (Derived/RowKit3.lean). Part the cases AHEAD of 'go_enter' where a test parts the walk; take each callee by a contract of your own. -/
theorem walk (a0 : Int) (a1 : Int) (a2 : Int) (w0 : (Lit.int .i64 a0).wf = true) (w1 : (Lit.int .i64 a1).wf = true) (w2 : (Lit.int .i64 a2).wf = true) (w : World) :
    Calls Try.prog 8 #[.int .i64 a0, .int .i64 a1, .int .i64 a2] w fun e w' => e = .returned (.bool true) ∧ Grown w w' := by
  obtain ⟨ha1, ha2⟩ := Num.held_between a0 0 1125899906842624 (by omega)
  obtain ⟨hb1, hb2⟩ := Num.held_between a1 0 1125899906842624 (by omega)
  obtain ⟨hc1, hc2⟩ := Num.held_between a2 1 1099511627776 (by omega)
  generalize ha : Num.heldV a0 0 1125899906842624 = a at *
  generalize hb : Num.heldV a1 0 1125899906842624 = b at *
  generalize hc : Num.heldV a2 1 1099511627776 = c at *
  obtain ⟨s1, s2⟩ := ceil_sums a b c hc1
  obtain ⟨p1, p2⟩ := ceil_bounds a c ha1 hc1
  obtain ⟨q1, q2⟩ := ceil_bounds b c hb1 hc1
  have o1 := Num.ceil_one a
  have o2 := Num.ceil_zero a 0 (by omega)
  obtain ⟨r1, r2⟩ := Num.held_between a 0 1073741824 (by omega)
  generalize hr : Num.heldV a 0 1073741824 = r at *
  have sq := Num.rootV_sq r r1 r2
  have rr1 : 0 ≤ r * r := Int.mul_nonneg r1 r1
  have rr2 : r * r ≤ 1152921504606846976 := Int.mul_le_mul r2 r2 r1 (by decide)
  generalize hp : Num.ceilV a c = p at *
  generalize hq : Num.ceilV b c = q at *
  generalize hs : Num.ceilV (a + b) c = s at *
  have HA := Lib.hid ha; clear ha
  have HB := Lib.hid hb; clear hb
  have HC := Lib.hid hc; clear hc
  have HR := Lib.hid hr; clear hr
  have HP := Lib.hid hp; clear hp
  have HQ := Lib.hid hq; clear hq
  have HS := Lib.hid hs; clear hs
  have O1 := Lib.hid o1; clear o1
  have O2 := Lib.hid o2; clear o2
  have SQ := Lib.hid sq; clear sq
  go_enter Try.func8, Try.ntmps8
  go_wp2_with fail
  refine (Num.alive_any _).mono ?_
  rintro e w' ⟨rfl, rfl⟩
  go_wp2_with fail
  refine (Num.held_any _ _ _ _).mono ?_
  rintro e w' ⟨rfl, rfl⟩
  rw [HA.out]
  go_wp2_with fail
  refine (Num.held_any _ _ _ _).mono ?_
  rintro e w' ⟨rfl, rfl⟩
  rw [HB.out]
  go_wp2_with fail
  refine (Num.held_any _ _ _ _).mono ?_
  rintro e w' ⟨rfl, rfl⟩
  rw [HC.out]
  go_wp2_with fail
  refine (Num.ceil_any _ _ _ (by omega) (by omega) (by omega)).mono ?_
  rintro e w' ⟨rfl, rfl⟩
  rw [HP.out]
  go_wp2_with fail
  refine (Num.ceil_any _ _ _ (by omega) (by omega) (by omega)).mono ?_
  rintro e w' ⟨rfl, rfl⟩
  rw [HQ.out]
  go_wp2_with fail
  refine (Num.ceil_any _ _ _ (by omega) (by omega) (by omega)).mono ?_
  rintro e w' ⟨rfl, rfl⟩
  rw [HS.out]
  go_wp2_with fail
  refine (Num.held_any _ _ _ _).mono ?_
  rintro e w' ⟨rfl, rfl⟩
  rw [HR.out]
  go_wp2_with fail
  refine (Num.ceil_any _ _ _ (by omega) (by omega) (by omega)).mono ?_
  rintro e w' ⟨rfl, rfl⟩
  rw [O1.out]
  go_wp2_with fail
  refine (Num.ceil_any _ _ _ (by omega) (by omega) (by omega)).mono ?_
  rintro e w' ⟨rfl, rfl⟩
  rw [O2.out]
  go_wp2_with fail
  refine (Num.root_any _ _).mono ?_
  rintro e w' ⟨rfl, rfl⟩
  rw [SQ.out]
  go_wp2_with fail
  go_ret
  exact ⟨rfl, (Grown.refl _).alloc _ _⟩

/-! ### THE ROW's STEP: WRITTEN OUT: LEAVE IT -/
set_option maxRecDepth 100000 in
theorem lifted (os : Os) (started : os.Started) (H : Type) (enc : TypeId × Value → H) :
    ReturnsInHanded {} Try.checked os 8 .any (Rows.numCeilSumsSpec.pre6 enc Try.prog Try.f8 Rows.numCeilSumsRow.domain false) (Rows.numCeilSumsSpec.post enc Try.prog Try.f8 false true false false) := by
  refine returnsInHanded_of_change (C := Try.checked) own started (by kernel_rfl) Try.func8
    (ChangeSpec.witness6 (enc := enc) (C := Try.checked) false ⟨#[], #[.int .i64 0, .int .i64 0, .int .i64 0], []⟩ 8 (by kernel_rfl) (by kernel_rfl) (by kernel_rfl) (by kernel_rfl)) ?_
  intro W base args ds gs before hval0 hW hcnd _
  have hval : ∀ (j : Nat) t v, Try.f8.params[j]? = some t → args[j]? = some v → Value.okWide Try.prog W .any base t v := hval0
  have hW' := hW
  obtain ⟨p, q, hA0, hV, rfl, hfz, hnd⟩ := hW
  have hA : DataW.TrodAll enc Try.prog W 0 (fun _ => true) true Try.f8.params.toList args.toList ds p := hA0
  rw [Try.params8] at hA hval
  obtain ⟨v0, vs0, d0, ds0, p0, q0, hargs, rfl, rfl, h0, r0⟩ := trodAll_cons hA
  obtain ⟨v1, vs1, d1, ds1, p1, q1, rfl, rfl, rfl, h1, r1⟩ := trodAll_cons r0
  obtain ⟨v2, vs2, d2, ds2, p2, q2, rfl, rfl, rfl, h2, r2⟩ := trodAll_cons r1
  obtain ⟨rfl, rfl, rfl⟩ := trodAll_nil r2
  obtain rfl : args = #[v0, v1, v2] := by cases args; simp_all
  obtain ⟨rfl, rfl⟩ := trodVars_none hV
  obtain ⟨a0, rfl, rfl, rfl, w0⟩ := open_int Try.underlying2 (hval 0 2 v0 rfl rfl) h0
  obtain ⟨a1, rfl, rfl, rfl, w1⟩ := open_int Try.underlying2 (hval 1 2 v1 rfl rfl) h1
  obtain ⟨a2, rfl, rfl, rfl, w2⟩ := open_int Try.underlying2 (hval 2 2 v2 rfl rfl) h2
  clear hA0 hval0
  simp only [List.append_nil] at hW'
  refine (walk a0 a1 a2 w0 w1 w2 W).mono fun e W' ⟨he, hg⟩ => ?_
  subst he
  exact ⟨_, rfl, post_of_same (pa := []) (pv := []) hW' (fun _ _ _ => (trodAll_cons_mk (shut_bool Try.underlying4 _) trodAll_mk0)) (fun sp _ => (trodAll_cons_mk (shut_int Try.underlying2 w0) (trodAll_cons_mk (shut_int Try.underlying2 w1) (trodAll_cons_mk (shut_int Try.underlying2 w2) trodAll_mk0)))) (fun _ _ => rfl) rfl
    (hg.frame _) hg.2.1 (ok_one (by kernel_rfl) rfl (okWide_bool_mk Try.underlying4 _))⟩

theorem over : Rows.numCeilSumsRow.holds Try.pinned (OpenSpec.ofChange Rows.numCeilSumsSpec) :=
  OpenClaim.holds_of_wide 8 Try.f8 rfl rfl rfl rfl rfl rfl rfl ⟨rfl, rfl, rfl, rfl, rfl⟩ rfl rfl rfl rfl rfl (by kernel_rfl) Try.func8 (by kernel_rfl)
    (of_decide_eq_true (by kernel_rfl)) (by unfold Func.isWrapper; first | (rw [if_pos (by decide +kernel)]; kernel_rfl) | (rw [if_neg (by decide +kernel)]; exact ⟨rfl, rfl⟩))
    (fun os started H enc _ => lifted os started H enc)

/-- ████ THE STATEMENT ████ -/
theorem proved : Rows.NumCeilSumsSaid :=
  over
#print axioms proved
end Go.Proofs.Ytcfbondgbhmcaaa.numCeilSums
