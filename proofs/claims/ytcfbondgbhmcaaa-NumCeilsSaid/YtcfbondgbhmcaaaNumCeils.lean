/- NumCeils: whatever the input, the law returns true, and each argument reads as it read before. No conditions but the row's own. -/
import Derived.Test.YtcfbondgbhmcaaaRows
import Derived.WalkKit
import Derived.ProofKit
import Derived.OpenShut
import Derived.Test.YtcfbondgbhmcaaaNumFacts
namespace Go.Proofs.Ytcfbondgbhmcaaa.numCeils
open Go.ChangeShapes Go.WideShapes Go.ChangeAt Go.RowKit
set_option linter.unusedVariables false      -- a walk need not use every 'w<i>' (that an integer argument fits its kind)

theorem own : ownKnob Try.prog.godebug = none := by kernel_rfl

set_option maxHeartbeats 2000000 in
set_option maxRecDepth 100000 in
/-! ### STEP 1: THE WALK: the Go text returns true. 'Grown w w'': the world has at most new blocks (Derived/RowKit3.lean). Part the cases AHEAD of 'go_enter' where a test parts the walk; take each callee by a contract of your own. -/
theorem walk (a0 : Int) (a1 : Int) (w0 : (Lit.int .i64 a0).wf = true) (w1 : (Lit.int .i64 a1).wf = true) (w : World) :
    Calls Try.prog 5 #[.int .i64 a0, .int .i64 a1] w fun e w' => e = .returned (.bool true) ∧ Grown w w' := by
  obtain ⟨g1, g2⟩ := Num.wf64 w0
  obtain ⟨g3, g4⟩ := Num.wf64 w1
  by_cases hb : a1 < 1
  · have h0 := Num.ceil_zero a0 a1 hb
    have H0 := Lib.hid h0; clear h0
    go_enter Try.func5, Try.ntmps5
    go_wp2_with fail
    refine (Num.alive_any _).mono ?_
    rintro e w' ⟨rfl, rfl⟩
    go_wp2_with fail
    refine (Num.ceil_any _ _ _ g1 g2 g4).mono ?_
    rintro e w' ⟨rfl, rfl⟩
    rw [H0.out]
    go_wp2_with fail
    go_ret
    exact ⟨rfl, (Grown.refl _).alloc _ _⟩
  · obtain ⟨ha1, ha2⟩ := Num.held_between a0 (-1125899906842624) 1125899906842624 (by omega)
    obtain ⟨hb1, hb2⟩ := Num.held_between a1 1 1024 (by omega)
    generalize hav : Num.heldV a0 (-1125899906842624) 1125899906842624 = a at *
    generalize hbv : Num.heldV a1 1 1024 = b at *
    obtain ⟨c1, c2⟩ := Num.ceil_spec a b hb1
    have c3 : Num.ceilV a b ≤ 1125899906842624 := Num.ceil_le _ _ hb1 _ (by omega)
    have c4 : -1125899906842624 ≤ Num.ceilV a b := Num.le_ceil _ _ hb1 _ (by omega)
    generalize hn : Num.ceilV a b = n at *
    have d1 : n * b ≤ 1125899906842624 * 1024 := by
      rcases Int.lt_or_le n 0 with h | h
      · have := Int.mul_nonpos_of_nonpos_of_nonneg (Int.le_of_lt h) (show 0 ≤ b by omega); omega
      · exact Int.mul_le_mul c3 hb2 (by omega) (by decide)
    have d2 : -1125899906842624 * 1024 - 1024 ≤ (n - 1) * b := by rw [Int.sub_mul, Int.one_mul]; omega
    obtain ⟨r1, r2, r3, r4, r5⟩ := Num.rootV_spec a (by omega)
    generalize hr : Num.rootV a = r at *
    have s1 : r * r ≤ 1152921504606846976 := Int.mul_le_mul r3 r3 r2 (by decide)
    have HA := Lib.hid hav; clear hav
    have HB := Lib.hid hbv; clear hbv
    have HN := Lib.hid hn; clear hn
    have HR := Lib.hid hr; clear hr
    have e1 : ¬ n * b < a := by omega
    have e2 : ¬ a ≤ (n - 1) * b := by omega
    have hcase : (a ≤ 0 ∧ (r == 0) = true) ∨ (¬ a ≤ 0 ∧ 0 < a ∧ (r - 1) * (r - 1) < a ∧ 0 ≤ (r - 1) * (r - 1)) := by
      by_cases h : a ≤ 0
      · exact Or.inl ⟨h, by simp [r1 h]⟩
      · refine Or.inr ⟨h, by omega, r5 (by omega), ?_⟩
        by_cases h1 : r = 0
        · subst h1; decide
        · exact Int.mul_nonneg (by omega) (by omega)
    clear r1 r5 c1 c2
    rcases hcase with ⟨h1, h2⟩ | ⟨h1, h2, h3, h4⟩
    all_goals
      go_enter Try.func5, Try.ntmps5
      go_wp2_with fail
      refine (Num.alive_any _).mono ?_
      rintro e w' ⟨rfl, rfl⟩
      go_wp2_with fail
      refine (Num.held_any _ _ _ _).mono ?_
      rintro e w' ⟨rfl, rfl⟩
      rw [HA.out]
      go_wp2_with fail
      refine (Num.held_any _ _ _ _).mono ?_
      rintro e w' ⟨rfl, rfl⟩
      rw [HB.out]
      go_wp2_with fail
      refine (Num.ceil_any _ _ _ (by omega) (by omega) (by omega)).mono ?_
      rintro e w' ⟨rfl, rfl⟩
      rw [HN.out]
      go_wp2_with fail
      refine (Num.root_any _ _).mono ?_
      rintro e w' ⟨rfl, rfl⟩
      rw [HR.out]
      go_wp2_with fail
      go_ret
      exact ⟨rfl, (Grown.refl _).alloc _ _⟩

/-! ### THE ROW's STEP: WRITTEN OUT: LEAVE IT -/
set_option maxRecDepth 100000 in
theorem lifted (os : Os) (started : os.Started) (H : Type) (enc : TypeId × Value → H) :
    ReturnsInHanded {} Try.checked os 5 .any (Rows.numCeilsSpec.pre6 enc Try.prog Try.f5 Rows.numCeilsRow.domain false) (Rows.numCeilsSpec.post enc Try.prog Try.f5 false true false false) := by
  refine returnsInHanded_of_change (C := Try.checked) own started (by kernel_rfl) Try.func5
    (ChangeSpec.witness6 (enc := enc) (C := Try.checked) false ⟨#[], #[.int .i64 0, .int .i64 0], []⟩ 8 (by kernel_rfl) (by kernel_rfl) (by kernel_rfl) (by kernel_rfl)) ?_
  intro W base args ds gs before hval0 hW hcnd _
  have hval : ∀ (j : Nat) t v, Try.f5.params[j]? = some t → args[j]? = some v → Value.okWide Try.prog W .any base t v := hval0
  have hW' := hW
  obtain ⟨p, q, hA0, hV, rfl, hfz, hnd⟩ := hW
  have hA : DataW.TrodAll enc Try.prog W 0 (fun _ => true) true Try.f5.params.toList args.toList ds p := hA0
  rw [Try.params5] at hA hval
  obtain ⟨v0, vs0, d0, ds0, p0, q0, hargs, rfl, rfl, h0, r0⟩ := trodAll_cons hA
  obtain ⟨v1, vs1, d1, ds1, p1, q1, rfl, rfl, rfl, h1, r1⟩ := trodAll_cons r0
  obtain ⟨rfl, rfl, rfl⟩ := trodAll_nil r1
  obtain rfl : args = #[v0, v1] := by cases args; simp_all
  obtain ⟨rfl, rfl⟩ := trodVars_none hV
  obtain ⟨a0, rfl, rfl, rfl, w0⟩ := open_int Try.underlying2 (hval 0 2 v0 rfl rfl) h0
  obtain ⟨a1, rfl, rfl, rfl, w1⟩ := open_int Try.underlying2 (hval 1 2 v1 rfl rfl) h1
  clear hA0 hval0
  simp only [List.append_nil] at hW'
  refine (walk a0 a1 w0 w1 W).mono fun e W' ⟨he, hg⟩ => ?_
  subst he
  exact ⟨_, rfl, post_of_same (pa := []) (pv := []) hW' (fun _ _ _ => (trodAll_cons_mk (shut_bool Try.underlying4 _) trodAll_mk0)) (fun sp _ => (trodAll_cons_mk (shut_int Try.underlying2 w0) (trodAll_cons_mk (shut_int Try.underlying2 w1) trodAll_mk0))) (fun _ _ => rfl) rfl
    (hg.frame _) hg.2.1 (ok_one (by kernel_rfl) rfl (okWide_bool_mk Try.underlying4 _))⟩

theorem over : Rows.numCeilsRow.holds Try.pinned (OpenSpec.ofChange Rows.numCeilsSpec) :=
  OpenClaim.holds_of_wide 5 Try.f5 rfl rfl rfl rfl rfl rfl rfl ⟨rfl, rfl, rfl, rfl, rfl⟩ rfl rfl rfl rfl rfl (by kernel_rfl) Try.func5 (by kernel_rfl)
    (of_decide_eq_true (by kernel_rfl)) (by unfold Func.isWrapper; first | (rw [if_pos (by decide +kernel)]; kernel_rfl) | (rw [if_neg (by decide +kernel)]; exact ⟨rfl, rfl⟩))
    (fun os started H enc _ => lifted os started H enc)

/-- ████ THE STATEMENT ████ -/
theorem proved : Rows.NumCeilsSaid :=
  over
#print axioms proved
end Go.Proofs.Ytcfbondgbhmcaaa.numCeils
