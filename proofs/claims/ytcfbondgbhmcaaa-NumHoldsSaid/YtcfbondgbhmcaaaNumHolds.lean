/- NumHolds: whatever the input, the law returns true, and each argument reads as it read before. No conditions but the row's own. -/
import Derived.Test.YtcfbondgbhmcaaaRows
import Derived.WalkKit
import Derived.ProofKit
import Derived.OpenShut
import Derived.Test.YtcfbondgbhmcaaaNumAlive
namespace Go.Proofs.Ytcfbondgbhmcaaa.numHolds
open Go.ChangeShapes Go.WideShapes Go.ChangeAt Go.RowKit
set_option linter.unusedVariables false      -- a walk need not use every 'w<i>' (that an integer argument fits its kind)

theorem own : ownKnob Try.prog.godebug = none := by kernel_rfl

theorem held_twice (a low high : Int) : Num.heldV (Num.heldV a low high) low high = Num.heldV a low high := by
  unfold Num.heldV; split <;> (try split) <;> (try split) <;> omega
theorem held_mono {a b low high : Int} (h : a ≤ b) : Num.heldV a low high ≤ Num.heldV b low high := by
  unfold Num.heldV; split <;> (try split) <;> (try split) <;> (try split) <;> omega
theorem held_facts (a low high : Int) : (high < low → Num.heldV a low high = low) ∧ (low ≤ high → low ≤ Num.heldV a low high ∧ Num.heldV a low high ≤ high ∧ (low ≤ a → a ≤ high → Num.heldV a low high = a)) := by
  unfold Num.heldV; split <;> (try split) <;> omega
set_option maxHeartbeats 2000000 in
set_option maxRecDepth 100000 in
/-! ### STEP 1: THE WALK: the Go text returns true. 'Grown w w'': the world has at most new blocks (Derived/RowKit3.lean). Part the cases AHEAD of 'go_enter' where a test parts the walk; take each callee by a contract of your own. -/
theorem walk (a0 : Int) (a1 : Int) (a2 : Int) (a3 : Int) (w0 : (Lit.int .i64 a0).wf = true) (w1 : (Lit.int .i64 a1).wf = true) (w2 : (Lit.int .i64 a2).wf = true) (w3 : (Lit.int .i64 a3).wf = true) (w : World) :
    Calls Try.prog 7 #[.int .i64 a0, .int .i64 a1, .int .i64 a2, .int .i64 a3] w fun e w' => e = .returned (.bool true) ∧ Grown w w' := by
  have hm : a0 ≤ a1 → Num.heldV a0 a2 a3 ≤ Num.heldV a1 a2 a3 := held_mono
  have h2 := held_twice a0 a2 a3
  obtain ⟨f1, f2⟩ := held_facts a0 a2 a3
  generalize hx : Num.heldV a0 a2 a3 = x at *
  generalize hy : Num.heldV a1 a2 a3 = y at *
  have HX := Lib.hid hx; clear hx
  have HY := Lib.hid hy; clear hy
  have H2 := Lib.hid h2; clear h2
  have h1 : (a0 ≤ a1 ∧ ¬ y < x) ∨ ¬ a0 ≤ a1 := by
    by_cases h : a0 ≤ a1
    · exact Or.inl ⟨h, by have := hm h; omega⟩
    · exact Or.inr h
  have h3 : (a3 < a2 ∧ (x == a2) = true) ∨ (¬ a3 < a2 ∧ a0 < a2 ∧ a2 ≤ x ∧ x ≤ a3) ∨ (¬ a3 < a2 ∧ ¬ a0 < a2 ∧ a3 < a0 ∧ a2 ≤ x ∧ x ≤ a3) ∨ (¬ a3 < a2 ∧ ¬ a0 < a2 ∧ ¬ a3 < a0 ∧ (x == a0) = true ∧ a2 ≤ x ∧ x ≤ a3) := by
    by_cases h : a3 < a2
    · exact Or.inl ⟨h, by simp [f1 h]⟩
    · obtain ⟨g1, g2, g3⟩ := f2 (by omega)
      by_cases h4 : a0 < a2
      · exact Or.inr (Or.inl ⟨h, h4, g1, g2⟩)
      · by_cases h5 : a3 < a0
        · exact Or.inr (Or.inr (Or.inl ⟨h, h4, h5, g1, g2⟩))
        · exact Or.inr (Or.inr (Or.inr ⟨h, h4, h5, by simp [g3 (by omega) (by omega)], g1, g2⟩))
  clear hm f1 f2
  rcases h1 with ⟨h11, h12⟩ | h11 <;> rcases h3 with ⟨h31, h32⟩ | ⟨h31, h32, h33, h34⟩ | ⟨h31, h32, h33, h34, h35⟩ | ⟨h31, h32, h33, h34, h35, h36⟩
  all_goals
    go_enter Try.func7, Try.ntmps7
    go_wp2_with fail
    refine (Num.alive_any _).mono ?_
    rintro e w' ⟨rfl, rfl⟩
    go_wp2_with fail
    refine (Num.held_any _ _ _ _).mono ?_
    rintro e w' ⟨rfl, rfl⟩
    rw [HX.out]
    go_wp2_with fail
    refine (Num.held_any _ _ _ _).mono ?_
    rintro e w' ⟨rfl, rfl⟩
    rw [HY.out]
    go_wp2_with fail
    refine (Num.held_any _ _ _ _).mono ?_
    rintro e w' ⟨rfl, rfl⟩
    rw [H2.out]
    go_wp2_with fail
    go_ret
    exact ⟨rfl, (Grown.refl _).alloc _ _⟩

/-! ### THE ROW's STEP: WRITTEN OUT: LEAVE IT -/
set_option maxRecDepth 100000 in
theorem lifted (os : Os) (started : os.Started) (H : Type) (enc : TypeId × Value → H) :
    ReturnsInHanded {} Try.checked os 7 .any (Rows.numHoldsSpec.pre6 enc Try.prog Try.f7 Rows.numHoldsRow.domain false) (Rows.numHoldsSpec.post enc Try.prog Try.f7 false true false false) := by
  refine returnsInHanded_of_change (C := Try.checked) own started (by kernel_rfl) Try.func7
    (ChangeSpec.witness6 (enc := enc) (C := Try.checked) false ⟨#[], #[.int .i64 0, .int .i64 0, .int .i64 0, .int .i64 0], []⟩ 8 (by kernel_rfl) (by kernel_rfl) (by kernel_rfl) (by kernel_rfl)) ?_
  intro W base args ds gs before hval0 hW hcnd _
  have hval : ∀ (j : Nat) t v, Try.f7.params[j]? = some t → args[j]? = some v → Value.okWide Try.prog W .any base t v := hval0
  have hW' := hW
  obtain ⟨p, q, hA0, hV, rfl, hfz, hnd⟩ := hW
  have hA : DataW.TrodAll enc Try.prog W 0 (fun _ => true) true Try.f7.params.toList args.toList ds p := hA0
  rw [Try.params7] at hA hval
  obtain ⟨v0, vs0, d0, ds0, p0, q0, hargs, rfl, rfl, h0, r0⟩ := trodAll_cons hA
  obtain ⟨v1, vs1, d1, ds1, p1, q1, rfl, rfl, rfl, h1, r1⟩ := trodAll_cons r0
  obtain ⟨v2, vs2, d2, ds2, p2, q2, rfl, rfl, rfl, h2, r2⟩ := trodAll_cons r1
  obtain ⟨v3, vs3, d3, ds3, p3, q3, rfl, rfl, rfl, h3, r3⟩ := trodAll_cons r2
  obtain ⟨rfl, rfl, rfl⟩ := trodAll_nil r3
  obtain rfl : args = #[v0, v1, v2, v3] := by cases args; simp_all
  obtain ⟨rfl, rfl⟩ := trodVars_none hV
  obtain ⟨a0, rfl, rfl, rfl, w0⟩ := open_int Try.underlying2 (hval 0 2 v0 rfl rfl) h0
  obtain ⟨a1, rfl, rfl, rfl, w1⟩ := open_int Try.underlying2 (hval 1 2 v1 rfl rfl) h1
  obtain ⟨a2, rfl, rfl, rfl, w2⟩ := open_int Try.underlying2 (hval 2 2 v2 rfl rfl) h2
  obtain ⟨a3, rfl, rfl, rfl, w3⟩ := open_int Try.underlying2 (hval 3 2 v3 rfl rfl) h3
  clear hA0 hval0
  simp only [List.append_nil] at hW'
  refine (walk a0 a1 a2 a3 w0 w1 w2 w3 W).mono fun e W' ⟨he, hg⟩ => ?_
  subst he
  exact ⟨_, rfl, post_of_same (pa := []) (pv := []) hW' (fun _ _ _ => (trodAll_cons_mk (shut_bool Try.underlying4 _) trodAll_mk0)) (fun sp _ => (trodAll_cons_mk (shut_int Try.underlying2 w0) (trodAll_cons_mk (shut_int Try.underlying2 w1) (trodAll_cons_mk (shut_int Try.underlying2 w2) (trodAll_cons_mk (shut_int Try.underlying2 w3) trodAll_mk0))))) (fun _ _ => rfl) rfl
    (hg.frame _) hg.2.1 (ok_one (by kernel_rfl) rfl (okWide_bool_mk Try.underlying4 _))⟩

theorem over : Rows.numHoldsRow.holds Try.pinned (OpenSpec.ofChange Rows.numHoldsSpec) :=
  OpenClaim.holds_of_wide 7 Try.f7 rfl rfl rfl rfl rfl rfl rfl ⟨rfl, rfl, rfl, rfl, rfl⟩ rfl rfl rfl rfl rfl (by kernel_rfl) Try.func7 (by kernel_rfl)
    (of_decide_eq_true (by kernel_rfl)) (by unfold Func.isWrapper; first | (rw [if_pos (by decide +kernel)]; kernel_rfl) | (rw [if_neg (by decide +kernel)]; exact ⟨rfl, rfl⟩))
    (fun os started H enc _ => lifted os started H enc)

/-- ████ THE STATEMENT ████ -/
theorem proved : Rows.NumHoldsSaid :=
  over
#print axioms proved
end Go.Proofs.Ytcfbondgbhmcaaa.numHolds
