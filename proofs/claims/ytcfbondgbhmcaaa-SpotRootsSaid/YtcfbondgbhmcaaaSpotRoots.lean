/- SpotRoots: whatever the input, the law returns true, and each argument reads as it read before. No conditions but the row's own. -/
import Derived.Test.YtcfbondgbhmcaaaRows
import Derived.WalkKit
import Derived.ProofKit
import Derived.ShutString
import Derived.Below
import Derived.OpenShut
import Derived.Carry
import Derived.Test.YtcfbondgbhmcaaaSortSaid
import Derived.Test.YtcfbondgbhmcaaaSpotAlive
import Derived.Test.YtcfbondgbhmcaaaSpotFacts
namespace Go.Proofs.Ytcfbondgbhmcaaa.spotRoots
open Go.ChangeShapes Go.WideShapes Go.ChangeAt Go.RowKit
open Go.ChangeMaps (open_string shut_string)
set_option linter.unusedVariables false      -- a walk need not use every 'w<i>' (that an integer argument fits its kind)

theorem own : ownKnob Try.prog.godebug = none := by kernel_rfl

open Spot in
theorem roots_facts (x y : Int) (hx : -8000000 < x ∧ x < 8000000) (hy : -8000000 < y ∧ y < 8000000) :
    sq 0 0 (2 * x) (2 * y) = 4 * sq 0 0 x y ∧ sq 0 0 x y ≤ dist 0 0 x y * dist 0 0 x y ∧ 0 ≤ dist 0 0 x y ∧ dist 0 0 x y ≤ 1073741824 ∧ 0 ≤ sq 0 0 x y ∧ sq 0 0 x y ≤ 2251799813685248 ∧
    (dist 0 0 x y = 0 ∨ (dist 0 0 x y ≠ 0 ∧ (dist 0 0 x y - 1) * (dist 0 0 x y - 1) < sq 0 0 x y)) ∧ (dist 0 0 (2 * x) (2 * y) = 2 * dist 0 0 x y ∨ dist 0 0 (2 * x) (2 * y) = 2 * dist 0 0 x y - 1) := by
  have n0 : Near 0 := ⟨by decide, by decide⟩
  have nx : Near x := ⟨by omega, by omega⟩
  have ny : Near y := ⟨by omega, by omega⟩
  have nx2 : Near (2 * x) := ⟨by omega, by omega⟩
  have ny2 : Near (2 * y) := ⟨by omega, by omega⟩
  obtain ⟨a1, a2, a3, a4, a5⟩ := dist_facts n0 n0 nx ny
  obtain ⟨b1, b2, b3, b4, b5⟩ := dist_facts n0 n0 nx2 ny2
  obtain ⟨q1, q2⟩ := sq_bounds n0 n0 nx ny
  have e4 : sq 0 0 (2 * x) (2 * y) = 4 * sq 0 0 x y := by
    unfold sq
    simp only [Int.sub_zero]
    rw [mul4 2 x 2 x, mul4 2 y 2 y]; omega
  have up : dist 0 0 (2 * x) (2 * y) ≤ 2 * dist 0 0 x y := by
    apply dist_le n0 n0 nx2 ny2 (by omega)
    rw [e4, mul4 2 _ 2 _]; omega
  refine ⟨e4, a3, a1, a2, q1, q2, ?_, ?_⟩
  · by_cases h0 : dist 0 0 x y = 0
    · exact Or.inl h0
    · refine Or.inr ⟨h0, a5 ?_⟩
      rcases Int.lt_or_le 0 (sq 0 0 x y) with h | h
      · exact h
      · exact absurd (a4 h) h0
  · rw [e4] at b3 b4 b5
    by_cases h0 : 0 < sq 0 0 x y
    · have h5 := a5 h0
      have low : 2 * dist 0 0 x y - 2 < dist 0 0 (2 * x) (2 * y) := by
        rcases Int.lt_or_le (2 * dist 0 0 x y - 2) (dist 0 0 (2 * x) (2 * y)) with h | h
        · exact h
        · exfalso
          have h6 : dist 0 0 (2 * x) (2 * y) * dist 0 0 (2 * x) (2 * y) ≤ (2 * (dist 0 0 x y - 1)) * (2 * (dist 0 0 x y - 1)) := Int.mul_le_mul (by omega) (by omega) b1 (by omega)
          rw [mul4 2 _ 2 _] at h6
          omega
      omega
    · have := a4 (by omega)
      have := b4 (by omega)
      omega
open Spot in
theorem near8 {n : Int} (h : -8000000 < n ∧ n < 8000000) : Near n ∧ Near (2 * n) := ⟨⟨by omega, by omega⟩, ⟨by omega, by omega⟩⟩
set_option maxHeartbeats 4000000 in
set_option maxRecDepth 100000 in
/-! ### STEP 1: THE WALK: the Go text returns true. 'Below w.heap.size w w'': the world has at most new blocks (Derived/RowKit3.lean). Part the cases AHEAD of 'go_enter' where a test parts the walk; take each callee by a contract of your own. -/
theorem walk (a0 : Int) (a1 : Int) (w0 : (Lit.int .i64 a0).wf = true) (w1 : (Lit.int .i64 a1).wf = true) (w : World) :
    Calls Try.prog 12 #[.int .i64 a0, .int .i64 a1] w fun e w' => e = .returned (.bool true) ∧ Below w.heap.size w w' := by
  obtain ⟨g1, g2⟩ := Num.wf64 w0
  obtain ⟨g3, g4⟩ := Num.wf64 w1
  have hx := Spot.tmod_range a0 8000000 (by omega)
  have hy := Spot.tmod_range a1 8000000 (by omega)
  obtain ⟨f1, f2, f3, f4, f5, f6, f7, f8⟩ := roots_facts (a0.tmod 8000000) (a1.tmod 8000000) hx hy
  obtain ⟨n1, n2⟩ := near8 hx
  obtain ⟨n3, n4⟩ := near8 hy
  have n0 : Spot.Near 0 := ⟨by decide, by decide⟩
  have z0 : Fl.Sp 0 0 0 0 := ⟨Fl.isz_zero, Fl.isz_zero⟩
  have k1 := fun w => Spot.at_yes (a0.tmod 8000000) (a1.tmod 8000000) w n1 n3
  have k2 := fun w => Spot.at_yes (2 * a0.tmod 8000000) (2 * a1.tmod 8000000) w n2 n4
  have k3 := fun w => Spot.dist_yes _ _ _ _ _ _ _ _ w z0 ⟨Spot.isz_wd n1, Spot.isz_wd n3⟩ n0 n0 n1 n3
  have k4 := fun w => Spot.square_yes _ _ _ _ _ _ _ _ w z0 ⟨Spot.isz_wd n1, Spot.isz_wd n3⟩ n0 n0 n1 n3
  have k5 := fun w => Spot.dist_yes _ _ _ _ _ _ _ _ w z0 ⟨Spot.isz_wd n2, Spot.isz_wd n4⟩ n0 n0 n2 n4
  have k6 := fun w => Spot.square_yes _ _ _ _ _ _ _ _ w z0 ⟨Spot.isz_wd n2, Spot.isz_wd n4⟩ n0 n0 n2 n4
  rw [f1] at k6
  generalize Spot.dist 0 0 (a0.tmod 8000000) (a1.tmod 8000000) = d at *
  generalize Spot.dist 0 0 (2 * a0.tmod 8000000) (2 * a1.tmod 8000000) = far at *
  generalize Spot.sq 0 0 (a0.tmod 8000000) (a1.tmod 8000000) = q at *
  generalize Spot.wd (a0.tmod 8000000) = wx at *
  generalize Spot.wd (a1.tmod 8000000) = wy at *
  generalize Spot.wd (2 * a0.tmod 8000000) = wx2 at *
  generalize Spot.wd (2 * a1.tmod 8000000) = wy2 at *
  have K1 := Lib.hid k1; clear k1
  have K2 := Lib.hid k2; clear k2
  have K3 := Lib.hid k3; clear k3
  have K4 := Lib.hid k4; clear k4
  have K5 := Lib.hid k5; clear k5
  have K6 := Lib.hid k6; clear k6
  clear n0 n1 n2 n3 n4 z0 f1
  obtain ⟨hx1, hx2⟩ := hx
  obtain ⟨hy1, hy2⟩ := hy
  have dd : d * d ≤ 1152921504606846976 := Int.mul_le_mul f4 f4 f3 (by decide)
  have dd0 : 0 ≤ d * d := Int.mul_nonneg f3 f3
  have far1 : -1 ≤ far ∧ far ≤ 2147483648 := by omega
  have c7 : (d == 0) = true ∨ ((d == 0) = false ∧ (d - 1) * (d - 1) < q ∧ 0 ≤ (d - 1) * (d - 1)) := by
    rcases f7 with h | ⟨h, h'⟩
    · exact Or.inl (by simp [h])
    · exact Or.inr ⟨by simp [h], h', Int.mul_nonneg (by omega) (by omega)⟩
  have c8 : (far == 2 * d) = true ∨ ((far == 2 * d) = false ∧ (far == 2 * d - 1) = true) := by
    rcases f8 with h | h
    · exact Or.inl (by simp [h])
    · exact Or.inr ⟨by rw [h]; exact beq_eq_false_iff_ne.2 (by omega), by simp [h]⟩
  clear f7 f8
  rcases c7 with c7 | ⟨c7, c71, c72⟩ <;> rcases c8 with c8 | ⟨c8, c81⟩
  all_goals
    go_enter Try.func12, Try.ntmps12
    go_wp2_with fail
    refine (Spot.alive_any Spot.sortSaid _).mono ?_
    rintro e W1 ⟨rfl, hb⟩
    go_wp2_with fail
    refine (K1.out _).mono ?_
    rintro e w' ⟨rfl, rfl⟩
    go_wp2_with fail
    refine (K2.out _).mono ?_
    rintro e w' ⟨rfl, rfl⟩
    go_wp2_with fail
    refine (K3.out _).mono ?_
    rintro e w' ⟨rfl, rfl⟩
    go_wp2_with fail
    refine (K4.out _).mono ?_
    rintro e w' ⟨rfl, rfl⟩
    go_wp2_with fail
    refine (K5.out _).mono ?_
    rintro e w' ⟨rfl, rfl⟩
    go_wp2_with fail
    refine (K6.out _).mono ?_
    rintro e w' ⟨rfl, rfl⟩
    go_wp2_with fail
    go_ret
    exact ⟨rfl, hb⟩

/-! ### THE ROW's STEP: WRITTEN OUT: LEAVE IT -/
set_option maxRecDepth 100000 in
theorem lifted (os : Os) (started : os.Started) (H : Type) (enc : TypeId × Value → H) :
    ReturnsInHanded {} Try.checked os 12 .any (Rows.spotRootsSpec.pre6 enc Try.prog Try.f12 Rows.spotRootsRow.domain false) (Rows.spotRootsSpec.post enc Try.prog Try.f12 false true false false) := by
  refine returnsInHanded_of_change (C := Try.checked) own started (by kernel_rfl) Try.func12
    (ChangeSpec.witness6 (enc := enc) (C := Try.checked) false ⟨#[], #[.int .i64 0, .int .i64 0], []⟩ 8 (by kernel_rfl) (by kernel_rfl) (by kernel_rfl) (by kernel_rfl)) ?_
  intro W base args ds gs before hval0 hW hcnd _
  have hval : ∀ (j : Nat) t v, Try.f12.params[j]? = some t → args[j]? = some v → Value.okWide Try.prog W .any base t v := hval0
  have hW' := hW
  obtain ⟨p, q, hA0, hV, rfl, hfz, hnd⟩ := hW
  have hA : DataW.TrodAll enc Try.prog W 0 (fun _ => true) true Try.f12.params.toList args.toList ds p := hA0
  rw [Try.params12] at hA hval
  obtain ⟨v0, vs0, d0, ds0, p0, q0, hargs, rfl, rfl, h0, r0⟩ := trodAll_cons hA
  obtain ⟨v1, vs1, d1, ds1, p1, q1, rfl, rfl, rfl, h1, r1⟩ := trodAll_cons r0
  obtain ⟨rfl, rfl, rfl⟩ := trodAll_nil r1
  obtain rfl : args = #[v0, v1] := by cases args; simp_all
  obtain ⟨rfl, rfl⟩ := trodVars_none hV
  obtain ⟨a0, rfl, rfl, rfl, w0⟩ := open_int Try.underlying3 (hval 0 3 v0 rfl rfl) h0
  obtain ⟨a1, rfl, rfl, rfl, w1⟩ := open_int Try.underlying3 (hval 1 3 v1 rfl rfl) h1
  clear hA0 hval0
  simp only [List.append_nil] at hW'
  refine (walk a0 a1 w0 w1 W).mono fun e W' ⟨he, bel⟩ => ?_
  subst he
  exact ⟨_, rfl, _, _, _, [], _, [], hW', trodAll_mk1 (shut_bool Try.underlying4 _), (trodAll_cons_mk (shut_int Try.underlying3 w0) (trodAll_cons_mk (shut_int Try.underlying3 w1) trodAll_mk0)), rfl, bel.frame _, fun h => by cases h⟩

theorem over : Rows.spotRootsRow.holds Try.pinned (OpenSpec.ofChange Rows.spotRootsSpec) :=
  OpenClaim.holds_of_wide 12 Try.f12 rfl rfl rfl rfl rfl rfl rfl ⟨rfl, rfl, rfl, rfl, rfl⟩ rfl rfl rfl rfl rfl (by kernel_rfl) Try.func12 (by kernel_rfl)
    (of_decide_eq_true (by kernel_rfl)) (by unfold Func.isWrapper; first | (rw [if_pos (by decide +kernel)]; kernel_rfl) | (rw [if_neg (by decide +kernel)]; exact ⟨rfl, rfl⟩))
    (fun os started H enc _ => lifted os started H enc)

/-- ████ THE STATEMENT ████ -/
theorem proved : Rows.SpotRootsSaid :=
  over
#print axioms proved
end Go.Proofs.Ytcfbondgbhmcaaa.spotRoots
