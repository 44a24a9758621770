/- SpotWays: whatever the input, the law returns true, and each argument reads as it read before. No conditions but the row's own. -/
import Derived.Test.YtcfbondgbhmcaaaRows
import Derived.WalkKit
import Derived.ProofKit
import Derived.ShutString
import Derived.Below
import Derived.OpenShut
import Derived.Carry
import Derived.Test.YtcfbondgbhmcaaaSortSaid
import Derived.Test.YtcfbondgbhmcaaaSpotAlive
import Derived.Test.YtcfbondgbhmcaaaSpotFacts
namespace Go.Proofs.Ytcfbondgbhmcaaa.spotWays
open Go.ChangeShapes Go.WideShapes Go.ChangeAt Go.RowKit
open Go.ChangeMaps (open_string shut_string)
set_option linter.unusedVariables false      -- a walk need not use every 'w<i>' (that an integer argument fits its kind)

theorem own : ownKnob Try.prog.godebug = none := by kernel_rfl

/-! ### STEP 1: THE WALK: the Go text returns true. 'Below w.heap.size w w'': the world has at most new blocks (Derived/RowKit3.lean). Part the cases AHEAD of 'go_enter' where a test parts the walk; take each callee by a contract of your own. -/
/-- Two words of whole numbers, held against each other. -/
theorem order_cases {p q : Nat} {a b : Int} (h : Fl.Isz p a) (g : Fl.Isz q b) : (a = b ∧ FloatKind.f64.format.order p q = some .eq) ∨ (a ≠ b ∧ (FloatKind.f64.format.order p q = some .lt ∨ FloatKind.f64.format.order p q = some .gt)) := by
  have ho : FloatKind.f64.format.order p q = some (compare a b) := Fl.isz_order h g
  rw [ho]
  rcases Int.lt_trichotomy a b with l | l | l
  · exact Or.inr ⟨by omega, Or.inl (by rw [Int.compare_eq_lt.2 l])⟩
  · exact Or.inl ⟨l, by rw [l]; simp⟩
  · exact Or.inr ⟨by omega, Or.inr (by rw [Int.compare_eq_gt.2 l])⟩
theorem same_cases {p q p' q' : Nat} {a b a' b' d : Int} (h1 : Fl.Isz p a) (h2 : Fl.Isz q b) (h3 : Fl.Isz p' a') (h4 : Fl.Isz q' b') (hd : d = 0 ↔ (a = a' ∧ b = b')) :
    ((d == 0) = true ∧ FloatKind.f64.format.order p p' = some .eq ∧ FloatKind.f64.format.order q q' = some .eq) ∨ ((d == 0) = false ∧ FloatKind.f64.format.order p p' = some .lt) ∨ ((d == 0) = false ∧ FloatKind.f64.format.order p p' = some .gt) ∨
    ((d == 0) = false ∧ FloatKind.f64.format.order p p' = some .eq ∧ FloatKind.f64.format.order q q' = some .lt) ∨ ((d == 0) = false ∧ FloatKind.f64.format.order p p' = some .eq ∧ FloatKind.f64.format.order q q' = some .gt) := by
  have ne : ¬ (a = a' ∧ b = b') → (d == 0) = false := fun h => beq_eq_false_iff_ne.2 (fun h' => h (hd.1 h'))
  rcases order_cases h1 h3 with ⟨e1, o1⟩ | ⟨e1, o1⟩
  · rcases order_cases h2 h4 with ⟨e2, o2⟩ | ⟨e2, o2⟩
    · exact Or.inl ⟨by rw [hd.2 ⟨e1, e2⟩]; rfl, o1, o2⟩
    · rcases o2 with o2 | o2
      · exact Or.inr (Or.inr (Or.inr (Or.inl ⟨ne (fun h => e2 h.2), o1, o2⟩)))
      · exact Or.inr (Or.inr (Or.inr (Or.inr ⟨ne (fun h => e2 h.2), o1, o2⟩)))
  · rcases o1 with o1 | o1
    · exact Or.inr (Or.inl ⟨ne (fun h => e1 h.1), o1⟩)
    · exact Or.inr (Or.inr (Or.inl ⟨ne (fun h => e1 h.1), o1⟩))
set_option maxHeartbeats 1000000 in
set_option maxRecDepth 100000 in
theorem walk (a0 : Int) (a1 : Int) (a2 : Int) (a3 : Int) (a4 : Int) (a5 : Int) (w0 : (Lit.int .i64 a0).wf = true) (w1 : (Lit.int .i64 a1).wf = true) (w2 : (Lit.int .i64 a2).wf = true) (w3 : (Lit.int .i64 a3).wf = true) (w4 : (Lit.int .i64 a4).wf = true) (w5 : (Lit.int .i64 a5).wf = true) (w : World) :
    Calls Try.prog 9 #[.int .i64 a0, .int .i64 a1, .int .i64 a2, .int .i64 a3, .int .i64 a4, .int .i64 a5] w fun e w' => e = .returned (.bool true) ∧ Below w.heap.size w w' := by
  obtain ⟨g1, g2⟩ := Num.wf64 w0
  obtain ⟨g3, g4⟩ := Num.wf64 w1
  obtain ⟨g5, g6⟩ := Num.wf64 w2
  obtain ⟨g7, g8⟩ := Num.wf64 w3
  obtain ⟨g9, g10⟩ := Num.wf64 w4
  obtain ⟨g11, g12⟩ := Num.wf64 w5
  have n1 := Spot.tmod_near a0 16777217 (by omega) (by omega)
  have n2 := Spot.tmod_near a1 16777217 (by omega) (by omega)
  have n3 := Spot.tmod_near a2 16777217 (by omega) (by omega)
  have n4 := Spot.tmod_near a3 16777217 (by omega) (by omega)
  have n5 := Spot.tmod_near a4 16777217 (by omega) (by omega)
  have n6 := Spot.tmod_near a5 16777217 (by omega) (by omega)
  have k1 := fun w => Spot.at_yes _ _ w n1 n2
  have k2 := fun w => Spot.at_yes _ _ w n3 n4
  have k3 := fun w => Spot.at_yes _ _ w n5 n6
  generalize hm0 : a0.tmod 16777217 = ax at *
  generalize hm1 : a1.tmod 16777217 = ay at *
  generalize hm2 : a2.tmod 16777217 = bx at *
  generalize hm3 : a3.tmod 16777217 = by' at *
  generalize hm4 : a4.tmod 16777217 = cx at *
  generalize hm5 : a5.tmod 16777217 = cy at *
  have s1 : Fl.Sp (Spot.wd ax) (Spot.wd ay) ax ay := ⟨Spot.isz_wd n1, Spot.isz_wd n2⟩
  have s2 : Fl.Sp (Spot.wd bx) (Spot.wd by') bx by' := ⟨Spot.isz_wd n3, Spot.isz_wd n4⟩
  have s3 : Fl.Sp (Spot.wd cx) (Spot.wd cy) cx cy := ⟨Spot.isz_wd n5, Spot.isz_wd n6⟩
  have d1 := fun w => Spot.dist_yes _ _ _ _ _ _ _ _ w s1 s2 n1 n2 n3 n4
  have d2 := fun w => Spot.dist_yes _ _ _ _ _ _ _ _ w s1 s3 n1 n2 n5 n6
  have d3 := fun w => Spot.dist_yes _ _ _ _ _ _ _ _ w s3 s2 n5 n6 n3 n4
  have d4 := fun w => Spot.dist_yes _ _ _ _ _ _ _ _ w s2 s1 n3 n4 n1 n2
  rw [Spot.dist_comm ax ay bx by'] at d4
  have t1 := fun w => Spot.Turn_yes _ _ _ _ _ _ _ _ _ _ _ _ w s1 s2 s3 n1 n2 n3 n4 n5 n6
  have t2 := fun w => Spot.Turn_yes _ _ _ _ _ _ _ _ _ _ _ _ w s1 s3 s2 n1 n2 n5 n6 n3 n4
  rw [Spot.side_swap ax ay bx by' cx cy] at t2
  have q1 := fun w => Spot.square_yes _ _ _ _ _ _ _ _ w s1 s2 n1 n2 n3 n4
  have tri := Spot.dist_triangle n1 n2 n3 n4 n5 n6
  obtain ⟨p1, p2⟩ := Spot.side_range ax ay bx by' cx cy
  have q0 := (Spot.sq_bounds n1 n2 n3 n4).1
  obtain ⟨r1, r2, -, -, -⟩ := Spot.dist_facts n1 n2 n5 n6
  obtain ⟨r3, r4, -, -, -⟩ := Spot.dist_facts n5 n6 n3 n4
  have cs := same_cases s1.1 s1.2 s2.1 s2.2 (Spot.dist_zero n1 n2 n3 n4)
  generalize Spot.dist ax ay bx by' = dab at *
  generalize Spot.dist ax ay cx cy = dac at *
  generalize Spot.dist cx cy bx by' = dcb at *
  generalize Spot.side ax ay bx by' cx cy = t at *
  generalize Spot.sq ax ay bx by' = q at *
  generalize Spot.wd ax = u1 at *
  generalize Spot.wd ay = u2 at *
  generalize Spot.wd bx = u3 at *
  generalize Spot.wd by' = u4 at *
  generalize Spot.wd cx = u5 at *
  generalize Spot.wd cy = u6 at *
  have K1 := Lib.hid k1; clear k1
  have K2 := Lib.hid k2; clear k2
  have K3 := Lib.hid k3; clear k3
  have D1 := Lib.hid d1; clear d1
  have D2 := Lib.hid d2; clear d2
  have D3 := Lib.hid d3; clear d3
  have D4 := Lib.hid d4; clear d4
  have T1 := Lib.hid t1; clear t1
  have T2 := Lib.hid t2; clear t2
  have Q1 := Lib.hid q1; clear q1
  clear s1 s2 s3 n1 n2 n3 n4 n5 n6
  rcases cs with ⟨c1, c2, c3⟩ | ⟨c1, c2⟩ | ⟨c1, c2⟩ | ⟨c1, c2, c3⟩ | ⟨c1, c2, c3⟩
  all_goals
    go_enter Try.func9, Try.ntmps9
    go_wp2_with fail
    refine (Spot.alive_any Spot.sortSaid _).mono ?_
    rintro e W1 ⟨rfl, hb⟩
    go_wp2_with fail
    refine (K1.out _).mono ?_
    rintro e w' ⟨rfl, rfl⟩
    go_wp2_with fail
    refine (K2.out _).mono ?_
    rintro e w' ⟨rfl, rfl⟩
    go_wp2_with fail
    refine (K3.out _).mono ?_
    rintro e w' ⟨rfl, rfl⟩
    go_wp2_with fail
    refine (D1.out _).mono ?_
    rintro e w' ⟨rfl, rfl⟩
    go_wp2_with fail
    refine (D2.out _).mono ?_
    rintro e w' ⟨rfl, rfl⟩
    go_wp2_with fail
    refine (D3.out _).mono ?_
    rintro e w' ⟨rfl, rfl⟩
    go_wp2_with fail
    refine (D1.out _).mono ?_
    rintro e w' ⟨rfl, rfl⟩
    go_wp2_with fail
    refine (D4.out _).mono ?_
    rintro e w' ⟨rfl, rfl⟩
    go_wp2_with fail
    refine (D1.out _).mono ?_
    rintro e w' ⟨rfl, rfl⟩
    go_wp2_with fail
    refine (T1.out _).mono ?_
    rintro e w' ⟨rfl, rfl⟩
    go_wp2_with fail
    refine (T2.out _).mono ?_
    rintro e w' ⟨rfl, rfl⟩
    go_wp2_with fail
    refine (Q1.out _).mono ?_
    rintro e w' ⟨rfl, rfl⟩
    go_wp2_with fail
    go_ret
    exact ⟨rfl, hb⟩

/-! ### THE ROW's STEP: WRITTEN OUT: LEAVE IT -/
set_option maxRecDepth 100000 in
theorem lifted (os : Os) (started : os.Started) (H : Type) (enc : TypeId × Value → H) :
    ReturnsInHanded {} Try.checked os 9 .any (Rows.spotWaysSpec.pre6 enc Try.prog Try.f9 Rows.spotWaysRow.domain false) (Rows.spotWaysSpec.post enc Try.prog Try.f9 false true false false) := by
  refine returnsInHanded_of_change (C := Try.checked) own started (by kernel_rfl) Try.func9
    (ChangeSpec.witness6 (enc := enc) (C := Try.checked) false ⟨#[], #[.int .i64 0, .int .i64 0, .int .i64 0, .int .i64 0, .int .i64 0, .int .i64 0], []⟩ 8 (by kernel_rfl) (by kernel_rfl) (by kernel_rfl) (by kernel_rfl)) ?_
  intro W base args ds gs before hval0 hW hcnd _
  have hval : ∀ (j : Nat) t v, Try.f9.params[j]? = some t → args[j]? = some v → Value.okWide Try.prog W .any base t v := hval0
  have hW' := hW
  obtain ⟨p, q, hA0, hV, rfl, hfz, hnd⟩ := hW
  have hA : DataW.TrodAll enc Try.prog W 0 (fun _ => true) true Try.f9.params.toList args.toList ds p := hA0
  rw [Try.params9] at hA hval
  obtain ⟨v0, vs0, d0, ds0, p0, q0, hargs, rfl, rfl, h0, r0⟩ := trodAll_cons hA
  obtain ⟨v1, vs1, d1, ds1, p1, q1, rfl, rfl, rfl, h1, r1⟩ := trodAll_cons r0
  obtain ⟨v2, vs2, d2, ds2, p2, q2, rfl, rfl, rfl, h2, r2⟩ := trodAll_cons r1
  obtain ⟨v3, vs3, d3, ds3, p3, q3, rfl, rfl, rfl, h3, r3⟩ := trodAll_cons r2
  obtain ⟨v4, vs4, d4, ds4, p4, q4, rfl, rfl, rfl, h4, r4⟩ := trodAll_cons r3
  obtain ⟨v5, vs5, d5, ds5, p5, q5, rfl, rfl, rfl, h5, r5⟩ := trodAll_cons r4
  obtain ⟨rfl, rfl, rfl⟩ := trodAll_nil r5
  obtain rfl : args = #[v0, v1, v2, v3, v4, v5] := by cases args; simp_all
  obtain ⟨rfl, rfl⟩ := trodVars_none hV
  obtain ⟨a0, rfl, rfl, rfl, w0⟩ := open_int Try.underlying3 (hval 0 3 v0 rfl rfl) h0
  obtain ⟨a1, rfl, rfl, rfl, w1⟩ := open_int Try.underlying3 (hval 1 3 v1 rfl rfl) h1
  obtain ⟨a2, rfl, rfl, rfl, w2⟩ := open_int Try.underlying3 (hval 2 3 v2 rfl rfl) h2
  obtain ⟨a3, rfl, rfl, rfl, w3⟩ := open_int Try.underlying3 (hval 3 3 v3 rfl rfl) h3
  obtain ⟨a4, rfl, rfl, rfl, w4⟩ := open_int Try.underlying3 (hval 4 3 v4 rfl rfl) h4
  obtain ⟨a5, rfl, rfl, rfl, w5⟩ := open_int Try.underlying3 (hval 5 3 v5 rfl rfl) h5
  clear hA0 hval0
  simp only [List.append_nil] at hW'
  refine (walk a0 a1 a2 a3 a4 a5 w0 w1 w2 w3 w4 w5 W).mono fun e W' ⟨he, bel⟩ => ?_
  subst he
  exact ⟨_, rfl, _, _, _, [], _, [], hW', trodAll_mk1 (shut_bool Try.underlying4 _), (trodAll_cons_mk (shut_int Try.underlying3 w0) (trodAll_cons_mk (shut_int Try.underlying3 w1) (trodAll_cons_mk (shut_int Try.underlying3 w2) (trodAll_cons_mk (shut_int Try.underlying3 w3) (trodAll_cons_mk (shut_int Try.underlying3 w4) (trodAll_cons_mk (shut_int Try.underlying3 w5) trodAll_mk0)))))), rfl, bel.frame _, fun h => by cases h⟩

theorem over : Rows.spotWaysRow.holds Try.pinned (OpenSpec.ofChange Rows.spotWaysSpec) :=
  OpenClaim.holds_of_wide 9 Try.f9 rfl rfl rfl rfl rfl rfl rfl ⟨rfl, rfl, rfl, rfl, rfl⟩ rfl rfl rfl rfl rfl (by kernel_rfl) Try.func9 (by kernel_rfl)
    (of_decide_eq_true (by kernel_rfl)) (by unfold Func.isWrapper; first | (rw [if_pos (by decide +kernel)]; kernel_rfl) | (rw [if_neg (by decide +kernel)]; exact ⟨rfl, rfl⟩))
    (fun os started H enc _ => lifted os started H enc)

/-- ████ THE STATEMENT ████ -/
theorem proved : Rows.SpotWaysSaid :=
  over
#print axioms proved
end Go.Proofs.Ytcfbondgbhmcaaa.spotWays
