/- DiffSolves: whatever the input, the law returns true, and each argument reads as it read before. No conditions but the row's own. -/
import Derived.Test.YtjhghkieghdoaaaRows
import Derived.WalkKit
import Derived.ProofKit
import Derived.ShutString
import Derived.ChangeOld
import Derived.Below
import Derived.OpenShut
import Derived.Lib.SmallJoins
import Derived.Test.YtjhghkieghdoaaaDiffLaw
import Derived.Test.YtjhghkieghdoaaaDiffAlive
import Derived.Test.YtjhghkieghdoaaaDiffRefR
import Derived.Test.YtjhghkieghdoaaaDiffCirc
import Derived.Test.YtjhghkieghdoaaaDiffSame
namespace Go.Proofs.Ytjhghkieghdoaaa.diffSolves
open Go.ChangeShapes Go.WideShapes Go.ChangeAt Go.RowKit Go.Joins
open Go.ChangeMaps (open_string shut_string)
set_option linter.unusedVariables false

theorem own : ownKnob Try.prog.godebug = none := by kernel_rfl
theorem laidOut : laidOutB Try.prog = true := by kernel_rfl
open Diff Go.Lib
set_option maxHeartbeats 4000000 in
set_option maxRecDepth 100000 in
theorem walk (w : World) (a0 : Int) (w0 : (Lit.int .i64 a0).wf = true) (b1 : Option Addr) (len1 cap1 : Nat) (f1 t1 g1 : Nat → Int) (w1 : IsEs w b1 len1 f1 t1 g1) (x1 : len1 ≤ maxLen) (a2 : Int) (w2 : (Lit.int .i64 a2).wf = true) :
    Calls Try.prog 3 #[.int .i64 a0, .slice b1 len1 cap1, .int .i64 a2] w fun e w' => e = .returned (.bool true) ∧ Below w.heap.size w w' := by
  have r0 := i64_range w0
  unfold maxLen at x1
  have W1 := Lib.hid w1; clear w1
  by_cases hn : a0 ≤ 60
  · by_cases hm : len1 ≤ 200
    · cases hri : (rightB a0 len1 f1 t1 g1 && inB a2 a0) with
      | false =>
        have HRI := Lib.hid hri; clear hri
        go_enter Try.func3, Try.ntmps3
        go_wp2_with fail
        refine (alive_any _).mono ?_
        rintro e w1 ⟨rfl, hb⟩
        have HB1 := Lib.hid hb; clear hb
        go_wp2_with fail
        refine (solve_no a0 a2 b1 len1 cap1 f1 t1 g1 w1 (W1.out.below HB1.out) (by omega) hn r0.1 HRI.out).mono ?_
        rintro e w2 ⟨rfl, hb⟩
        have HB2 := Lib.hid (HB1.out.trans (hb.mono HB1.out.size)); clear hb
        go_wp2_with fail
        refine (refRight_any a0 b1 len1 cap1 f1 t1 g1 w2 (W1.out.below HB2.out) (by omega) hn r0.1).mono ?_
        rintro e w3 ⟨rfl, hb⟩
        have HB3 := Lib.hid (HB2.out.trans (hb.mono HB2.out.size)); clear hb
        have hcs : rightB a0 len1 f1 t1 g1 = false ∨ (rightB a0 len1 f1 t1 g1 = true ∧ (a2 < 0 ∨ (0 ≤ a2 ∧ a0 ≤ a2))) := by
          have h := HRI.out
          cases hr : rightB a0 len1 f1 t1 g1 with
          | false => exact .inl rfl
          | true =>
            rw [hr] at h
            have h2 : ¬ inB a2 a0 = true := by simpa using h
            rw [inB_iff] at h2
            exact .inr ⟨rfl, by omega⟩
        have HR3 := Lib.hid (fun w (h : IsEs w b1 len1 f1 t1 g1) => right_any a0 b1 len1 cap1 f1 t1 g1 w h (by omega) hn r0.1)
        rcases hcs with hr | ⟨hr, h | ⟨h, h'⟩⟩
        all_goals
          (try have hd0 : decide (a2 < 0) = false := by simp; omega)
          rw [hr]
          go_wp2_with fail
          refine (HR3.out _ (W1.out.below HB3.out)).mono ?_
          rintro e w4 ⟨rfl, hb⟩
          have HB4 := Lib.hid (HB3.out.trans (hb.mono HB3.out.size)); clear hb
          rw [hr]
          go_wp2_with fail
          go_ret
          exact ⟨rfl, HB4.out⟩
      | true =>
        obtain ⟨S, ok, rfl, rfl, rfl, hes, _⟩ := sys_get hri hn (by omega)
        have HES := Lib.hid hes; clear hes
        have hright : rightB (S.n : Int) S.m f1 t1 g1 = true := by rw [Bool.and_eq_true] at hri; exact hri.1
        have HRT := Lib.hid hright; clear hright hri
        have hsn := ok.hs
        have hq1 : decide (((S.s : Nat) : Int) < 0) = false := by simp
        go_enter Try.func3, Try.ntmps3
        go_wp2_with fail
        refine (alive_any _).mono ?_
        rintro e w1 ⟨rfl, hb⟩
        have HB1 := Lib.hid hb; clear hb
        go_wp2_with fail
        refine (solve_yes S b1 cap1 w1 ok (HES.out _ _ (W1.out.below HB1.out))).mono ?_
        rintro e w2 ⟨hb, v, ⟨rfl, d, D, rfl, hB, hg, hR, _⟩ | ⟨rfl, g, cc, k, x, q, rfl, hB, k1, k2, _, hx, hw, hs, hno⟩⟩
        · have HB2 := Lib.hid (HB1.out.trans (hb.mono HB1.out.size)); clear hb
          have HD := Lib.hid hB; clear hB
          have HG := Lib.hid hg; clear hg
          have HRR := Lib.hid hR; clear hR
          go_wp2_with fail
          refine (refRight_any S.n b1 S.m cap1 f1 t1 g1 w2 (W1.out.below HB2.out) (by omega) hn r0.1).mono ?_
          rintro e w3 ⟨rfl, hb⟩
          have HD3 := Lib.hid (HD.out.below hb)
          have HB3 := Lib.hid (HB2.out.trans (hb.mono HB2.out.size)); clear hb
          rw [HRT.out]
          go_wp2_with fail
          refine (right_any S.n b1 S.m cap1 f1 t1 g1 w3 (W1.out.below HB3.out) (by omega) hn r0.1).mono ?_
          rintro e w4 ⟨rfl, hb⟩
          have HD4 := Lib.hid (HD3.out.below hb)
          have HB4 := Lib.hid (HB3.out.trans (hb.mono HB3.out.size)); clear hb
          rw [HRT.out]
          go_wp2_with fail
          refine (refSolve_any S b1 cap1 w4 ok (HES.out _ _ (W1.out.below HB4.out))).mono ?_
          rintro e w5 ⟨hb, ⟨g, c, k, rfl, hk, hBk, hsh⟩ | ⟨rfl, hno⟩⟩
          · have HD5 := Lib.hid (HD4.out.below hb)
            have HB5 := Lib.hid (HB4.out.trans (hb.mono HB4.out.size)); clear hb
            have HBK := Lib.hid hBk; clear hBk
            have HSH := Lib.hid hsh; clear hsh
            go_wp2_with fail
            refine (same_any d S.n g c S.n D (R S k) w5 (by omega) HD5.out HBK.out (fun j hj => (R_good ok (by omega) HSH.out ⟨D, HG.out⟩ j hj D HG.out).symm)).mono ?_
            rintro e w6 ⟨rfl, hb⟩
            have HB6 := Lib.hid (HB5.out.trans (hb.mono HB5.out.size)); clear hb
            go_wp2_with fail
            go_ret
            exact ⟨rfl, HB6.out⟩
          · exact (ref_of_dist ok HG.out HRR.out hno).elim
        · have HB2 := Lib.hid (HB1.out.trans (hb.mono HB1.out.size)); clear hb
          have HD := Lib.hid hB; clear hB
          have HW := Lib.hid hw; clear hw
          have HS := Lib.hid hs; clear hs
          have HNO := Lib.hid hno; clear hno
          go_wp2_with fail
          refine (refRight_any S.n b1 S.m cap1 f1 t1 g1 w2 (W1.out.below HB2.out) (by omega) hn r0.1).mono ?_
          rintro e w3 ⟨rfl, hb⟩
          have HD3 := Lib.hid (HD.out.below hb)
          have HB3 := Lib.hid (HB2.out.trans (hb.mono HB2.out.size)); clear hb
          rw [HRT.out]
          go_wp2_with fail
          refine (right_any S.n b1 S.m cap1 f1 t1 g1 w3 (W1.out.below HB3.out) (by omega) hn r0.1).mono ?_
          rintro e w4 ⟨rfl, hb⟩
          have HD4 := Lib.hid (HD3.out.below hb)
          have HB4 := Lib.hid (HB3.out.trans (hb.mono HB3.out.size)); clear hb
          rw [HRT.out]
          go_wp2_with fail
          refine (refSolve_any S b1 cap1 w4 ok (HES.out _ _ (W1.out.below HB4.out))).mono ?_
          rintro e w5 ⟨hb, ⟨g', c', k', rfl, hk, hBk, hsh⟩ | ⟨rfl, hno⟩⟩
          · exact (HNO.out _ _ (R_closed ok (by omega) hsh)).elim
          · have HD5 := Lib.hid (HD4.out.below hb)
            have HB5 := Lib.hid (HB4.out.trans (hb.mono HB4.out.size)); clear hb hno
            go_wp2_with fail
            refine (same_nil none none 0 0 w5).mono ?_
            rintro e w6 ⟨rfl, hb⟩
            have HD6 := Lib.hid (HD5.out.below hb)
            have HB6 := Lib.hid (HB5.out.trans (hb.mono HB5.out.size)); clear hb
            go_wp2_with fail
            refine (circ_any S b1 cap1 g cc k x q w6 ok (HES.out _ _ (W1.out.below HB6.out)) HD6.out (by omega) k1 HW.out HS.out).mono ?_
            rintro e w7 ⟨rfl, hb⟩
            have HB7 := Lib.hid (HB6.out.trans (hb.mono HB6.out.size)); clear hb
            go_wp2_with fail
            go_ret
            exact ⟨rfl, HB7.out⟩
    · go_enter Try.func3, Try.ntmps3
      go_wp2_with fail
      refine (alive_any _).mono ?_
      rintro e w1 ⟨rfl, hb⟩
      have HB1 := Lib.hid hb; clear hb
      go_wp2_with fail
      go_ret
      exact ⟨rfl, HB1.out⟩
  · go_enter Try.func3, Try.ntmps3
    go_wp2_with fail
    refine (alive_any _).mono ?_
    rintro e w1 ⟨rfl, hb⟩
    have HB1 := Lib.hid hb; clear hb
    go_wp2_with fail
    go_ret
    exact ⟨rfl, HB1.out⟩

set_option maxRecDepth 100000 in
theorem lifted (os : Os) (started : os.Started) (H : Type) (enc : TypeId × Value → H) :
    ReturnsInHanded {} Try.checked os 3 .any (Rows.diffSolvesSpec.pre6 enc Try.prog Try.f3 Rows.diffSolvesRow.domain false) (Rows.diffSolvesSpec.post enc Try.prog Try.f3 false true false false) := by
  refine returnsInHanded_of_change (C := Try.checked) own started (by kernel_rfl) Try.func3
    (ChangeSpec.witness6 (enc := enc) (C := Try.checked) false ⟨#[], #[.int .i64 0, .slice none 0 0, .int .i64 0], []⟩ 8 (by kernel_rfl) (by kernel_rfl) (by kernel_rfl) (by kernel_rfl)) ?_
  intro W base args ds gs before hval0 hW hcnd _
  have hval : ∀ (j : Nat) t v, Try.f3.params[j]? = some t → args[j]? = some v → Value.okWide Try.prog W .any base t v := hval0
  have hW' := hW
  obtain ⟨p, q, hA0, hV, rfl, hfz, hnd⟩ := hW
  have hA : DataW.TrodAll enc Try.prog W 0 (fun _ => true) true Try.f3.params.toList args.toList ds p := hA0
  rw [Try.params3] at hA hval
  obtain ⟨v0, vs0, d0, ds0, p0, q0, hargs, rfl, rfl, h0, r0⟩ := trodAll_cons hA
  obtain ⟨v1, vs1, d1, ds1, p1, q1, rfl, rfl, rfl, h1, r1⟩ := trodAll_cons r0
  obtain ⟨v2, vs2, d2, ds2, p2, q2, rfl, rfl, rfl, h2, r2⟩ := trodAll_cons r1
  obtain ⟨rfl, rfl, rfl⟩ := trodAll_nil r2
  obtain rfl : args = #[v0, v1, v2] := by cases args; simp_all
  obtain ⟨rfl, rfl⟩ := trodVars_none hV
  obtain ⟨a0, rfl, rfl, rfl, w0⟩ := open_int Try.underlying3 (hval 0 3 v0 rfl rfl) h0
  have k1 := h1
  have lt1 : ∀ x ∈ p1, x.block < W.heap.size := by obtain ⟨m, hm⟩ := k1; exact DataW.trod_lt m _ _ _ hm
  obtain ⟨b1, len1, cap1, rfl⟩ := okWide_slice Try.underlying22 (hval 1 22 v1 rfl rfl)
  obtain ⟨f1, t1, g1, w1⟩ := isEs_of Try.underlying22 Try.underlying42 cellsEdge Try.underlying3 cellsInt Try.underlying2 cellsLong h1
  have x1 : len1 ≤ maxLen := by
    rcases w1 with h | ⟨_, _, _, _, h, _⟩
    · rw [h]; exact Nat.zero_le _
    · exact h
  obtain ⟨a2, rfl, rfl, rfl, w2⟩ := open_int Try.underlying3 (hval 2 3 v2 rfl rfl) h2
  clear hA0 hval0
  refine (walk W a0 w0 b1 len1 cap1 f1 t1 g1 w1 x1 a2 w2).mono fun e W' ⟨he, bel⟩ => ?_
  subst he
  exact ⟨_, rfl, _, _, _, [], _, [], hW', trodAll_mk1 (shut_bool Try.underlying4 _), (trodAll_cons_mk (shut_int Try.underlying3 w0) (trodAll_cons_mk (Below.trod laidOut (by kernel_rfl) (of_decide_eq_true (by kernel_rfl)) k1 bel lt1) (trodAll_cons_mk (shut_int Try.underlying3 w2) trodAll_mk0))), rfl, bel.frame _, fun h => by cases h⟩

theorem over : Rows.diffSolvesRow.holds Try.pinned (OpenSpec.ofChange Rows.diffSolvesSpec) :=
  OpenClaim.holds_of_wide 3 Try.f3 rfl rfl rfl rfl rfl rfl rfl ⟨rfl, rfl, rfl, rfl, rfl⟩ rfl rfl rfl rfl rfl (by kernel_rfl) Try.func3 (by kernel_rfl)
    (of_decide_eq_true (by kernel_rfl)) (by unfold Func.isWrapper; first | (rw [if_pos (by decide +kernel)]; kernel_rfl) | (rw [if_neg (by decide +kernel)]; exact ⟨rfl, rfl⟩))
    (fun os started H enc _ => lifted os started H enc)

/-- THE STATEMENT -/
theorem proved : Rows.DiffSolvesSaid := over
#print axioms proved
end Go.Proofs.Ytjhghkieghdoaaa.diffSolves
