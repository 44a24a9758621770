/- DiffWays: whatever the input, the law returns true, and each argument reads as it read before. No conditions but the row's own. -/
import Derived.Test.YtjhghkieghdoaaaRows
import Derived.WalkKit
import Derived.ProofKit
import Derived.ShutString
import Derived.ChangeOld
import Derived.Below
import Derived.OpenShut
import Derived.Lib.SmallJoins
import Derived.Test.YtjhghkieghdoaaaDiffLaw
import Derived.Test.YtjhghkieghdoaaaDiffAlive
import Derived.Test.YtjhghkieghdoaaaDiffRefR
import Derived.Test.YtjhghkieghdoaaaDiffSum
namespace Go.Proofs.Ytjhghkieghdoaaa.diffWays
open Go.ChangeShapes Go.WideShapes Go.ChangeAt Go.RowKit Go.Joins
open Go.ChangeMaps (open_string shut_string)
set_option linter.unusedVariables false

theorem own : ownKnob Try.prog.godebug = none := by kernel_rfl
theorem laidOut : laidOutB Try.prog = true := by kernel_rfl
open Diff Go.Lib
set_option maxHeartbeats 4000000 in
set_option maxRecDepth 100000 in
theorem walk (w : World) (a0 : Int) (w0 : (Lit.int .i64 a0).wf = true) (b1 : Option Addr) (len1 cap1 : Nat) (f1 t1 g1 : Nat → Int) (w1 : IsEs w b1 len1 f1 t1 g1) (x1 : len1 ≤ maxLen) (a2 : Int) (w2 : (Lit.int .i64 a2).wf = true) (a3 : Int) (w3 : (Lit.int .i64 a3).wf = true) :
    Calls Try.prog 4 #[.int .i64 a0, .slice b1 len1 cap1, .int .i64 a2, .int .i64 a3] w fun e w' => e = .returned (.bool true) ∧ Below w.heap.size w w' := by
  have r0 := i64_range w0
  unfold maxLen at x1
  have W1 := Lib.hid w1; clear w1
  by_cases hn : a0 ≤ 60
  · by_cases hm : len1 ≤ 200
    · cases hri : (rightB a0 len1 f1 t1 g1 && inB a2 a0 && inB a3 a0) with
      | false =>
        have HRI := Lib.hid hri; clear hri
        go_enter Try.func4, Try.ntmps4
        go_wp2_with fail
        refine (alive_any _).mono ?_
        rintro e w1 ⟨rfl, hb⟩
        have HB1 := Lib.hid hb; clear hb
        go_wp2_with fail
        refine (way_no a0 a2 a3 b1 len1 cap1 f1 t1 g1 w1 (W1.out.below HB1.out) (by omega) hn r0.1 HRI.out).mono ?_
        rintro e w2 ⟨rfl, hb⟩
        have HB2 := Lib.hid (HB1.out.trans (hb.mono HB1.out.size)); clear hb
        go_wp2_with fail
        refine (refRight_any a0 b1 len1 cap1 f1 t1 g1 w2 (W1.out.below HB2.out) (by omega) hn r0.1).mono ?_
        rintro e w3 ⟨rfl, hb⟩
        have HB3 := Lib.hid (HB2.out.trans (hb.mono HB2.out.size)); clear hb
        have hcs : rightB a0 len1 f1 t1 g1 = false ∨ (rightB a0 len1 f1 t1 g1 = true ∧ (a2 < 0 ∨ (0 ≤ a2 ∧ a0 ≤ a2) ∨ (0 ≤ a2 ∧ a2 < a0 ∧ a3 < 0) ∨ (0 ≤ a2 ∧ a2 < a0 ∧ 0 ≤ a3 ∧ a0 ≤ a3))) := by
          have h := HRI.out
          cases hr : rightB a0 len1 f1 t1 g1 with
          | false => exact .inl rfl
          | true =>
            rw [hr] at h
            have h2 : ¬ (inB a2 a0 = true ∧ inB a3 a0 = true) := by
              rw [← Bool.and_eq_true]; simpa using h
            rw [inB_iff, inB_iff] at h2
            exact .inr ⟨rfl, by omega⟩
        rcases hcs with hr | ⟨hr, h | ⟨h, h'⟩ | ⟨h, h', h''⟩ | ⟨h, h', h'', h3⟩⟩
        all_goals
          (try have hd0 : decide (a2 < 0) = false := by simp; omega)
          (try have hd1 : decide (a3 < 0) = false := by simp; omega)
          (try have hd2 : decide (a0 ≤ a2) = false := by simp; omega)
          rw [hr]
          go_wp2_with fail
          go_ret
          exact ⟨rfl, HB3.out⟩
      | true =>
        have hri2 : (rightB a0 len1 f1 t1 g1 && inB a2 a0) = true := by rw [Bool.and_eq_true] at hri; exact hri.1
        have hit : inB a3 a0 = true := by rw [Bool.and_eq_true] at hri; exact hri.2
        obtain ⟨T, rfl, hT⟩ := nat_get hit
        obtain ⟨S, ok, rfl, rfl, rfl, hes, _⟩ := sys_get hri2 hn (by omega)
        have HES := Lib.hid hes; clear hes
        have hright : rightB (S.n : Int) S.m f1 t1 g1 = true := by rw [Bool.and_eq_true] at hri2; exact hri2.1
        have HRT := Lib.hid hright; clear hright hri hri2 hit
        have hsn := ok.hs
        have hTn : T < S.n := by omega
        have hq1 : decide (((S.s : Nat) : Int) < 0) = false := by simp
        have hq2 : decide (((T : Nat) : Int) < 0) = false := by simp
        go_enter Try.func4, Try.ntmps4
        go_wp2_with fail
        refine (alive_any _).mono ?_
        rintro e w1 ⟨rfl, hb⟩
        have HB1 := Lib.hid hb; clear hb
        go_wp2_with fail
        refine (way_yes S T b1 cap1 w1 ok hTn (HES.out _ _ (W1.out.below HB1.out))).mono ?_
        rintro e w2 ⟨hb, ⟨rfl, hno⟩ | ⟨D, hg, hR, hway⟩⟩
        · have HB2 := Lib.hid (HB1.out.trans (hb.mono HB1.out.size)); clear hb
          have HNO := Lib.hid hno; clear hno
          go_wp2_with fail
          refine (refRight_any S.n b1 S.m cap1 f1 t1 g1 w2 (W1.out.below HB2.out) (by omega) hn r0.1).mono ?_
          rintro e w3 ⟨rfl, hb⟩
          have HB3 := Lib.hid (HB2.out.trans (hb.mono HB2.out.size)); clear hb
          rw [HRT.out]
          go_wp2_with fail
          refine (refSolve_any S b1 cap1 w3 ok (HES.out _ _ (W1.out.below HB3.out))).mono ?_
          rintro e w5 ⟨hb, ⟨g', c', k', rfl, hk, hBk, hsh⟩ | ⟨rfl, hno⟩⟩
          · exact (HNO.out _ _ (R_closed ok (by omega) hsh)).elim
          · have HB5 := Lib.hid (HB3.out.trans (hb.mono HB3.out.size)); clear hb hno
            go_wp2_with fail
            go_ret
            exact ⟨rfl, HB5.out⟩
        · have HB2 := Lib.hid (HB1.out.trans (hb.mono HB1.out.size)); clear hb
          have HG := Lib.hid hg; clear hg
          have HRR := Lib.hid hR; clear hR
          rcases hway with ⟨rfl, hf⟩ | ⟨rfl, hts, hd0⟩ | ⟨g, cc, k0, q, rfl, hB, k1, k2, hw, hs, hlt⟩
          · have HF := Lib.hid hf; clear hf
            go_wp2_with fail
            refine (refRight_any S.n b1 S.m cap1 f1 t1 g1 w2 (W1.out.below HB2.out) (by omega) hn r0.1).mono ?_
            rintro e w3 ⟨rfl, hb⟩
            have HB3 := Lib.hid (HB2.out.trans (hb.mono HB2.out.size)); clear hb
            rw [HRT.out]
            go_wp2_with fail
            refine (refSolve_any S b1 cap1 w3 ok (HES.out _ _ (W1.out.below HB3.out))).mono ?_
            rintro e w5 ⟨hb, ⟨g', c', k', rfl, hk, hBk, hsh⟩ | ⟨rfl, hno⟩⟩
            · have HB5 := Lib.hid (HB3.out.trans (hb.mono HB3.out.size)); clear hb
              have cT := hBk.at hTn
              rw [R_good ok (by omega) hsh ⟨D, HG.out⟩ T hTn D HG.out, HF.out] at cT
              unfold Far at cT
              clear hBk hsh
              go_wp2_with fail
              go_ret
              exact ⟨rfl, HB5.out⟩
            · exact (ref_of_dist ok HG.out HRR.out hno).elim
          · have HTS := Lib.hid hts; clear hts
            have HD0 := Lib.hid hd0; clear hd0
            go_wp2_with fail
            refine (refRight_any S.n b1 S.m cap1 f1 t1 g1 w2 (W1.out.below HB2.out) (by omega) hn r0.1).mono ?_
            rintro e w3 ⟨rfl, hb⟩
            have HB3 := Lib.hid (HB2.out.trans (hb.mono HB2.out.size)); clear hb
            rw [HRT.out]
            go_wp2_with fail
            refine (refSolve_any S b1 cap1 w3 ok (HES.out _ _ (W1.out.below HB3.out))).mono ?_
            rintro e w5 ⟨hb, ⟨g', c', k', rfl, hk, hBk, hsh⟩ | ⟨rfl, hno⟩⟩
            · have HB5 := Lib.hid (HB3.out.trans (hb.mono HB3.out.size)); clear hb
              have cT := hBk.at hTn
              rw [R_good ok (by omega) hsh ⟨D, HG.out⟩ T hTn D HG.out, HD0.out] at cT
              have hlg := hBk.lt
              clear hBk hsh
              have hx1 : (((S.s : Nat) : Int) == (T : Int)) = true := by rw [HTS.out]; simp
              go_wp2_with fail
              refine (sum_nil b1 S.m cap1 none 0 S.s T w5).mono ?_
              rintro e w6 ⟨rfl, hb⟩
              have cT6 := (hb.cell (p := ⟨g', T, none⟩) hlg).trans cT
              have HB6 := Lib.hid (HB5.out.trans (hb.mono HB5.out.size)); clear hb cT
              rw [hx1]
              go_wp2_with fail
              go_ret
              exact ⟨rfl, HB6.out⟩
            · exact (ref_of_dist ok HG.out HRR.out hno).elim
          · have HQ := Lib.hid hB; clear hB
            have HW := Lib.hid hw; clear hw
            have HS := Lib.hid hs; clear hs
            have HLT := Lib.hid hlt; clear hlt
            go_wp2_with fail
            refine (refRight_any S.n b1 S.m cap1 f1 t1 g1 w2 (W1.out.below HB2.out) (by omega) hn r0.1).mono ?_
            rintro e w3 ⟨rfl, hb⟩
            have HQ3 := Lib.hid (HQ.out.below hb)
            have HB3 := Lib.hid (HB2.out.trans (hb.mono HB2.out.size)); clear hb
            rw [HRT.out]
            go_wp2_with fail
            refine (refSolve_any S b1 cap1 w3 ok (HES.out _ _ (W1.out.below HB3.out))).mono ?_
            rintro e w5 ⟨hb, ⟨g', c', k', rfl, hk, hBk, hsh⟩ | ⟨rfl, hno⟩⟩
            · have HQ5 := Lib.hid (HQ3.out.below hb)
              have HB5 := Lib.hid (HB3.out.trans (hb.mono HB3.out.size)); clear hb
              have cT := hBk.at hTn
              rw [R_good ok (by omega) hsh ⟨D, HG.out⟩ T hTn D HG.out] at cT
              have hlg := hBk.lt
              have hx1 : (D T == 1152921504606846976) = false := by have := HLT.out; unfold Far at this; simp; omega
              have hdt : wsum S q k0 = D T := HS.out
              have HDT := Lib.hid hdt
              clear hBk hsh hdt
              generalize D T = dt at *
              go_wp2_with fail
              refine (sum_any S b1 cap1 g cc k0 S.s T q w5 ok (HES.out _ _ (W1.out.below HB5.out)) HQ5.out (by omega) HW.out).mono ?_
              rintro e w6 ⟨rfl, hb⟩
              rw [HDT.out]
              have cT6 := (hb.cell (p := ⟨g', T, none⟩) hlg).trans cT
              have HB6 := Lib.hid (HB5.out.trans (hb.mono HB5.out.size)); clear hb cT
              go_wp2_with fail
              go_ret
              exact ⟨rfl, HB6.out⟩
            · exact (ref_of_dist ok HG.out HRR.out hno).elim
    · go_enter Try.func4, Try.ntmps4
      go_wp2_with fail
      refine (alive_any _).mono ?_
      rintro e w1 ⟨rfl, hb⟩
      have HB1 := Lib.hid hb; clear hb
      go_wp2_with fail
      go_ret
      exact ⟨rfl, HB1.out⟩
  · go_enter Try.func4, Try.ntmps4
    go_wp2_with fail
    refine (alive_any _).mono ?_
    rintro e w1 ⟨rfl, hb⟩
    have HB1 := Lib.hid hb; clear hb
    go_wp2_with fail
    go_ret
    exact ⟨rfl, HB1.out⟩

set_option maxRecDepth 100000 in
theorem lifted (os : Os) (started : os.Started) (H : Type) (enc : TypeId × Value → H) :
    ReturnsInHanded {} Try.checked os 4 .any (Rows.diffWaysSpec.pre6 enc Try.prog Try.f4 Rows.diffWaysRow.domain false) (Rows.diffWaysSpec.post enc Try.prog Try.f4 false true false false) := by
  refine returnsInHanded_of_change (C := Try.checked) own started (by kernel_rfl) Try.func4
    (ChangeSpec.witness6 (enc := enc) (C := Try.checked) false ⟨#[], #[.int .i64 0, .slice none 0 0, .int .i64 0, .int .i64 0], []⟩ 8 (by kernel_rfl) (by kernel_rfl) (by kernel_rfl) (by kernel_rfl)) ?_
  intro W base args ds gs before hval0 hW hcnd _
  have hval : ∀ (j : Nat) t v, Try.f4.params[j]? = some t → args[j]? = some v → Value.okWide Try.prog W .any base t v := hval0
  have hW' := hW
  obtain ⟨p, q, hA0, hV, rfl, hfz, hnd⟩ := hW
  have hA : DataW.TrodAll enc Try.prog W 0 (fun _ => true) true Try.f4.params.toList args.toList ds p := hA0
  rw [Try.params4] at hA hval
  obtain ⟨v0, vs0, d0, ds0, p0, q0, hargs, rfl, rfl, h0, r0⟩ := trodAll_cons hA
  obtain ⟨v1, vs1, d1, ds1, p1, q1, rfl, rfl, rfl, h1, r1⟩ := trodAll_cons r0
  obtain ⟨v2, vs2, d2, ds2, p2, q2, rfl, rfl, rfl, h2, r2⟩ := trodAll_cons r1
  obtain ⟨v3, vs3, d3, ds3, p3, q3, rfl, rfl, rfl, h3, r3⟩ := trodAll_cons r2
  obtain ⟨rfl, rfl, rfl⟩ := trodAll_nil r3
  obtain rfl : args = #[v0, v1, v2, v3] := by cases args; simp_all
  obtain ⟨rfl, rfl⟩ := trodVars_none hV
  obtain ⟨a0, rfl, rfl, rfl, w0⟩ := open_int Try.underlying3 (hval 0 3 v0 rfl rfl) h0
  have k1 := h1
  have lt1 : ∀ x ∈ p1, x.block < W.heap.size := by obtain ⟨m, hm⟩ := k1; exact DataW.trod_lt m _ _ _ hm
  obtain ⟨b1, len1, cap1, rfl⟩ := okWide_slice Try.underlying22 (hval 1 22 v1 rfl rfl)
  obtain ⟨f1, t1, g1, w1⟩ := isEs_of Try.underlying22 Try.underlying42 cellsEdge Try.underlying3 cellsInt Try.underlying2 cellsLong h1
  have x1 : len1 ≤ maxLen := by
    rcases w1 with h | ⟨_, _, _, _, h, _⟩
    · rw [h]; exact Nat.zero_le _
    · exact h
  obtain ⟨a2, rfl, rfl, rfl, w2⟩ := open_int Try.underlying3 (hval 2 3 v2 rfl rfl) h2
  obtain ⟨a3, rfl, rfl, rfl, w3⟩ := open_int Try.underlying3 (hval 3 3 v3 rfl rfl) h3
  clear hA0 hval0
  refine (walk W a0 w0 b1 len1 cap1 f1 t1 g1 w1 x1 a2 w2 a3 w3).mono fun e W' ⟨he, bel⟩ => ?_
  subst he
  exact ⟨_, rfl, _, _, _, [], _, [], hW', trodAll_mk1 (shut_bool Try.underlying4 _), (trodAll_cons_mk (shut_int Try.underlying3 w0) (trodAll_cons_mk (Below.trod laidOut (by kernel_rfl) (of_decide_eq_true (by kernel_rfl)) k1 bel lt1) (trodAll_cons_mk (shut_int Try.underlying3 w2) (trodAll_cons_mk (shut_int Try.underlying3 w3) trodAll_mk0)))), rfl, bel.frame _, fun h => by cases h⟩

theorem over : Rows.diffWaysRow.holds Try.pinned (OpenSpec.ofChange Rows.diffWaysSpec) :=
  OpenClaim.holds_of_wide 4 Try.f4 rfl rfl rfl rfl rfl rfl rfl ⟨rfl, rfl, rfl, rfl, rfl⟩ rfl rfl rfl rfl rfl (by kernel_rfl) Try.func4 (by kernel_rfl)
    (of_decide_eq_true (by kernel_rfl)) (by unfold Func.isWrapper; first | (rw [if_pos (by decide +kernel)]; kernel_rfl) | (rw [if_neg (by decide +kernel)]; exact ⟨rfl, rfl⟩))
    (fun os started H enc _ => lifted os started H enc)

/-- THE STATEMENT -/
theorem proved : Rows.DiffWaysSaid := over
#print axioms proved
end Go.Proofs.Ytjhghkieghdoaaa.diffWays
