/- DiffShifts: whatever the input, the law returns true, and each argument reads as it read before. No conditions but the row's own. -/
import Derived.Test.YtjhghkieghdoaaaRows
import Derived.WalkKit
import Derived.ProofKit
import Derived.ShutString
import Derived.ChangeOld
import Derived.Below
import Derived.OpenShut
import Derived.Lib.SmallJoins
import Derived.Test.YtjhghkieghdoaaaDiffLaw
import Derived.Test.YtjhghkieghdoaaaDiffAlive
namespace Go.Proofs.Ytjhghkieghdoaaa.diffShifts
open Go.ChangeShapes Go.WideShapes Go.ChangeAt Go.RowKit Go.Joins
open Go.ChangeMaps (open_string shut_string)
set_option linter.unusedVariables false

theorem own : ownKnob Try.prog.godebug = none := by kernel_rfl
theorem laidOut : laidOutB Try.prog = true := by kernel_rfl
open Diff Go.Lib
set_option maxHeartbeats 4000000 in
set_option maxRecDepth 100000 in
theorem walk (w : World) (a0 : Int) (w0 : (Lit.int .i64 a0).wf = true) (b1 : Option Addr) (len1 cap1 : Nat) (f1 t1 g1 : Nat → Int) (w1 : IsEs w b1 len1 f1 t1 g1) (x1 : len1 ≤ maxLen) (a2 : Int) (w2 : (Lit.int .i64 a2).wf = true) (a3 : Int) (w3 : (Lit.int .i64 a3).wf = true) :
    Calls Try.prog 7 #[.int .i64 a0, .slice b1 len1 cap1, .int .i64 a2, .int .i64 a3] w fun e w' => e = .returned (.bool true) ∧ Below w.heap.size w w' := by
  have r0 := i64_range w0
  unfold maxLen at x1
  have W1 := Lib.hid w1; clear w1
  by_cases hn : a0 ≤ 20
  · by_cases hm : len1 ≤ 200
    · cases hri : (rightB a0 len1 f1 t1 g1 && inB a2 a0) with
      | false =>
        have HRI := Lib.hid hri; clear hri
        cases hrj : (rightB a0 len1 f1 t1 g1 && inB a3 a0) with
        | false =>
          have HRJ := Lib.hid hrj; clear hrj
          go_enter Try.func7, Try.ntmps7
          go_wp2_with fail
          refine (alive_any _).mono ?_
          rintro e w1 ⟨rfl, hb⟩
          have HB1 := Lib.hid hb; clear hb
          go_wp2_with fail
          refine (solve_no a0 a2 b1 len1 cap1 f1 t1 g1 w1 (W1.out.below HB1.out) (by omega) (by omega) r0.1 HRI.out).mono ?_
          rintro e w2 ⟨rfl, hb⟩
          have HB2 := Lib.hid (HB1.out.trans (hb.mono HB1.out.size)); clear hb
          go_wp2_with fail
          refine (solve_no a0 a3 b1 len1 cap1 f1 t1 g1 w2 (W1.out.below HB2.out) (by omega) (by omega) r0.1 HRJ.out).mono ?_
          rintro e w3 ⟨rfl, hb⟩
          have HB3 := Lib.hid (HB2.out.trans (hb.mono HB2.out.size)); clear hb
          go_wp2_with fail
          go_ret
          exact ⟨rfl, HB3.out⟩
        | true =>
          obtain ⟨S, ok, rfl, rfl, rfl, hes, _⟩ := sys_get hrj (by omega) (by omega)
          have HES := Lib.hid hes; clear hes hrj
          go_enter Try.func7, Try.ntmps7
          go_wp2_with fail
          refine (alive_any _).mono ?_
          rintro e w1 ⟨rfl, hb⟩
          have HB1 := Lib.hid hb; clear hb
          go_wp2_with fail
          refine (solve_no S.n a2 b1 S.m cap1 f1 t1 g1 w1 (W1.out.below HB1.out) (by omega) (by omega) r0.1 HRI.out).mono ?_
          rintro e w2 ⟨rfl, hb⟩
          have HB2 := Lib.hid (HB1.out.trans (hb.mono HB1.out.size)); clear hb
          go_wp2_with fail
          refine (solve_yes S b1 cap1 w2 ok (HES.out _ _ (W1.out.below HB2.out))).mono ?_
          rintro e w3 ⟨hb, v, ⟨rfl, _⟩ | ⟨rfl, _⟩⟩
          all_goals
            have HB3 := Lib.hid (HB2.out.trans (hb.mono HB2.out.size)); clear hb
            go_wp2_with fail
            go_ret
            exact ⟨rfl, HB3.out⟩
      | true =>
        obtain ⟨S, ok, rfl, rfl, rfl, hes, _⟩ := sys_get hri (by omega) (by omega)
        have HES := Lib.hid hes; clear hes
        have hright : rightB (S.n : Int) S.m f1 t1 g1 = true := by rw [Bool.and_eq_true] at hri; exact hri.1
        clear hri
        cases hrj : inB a3 S.n with
        | false =>
          have hrj2 : (rightB (S.n : Int) S.m f1 t1 g1 && inB a3 S.n) = false := by rw [hrj]; simp
          have HRJ := Lib.hid hrj2; clear hrj hrj2 hright
          go_enter Try.func7, Try.ntmps7
          go_wp2_with fail
          refine (alive_any _).mono ?_
          rintro e w1 ⟨rfl, hb⟩
          have HB1 := Lib.hid hb; clear hb
          go_wp2_with fail
          refine (solve_yes S b1 cap1 w1 ok (HES.out _ _ (W1.out.below HB1.out))).mono ?_
          rintro e w2 ⟨hb, v, ⟨rfl, _⟩ | ⟨rfl, _⟩⟩
          all_goals
            have HB2 := Lib.hid (HB1.out.trans (hb.mono HB1.out.size)); clear hb
            go_wp2_with fail
            refine (solve_no S.n a3 b1 S.m cap1 f1 t1 g1 w2 (W1.out.below HB2.out) (by omega) (by omega) r0.1 HRJ.out).mono ?_
            rintro e w3 ⟨rfl, hb⟩
            have HB3 := Lib.hid (HB2.out.trans (hb.mono HB2.out.size)); clear hb
            go_wp2_with fail
            go_ret
            exact ⟨rfl, HB3.out⟩
        | true =>
          obtain ⟨tb, rfl, htb⟩ := nat_get hrj
          have htn : tb < S.n := by omega
          have ok2 := ok.at htn
          have OK2 := Lib.hid ok2
          have hsn := ok.hs
          clear hrj hright ok2
          go_enter Try.func7, Try.ntmps7
          go_wp2_with fail
          refine (alive_any _).mono ?_
          rintro e w1 ⟨rfl, hb⟩
          have HB1 := Lib.hid hb; clear hb
          go_wp2_with fail
          refine (solve_yes S b1 cap1 w1 ok (HES.out _ _ (W1.out.below HB1.out))).mono ?_
          rintro e w2 ⟨hb, v, ⟨rfl, hdist⟩ | ⟨rfl, g, cc, k, x, q, rfl, _, k1, _⟩⟩
          · have HB2 := Lib.hid (HB1.out.trans (hb.mono HB1.out.size)); clear hb
            have HDIST := Lib.hid hdist; clear hdist
            go_wp2_with fail
            refine (solve_yes (S.at tb) b1 cap1 w2 OK2.out (HES.out _ _ (W1.out.below HB2.out))).mono ?_
            rintro e w3 ⟨hb, v', ⟨rfl, hdist2⟩ | ⟨rfl, g, cc, k, x, q, rfl, _, k1, _⟩⟩
            · obtain ⟨dd, D, rfl, hBD, hgD, _, _⟩ := HDIST.out
              obtain ⟨dx, X, rfl, hBX, hgX, _, _⟩ := hdist2
              have HD := Lib.hid (hBD.below hb)
              have HX := Lib.hid (show IsB w3 dx S.n X from hBX)
              have HB3 := Lib.hid (HB2.out.trans (hb.mono HB2.out.size)); clear hb hBD hBX HDIST
              have ca := HD.out.at hsn
              have cb := HX.out.at htn
              rw [hgD.src] at ca
              rw [show X tb = 0 from hgX.src] at cb
              have HGD := Lib.hid hgD; clear hgD
              have HGX := Lib.hid hgX; clear hgX
              simp only [Sys.at]
              go_wp2_with fail
              go_loopg [15, 71] S.n (fun gg _ s71 wr => ∃ i : Nat, i ≤ S.n ∧ S.n - i ≤ gg ∧ s71 = .int .i64 i ∧ Hid (Below w3.heap.size w3 wr))
              case atStart => exact ⟨0, Nat.zero_le _, by omega, rfl, Lib.hid (Below.refl _ _)⟩
              case round =>
                obtain ⟨i, hi, hg, rfl, HBW⟩ := hrel
                by_cases hlt : i < S.n
                · have ci := (HD.out.below HBW.out).at hlt
                  have cx := (HX.out.below HBW.out).at hlt
                  have cdb := (HD.out.below HBW.out).at htn
                  by_cases h1 : D tb = Far
                  · rw [h1] at cdb
                    unfold Far at cdb
                    clear h1 ca cb
                    generalize D i = di at *
                    generalize X i = xi at *
                    go_wp2_with fail
                    go_quiet (fail)
                    go_wp2_with fail
                    go_roundg (S.n - (i + 1))
                    case measure => omega
                    case rel => exact ⟨i + 1, by omega, by omega, by go_num, Lib.hid (below_drewN HBW.out _)⟩
                  · by_cases h2 : X i = Far
                    · have hx1 : (D tb != 1152921504606846976) = true := by unfold Far at h1; simp [h1]
                      rw [h2] at cx
                      unfold Far at cx
                      clear h1 h2 ca cb
                      generalize D i = di at *
                      generalize D tb = db at *
                      go_wp2_with fail
                      go_quiet (fail)
                      go_wp2_with fail
                      go_roundg (S.n - (i + 1))
                      case measure => omega
                      case rel => exact ⟨i + 1, by omega, by omega, by go_num, Lib.hid (below_drewN HBW.out _)⟩
                    · obtain ⟨h3, h4⟩ := third ok htn HGD.out HGX.out hlt h1 h2
                      have bd := HGD.out.bnd tb htn
                      have bx := HGX.out.bnd i hlt
                      have hx1 : (D tb != 1152921504606846976) = true := by unfold Far at h1; simp [h1]
                      have hx2 : (X i != 1152921504606846976) = true := by unfold Far at h2; simp [h2]
                      have hx3 : (D i == 1152921504606846976) = false := by unfold Far at h3; simp [h3]
                      have hwr : IntKind.i64.wrap (D tb + X i) = D tb + X i := IntWalk.i64_in _ (by omega)
                      have hx4 : decide (D tb + X i < D i) = false := by simp; omega
                      clear h1 h2 h3 h4 bd bx ca cb
                      generalize D i = di at *
                      generalize D tb = db at *
                      generalize X i = xi at *
                      go_wp2_with fail
                      go_quiet (fail)
                      go_wp2_with fail
                      go_roundg (S.n - (i + 1))
                      case measure => omega
                      case rel => exact ⟨i + 1, by omega, by omega, by go_num, Lib.hid (below_drewN HBW.out _)⟩
                · obtain rfl : i = S.n := by omega
                  go_wp2_with fail
                  go_ret
                  exact ⟨rfl, HB3.out.trans (HBW.out.mono HB3.out.size)⟩
            · obtain ⟨dd, D, rfl, _⟩ := HDIST.out
              have HB3 := Lib.hid (HB2.out.trans (hb.mono HB2.out.size)); clear hb HDIST
              have hk0 : decide (0 < k) = true := by simp; omega
              have hk3 : decide ((0 : Int) < (k : Int)) = true := by simp; omega
              go_wp2_with fail
              go_ret
              exact ⟨rfl, HB3.out⟩
          · have HB2 := Lib.hid (HB1.out.trans (hb.mono HB1.out.size)); clear hb
            have hk0 : decide (0 < k) = true := by simp; omega
            have hk3 : decide ((0 : Int) < (k : Int)) = true := by simp; omega
            go_wp2_with fail
            refine (solve_yes (S.at tb) b1 cap1 w2 OK2.out (HES.out _ _ (W1.out.below HB2.out))).mono ?_
            rintro e w3 ⟨hb, v', ⟨rfl, _⟩ | ⟨rfl, _⟩⟩
            all_goals
              have HB3 := Lib.hid (HB2.out.trans (hb.mono HB2.out.size)); clear hb
              go_wp2_with fail
              go_ret
              exact ⟨rfl, HB3.out⟩
    · go_enter Try.func7, Try.ntmps7
      go_wp2_with fail
      refine (alive_any _).mono ?_
      rintro e w1 ⟨rfl, hb⟩
      have HB1 := Lib.hid hb; clear hb
      go_wp2_with fail
      go_ret
      exact ⟨rfl, HB1.out⟩
  · go_enter Try.func7, Try.ntmps7
    go_wp2_with fail
    refine (alive_any _).mono ?_
    rintro e w1 ⟨rfl, hb⟩
    have HB1 := Lib.hid hb; clear hb
    go_wp2_with fail
    go_ret
    exact ⟨rfl, HB1.out⟩

set_option maxRecDepth 100000 in
theorem lifted (os : Os) (started : os.Started) (H : Type) (enc : TypeId × Value → H) :
    ReturnsInHanded {} Try.checked os 7 .any (Rows.diffShiftsSpec.pre6 enc Try.prog Try.f7 Rows.diffShiftsRow.domain false) (Rows.diffShiftsSpec.post enc Try.prog Try.f7 false true false false) := by
  refine returnsInHanded_of_change (C := Try.checked) own started (by kernel_rfl) Try.func7
    (ChangeSpec.witness6 (enc := enc) (C := Try.checked) false ⟨#[], #[.int .i64 0, .slice none 0 0, .int .i64 0, .int .i64 0], []⟩ 8 (by kernel_rfl) (by kernel_rfl) (by kernel_rfl) (by kernel_rfl)) ?_
  intro W base args ds gs before hval0 hW hcnd _
  have hval : ∀ (j : Nat) t v, Try.f7.params[j]? = some t → args[j]? = some v → Value.okWide Try.prog W .any base t v := hval0
  have hW' := hW
  obtain ⟨p, q, hA0, hV, rfl, hfz, hnd⟩ := hW
  have hA : DataW.TrodAll enc Try.prog W 0 (fun _ => true) true Try.f7.params.toList args.toList ds p := hA0
  rw [Try.params7] at hA hval
  obtain ⟨v0, vs0, d0, ds0, p0, q0, hargs, rfl, rfl, h0, r0⟩ := trodAll_cons hA
  obtain ⟨v1, vs1, d1, ds1, p1, q1, rfl, rfl, rfl, h1, r1⟩ := trodAll_cons r0
  obtain ⟨v2, vs2, d2, ds2, p2, q2, rfl, rfl, rfl, h2, r2⟩ := trodAll_cons r1
  obtain ⟨v3, vs3, d3, ds3, p3, q3, rfl, rfl, rfl, h3, r3⟩ := trodAll_cons r2
  obtain ⟨rfl, rfl, rfl⟩ := trodAll_nil r3
  obtain rfl : args = #[v0, v1, v2, v3] := by cases args; simp_all
  obtain ⟨rfl, rfl⟩ := trodVars_none hV
  obtain ⟨a0, rfl, rfl, rfl, w0⟩ := open_int Try.underlying3 (hval 0 3 v0 rfl rfl) h0
  have k1 := h1
  have lt1 : ∀ x ∈ p1, x.block < W.heap.size := by obtain ⟨m, hm⟩ := k1; exact DataW.trod_lt m _ _ _ hm
  obtain ⟨b1, len1, cap1, rfl⟩ := okWide_slice Try.underlying22 (hval 1 22 v1 rfl rfl)
  obtain ⟨f1, t1, g1, w1⟩ := isEs_of Try.underlying22 Try.underlying42 cellsEdge Try.underlying3 cellsInt Try.underlying2 cellsLong h1
  have x1 : len1 ≤ maxLen := by
    rcases w1 with h | ⟨_, _, _, _, h, _⟩
    · rw [h]; exact Nat.zero_le _
    · exact h
  obtain ⟨a2, rfl, rfl, rfl, w2⟩ := open_int Try.underlying3 (hval 2 3 v2 rfl rfl) h2
  obtain ⟨a3, rfl, rfl, rfl, w3⟩ := open_int Try.underlying3 (hval 3 3 v3 rfl rfl) h3
  clear hA0 hval0
  refine (walk W a0 w0 b1 len1 cap1 f1 t1 g1 w1 x1 a2 w2 a3 w3).mono fun e W' ⟨he, bel⟩ => ?_
  subst he
  exact ⟨_, rfl, _, _, _, [], _, [], hW', trodAll_mk1 (shut_bool Try.underlying4 _), (trodAll_cons_mk (shut_int Try.underlying3 w0) (trodAll_cons_mk (Below.trod laidOut (by kernel_rfl) (of_decide_eq_true (by kernel_rfl)) k1 bel lt1) (trodAll_cons_mk (shut_int Try.underlying3 w2) (trodAll_cons_mk (shut_int Try.underlying3 w3) trodAll_mk0)))), rfl, bel.frame _, fun h => by cases h⟩

theorem over : Rows.diffShiftsRow.holds Try.pinned (OpenSpec.ofChange Rows.diffShiftsSpec) :=
  OpenClaim.holds_of_wide 7 Try.f7 rfl rfl rfl rfl rfl rfl rfl ⟨rfl, rfl, rfl, rfl, rfl⟩ rfl rfl rfl rfl rfl (by kernel_rfl) Try.func7 (by kernel_rfl)
    (of_decide_eq_true (by kernel_rfl)) (by unfold Func.isWrapper; first | (rw [if_pos (by decide +kernel)]; kernel_rfl) | (rw [if_neg (by decide +kernel)]; exact ⟨rfl, rfl⟩))
    (fun os started H enc _ => lifted os started H enc)

/-- THE STATEMENT -/
theorem proved : Rows.DiffShiftsSaid := over
#print axioms proved
end Go.Proofs.Ytjhghkieghdoaaa.diffShifts
