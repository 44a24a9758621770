/- DiffHolds: whatever the input, the law returns true, and each argument reads as it read before. No conditions but the row's own. -/
import Derived.Test.YtjhghkieghdoaaaRows
import Derived.WalkKit
import Derived.ProofKit
import Derived.ShutString
import Derived.ChangeOld
import Derived.Below
import Derived.OpenShut
import Derived.Lib.SmallJoins
import Derived.Test.YtjhghkieghdoaaaDiffLaw
import Derived.Test.YtjhghkieghdoaaaDiffAlive
import Derived.Test.YtjhghkieghdoaaaDiffRefH
import Derived.Test.YtjhghkieghdoaaaDiffHold
namespace Go.Proofs.Ytjhghkieghdoaaa.diffHolds
open Go.ChangeShapes Go.WideShapes Go.ChangeAt Go.RowKit Go.Joins
open Go.ChangeMaps (open_string shut_string)
set_option linter.unusedVariables false

theorem own : ownKnob Try.prog.godebug = none := by kernel_rfl
theorem laidOut : laidOutB Try.prog = true := by kernel_rfl
open Diff Go.Lib
set_option maxHeartbeats 4000000 in
set_option maxRecDepth 100000 in
theorem walk (w : World) (a0 : Int) (w0 : (Lit.int .i64 a0).wf = true) (b1 : Option Addr) (len1 cap1 : Nat) (f1 t1 g1 : Nat → Int) (w1 : IsEs w b1 len1 f1 t1 g1) (x1 : len1 ≤ maxLen) (b2 : Option Addr) (len2 cap2 : Nat) (x2 : Nat → Int) (w2 : IsXs w b2 len2 x2) (y2 : len2 ≤ maxLen) (a3 : Int) (w3 : (Lit.int .i64 a3).wf = true) :
    Calls Try.prog 5 #[.int .i64 a0, .slice b1 len1 cap1, .slice b2 len2 cap2, .int .i64 a3] w fun e w' => e = .returned (.bool true) ∧ Below w.heap.size w w' := by
  have r0 := i64_range w0
  unfold maxLen at x1 y2
  have W1 := Lib.hid w1; clear w1
  have W2 := Lib.hid w2; clear w2
  by_cases hn : a0 ≤ 60
  · by_cases hm : len1 ≤ 200
    · by_cases hx : len2 ≤ 60
      · have hfin : ∀ z : Bool, z = holdsB len1 f1 t1 g1 len2 x2 → Hid (z = holdsB len1 f1 t1 g1 len2 x2) := fun z h => Lib.hid h
        obtain ⟨z, hz⟩ : ∃ z, z = holdsB len1 f1 t1 g1 len2 x2 := ⟨_, rfl⟩
        have HZ := hfin z hz
        clear hfin hz
        cases hri : (rightB a0 len1 f1 t1 g1 && inB a3 a0) with
        | false =>
          have HRI := Lib.hid hri; clear hri
          go_enter Try.func5, Try.ntmps5
          go_wp2_with fail
          refine (alive_any _).mono ?_
          rintro e w1 ⟨rfl, hb⟩
          have HB1 := Lib.hid hb; clear hb
          go_wp2_with fail
          refine (holds_any b1 b2 len1 cap1 len2 cap2 f1 t1 g1 x2 w1 (W1.out.below HB1.out) (W2.out.below HB1.out) (by omega) hx).mono ?_
          rintro e w2 ⟨rfl, hb⟩
          have HB2 := Lib.hid (HB1.out.trans (hb.mono HB1.out.size)); clear hb
          rw [← HZ.out]
          go_wp2_with fail
          refine (refHolds_any b1 b2 len1 cap1 len2 cap2 f1 t1 g1 x2 w2 (W1.out.below HB2.out) (W2.out.below HB2.out) (by omega) hx).mono ?_
          rintro e w3 ⟨rfl, hb⟩
          have HB3 := Lib.hid (HB2.out.trans (hb.mono HB2.out.size)); clear hb
          rw [← HZ.out]
          cases z
          all_goals
            go_wp2_with fail
            refine (solve_no a0 a3 b1 len1 cap1 f1 t1 g1 w3 (W1.out.below HB3.out) (by omega) hn r0.1 HRI.out).mono ?_
            rintro e w4 ⟨rfl, hb⟩
            have HB4 := Lib.hid (HB3.out.trans (hb.mono HB3.out.size)); clear hb
            go_wp2_with fail
            go_ret
            exact ⟨rfl, HB4.out⟩
        | true =>
          obtain ⟨S, ok, rfl, rfl, rfl, hes, hfg⟩ := sys_get hri hn (by omega)
          have HES := Lib.hid hes; clear hes
          have HFG := Lib.hid hfg; clear hfg hri
          have hsn := ok.hs
          go_enter Try.func5, Try.ntmps5
          go_wp2_with fail
          refine (alive_any _).mono ?_
          rintro e w1 ⟨rfl, hb⟩
          have HB1 := Lib.hid hb; clear hb
          go_wp2_with fail
          refine (holds_any b1 b2 S.m cap1 len2 cap2 f1 t1 g1 x2 w1 (W1.out.below HB1.out) (W2.out.below HB1.out) (by omega) hx).mono ?_
          rintro e w2 ⟨rfl, hb⟩
          have HB2 := Lib.hid (HB1.out.trans (hb.mono HB1.out.size)); clear hb
          rw [← HZ.out]
          go_wp2_with fail
          refine (refHolds_any b1 b2 S.m cap1 len2 cap2 f1 t1 g1 x2 w2 (W1.out.below HB2.out) (W2.out.below HB2.out) (by omega) hx).mono ?_
          rintro e w3 ⟨rfl, hb⟩
          have HB3 := Lib.hid (HB2.out.trans (hb.mono HB2.out.size)); clear hb
          rw [← HZ.out]
          have hcl : z = true → Closed S (fun _ => True) (fun v => x2 v - x2 S.s) := fun h => closed_of_holds HFG.out (by rw [← HZ.out]; exact h)
          have hxb : z = true → ∀ j, j < len2 → -1152921504606846976 ≤ x2 j ∧ x2 j ≤ 1152921504606846976 := fun h => (holdsB_iff.1 (HZ.out.symm.trans h)).1
          have HCL := Lib.hid hcl; clear hcl
          have HXB := Lib.hid hxb; clear hxb
          have hneq : (z != z) = false := by cases z <;> rfl
          have hneq2 : decide (z = z) = true := by simp
          cases z
          · go_wp2_with fail
            refine (solve_yes S b1 cap1 w3 ok (HES.out _ _ (W1.out.below HB3.out))).mono ?_
            rintro e w4 ⟨hb, v, ⟨rfl, dd, D, rfl, hBD, hg, _, _⟩ | ⟨rfl, g, cc, k, x, q, rfl, _, k1, _, _, _, _, _, hno⟩⟩
            · have HB4 := Lib.hid (HB3.out.trans (hb.mono HB3.out.size)); clear hb
              have HD := Lib.hid hBD; clear hBD
              have HG := Lib.hid hg; clear hg
              have HES4 := Lib.hid (HES.out _ _ (W1.out.below HB4.out))
              have HW2 := Lib.hid (W2.out.below HB4.out)
              go_wp2_with fail
              go_loopg [14, 61] S.m (fun gg _ s61 wr => ∃ j : Nat, j ≤ S.m ∧ S.m - j ≤ gg ∧ s61 = .int .i64 j ∧ Hid (Below w4.heap.size w4 wr))
              case atStart => exact ⟨0, Nat.zero_le _, by omega, rfl, Lib.hid (Below.refl _ _)⟩
              case round =>
                obtain ⟨j, hj, hgj, rfl, HBW⟩ := hrel
                by_cases hlt : j < S.m
                · rcases HES4.out with h0 | ⟨b, off, rfl, hb, hmx, hc⟩
                  · omega
                  · obtain ⟨c0, c1, c2⟩ := hc j hlt
                    simp only at c0 c1
                    have d0 := (HBW.out.cell hb).trans c0
                    have d1 := (HBW.out.cell hb).trans c1
                    have d2 := (HBW.out.cell hb).trans c2
                    have hFj := ok.hF j hlt
                    have hTj := ok.hT j hlt
                    have hWj := ok.hW j hlt
                    have eF := (HD.out.below HBW.out).at hFj
                    have eT := (HD.out.below HBW.out).at hTj
                    have hal := HBW.out.alloc (B := w4.heap.size) HBW.out.size (.cells #[.int .i64 (S.F j), .int .i64 (S.T j), .int .i64 (S.W j)] 42)
                    have HAL := Lib.hid hal; clear hal
                    have hsz := HBW.out.size
                    have hld := HD.out.lt
                    have hl1 : dd < wr.heap.size := by omega
                    have hl2 : b < wr.heap.size := by omega
                    clear hc hmx c0 c1 c2
                    by_cases h1 : D (S.F j) = Far
                    · rw [h1] at eF
                      unfold Far at eF
                      clear h1
                      generalize D (S.T j) = dt at *
                      go_wp2_with fail
                      go_quiet (fail)
                      go_wp2_with fail
                      go_roundg (S.m - (j + 1))
                      case measure => omega
                      case rel => exact ⟨j + 1, by omega, by omega, by go_num, Lib.hid (below_drewN HAL.out _)⟩
                    · have hf1 : D (S.F j) < Far := by have := HG.out.far hFj; omega
                      obtain ⟨g1', g2'⟩ := (HG.out.closed ok).edge j hlt hf1
                      have bF := HG.out.bnd _ hFj
                      have bT := HG.out.bnd _ hTj
                      have g1'' : D (S.T j) < Far := g1'
                      unfold Far at h1 g1'' bF bT
                      have hx1 : (D (S.F j) != 1152921504606846976) = true := by simp [h1]
                      have hx2 : (D (S.T j) == 1152921504606846976) = false := by simp; omega
                      have hwr : IntKind.i64.wrap (D (S.T j) - D (S.F j)) = D (S.T j) - D (S.F j) := IntWalk.i64_in _ (by omega)
                      have hx4 : decide (S.W j < D (S.T j) - D (S.F j)) = false := by simp; omega
                      clear h1 hf1 g1' g2' g1'' bF bT
                      generalize D (S.F j) = df at *
                      generalize D (S.T j) = dt at *
                      generalize S.W j = wj at *
                      go_wp2_with fail
                      go_quiet (fail)
                      go_wp2_with fail
                      go_roundg (S.m - (j + 1))
                      case measure => omega
                      case rel => exact ⟨j + 1, by omega, by omega, by go_num, Lib.hid (below_drewN HAL.out _)⟩
                · obtain rfl : j = S.m := by omega
                  clear hlt hgj
                  go_wp2_with fail
                  go_loopg [15, 98] S.n (fun gg _ s98 wx => ∃ i : Nat, i ≤ S.n ∧ S.n - i ≤ gg ∧ s98 = .int .i64 i ∧ Hid (Below w4.heap.size w4 wx))
                  case atStart => exact ⟨0, Nat.zero_le _, by omega, rfl, HBW⟩
                  case round =>
                    obtain ⟨i, hi, hgi, rfl, HBX⟩ := hrel
                    by_cases hlti : i < S.n
                    · have ci := (HD.out.below HBX.out).at hlti
                      generalize D i = di at *
                      go_wp2_with fail
                      go_quiet (fail)
                      go_wp2_with fail
                      go_roundg (S.n - (i + 1))
                      case measure => omega
                      case rel => exact ⟨i + 1, by omega, by omega, by go_num, Lib.hid (below_drewN HBX.out _)⟩
                    · obtain rfl : i = S.n := by omega
                      go_wp2_with fail
                      go_ret
                      exact ⟨rfl, HB4.out.trans (HBX.out.mono HB4.out.size)⟩
            · have HB4 := Lib.hid (HB3.out.trans (hb.mono HB3.out.size)); clear hb
              have hk0 : decide (0 < k) = true := by simp; omega
              have hk3 : decide ((0 : Int) < (k : Int)) = true := by simp; omega
              go_wp2_with fail
              go_ret
              exact ⟨rfl, HB4.out⟩
          · go_wp2_with fail
            refine (solve_yes S b1 cap1 w3 ok (HES.out _ _ (W1.out.below HB3.out))).mono ?_
            rintro e w4 ⟨hb, v, ⟨rfl, dd, D, rfl, hBD, hg, _, _⟩ | ⟨rfl, g, cc, k, x, q, rfl, _, k1, _, _, _, _, _, hno⟩⟩
            · have HB4 := Lib.hid (HB3.out.trans (hb.mono HB3.out.size)); clear hb
              have HD := Lib.hid hBD; clear hBD
              have HG := Lib.hid hg; clear hg
              have HES4 := Lib.hid (HES.out _ _ (W1.out.below HB4.out))
              have HW2 := Lib.hid (W2.out.below HB4.out)
              go_wp2_with fail
              go_loopg [14, 61] S.m (fun gg _ s61 wr => ∃ j : Nat, j ≤ S.m ∧ S.m - j ≤ gg ∧ s61 = .int .i64 j ∧ Hid (Below w4.heap.size w4 wr))
              case atStart => exact ⟨0, Nat.zero_le _, by omega, rfl, Lib.hid (Below.refl _ _)⟩
              case round =>
                obtain ⟨j, hj, hgj, rfl, HBW⟩ := hrel
                by_cases hlt : j < S.m
                · rcases HES4.out with h0 | ⟨b, off, rfl, hb, hmx, hc⟩
                  · omega
                  · obtain ⟨c0, c1, c2⟩ := hc j hlt
                    simp only at c0 c1
                    have d0 := (HBW.out.cell hb).trans c0
                    have d1 := (HBW.out.cell hb).trans c1
                    have d2 := (HBW.out.cell hb).trans c2
                    have hFj := ok.hF j hlt
                    have hTj := ok.hT j hlt
                    have hWj := ok.hW j hlt
                    have eF := (HD.out.below HBW.out).at hFj
                    have eT := (HD.out.below HBW.out).at hTj
                    have hal := HBW.out.alloc (B := w4.heap.size) HBW.out.size (.cells #[.int .i64 (S.F j), .int .i64 (S.T j), .int .i64 (S.W j)] 42)
                    have HAL := Lib.hid hal; clear hal
                    have hsz := HBW.out.size
                    have hld := HD.out.lt
                    have hl1 : dd < wr.heap.size := by omega
                    have hl2 : b < wr.heap.size := by omega
                    clear hc hmx c0 c1 c2
                    by_cases h1 : D (S.F j) = Far
                    · rw [h1] at eF
                      unfold Far at eF
                      clear h1
                      generalize D (S.T j) = dt at *
                      go_wp2_with fail
                      go_quiet (fail)
                      go_wp2_with fail
                      go_roundg (S.m - (j + 1))
                      case measure => omega
                      case rel => exact ⟨j + 1, by omega, by omega, by go_num, Lib.hid (below_drewN HAL.out _)⟩
                    · have hf1 : D (S.F j) < Far := by have := HG.out.far hFj; omega
                      obtain ⟨g1', g2'⟩ := (HG.out.closed ok).edge j hlt hf1
                      have bF := HG.out.bnd _ hFj
                      have bT := HG.out.bnd _ hTj
                      have g1'' : D (S.T j) < Far := g1'
                      unfold Far at h1 g1'' bF bT
                      have hx1 : (D (S.F j) != 1152921504606846976) = true := by simp [h1]
                      have hx2 : (D (S.T j) == 1152921504606846976) = false := by simp; omega
                      have hwr : IntKind.i64.wrap (D (S.T j) - D (S.F j)) = D (S.T j) - D (S.F j) := IntWalk.i64_in _ (by omega)
                      have hx4 : decide (S.W j < D (S.T j) - D (S.F j)) = false := by simp; omega
                      clear h1 hf1 g1' g2' g1'' bF bT
                      generalize D (S.F j) = df at *
                      generalize D (S.T j) = dt at *
                      generalize S.W j = wj at *
                      go_wp2_with fail
                      go_quiet (fail)
                      go_wp2_with fail
                      go_roundg (S.m - (j + 1))
                      case measure => omega
                      case rel => exact ⟨j + 1, by omega, by omega, by go_num, Lib.hid (below_drewN HAL.out _)⟩
                · obtain rfl : j = S.m := by omega
                  clear hlt hgj
                  go_wp2_with fail
                  go_loopg [15, 98] S.n (fun gg _ s98 wx => ∃ i : Nat, i ≤ S.n ∧ S.n - i ≤ gg ∧ s98 = .int .i64 i ∧ Hid (Below w4.heap.size w4 wx))
                  case atStart => exact ⟨0, Nat.zero_le _, by omega, rfl, HBW⟩
                  case round =>
                    obtain ⟨i, hi, hgi, rfl, HBX⟩ := hrel
                    by_cases hlti : i < S.n
                    · by_cases hlx : S.n ≤ len2
                      · have ci := (HD.out.below HBX.out).at hlti
                        rcases (HW2.out.below HBX.out) with h0 | ⟨bx, ox, rfl, hbx, hmx, hcx⟩
                        · omega
                        · have xi := hcx i (by omega)
                          have xs := hcx S.s (by omega)
                          have bi := HXB.out (by simp) i (by omega)
                          have bs := HXB.out (by simp) S.s (by omega)
                          clear hcx hmx
                          have hil : i < len2 := by omega
                          have hsl : S.s < len2 := by omega
                          by_cases h1 : D i = Far
                          · rw [h1] at ci
                            unfold Far at ci
                            clear h1
                            generalize x2 i = yi at *
                            generalize x2 S.s = ys at *
                            go_wp2_with fail
                            go_quiet (fail)
                            go_wp2_with fail
                            go_roundg (S.n - (i + 1))
                            case measure => omega
                            case rel => exact ⟨i + 1, by omega, by omega, by go_num, Lib.hid (below_drewN HBX.out _)⟩
                          · have hf1 : D i < Far := by have := HG.out.far hlti; omega
                            have hgr := (HG.out.great _ _ (HCL.out (by simp)) i hlti hf1).2
                            have bd := HG.out.bnd i hlti
                            unfold Far at h1 hf1 bd
                            have hx1 : (D i != 1152921504606846976) = true := by simp [h1]
                            have hwr : IntKind.i64.wrap (x2 i - x2 S.s) = x2 i - x2 S.s := IntWalk.i64_in _ (by omega)
                            have hx4 : decide (D i < x2 i - x2 S.s) = false := by simp; omega
                            clear h1 hf1 hgr bd
                            generalize x2 i = yi at *
                            generalize x2 S.s = ys at *
                            generalize D i = di at *
                            go_wp2_with fail
                            go_quiet (fail)
                            go_wp2_with fail
                            go_roundg (S.n - (i + 1))
                            case measure => omega
                            case rel => exact ⟨i + 1, by omega, by omega, by go_num, Lib.hid (below_drewN HBX.out _)⟩
                      · have ci := (HD.out.below HBX.out).at hlti
                        have hx0 : decide (((S.n : Nat) : Int) ≤ (len2 : Int)) = false := by simp; omega
                        have hx0' : decide (S.n ≤ len2) = false := by simp; omega
                        generalize D i = di at *
                        go_wp2_with fail
                        go_quiet (fail)
                        go_wp2_with fail
                        go_roundg (S.n - (i + 1))
                        case measure => omega
                        case rel => exact ⟨i + 1, by omega, by omega, by go_num, Lib.hid (below_drewN HBX.out _)⟩
                    · obtain rfl : i = S.n := by omega
                      go_wp2_with fail
                      go_ret
                      exact ⟨rfl, HB4.out.trans (HBX.out.mono HB4.out.size)⟩
            · have HB4 := Lib.hid (HB3.out.trans (hb.mono HB3.out.size)); clear hb
              have hk0 : decide (0 < k) = true := by simp; omega
              have hk3 : decide ((0 : Int) < (k : Int)) = true := by simp; omega
              exact (hno _ _ (HCL.out (by simp))).elim
      · go_enter Try.func5, Try.ntmps5
        go_wp2_with fail
        refine (alive_any _).mono ?_
        rintro e w1 ⟨rfl, hb⟩
        have HB1 := Lib.hid hb; clear hb
        go_wp2_with fail
        go_ret
        exact ⟨rfl, HB1.out⟩
    · go_enter Try.func5, Try.ntmps5
      go_wp2_with fail
      refine (alive_any _).mono ?_
      rintro e w1 ⟨rfl, hb⟩
      have HB1 := Lib.hid hb; clear hb
      go_wp2_with fail
      go_ret
      exact ⟨rfl, HB1.out⟩
  · go_enter Try.func5, Try.ntmps5
    go_wp2_with fail
    refine (alive_any _).mono ?_
    rintro e w1 ⟨rfl, hb⟩
    have HB1 := Lib.hid hb; clear hb
    go_wp2_with fail
    go_ret
    exact ⟨rfl, HB1.out⟩

set_option maxRecDepth 100000 in
theorem lifted (os : Os) (started : os.Started) (H : Type) (enc : TypeId × Value → H) :
    ReturnsInHanded {} Try.checked os 5 .any (Rows.diffHoldsSpec.pre6 enc Try.prog Try.f5 Rows.diffHoldsRow.domain false) (Rows.diffHoldsSpec.post enc Try.prog Try.f5 false true false false) := by
  refine returnsInHanded_of_change (C := Try.checked) own started (by kernel_rfl) Try.func5
    (ChangeSpec.witness6 (enc := enc) (C := Try.checked) false ⟨#[], #[.int .i64 0, .slice none 0 0, .slice none 0 0, .int .i64 0], []⟩ 8 (by kernel_rfl) (by kernel_rfl) (by kernel_rfl) (by kernel_rfl)) ?_
  intro W base args ds gs before hval0 hW hcnd _
  have hval : ∀ (j : Nat) t v, Try.f5.params[j]? = some t → args[j]? = some v → Value.okWide Try.prog W .any base t v := hval0
  have hW' := hW
  obtain ⟨p, q, hA0, hV, rfl, hfz, hnd⟩ := hW
  have hA : DataW.TrodAll enc Try.prog W 0 (fun _ => true) true Try.f5.params.toList args.toList ds p := hA0
  rw [Try.params5] at hA hval
  obtain ⟨v0, vs0, d0, ds0, p0, q0, hargs, rfl, rfl, h0, r0⟩ := trodAll_cons hA
  obtain ⟨v1, vs1, d1, ds1, p1, q1, rfl, rfl, rfl, h1, r1⟩ := trodAll_cons r0
  obtain ⟨v2, vs2, d2, ds2, p2, q2, rfl, rfl, rfl, h2, r2⟩ := trodAll_cons r1
  obtain ⟨v3, vs3, d3, ds3, p3, q3, rfl, rfl, rfl, h3, r3⟩ := trodAll_cons r2
  obtain ⟨rfl, rfl, rfl⟩ := trodAll_nil r3
  obtain rfl : args = #[v0, v1, v2, v3] := by cases args; simp_all
  obtain ⟨rfl, rfl⟩ := trodVars_none hV
  obtain ⟨a0, rfl, rfl, rfl, w0⟩ := open_int Try.underlying3 (hval 0 3 v0 rfl rfl) h0
  have k1 := h1
  have lt1 : ∀ x ∈ p1, x.block < W.heap.size := by obtain ⟨m, hm⟩ := k1; exact DataW.trod_lt m _ _ _ hm
  obtain ⟨b1, len1, cap1, rfl⟩ := okWide_slice Try.underlying22 (hval 1 22 v1 rfl rfl)
  obtain ⟨f1, t1, g1, w1⟩ := isEs_of Try.underlying22 Try.underlying42 cellsEdge Try.underlying3 cellsInt Try.underlying2 cellsLong h1
  have x1 : len1 ≤ maxLen := by
    rcases w1 with h | ⟨_, _, _, _, h, _⟩
    · rw [h]; exact Nat.zero_le _
    · exact h
  have k2 := h2
  have lt2 : ∀ x ∈ p2, x.block < W.heap.size := by obtain ⟨m, hm⟩ := k2; exact DataW.trod_lt m _ _ _ hm
  obtain ⟨b2, len2, cap2, rfl⟩ := okWide_slice Try.underlying24 (hval 2 24 v2 rfl rfl)
  obtain ⟨x2, w2⟩ := isXs_open Try.underlying24 Try.underlying2 cellsLong h2
  have y2 : len2 ≤ maxLen := by
    rcases w2 with h | ⟨_, _, _, _, h, _⟩
    · rw [h]; exact Nat.zero_le _
    · exact h
  obtain ⟨a3, rfl, rfl, rfl, w3⟩ := open_int Try.underlying3 (hval 3 3 v3 rfl rfl) h3
  clear hA0 hval0
  refine (walk W a0 w0 b1 len1 cap1 f1 t1 g1 w1 x1 b2 len2 cap2 x2 w2 y2 a3 w3).mono fun e W' ⟨he, bel⟩ => ?_
  subst he
  exact ⟨_, rfl, _, _, _, [], _, [], hW', trodAll_mk1 (shut_bool Try.underlying4 _), (trodAll_cons_mk (shut_int Try.underlying3 w0) (trodAll_cons_mk (Below.trod laidOut (by kernel_rfl) (of_decide_eq_true (by kernel_rfl)) k1 bel lt1) (trodAll_cons_mk (Below.trod laidOut (by kernel_rfl) (of_decide_eq_true (by kernel_rfl)) k2 bel lt2) (trodAll_cons_mk (shut_int Try.underlying3 w3) trodAll_mk0)))), rfl, bel.frame _, fun h => by cases h⟩

theorem over : Rows.diffHoldsRow.holds Try.pinned (OpenSpec.ofChange Rows.diffHoldsSpec) :=
  OpenClaim.holds_of_wide 5 Try.f5 rfl rfl rfl rfl rfl rfl rfl ⟨rfl, rfl, rfl, rfl, rfl⟩ rfl rfl rfl rfl rfl (by kernel_rfl) Try.func5 (by kernel_rfl)
    (of_decide_eq_true (by kernel_rfl)) (by unfold Func.isWrapper; first | (rw [if_pos (by decide +kernel)]; kernel_rfl) | (rw [if_neg (by decide +kernel)]; exact ⟨rfl, rfl⟩))
    (fun os started H enc _ => lifted os started H enc)

/-- THE STATEMENT -/
theorem proved : Rows.DiffHoldsSaid := over
#print axioms proved
end Go.Proofs.Ytjhghkieghdoaaa.diffHolds
