/- The document's answer whether numbers hold (jitneyref07.Holds); whether a told cycle is one (circles). -/
import Derived.Test.YtjhghkieghdoaaaDiffRight
import Derived.Test.YtjhghkieghdoaaaDiffSum
namespace Go.Proofs.Ytjhghkieghdoaaa
open Go.RowKit Go.Lib
namespace Diff
set_option linter.unusedVariables false
theorem viol_cases {n : Nat} {x : Nat → Int} {f t g : Int} (h : violB n x f t g = true) : f < 0 ∨ (0 ≤ f ∧ (n : Int) ≤ f) ∨ (0 ≤ f ∧ f < n ∧ t < 0) ∨ (0 ≤ f ∧ f < n ∧ 0 ≤ t ∧ (n : Int) ≤ t) ∨ (0 ≤ f ∧ f < n ∧ 0 ≤ t ∧ t < n ∧ g < x t.toNat - x f.toNat) := by
  unfold violB inB at h
  simp only [Bool.or_eq_true, Bool.not_eq_true', Bool.and_eq_false_iff, decide_eq_false_iff_not, decide_eq_true_eq] at h
  omega
theorem viol_no {n : Nat} {x : Nat → Int} {f t g : Int} (h : violB n x f t g = false) : (0 ≤ f ∧ f < n) ∧ (0 ≤ t ∧ t < n) ∧ ¬ g < x t.toNat - x f.toNat := by
  unfold violB at h
  simp only [Bool.or_eq_false_iff, Bool.not_eq_false', inB_iff, decide_eq_false_iff_not] at h
  exact ⟨h.1.1, h.1.2, h.2⟩
set_option maxHeartbeats 4000000 in
set_option maxRecDepth 100000 in
theorem refHolds_any (a xa : Option Addr) (m c n xc : Nat) (f t g x : Nat → Int) (w : World) (he : IsEs w a m f t g) (hx : IsXs w xa n x) (hm : m ≤ 201) (hn : n ≤ 60) :
    Calls Try.prog 18 #[.slice a m c, .slice xa n xc] w fun e w' => e = .returned (.bool (holdsB m f t g n x)) ∧ Below w.heap.size w w' := by
  have HE := Lib.hid he; clear he
  have HX := Lib.hid hx; clear hx
  have hhb : holdsB m f t g n x = (!anyTo (fun j => outB (x j)) n && !anyTo (fun j => violB n x (f j) (t j) (g j)) m) := rfl
  have HHB := Lib.hid hhb; clear hhb
  generalize holdsB m f t g n x = res at *
  go_enter Try.func18, Try.ntmps18
  go_wp2_with fail
  go_loopg [5] n (fun gg s5 wr => ∃ k : Nat, k ≤ n ∧ n - k ≤ gg ∧ s5 = .int .i64 k ∧ w = wr ∧ Hid (anyTo (fun j => outB (x j)) k = false))
  case atStart => exact ⟨0, Nat.zero_le _, by omega, rfl, rfl, Lib.hid rfl⟩
  case round =>
    obtain ⟨k, hk, hg, rfl, rfl, AN⟩ := hrel
    by_cases hlt : k < n
    · rcases HX.out with h0 | ⟨b, off, rfl, hb, hmx, hc⟩
      · omega
      · have c0 := hc k hlt
        clear hc hmx
        cases hq : outB (x k) with
        | true =>
          have hr : res = false := by rw [HHB.out, anyTo_iff.2 ⟨k, hlt, hq⟩]; rfl
          have HR := Lib.hid hr; clear hr
          have hcs : x k < -1152921504606846976 ∨ (-1152921504606846976 ≤ x k ∧ 1152921504606846976 < x k) := by
            unfold outB at hq; simp only [Bool.or_eq_true, decide_eq_true_eq] at hq; omega
          clear hq
          generalize x k = z at *
          rcases hcs with h | ⟨h, h'⟩
          · go_wp2_with fail
            go_ret
            exact ⟨ret_bool HR.out.symm, Below.refl _ _⟩
          · have hz1 : decide (z < -1152921504606846976) = false := by simp; omega
            go_wp2_with fail
            go_ret
            exact ⟨ret_bool HR.out.symm, Below.refl _ _⟩
        | false =>
          have han : anyTo (fun j => outB (x j)) (k + 1) = false := by unfold anyTo; rw [AN.out, hq]; rfl
          have HAN := Lib.hid han; clear han
          obtain ⟨z1, z2⟩ := outB_false.1 hq
          clear hq
          generalize x k = z at *
          have hz1 : decide (z < -1152921504606846976) = false := by simp; omega
          have hz2 : decide (1152921504606846976 < z) = false := by simp; omega
          go_wp2_with fail
          go_roundg (n - (k + 1))
          case measure => omega
          case rel => exact ⟨k + 1, by omega, by omega, by go_num, rfl, HAN⟩
    · obtain rfl : k = n := by omega
      clear hlt hg
      go_wp2_with fail
      go_loopg [6, 7] m (fun gg s6 _ wx => ∃ j : Nat, j ≤ m ∧ m - j ≤ gg ∧ s6 = .int .i64 j ∧ Hid (Below w.heap.size w wx) ∧ Hid (anyTo (fun j => violB k x (f j) (t j) (g j)) j = false))
      case atStart => exact ⟨0, Nat.zero_le _, by omega, rfl, Lib.hid (Below.refl _ _), Lib.hid rfl⟩
      case round =>
        obtain ⟨j, hj, hgj, rfl, BW, VN⟩ := hrel
        by_cases hltj : j < m
        · rcases HE.out with h0 | ⟨b, off, rfl, hb, hmx, hc⟩
          · omega
          · obtain ⟨c0, c1, c2⟩ := hc j hltj
            have d0 := (BW.out.cell hb).trans c0
            have d1 := (BW.out.cell hb).trans c1
            have d2 := (BW.out.cell hb).trans c2
            have hal := BW.out.alloc (B := w.heap.size) BW.out.size (.cells #[.int .i64 (f j), .int .i64 (t j), .int .i64 (g j)] 42)
            have HAL := Lib.hid hal
            have hsz := BW.out.size
            clear hc hmx c0 c1 c2 hal
            cases hq : violB k x (f j) (t j) (g j) with
            | true =>
              have hr : res = false := by
                rw [HHB.out, anyTo_iff (p := fun j => violB k x (f j) (t j) (g j)) |>.2 ⟨j, hltj, hq⟩]; simp
              have HR := Lib.hid hr; clear hr
              have hcs := viol_cases hq
              clear hq
              generalize f j = fj at *
              generalize t j = tj at *
              generalize g j = gj at *
              rcases hcs with h | ⟨e1, e2⟩ | ⟨e1, e2, e3⟩ | ⟨e1, e2, e3, e4⟩ | ⟨e1, e2, e3, e4, e5⟩
              · have q1 : decide (fj < 0) = true := by simp; omega
                go_wp2_with fail
                go_quiet (fail)
                go_wp2_with fail
                go_ret
                exact ⟨ret_bool HR.out.symm, below_drewN HAL.out _⟩
              · have q1 : decide (fj < 0) = false := by simp; omega
                have q2 : decide ((k : Int) ≤ fj) = true := by simp; omega
                go_wp2_with fail
                go_quiet (fail)
                go_wp2_with fail
                go_ret
                exact ⟨ret_bool HR.out.symm, below_drewN HAL.out _⟩
              · have q1 : decide (fj < 0) = false := by simp; omega
                have q2 : decide ((k : Int) ≤ fj) = false := by simp; omega
                have q3 : decide (tj < 0) = true := by simp; omega
                go_wp2_with fail
                go_quiet (fail)
                go_wp2_with fail
                go_ret
                exact ⟨ret_bool HR.out.symm, below_drewN HAL.out _⟩
              · have q1 : decide (fj < 0) = false := by simp; omega
                have q2 : decide ((k : Int) ≤ fj) = false := by simp; omega
                have q3 : decide (tj < 0) = false := by simp; omega
                have q4 : decide ((k : Int) ≤ tj) = true := by simp; omega
                go_wp2_with fail
                go_quiet (fail)
                go_wp2_with fail
                go_ret
                exact ⟨ret_bool HR.out.symm, below_drewN HAL.out _⟩
              · obtain ⟨F, rfl⟩ := Int.eq_ofNat_of_zero_le e1
                obtain ⟨T, rfl⟩ := Int.eq_ofNat_of_zero_le e3
                rw [Int.toNat_natCast, Int.toNat_natCast] at e5
                rcases HX.out with h0 | ⟨bx, ox, rfl, hbx, hmx, hcx⟩
                · omega
                · have cF := (BW.out.cell (p := ⟨bx, ox + F, none⟩) hbx).trans (hcx F (by omega))
                  have cT := (BW.out.cell (p := ⟨bx, ox + T, none⟩) hbx).trans (hcx T (by omega))
                  have bF := outB_false.1 (anyTo_false.1 AN.out F (by omega))
                  have bT := outB_false.1 (anyTo_false.1 AN.out T (by omega))
                  clear hcx hmx
                  generalize x F = xf at *
                  generalize x T = xt at *
                  have hl1 : bx < wr.heap.size := by omega
                  have hwr : IntKind.i64.wrap (xt - xf) = xt - xf := IntWalk.i64_in _ (by omega)
                  have hf' : F < k := by omega
                  have ht' : T < k := by omega
                  have q1 : decide ((F : Int) < 0) = false := by simp
                  have q2 : decide ((k : Int) ≤ (F : Int)) = false := by simp; omega
                  have q3 : decide ((T : Int) < 0) = false := by simp
                  have q4 : decide ((k : Int) ≤ (T : Int)) = false := by simp; omega
                  have q5 : decide (k ≤ F) = false := by simp; omega
                  have q6 : decide (k ≤ T) = false := by simp; omega
                  have q7 : decide (gj < xt - xf) = true := by simp; omega
                  go_wp2_with fail
                  go_quiet (fail)
                  go_wp2_with fail
                  go_ret
                  exact ⟨ret_bool HR.out.symm, below_drewN HAL.out _⟩
            | false =>
              have hvn : anyTo (fun j => violB k x (f j) (t j) (g j)) (j + 1) = false := by unfold anyTo; rw [VN.out, hq]; rfl
              have HVN := Lib.hid hvn; clear hvn
              obtain ⟨⟨e1, e2⟩, ⟨e3, e4⟩, e5⟩ := viol_no hq
              clear hq
              generalize f j = fj at *
              generalize t j = tj at *
              generalize g j = gj at *
              obtain ⟨F, rfl⟩ := Int.eq_ofNat_of_zero_le e1
              obtain ⟨T, rfl⟩ := Int.eq_ofNat_of_zero_le e3
              rw [Int.toNat_natCast, Int.toNat_natCast] at e5
              rcases HX.out with h0 | ⟨bx, ox, rfl, hbx, hmx, hcx⟩
              · omega
              · have cF := (BW.out.cell (p := ⟨bx, ox + F, none⟩) hbx).trans (hcx F (by omega))
                have cT := (BW.out.cell (p := ⟨bx, ox + T, none⟩) hbx).trans (hcx T (by omega))
                have bF := outB_false.1 (anyTo_false.1 AN.out F (by omega))
                have bT := outB_false.1 (anyTo_false.1 AN.out T (by omega))
                clear hcx hmx
                generalize x F = xf at *
                generalize x T = xt at *
                have hl1 : bx < wr.heap.size := by omega
                have hwr : IntKind.i64.wrap (xt - xf) = xt - xf := IntWalk.i64_in _ (by omega)
                have hf' : F < k := by omega
                have ht' : T < k := by omega
                have q1 : decide ((F : Int) < 0) = false := by simp
                have q2 : decide ((k : Int) ≤ (F : Int)) = false := by simp; omega
                have q3 : decide ((T : Int) < 0) = false := by simp
                have q4 : decide ((k : Int) ≤ (T : Int)) = false := by simp; omega
                have q5 : decide (k ≤ F) = false := by simp; omega
                have q6 : decide (k ≤ T) = false := by simp; omega
                have q7 : decide (gj < xt - xf) = false := by simp; omega
                go_wp2_with fail
                go_quiet (fail)
                go_wp2_with fail
                go_roundg (m - (j + 1))
                case measure => omega
                case rel => exact ⟨j + 1, by omega, by omega, by go_num, Lib.hid (below_drewN HAL.out _), HVN⟩
        · obtain rfl : j = m := by omega
          have hr : res = true := by rw [HHB.out, AN.out, VN.out]; rfl
          have HR := Lib.hid hr; clear hr
          go_wp2_with fail
          go_ret
          exact ⟨ret_bool HR.out.symm, BW.out⟩
end Diff
end Go.Proofs.Ytjhghkieghdoaaa
