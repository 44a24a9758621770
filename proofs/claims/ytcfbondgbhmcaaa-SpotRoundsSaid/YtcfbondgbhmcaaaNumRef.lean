/- Contracts of the document's answers for layer 1 (jitneyref01): Sum, Mul, Root. -/
import Derived.Test.YtcfbondgbhmcaaaNumSum
namespace Go.Proofs.Ytcfbondgbhmcaaa
open Go.RowKit
namespace Num
theorem refSum_any (b off cap : Nat) (zs : List Int) (w : World) (hlen : zs.length ≤ 9223372036854775806)
    (hc : ∀ j, j < zs.length → w.cell? ⟨b, off + j, none⟩ = some (.int .i64 (zs.getD j 0))) :
    Calls Try.prog 15 #[.slice (some ⟨b, off, none⟩) zs.length cap] w fun e w' => e = .returned (.tuple #[.int .i64 (sumV zs), .bool (sumB zs)]) ∧ w = w' := by
  obtain ⟨len, hlen'⟩ : ∃ n : Nat, n = zs.length := ⟨_, rfl⟩
  rw [← hlen'] at hlen ⊢
  have HL := Lib.hid hlen'; clear hlen'
  have HC := Lib.hid hc; clear hc
  generalize hv : sumV zs = V
  generalize hb : sumB zs = B
  have HV := Lib.hid hv; clear hv
  have HB := Lib.hid hb; clear hb
  go_enter Try.func15, Try.ntmps15
  go_wp2_with fail
  go_loop [4, 5] (fun t i => ∃ k : Nat, ∃ s : Int, k ≤ len ∧ i = .int .i64 k ∧ t = .int .i64 s ∧ Hid (sumO 0 (zs.take k) = some s) ∧ Hid (mayB s = true)) (fun _ i => len - (intOf i).toNat)
  case atStart => exact ⟨0, 0, Nat.zero_le _, rfl, rfl, Lib.hid (by simp [sumO]), Lib.hid (by decide)⟩
  case round =>
    obtain ⟨k, s, hk, rfl, rfl, HS, HM⟩ := hrel
    by_cases hlt : k < len
    · have hcell := HC.out k (by rw [← HL.out]; exact hlt)
      generalize hz : zs.getD k 0 = z at *
      have HZ := Lib.hid hz; clear hz
      obtain ⟨m1, m2⟩ := mayB_true HM.out
      cases hmz : mayB z with
      | false =>
        have hadd : addB s z = false := by simp [addB, hmz]
        have hst := sum_stop zs k s (by rw [← HL.out]; exact hlt) HS.out (by rw [HZ.out]; exact hadd)
        have HST := Lib.hid hst; clear hst
        clear hadd
        have HMZ := Lib.hid hmz; clear hmz
        go_wp2_with fail
        refine (refMay_any _ _).mono ?_
        rintro e w' ⟨rfl, rfl⟩
        rw [HMZ.out]
        go_wp2_with fail
        go_ret2
        refine ⟨?_, rfl⟩
        rw [← HV.out, ← HB.out]; unfold sumV sumB; rw [HST.out]; rfl
      | true =>
        obtain ⟨z1, z2⟩ := mayB_true hmz
        cases hms : mayB (s + z) with
        | false =>
          have hadd : addB s z = false := by simp [addB, hms]
          have hst := sum_stop zs k s (by rw [← HL.out]; exact hlt) HS.out (by rw [HZ.out]; exact hadd)
          have HST := Lib.hid hst; clear hst
          clear hadd
          have HMZ := Lib.hid hmz; clear hmz
          have HMS := Lib.hid hms; clear hms
          go_wp2_with fail
          refine (refMay_any _ _).mono ?_
          rintro e w' ⟨rfl, rfl⟩
          rw [HMZ.out]
          go_wp2_with fail
          refine (refMay_any _ _).mono ?_
          rintro e w' ⟨rfl, rfl⟩
          rw [HMS.out]
          go_wp2_with fail
          go_ret2
          refine ⟨?_, rfl⟩
          rw [← HV.out, ← HB.out]; unfold sumV sumB; rw [HST.out]; rfl
        | true =>
          have hadd : addB s z = true := by simp [addB, hms, hmz, HM.out]
          have hst := sum_step zs k s (by rw [← HL.out]; exact hlt) HS.out (by rw [HZ.out]; exact hadd)
          rw [HZ.out] at hst
          have HST := Lib.hid hst; clear hst
          clear hadd
          have HMZ := Lib.hid hmz; clear hmz
          have HMS := Lib.hid hms; clear hms
          go_wp2_with fail
          refine (refMay_any _ _).mono ?_
          rintro e w' ⟨rfl, rfl⟩
          rw [HMZ.out]
          go_wp2_with fail
          refine (refMay_any _ _).mono ?_
          rintro e w' ⟨rfl, rfl⟩
          rw [HMS.out]
          go_wp2_with fail
          go_round
          case rel => exact ⟨k + 1, s + z, by omega, by go_num, rfl, HST, HMS⟩
          case measure => simp [intOf]; omega
    · have hkl : k = len := by omega
      subst hkl
      have hsm : sumO 0 zs = some s := by have := HS.out; rw [List.take_of_length_le (by rw [HL.out]; exact Nat.le_refl _)] at this; exact this
      have HSM := Lib.hid hsm; clear hsm
      go_wp2_with fail
      go_ret2
      refine ⟨?_, rfl⟩
      rw [← HV.out, ← HB.out]; unfold sumV sumB; rw [HSM.out]; rfl
theorem refSum_nil (a : Option Addr) (cap : Nat) (w : World) :
    Calls Try.prog 15 #[.slice a 0 cap] w fun e w' => e = .returned (.tuple #[.int .i64 0, .bool true]) ∧ w = w' := by
  go_enter Try.func15, Try.ntmps15
  go_wp2_with fail
  go_loop [4, 5] (fun t i => i = .int .i64 0 ∧ t = .int .i64 0) (fun _ _ => 0)
  case atStart => exact ⟨rfl, rfl⟩
  case round =>
    obtain ⟨rfl, rfl⟩ := hrel
    go_wp2
    go_ret2
    exact ⟨rfl, rfl⟩

theorem refRoot_core (n0 : Int) (n r : Nat) (w : World) (_hn : n ≤ 1152921504606846976) (hr : r ≤ 1073741824) (Hr : Hid (IsRoot n r)) (Hh : Hid (heldV n0 0 1152921504606846976 = n)) :
    Calls Try.prog 21 #[.int .i64 n0] w fun e w' => e = .returned (.int .i64 r) ∧ w = w' := by
  go_enter Try.func21, Try.ntmps21
  go_wp2_with fail
  refine (refHeld_any _ _ _ _).mono ?_
  rintro e w' ⟨rfl, rfl⟩
  rw [Hh.out]
  go_wp2_with fail
  go_loop [3, 4] (fun l h => ∃ low high : Nat, low ≤ r ∧ r ≤ high ∧ high ≤ 1073741824 ∧ l = .int .i64 low ∧ h = .int .i64 high) (fun l h => (intOf h).toNat - (intOf l).toNat)
  case atStart => exact ⟨0, 1073741824, by omega, hr, by omega, rfl, rfl⟩
  case round =>
    obtain ⟨low, high, h1, h2, h3, rfl, rfl⟩ := hrel
    by_cases hlt : low < high
    · obtain ⟨mid, hmid⟩ : ∃ m : Nat, m = (low + high) / 2 := ⟨_, rfl⟩
      have hm1 : low ≤ mid := by omega
      have hm2 : mid < high := by omega
      have hi : ((low : Int) + high) / 2 = mid := by omega
      clear hmid
      have hmm : mid * mid ≤ 1073741824 * 1073741824 := Nat.mul_le_mul (by omega) (by omega)
      have hz0 : (0 : Int) ≤ (mid : Int) * mid := by rw [← Int.natCast_mul]; omega
      have hz1 : (mid : Int) * mid ≤ 1152921504606846976 := by rw [← Int.natCast_mul]; omega
      clear hmm
      by_cases hge : (n : Int) ≤ (mid : Int) * mid
      · have hrm : r ≤ mid := Hr.out.least mid (by rw [← Int.natCast_mul] at hge; omega)
        go_wp2_with fail
        go_round
        case rel => exact ⟨low, mid, h1, hrm, by omega, rfl, by rw [hi]⟩
        case measure => simp [intOf]; omega
      · have hrm : mid + 1 ≤ r := by
          rcases Nat.lt_or_ge mid r with h | h
          · exact h
          · have h1 := Nat.le_trans Hr.out.up (Nat.mul_le_mul h h)
            rw [← Int.natCast_mul] at hge
            omega
        go_wp2_with fail
        go_round
        case rel => exact ⟨mid + 1, high, hrm, h2, h3, by go_num, rfl⟩
        case measure => simp [intOf]; omega
    · have hlr : (low : Int) = r := by omega
      have HLR := Lib.hid hlr; clear hlr
      go_wp2_with fail
      go_ret
      exact ⟨ret_int HLR.out, rfl⟩
/-- Root of the document -/
theorem refRoot_any (n : Int) (w : World) : Calls Try.prog 21 #[.int .i64 n] w fun e w' => e = .returned (.int .i64 (rootV n)) ∧ w = w' := by
  obtain ⟨m, h1, h2⟩ := held_root n
  have hv : rootV n = (rootN m : Int) := by unfold rootV; rw [h1, Int.toNat_natCast]
  rw [hv]
  exact refRoot_core n m (rootN m) w h2 (rootN_le h2) (Lib.hid (rootN_isRoot h2)) (Lib.hid h1)

/-! Mul of the document: by signs -/
theorem refMul_no1 (a b : Int) (w : World) (Ha : Hid (mayB a = false)) :
    Calls Try.prog 17 #[.int .i64 a, .int .i64 b] w fun e w' => e = .returned (.tuple #[.int .i64 0, .bool false]) ∧ w = w' := by
  go_enter Try.func17, Try.ntmps17
  go_wp2_with fail
  refine (refMay_any _ _).mono ?_
  rintro e w' ⟨rfl, rfl⟩
  rw [Ha.out]
  go_wp2
  go_ret2
  exact ⟨rfl, rfl⟩
theorem refMul_no2 (a b : Int) (w : World) (Ha : Hid (mayB a = true)) (Hb : Hid (mayB b = false)) :
    Calls Try.prog 17 #[.int .i64 a, .int .i64 b] w fun e w' => e = .returned (.tuple #[.int .i64 0, .bool false]) ∧ w = w' := by
  go_enter Try.func17, Try.ntmps17
  go_wp2_with fail
  refine (refMay_any _ _).mono ?_
  rintro e w' ⟨rfl, rfl⟩
  rw [Ha.out]
  go_wp2_with fail
  refine (refMay_any _ _).mono ?_
  rintro e w' ⟨rfl, rfl⟩
  rw [Hb.out]
  go_wp2
  go_ret2
  exact ⟨rfl, rfl⟩
theorem refMul_zero (a b : Int) (w : World) (h : a = 0 ∨ b = 0) (Ha : Hid (mayB a = true)) (Hb : Hid (mayB b = true)) :
    Calls Try.prog 17 #[.int .i64 a, .int .i64 b] w fun e w' => e = .returned (.tuple #[.int .i64 0, .bool true]) ∧ w = w' := by
  obtain ⟨hb, hb'⟩ := mayB_true Hb.out
  by_cases h0 : a = 0
  · have h0' : (a == 0) = true := by simp [h0]
    clear h h0
    go_enter Try.func17, Try.ntmps17
    go_wp2_with fail
    refine (refMay_any _ _).mono ?_
    rintro e w' ⟨rfl, rfl⟩
    rw [Ha.out]
    go_wp2_with fail
    refine (refMay_any _ _).mono ?_
    rintro e w' ⟨rfl, rfl⟩
    rw [Hb.out]
    go_wp2_with fail
    go_ret2
    exact ⟨rfl, rfl⟩
  · have hb0 : (b == 0) = true := by simp; omega
    have h0' : (a == 0) = false := by simp [h0]
    clear h h0
    go_enter Try.func17, Try.ntmps17
    go_wp2_with fail
    refine (refMay_any _ _).mono ?_
    rintro e w' ⟨rfl, rfl⟩
    rw [Ha.out]
    go_wp2_with fail
    refine (refMay_any _ _).mono ?_
    rintro e w' ⟨rfl, rfl⟩
    rw [Hb.out]
    go_wp2_with fail
    go_ret2
    exact ⟨rfl, rfl⟩
theorem mul_size' {a b : Int} (hb : b ≠ 0) : mayB (a * b) = !decide ((1152921504606846976 : Int).tdiv b.natAbs < a.natAbs) := by
  rw [Int.mul_comm]; exact mul_size hb
theorem refMul_yes (a b : Int) (w : World) (Ha : Hid (mayB a = true)) (Hb : Hid (mayB b = true)) (ha0 : (a == 0) = false) (hb0 : (b == 0) = false) (hz : ¬ (b.natAbs : Int) = 0) (hq : ¬ (1152921504606846976 : Int).tdiv b.natAbs < a.natAbs) (hp1 : -1152921504606846976 ≤ a * b) (hp2 : a * b ≤ 1152921504606846976) :
    Calls Try.prog 17 #[.int .i64 a, .int .i64 b] w fun e w' => e = .returned (.tuple #[.int .i64 (a * b), .bool true]) ∧ w = w' := by
  obtain ⟨ha, ha'⟩ := mayB_true Ha.out
  obtain ⟨hb, hb'⟩ := mayB_true Hb.out
  obtain ⟨hd, hd'⟩ := div_range b
  by_cases hx : a < 0 <;> by_cases hy : b < 0
  all_goals
    first
    | (rw [show ((a.natAbs : Nat) : Int) = -a by omega] at hq)
    | (rw [show ((a.natAbs : Nat) : Int) = a by omega] at hq)
  all_goals
    first
    | (rw [show ((b.natAbs : Nat) : Int) = -b by omega] at hq hz hd hd'; rw [Int.tdiv_neg] at hq hd hd')
    | (rw [show ((b.natAbs : Nat) : Int) = b by omega] at hq hz hd hd')
  all_goals
    go_enter Try.func17, Try.ntmps17
    go_wp2_with fail
    refine (refMay_any _ _).mono ?_
    rintro e w' ⟨rfl, rfl⟩
    rw [Ha.out]
    go_wp2_with fail
    refine (refMay_any _ _).mono ?_
    rintro e w' ⟨rfl, rfl⟩
    rw [Hb.out]
    go_wp2_with fail
    go_ret2
    exact ⟨rfl, rfl⟩
theorem refMul_no3 (a b : Int) (w : World) (Ha : Hid (mayB a = true)) (Hb : Hid (mayB b = true)) (ha0 : (a == 0) = false) (hb0 : (b == 0) = false) (hz : ¬ (b.natAbs : Int) = 0) (hq : (1152921504606846976 : Int).tdiv b.natAbs < a.natAbs) :
    Calls Try.prog 17 #[.int .i64 a, .int .i64 b] w fun e w' => e = .returned (.tuple #[.int .i64 0, .bool false]) ∧ w = w' := by
  obtain ⟨ha, ha'⟩ := mayB_true Ha.out
  obtain ⟨hb, hb'⟩ := mayB_true Hb.out
  obtain ⟨hd, hd'⟩ := div_range b
  by_cases hx : a < 0 <;> by_cases hy : b < 0
  all_goals
    first
    | (rw [show ((a.natAbs : Nat) : Int) = -a by omega] at hq)
    | (rw [show ((a.natAbs : Nat) : Int) = a by omega] at hq)
  all_goals
    first
    | (rw [show ((b.natAbs : Nat) : Int) = -b by omega] at hq hz hd hd'; rw [Int.tdiv_neg] at hq hd hd')
    | (rw [show ((b.natAbs : Nat) : Int) = b by omega] at hq hz hd hd')
  all_goals
    go_enter Try.func17, Try.ntmps17
    go_wp2_with fail
    refine (refMay_any _ _).mono ?_
    rintro e w' ⟨rfl, rfl⟩
    rw [Ha.out]
    go_wp2_with fail
    refine (refMay_any _ _).mono ?_
    rintro e w' ⟨rfl, rfl⟩
    rw [Hb.out]
    go_wp2_with fail
    go_ret2
    exact ⟨rfl, rfl⟩
/-- Mul of the document -/
theorem refMul_any (a b : Int) (w : World) :
    Calls Try.prog 17 #[.int .i64 a, .int .i64 b] w fun e w' => e = .returned (.tuple #[.int .i64 (mulV a b), .bool (mulB a b)]) ∧ w = w' := by
  cases ha : mayB a with
  | false =>
    have e1 : mulB a b = false := by simp [mulB, ha]
    have e2 : mulV a b = 0 := by simp [mulV, e1]
    rw [e1, e2]; exact refMul_no1 a b w (Lib.hid ha)
  | true =>
  cases hb : mayB b with
  | false =>
    have e1 : mulB a b = false := by simp [mulB, hb]
    have e2 : mulV a b = 0 := by simp [mulV, e1]
    rw [e1, e2]; exact refMul_no2 a b w (Lib.hid ha) (Lib.hid hb)
  | true =>
  by_cases h0 : a = 0 ∨ b = 0
  · have e0 : a * b = 0 := by rcases h0 with h | h <;> subst h <;> simp
    have e1 : mulB a b = true := by simp [mulB, ha, hb, e0]; decide
    have e2 : mulV a b = 0 := by simp [mulV, e1, e0]
    rw [e1, e2]; exact refMul_zero a b w h0 (Lib.hid ha) (Lib.hid hb)
  · have ha0 : a ≠ 0 := fun h => h0 (Or.inl h)
    have hb0 : b ≠ 0 := fun h => h0 (Or.inr h)
    have hs := mul_size' (a := a) hb0
    cases hab : mayB (a * b) with
    | false =>
      have e1 : mulB a b = false := by simp [mulB, hab]
      have e2 : mulV a b = 0 := by simp [mulV, e1]
      rw [hab] at hs
      rw [e1, e2]; exact refMul_no3 a b w (Lib.hid ha) (Lib.hid hb) (by simp [ha0]) (by simp [hb0]) (by omega) (by simpa using hs)
    | true =>
      have e1 : mulB a b = true := by simp [mulB, ha, hb, hab]
      have e2 : mulV a b = a * b := by simp [mulV, e1]
      rw [hab] at hs
      obtain ⟨p1, p2⟩ := mayB_true hab
      rw [e1, e2]; exact refMul_yes a b w (Lib.hid ha) (Lib.hid hb) (by simp [ha0]) (by simp [hb0]) (by omega) (by simpa using hs) p1 p2
end Num
end Go.Proofs.Ytcfbondgbhmcaaa
