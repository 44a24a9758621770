/- Plain facts of layer 1's answers: quotients, roots, sums in another order. -/
import Derived.Test.YtcfbondgbhmcaaaNumAlive
import Derived.Laws.BitsLemmas
namespace Go.Proofs.Ytcfbondgbhmcaaa
open Go.RowKit
namespace Num
theorem wf64 {n : Int} (h : (Lit.int .i64 n).wf = true) : -9223372036854775808 ≤ n ∧ n ≤ 9223372036854775807 := by
  simp [Lit.wf] at h
  exact h
theorem low_ten (n : Int) : 0 ≤ bits .and .i64 n 1023 ∧ bits .and .i64 n 1023 ≤ 1023 := by
  have hm : (BitVec.ofInt 64 1023).toNat = 2 ^ 10 - 1 := by decide
  have hlt : (BitVec.ofInt 64 n &&& BitVec.ofInt 64 1023).toNat < 1024 := by
    rw [BitVec.toNat_and, hm, Nat.and_two_pow_sub_one_eq_mod]; omega
  have hb : bits .and .i64 n 1023 = IntKind.i64.wrap ((BitVec.ofInt 64 n &&& BitVec.ofInt 64 1023).toNat : Nat) := rfl
  rw [hb, IntKind.wrap_i64]
  omega
theorem held_between (a low high : Int) (h : low ≤ high) : low ≤ heldV a low high ∧ heldV a low high ≤ high := by
  unfold heldV; split <;> (try split) <;> omega
theorem ceil_spec (a b : Int) (hb : 1 ≤ b) : a ≤ ceilV a b * b ∧ (ceilV a b - 1) * b < a := by
  unfold ceilV
  rw [if_neg (by omega)]
  have h1 := Int.mul_ediv_add_emod (-a) b
  have h2 := Int.emod_nonneg (-a) (by omega : b ≠ 0)
  have h3 := Int.emod_lt_of_pos (-a) (by omega : 0 < b)
  generalize (-a) / b = q at *
  generalize (-a) % b = r at *
  rw [Int.sub_mul, Int.neg_mul, Int.one_mul, Int.mul_comm q b]
  omega
theorem ceil_zero (a b : Int) (hb : b < 1) : ceilV a b = 0 := if_pos hb
theorem ceil_one (a : Int) : ceilV a 1 = a := by
  unfold ceilV; rw [if_neg (by omega)]; omega
theorem ceil_le (a b : Int) (hb : 1 ≤ b) (n : Int) (h : a ≤ n * b) : ceilV a b ≤ n := by
  have h2 := (ceil_spec a b hb).2
  rcases Int.lt_or_le n (ceilV a b) with h3 | h3
  · have : n * b ≤ (ceilV a b - 1) * b := Int.mul_le_mul_of_nonneg_right (by omega) (by omega)
    omega
  · exact h3
theorem le_ceil (a b : Int) (hb : 1 ≤ b) (n : Int) (h : (n - 1) * b < a) : n ≤ ceilV a b := by
  have h2 := (ceil_spec a b hb).1
  rcases Int.lt_or_le (ceilV a b) n with h3 | h3
  · have : ceilV a b * b ≤ (n - 1) * b := Int.mul_le_mul_of_nonneg_right (by omega) (by omega)
    omega
  · exact h3
theorem rootV_spec (n : Int) (h : n ≤ 1152921504606846976) : (n ≤ 0 → rootV n = 0) ∧ 0 ≤ rootV n ∧ rootV n ≤ 1073741824 ∧ n ≤ rootV n * rootV n ∧ (0 < n → (rootV n - 1) * (rootV n - 1) < n) := by
  obtain ⟨m, h1, h2⟩ := held_root n
  have hv : rootV n = (rootN m : Int) := by unfold rootV; rw [h1, Int.toNat_natCast]
  have hr := rootN_isRoot h2
  have hm : m = n.toNat := by unfold heldV at h1; split at h1 <;> (try split at h1) <;> omega
  rw [hv]
  refine ⟨?_, by omega, by have := rootN_le h2; omega, ?_, ?_⟩
  · intro h0
    have : m = 0 := by omega
    subst this
    have := hr.least 0 (by omega)
    omega
  · have := hr.up
    rw [← Int.natCast_mul]; omega
  · intro h0
    have h1 : 1 ≤ rootN m := by
      rcases Nat.lt_or_ge 0 (rootN m) with h | h
      · exact h
      · have : rootN m = 0 := by omega
        have h3 := hr.up; rw [this] at h3; omega
    rw [show ((rootN m : Int) - 1) = ((rootN m - 1 : Nat) : Int) by omega, ← Int.natCast_mul]
    rcases Nat.lt_or_ge ((rootN m - 1) * (rootN m - 1)) m with h | h
    · omega
    · have := hr.least _ h; omega
theorem rootV_sq (r : Int) (h0 : 0 ≤ r) (h1 : r ≤ 1073741824) : rootV (r * r) = r := by
  have hb : r * r ≤ 1073741824 * 1073741824 := Int.mul_le_mul h1 h1 h0 (by decide)
  obtain ⟨g1, g2, g3, g4, g5⟩ := rootV_spec (r * r) (by omega)
  rcases Int.lt_trichotomy (rootV (r * r)) r with h | h | h
  · have : rootV (r * r) * rootV (r * r) ≤ (r - 1) * (r - 1) := Int.mul_le_mul (by omega) (by omega) g2 (by omega)
    have e : (r - 1) * (r - 1) = r * r - 2 * r + 1 := by rw [Int.sub_mul, Int.mul_sub]; omega
    omega
  · exact h
  · by_cases hr : r = 0
    · subst hr; have := g1 (by omega); omega
    · have hp : 0 < r * r := Int.mul_pos (by omega) (by omega)
      have h5 := g5 hp
      have : r * r ≤ (rootV (r * r) - 1) * (rootV (r * r) - 1) := Int.mul_le_mul (by omega) (by omega) h0 (by omega)
      omega
theorem rootV_mono (a b : Int) (h : a ≤ b) (hb : b ≤ 1152921504606846976) : rootV a ≤ rootV b := by
  obtain ⟨g1, g2, g3, g4, g5⟩ := rootV_spec a (by omega)
  obtain ⟨k1, k2, k3, k4, k5⟩ := rootV_spec b hb
  rcases Int.lt_or_le (rootV b) (rootV a) with hlt | hle
  · by_cases h0 : 0 < a
    · have h5 := g5 h0
      have : rootV b * rootV b ≤ (rootV a - 1) * (rootV a - 1) := Int.mul_le_mul (by omega) (by omega) k2 (by omega)
      omega
    · have := g1 (by omega); omega
  · exact hle
theorem addB_comm (a b : Int) : addB b a = addB a b := by
  unfold addB; rw [Int.add_comm b a]; cases mayB a <;> cases mayB b <;> rfl
theorem addV_comm (a b : Int) : addV b a = addV a b := by
  unfold addV; rw [addB_comm, Int.add_comm]
theorem mulB_comm (a b : Int) : mulB b a = mulB a b := by
  unfold mulB; rw [Int.mul_comm b a]; cases mayB a <;> cases mayB b <;> rfl
theorem mulV_comm (a b : Int) : mulV b a = mulV a b := by
  unfold mulV; rw [mulB_comm, Int.mul_comm]
theorem add_back (a b : Int) (h : addB a b = true) : addV a b = a + b ∧ mayB b = true ∧ addB (a + b) (-b) = true ∧ addV (a + b) (-b) = a := by
  have hv : addV a b = a + b := if_pos h
  unfold addB at h
  rw [Bool.and_eq_true, Bool.and_eq_true] at h
  obtain ⟨⟨h1, h2⟩, h3⟩ := h
  obtain ⟨b1, b2⟩ := mayB_true h2
  have hn : mayB (-b) = true := mayB_of (by omega) (by omega)
  have e : addB (a + b) (-b) = true := addB_of h3 hn (by rw [show a + b + -b = a by omega]; exact h1)
  exact ⟨hv, h2, e, by unfold addV; rw [if_pos e]; omega⟩
theorem mul_one' (a : Int) : (mulB a 1 = true ∧ mulV a 1 = a) ∨ (mulB a 1 = false ∧ mulV a 1 = 0) := by
  have h1 : mayB 1 = true := by decide
  have e : mulB a 1 = mayB a := by unfold mulB; rw [Int.mul_one, h1]; cases mayB a <;> rfl
  unfold mulV
  rw [e]
  cases mayB a
  · exact Or.inr ⟨rfl, rfl⟩
  · exact Or.inl ⟨rfl, by simp⟩
end Num
end Go.Proofs.Ytcfbondgbhmcaaa
