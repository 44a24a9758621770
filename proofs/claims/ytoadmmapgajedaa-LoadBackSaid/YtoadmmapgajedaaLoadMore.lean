/- More plain facts of loads, and of a mask of ones. -/
import Derived.Test.YtoadmmapgajedaaLoadFirst
import Derived.Test.YtoadmmapgajedaaLoadKept
namespace Go.Proofs.Ytoadmmapgajedaa
open Go.RowKit
namespace Load
theorem mayL_of {s t : Int} (h1 : -1073741824 ≤ s) (h2 : s ≤ 1073741824) (h3 : -1073741824 ≤ t) (h4 : t ≤ 1073741824) : mayL s t = true := by
  unfold mayL mayP; rw [btw_of h1 h2, btw_of h3 h4]; rfl
theorem negV_true {s t x : Int} (h : mayL s t = true) : negV s t x = -x := by unfold negV; rw [if_pos h]
theorem fitsL_of {rs rt s t : Int} (h1 : 0 ≤ s) (h2 : s ≤ rs) (h3 : 0 ≤ t) (h4 : t ≤ rt) : fitsL rs rt s t = true := by unfold fitsL; rw [btw_of h1 h2, btw_of h3 h4]; rfl
theorem fitsL_true {rs rt s t : Int} (h : fitsL rs rt s t = true) : (0 ≤ s ∧ s ≤ rs) ∧ 0 ≤ t ∧ t ≤ rt := by
  unfold fitsL at h; rw [Bool.and_eq_true] at h; exact ⟨btw_true h.1, btw_true h.2⟩
theorem rightL_true {s t : Int} (h : rightL s t = true) : (0 ≤ s ∧ s ≤ 1000) ∧ 0 ≤ t ∧ t ≤ 1000 := fitsL_true h
theorem adB_of {s t x y : Int} (h1 : mayL s t = true) (h2 : mayL x y = true) (h3 : mayL (s + x) (t + y) = true) : adB s t x y = true := by unfold adB; rw [h1, h2, h3]; rfl
theorem mayL_neg {s t : Int} (h : mayL s t = true) : mayL (-s) (-t) = true := by
  obtain ⟨⟨h1, h2⟩, h3, h4⟩ := mayL_true h
  exact mayL_of (by omega) (by omega) (by omega) (by omega)
theorem adB_back {s t x y : Int} (h : adB s t x y = true) : adB (s + x) (t + y) (-x) (-y) = true := by
  obtain ⟨h1, h2, h3⟩ := adB_true h
  exact adB_of h3 (mayL_neg h2) (by rw [Int.add_neg_cancel_right, Int.add_neg_cancel_right]; exact h1)
/-- a mask of ones keeps the rest of a division -/
theorem and_mask (n : Int) (k : Nat) (m : Int) (hk : k < 63) (hm : (BitVec.ofInt 64 m).toNat = 2 ^ k - 1) : bits .and .i64 n m = n % (2 ^ k : Nat) := by
  have e1 : (BitVec.ofInt 64 n &&& BitVec.ofInt 64 m).toNat = (n % ((2 ^ 64 : Nat) : Int)).toNat % 2 ^ k := by
    rw [BitVec.toNat_and, BitVec.toNat_ofInt, hm, Nat.and_two_pow_sub_one_eq_mod]
  have e2 : IntKind.i64.wrap ((BitVec.ofInt 64 n &&& BitVec.ofInt 64 m).toNat : Nat) = n % (2 ^ k : Nat) := by
    have hlt : (n % ((2 ^ 64 : Nat) : Int)).toNat % 2 ^ k < 2 ^ k := Nat.mod_lt _ (Nat.pow_pos (by decide))
    have hle : (2 : Nat) ^ k ≤ 2 ^ 62 := Nat.pow_le_pow_right (by decide) (by omega)
    have hnn : 0 ≤ n % ((2 ^ 64 : Nat) : Int) := Int.emod_nonneg _ (by decide)
    rw [e1, IntKind.wrap_i64]
    have hd : ((2 ^ k : Nat) : Int) ∣ ((2 ^ 64 : Nat) : Int) := Int.natCast_dvd_natCast.2 (Nat.pow_dvd_pow 2 (by omega))
    have e3 : (((n % ((2 ^ 64 : Nat) : Int)).toNat % 2 ^ k : Nat) : Int) = n % (2 ^ k : Nat) := by
      rw [Int.natCast_emod, Int.toNat_of_nonneg hnn, Int.emod_emod_of_dvd _ hd]
    have hz0 : 0 ≤ n % ((2 ^ k : Nat) : Int) := Int.emod_nonneg _ (by have := Nat.pow_pos (n := k) (show 0 < 2 by decide); omega)
    have hz1 : n % ((2 ^ k : Nat) : Int) < 4611686018427387904 := by rw [← e3]; omega
    rw [e3]
    generalize n % ((2 ^ k : Nat) : Int) = z at *
    omega
  exact e2
theorem and1023 (n : Int) : bits .and .i64 n 1023 = n % 1024 := and_mask n 10 1023 (by decide) (by decide)
theorem and255 (n : Int) : bits .and .i64 n 255 = n % 256 := and_mask n 8 255 (by decide) (by decide)
theorem KA.under {w0 W W' : World} {L : List (Addr × Value)} {B : Nat} (h : KA w0 L W) (hb : Below B W W') (hL : ∀ p ∈ L, p.1.block < B) (hB : w0.heap.size ≤ B) : KA w0 L W' :=
  ⟨fun p hp => (hb.cell (hL p hp)).trans (h.1 p hp), h.2.trans (hb.mono hB)⟩
end Load
end Go.Proofs.Ytoadmmapgajedaa
