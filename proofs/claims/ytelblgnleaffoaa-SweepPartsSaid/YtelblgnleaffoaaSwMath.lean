/- Where the parts of a list begin, and how long they are. Plain: nothing of a program's run. -/
import Derived.Test.YtelblgnleaffoaaChecked
namespace Go.Proofs.Ytelblgnleaffoaa
namespace Sw
/-- Where part i begins. -/
def offN (n M i : Nat) : Nat := i * (n / M) + min i (n % M)
/-- How long part i is. -/
def lenN (n M i : Nat) : Nat := n / M + if i < n % M then 1 else 0
theorem offN_zero (n M : Nat) : offN n M 0 = 0 := by unfold offN; simp
theorem offN_succ (n M i : Nat) : offN n M (i + 1) = offN n M i + lenN n M i := by
  unfold offN lenN
  rw [Nat.add_mul, Nat.one_mul]
  split <;> omega
theorem offN_end (n M : Nat) (hM : 1 ≤ M) : offN n M M = n := by
  unfold offN
  have h1 := Nat.mod_lt n (show 0 < M by omega)
  have h2 := Nat.div_add_mod n M
  omega
theorem offN_mono (n M i : Nat) : ∀ d, offN n M i ≤ offN n M (i + d)
  | 0 => Nat.le_refl _
  | d + 1 => Nat.le_trans (offN_mono n M i d) (by rw [show i + (d + 1) = i + d + 1 by omega, offN_succ]; omega)
theorem offN_le {n M i : Nat} (hM : 1 ≤ M) (hi : i ≤ M) : offN n M i ≤ n := by
  have := offN_mono n M i (M - i)
  rw [show i + (M - i) = M by omega, offN_end n M hM] at this
  exact this
theorem lenN_zero {n M i k : Nat} (hM : 1 ≤ M) (hk : offN n M k = n) (hi : k ≤ i) (hi2 : i < M) : lenN n M i = 0 := by
  have h1 := offN_mono n M k (i - k)
  rw [show k + (i - k) = i by omega, hk] at h1
  have h2 := offN_le (n := n) hM (show i + 1 ≤ M by omega)
  rw [offN_succ] at h2
  omega
theorem lenN_up (n M i : Nat) : lenN n M i ≤ lenN n M 0 := by
  unfold lenN
  split <;> split <;> omega
theorem lenN_down (n M i : Nat) : lenN n M 0 ≤ lenN n M i + 1 := by
  unfold lenN
  split <;> split <;> omega
/-- The document's way to say it: what is left, in as many parts as are left, rounded up. -/
theorem lenN_up_div {n M i : Nat} (hi : i < M) : (n - offN n M i + (M - i) - 1) / (M - i) = lenN n M i := by
  have h1 := Nat.mod_lt n (show 0 < M by omega)
  have h2 := Nat.div_add_mod n M
  generalize hq : n / M = q at *
  generalize hr : n % M = r at *
  have e : n - offN n M i = (M - i) * q + (r - min i r) := by
    unfold offN
    rw [hq, hr]
    have : M * q = (M - i) * q + i * q := by rw [← Nat.add_mul]; congr 1; omega
    omega
  rw [e]
  unfold lenN
  rw [hq, hr]
  have hp : 0 < M - i := by omega
  split
  · rename_i h
    rw [show (M - i) * q + (r - min i r) + (M - i) - 1 = (M - i) * (q + 1) + (r - i - 1) by rw [Nat.mul_add, Nat.mul_one]; omega]
    rw [Nat.mul_add_div hp, Nat.div_eq_of_lt (by omega)]
  · rename_i h
    rw [show (M - i) * q + (r - min i r) + (M - i) - 1 = (M - i) * q + (M - i - 1) by omega]
    rw [Nat.mul_add_div hp, Nat.div_eq_of_lt (by omega)]
end Sw
end Go.Proofs.Ytelblgnleaffoaa
