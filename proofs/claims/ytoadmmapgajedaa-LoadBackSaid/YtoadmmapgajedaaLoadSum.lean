/- Plain sums of rows of loads: running sums, whether all may be, the first place that does not fit, the peak. -/
import Derived.Test.YtoadmmapgajedaaLoadRef
namespace Go.Proofs.Ytoadmmapgajedaa
open Go.RowKit
namespace Load
theorem adB_comm (s t x y : Int) : adB s t x y = adB x y s t := by
  unfold adB
  rw [Bool.and_comm (mayL s t), Int.add_comm s x, Int.add_comm t y]
/-- the sum of the first k -/
def S (X : Nat → Int) : Nat → Int
  | 0 => 0
  | k + 1 => S X k + X k
theorem S_zero (X : Nat → Int) : S X 0 = 0 := rfl
theorem S_succ (X : Nat → Int) (k : Nat) : S X (k + 1) = S X k + X k := rfl
/-- may the sum behind place j be made? -/
def okAt (X Y : Nat → Int) (j : Nat) : Bool := adB (S X j) (S Y j) (X j) (Y j)
theorem okAt_eq (X Y : Nat → Int) (j : Nat) : adB (S X j) (S Y j) (X j) (Y j) = okAt X Y j := rfl
def okTo (X Y : Nat → Int) : Nat → Bool
  | 0 => true
  | k + 1 => okTo X Y k && okAt X Y k
theorem okTo_iff (X Y : Nat → Int) (n : Nat) : okTo X Y n = true ↔ ∀ j, j < n → okAt X Y j = true := by
  induction n with
  | zero => simp [okTo]
  | succ n ih =>
    rw [okTo, Bool.and_eq_true, ih]
    constructor
    · rintro ⟨h1, h2⟩ j hj
      rcases Nat.lt_or_ge j n with h | h
      · exact h1 j h
      · obtain rfl : j = n := by omega
        exact h2
    · exact fun h => ⟨fun j hj => h j (by omega), h n (by omega)⟩
theorem okTo_false {X Y : Nat → Int} {n k : Nat} (h : k < n) (hk : okAt X Y k = false) : okTo X Y n = false := by
  cases hn : okTo X Y n with
  | false => rfl
  | true => have := (okTo_iff X Y n).1 hn k h; rw [hk] at this; exact absurd this (by decide)
theorem okAt_may {X Y : Nat → Int} {j : Nat} (h : okAt X Y j = true) : mayL (S X (j + 1)) (S Y (j + 1)) = true := (adB_true h).2.2
theorem okTo_succ {X Y : Nat → Int} {k : Nat} (h : okTo X Y k = true) (h' : okAt X Y k = true) : okTo X Y (k + 1) = true := by rw [okTo, h, h']; rfl
theorem okTo_mono {X Y : Nat → Int} {k n : Nat} (hkn : k ≤ n) (h : okTo X Y n = true) : okTo X Y k = true :=
  (okTo_iff X Y k).2 fun j hj => (okTo_iff X Y n).1 h j (by omega)
theorem okTo_may {X Y : Nat → Int} {k : Nat} (h : okTo X Y k = true) : mayL (S X k) (S Y k) = true := by
  cases k with
  | zero => show mayL 0 0 = true; decide
  | succ k => exact okAt_may ((okTo_iff X Y (k + 1)).1 h k (by omega))
/-- does the load behind place j not fit, or may it not be? -/
def badAt (rs rt : Int) (X Y : Nat → Int) (j : Nat) : Bool := !okAt X Y j || !fitsL rs rt (S X (j + 1)) (S Y (j + 1))
def firstV (rs rt : Int) (X Y : Nat → Int) (n : Nat) : Int := match (List.range n).find? (badAt rs rt X Y) with | some i => (i : Int) | none => -1
theorem firstV_at {rs rt : Int} {X Y : Nat → Int} {n k : Nat} (h : k < n) (hb : ∀ j, j < k → badAt rs rt X Y j = false) (hk : badAt rs rt X Y k = true) : firstV rs rt X Y n = k := by
  unfold firstV
  have : (List.range n).find? (badAt rs rt X Y) = some k := by
    rw [List.find?_range_eq_some]
    exact ⟨hk, by simpa using h, fun j hj => by simp [hb j hj]⟩
  rw [this]
theorem firstV_none {rs rt : Int} {X Y : Nat → Int} {n : Nat} (hb : ∀ j, j < n → badAt rs rt X Y j = false) : firstV rs rt X Y n = -1 := by
  unfold firstV
  have : (List.range n).find? (badAt rs rt X Y) = none := by
    rw [List.find?_eq_none]
    intro j hj
    have := hb j (by simpa using hj)
    simp [this]
  rw [this]
theorem firstV_neg {rs rt : Int} {X Y : Nat → Int} {n : Nat} : firstV rs rt X Y n < 0 ↔ ∀ j, j < n → badAt rs rt X Y j = false := by
  constructor
  · intro h j hj
    unfold firstV at h
    cases hf : (List.range n).find? (badAt rs rt X Y) with
    | some i => rw [hf] at h; simp at h; omega
    | none =>
      have := List.find?_eq_none.1 hf j (by simpa using hj)
      simpa using this
  · intro h; rw [firstV_none h]; decide
theorem firstV_range (rs rt : Int) (X Y : Nat → Int) (n : Nat) : -1 ≤ firstV rs rt X Y n ∧ firstV rs rt X Y n < n := by
  unfold firstV
  cases hf : (List.range n).find? (badAt rs rt X Y) with
  | some i =>
    have h := List.mem_of_find?_eq_some hf
    have h' : i < n := by simpa using h
    simp; omega
  | none => simp; omega
/-- the greatest of the sums, and nothing -/
def pk (X : Nat → Int) : Nat → Int
  | 0 => 0
  | k + 1 => if pk X k < S X (k + 1) then S X (k + 1) else pk X k
def peakV (c : Bool) (X : Nat → Int) (n : Nat) : Int := if c then pk X n else 0
theorem pk_ge (X : Nat → Int) (n : Nat) : 0 ≤ pk X n ∧ ∀ j, j ≤ n → S X j ≤ pk X n := by
  induction n with
  | zero => exact ⟨by simp [pk], fun j hj => by obtain rfl : j = 0 := by omega
                                                simp [pk, S]⟩
  | succ n ih =>
    obtain ⟨h1, h2⟩ := ih
    have e : pk X (n + 1) = if pk X n < S X (n + 1) then S X (n + 1) else pk X n := rfl
    rw [e]
    split
    · refine ⟨by omega, fun j hj => ?_⟩
      rcases Nat.lt_or_ge j (n + 1) with h | h
      · have := h2 j (by omega); omega
      · obtain rfl : j = n + 1 := by omega
        omega
    · refine ⟨by omega, fun j hj => ?_⟩
      rcases Nat.lt_or_ge j (n + 1) with h | h
      · exact h2 j (by omega)
      · obtain rfl : j = n + 1 := by omega
        omega
theorem pk_is (X : Nat → Int) (n : Nat) : pk X n = 0 ∨ ∃ j, j ≤ n ∧ 0 < j ∧ pk X n = S X j := by
  induction n with
  | zero => exact .inl rfl
  | succ n ih =>
    have e : pk X (n + 1) = if pk X n < S X (n + 1) then S X (n + 1) else pk X n := rfl
    rw [e]
    split
    · exact .inr ⟨n + 1, by omega, by omega, rfl⟩
    · rcases ih with h | ⟨j, h1, h2, h3⟩
      · exact .inl h
      · exact .inr ⟨j, by omega, h2, h3⟩
end Load
end Go.Proofs.Ytoadmmapgajedaa
