/- Ways from one middle, by half turn, side and square: they are in an order. Plain: nothing of a program's run. -/
import Derived.Test.YtelblgnleaffoaaSwLit
import Derived.Sort.Defs
namespace Go.Proofs.Ytelblgnleaffoaa
namespace Spot
/-- A way's first half turn. -/
def Up (x y : Int) : Prop := 0 < y ∨ (y = 0 ∧ 0 < x)
theorem mul_pos' {a b : Int} (h : 0 < a) (g : 0 < b) : 0 < a * b := Int.mul_pos h g
theorem pos_of_mul {a b : Int} (h : 0 < a * b) (g : 0 < a) : 0 < b := by
  rcases Int.lt_or_le 0 b with h1 | h1
  · exact h1
  · have := Int.mul_nonpos_of_nonneg_of_nonpos (Int.le_of_lt g) h1; omega
theorem nonneg_of_mul {a b : Int} (h : 0 ≤ a * b) (g : 0 < a) : 0 ≤ b := by
  rcases Int.lt_or_le b 0 with h1 | h1
  · have := Int.mul_neg_of_pos_of_neg g h1; omega
  · exact h1
theorem zero_of_mul {a b : Int} (h : a * b = 0) (g : 0 < a) : b = 0 := by
  rcases Int.mul_eq_zero.1 h with h1 | h1
  · omega
  · exact h1
theorem cross_id (ax ay bx by' cx cy : Int) : by' * cross ax ay cx cy = ay * cross bx by' cx cy + cy * cross ax ay bx by' := by
  unfold cross
  simp only [Int.mul_sub]
  have e1 : by' * (ax * cy) = cy * (ax * by') := by rw [Int.mul_left_comm, Int.mul_comm by' cy, Int.mul_left_comm]
  have e2 : by' * (ay * cx) = ay * (by' * cx) := Int.mul_left_comm ..
  have e3 : ay * (bx * cy) = cy * (ay * bx) := by rw [Int.mul_comm cy, Int.mul_assoc]
  rw [e1, e2, e3]; omega
theorem cross_up {ax ay bx by' cx cy : Int} (ha : Up ax ay) (hb : Up bx by') (hc : Up cx cy) (hp : 0 ≤ cross ax ay bx by') (hq : 0 ≤ cross bx by' cx cy) :
    (0 < cross ax ay bx by' ∨ 0 < cross bx by' cx cy → 0 < cross ax ay cx cy) ∧ (cross ax ay bx by' = 0 → cross bx by' cx cy = 0 → cross ax ay cx cy = 0) := by
  have ha0 : 0 ≤ ay := by rcases ha with h | h <;> omega
  have hc0 : 0 ≤ cy := by rcases hc with h | h <;> omega
  rcases hb with hb | ⟨hb, hbx⟩
  · have id := cross_id ax ay bx by' cx cy
    have hcy : 0 < cy := by
      rcases hc with h | ⟨h, hx⟩
      · exact h
      · exfalso
        unfold cross at hq
        rw [h, Int.mul_zero] at hq
        have := mul_pos' hb hx; omega
    constructor
    · intro h
      apply pos_of_mul (a := by') _ hb
      rw [id]
      have t1 : 0 ≤ ay * cross bx by' cx cy := Int.mul_nonneg ha0 hq
      have t2 : 0 ≤ cy * cross ax ay bx by' := Int.mul_nonneg hc0 hp
      by_cases h1 : 0 < cross ax ay bx by'
      · have := mul_pos' hcy h1; omega
      · have h2 : 0 < cross bx by' cx cy := by rcases h with h | h <;> omega
        by_cases hay : 0 < ay
        · have := mul_pos' hay h2; omega
        · exfalso
          have hay0 : ay = 0 := by omega
          rcases ha with h3 | ⟨_, h3⟩
          · omega
          · apply h1
            unfold cross
            rw [hay0, Int.zero_mul]
            have := mul_pos' h3 hb; omega
    · intro h1 h2
      rw [h1, h2, Int.mul_zero, Int.mul_zero] at id
      exact zero_of_mul id hb
  · subst hb
    unfold cross at hp hq ⊢
    rw [Int.mul_zero] at hp
    rw [Int.zero_mul] at hq
    have hay : ay = 0 := by
      by_cases h : 0 < ay
      · have := mul_pos' h hbx; omega
      · omega
    subst hay
    have hax : 0 < ax := by rcases ha with h | h <;> omega
    simp only [Int.mul_zero, Int.zero_mul, Int.sub_zero]
    constructor
    · intro h
      have h2 : 0 < bx * cy := by rcases h with h | h <;> omega
      exact mul_pos' hax (pos_of_mul h2 hbx)
    · intro _ h2
      have := zero_of_mul h2 hbx
      subst this; simp
theorem cross_neg (ax ay bx by' : Int) : cross (-ax) (-ay) (-bx) (-by') = cross ax ay bx by' := by
  unfold cross; rw [Int.neg_mul_neg, Int.neg_mul_neg]
theorem cross_swap (ax ay bx by' : Int) : cross bx by' ax ay = -cross ax ay bx by' := by
  unfold cross; rw [Int.mul_comm bx, Int.mul_comm by']; omega
theorem half_cases (x y : Int) : (halfV x y = 0 ∧ x = 0 ∧ y = 0) ∨ (halfV x y = 1 ∧ Up x y) ∨ (halfV x y = 2 ∧ Up (-x) (-y)) := by
  unfold halfV Up
  by_cases h : x = 0 ∧ y = 0
  · rw [if_pos h]; exact Or.inl ⟨rfl, h⟩
  · rw [if_neg h]
    by_cases h2 : 0 < y ∨ (y = 0 ∧ 0 < x)
    · rw [if_pos h2]; exact Or.inr (Or.inl ⟨rfl, h2⟩)
    · rw [if_neg h2]; refine Or.inr (Or.inr ⟨rfl, ?_⟩); omega
/-- Of three ways in one half the sides are in an order. -/
theorem cross_half {ax ay bx by' cx cy : Int} (h1 : halfV ax ay = halfV bx by') (h2 : halfV bx by' = halfV cx cy) (hp : 0 ≤ cross ax ay bx by') (hq : 0 ≤ cross bx by' cx cy) :
    (0 < cross ax ay bx by' ∨ 0 < cross bx by' cx cy → 0 < cross ax ay cx cy) ∧ (cross ax ay bx by' = 0 → cross bx by' cx cy = 0 → cross ax ay cx cy = 0) := by
  rcases half_cases ax ay with ⟨e1, u1, u1'⟩ | ⟨e1, u1⟩ | ⟨e1, u1⟩
  · rcases half_cases bx by' with ⟨e2, u2, u2'⟩ | ⟨e2, u2⟩ | ⟨e2, u2⟩
    · subst u1 u1' u2 u2'
      unfold cross at *; simp
    · omega
    · omega
  · rcases half_cases bx by' with ⟨e2, u2⟩ | ⟨e2, u2⟩ | ⟨e2, u2⟩
    · omega
    · rcases half_cases cx cy with ⟨e3, u3⟩ | ⟨e3, u3⟩ | ⟨e3, u3⟩
      · omega
      · exact cross_up u1 u2 u3 hp hq
      · omega
    · omega
  · rcases half_cases bx by' with ⟨e2, u2⟩ | ⟨e2, u2⟩ | ⟨e2, u2⟩
    · omega
    · omega
    · rcases half_cases cx cy with ⟨e3, u3⟩ | ⟨e3, u3⟩ | ⟨e3, u3⟩
      · omega
      · omega
      · have := cross_up u1 u2 u3 (by rw [cross_neg]; exact hp) (by rw [cross_neg]; exact hq)
        simp only [cross_neg] at this
        exact this
theorem sgn_neg_iff (n : Int) : sgn n < 0 ↔ n < 0 := by unfold sgn; split <;> (try split) <;> omega
theorem sgn_zero_iff (n : Int) : sgn n = 0 ↔ n = 0 := by unfold sgn; split <;> (try split) <;> omega
theorem sgn_pos_iff (n : Int) : 0 < sgn n ↔ 0 < n := by unfold sgn; split <;> (try split) <;> omega
/-- cmpAt below 0, in words. -/
theorem cmpAt_neg (X Y : Nat → Int) (ox oy : Int) (i j : Nat) : cmpAt X Y ox oy i j < 0 ↔
    (halfV (X i - ox) (Y i - oy) < halfV (X j - ox) (Y j - oy) ∨ (halfV (X i - ox) (Y i - oy) = halfV (X j - ox) (Y j - oy) ∧
      (0 < cross (X i - ox) (Y i - oy) (X j - ox) (Y j - oy) ∨ (cross (X i - ox) (Y i - oy) (X j - ox) (Y j - oy) = 0 ∧
        ((X i - ox) * (X i - ox) + (Y i - oy) * (Y i - oy) < (X j - ox) * (X j - ox) + (Y j - oy) * (Y j - oy) ∨
          ((X i - ox) * (X i - ox) + (Y i - oy) * (Y i - oy) = (X j - ox) * (X j - ox) + (Y j - oy) * (Y j - oy) ∧ i < j)))))) := by
  unfold cmpAt cmpWay
  generalize halfV (X i - ox) (Y i - oy) = h1
  generalize halfV (X j - ox) (Y j - oy) = h2
  generalize cross (X i - ox) (Y i - oy) (X j - ox) (Y j - oy) = c
  generalize (X i - ox) * (X i - ox) + (Y i - oy) * (Y i - oy) = s1
  generalize (X j - ox) * (X j - ox) + (Y j - oy) * (Y j - oy) = s2
  have a1 := sgn_neg_iff (h1 - h2); have a2 := sgn_zero_iff (h1 - h2); have a3 := sgn_pos_iff (h1 - h2)
  have b1 := sgn_neg_iff c; have b2 := sgn_zero_iff c; have b3 := sgn_pos_iff c
  have c1 := sgn_neg_iff (s1 - s2); have c2 := sgn_zero_iff (s1 - s2); have c3 := sgn_pos_iff (s1 - s2)
  have d1 := sgn_neg_iff ((i : Int) - j); have d2 := sgn_zero_iff ((i : Int) - j); have d3 := sgn_pos_iff ((i : Int) - j)
  generalize sgn (h1 - h2) = A at *
  generalize sgn c = B at *
  generalize sgn (s1 - s2) = C at *
  generalize sgn ((i : Int) - j) = D at *
  simp only [orV]
  by_cases hA : A = 0
  · by_cases hB : -B = 0
    · by_cases hC : C = 0
      · by_cases hD : D = 0
        · simp only [hA, hB, hC, hD, if_true]; omega
        · simp only [hA, hB, hC, hD, if_true, if_false]; omega
      · simp only [hA, hB, hC, if_true, if_false]; omega
    · simp only [hA, hB, if_true, if_false]; omega
  · simp only [hA, if_false]; omega
theorem cmpAt_irrefl (X Y : Nat → Int) (ox oy : Int) (i : Nat) : ¬ cmpAt X Y ox oy i i < 0 := by
  rw [cmpAt_neg]; unfold cross; rw [Int.mul_comm]; omega
theorem cmpAt_total (X Y : Nat → Int) (ox oy : Int) (i j : Nat) (h1 : ¬ cmpAt X Y ox oy i j < 0) (h2 : ¬ cmpAt X Y ox oy j i < 0) : i = j := by
  rw [cmpAt_neg] at h1 h2
  have hs := cross_swap (X i - ox) (Y i - oy) (X j - ox) (Y j - oy)
  generalize cross (X i - ox) (Y i - oy) (X j - ox) (Y j - oy) = c at *
  generalize cross (X j - ox) (Y j - oy) (X i - ox) (Y i - oy) = c' at *
  omega
theorem cmpAt_trans (X Y : Nat → Int) (ox oy : Int) (i j k : Nat) (h1 : cmpAt X Y ox oy i j < 0) (h2 : cmpAt X Y ox oy j k < 0) : cmpAt X Y ox oy i k < 0 := by
  rw [cmpAt_neg] at *
  by_cases e1 : halfV (X i - ox) (Y i - oy) = halfV (X j - ox) (Y j - oy)
  · by_cases e2 : halfV (X j - ox) (Y j - oy) = halfV (X k - ox) (Y k - oy)
    · have hp : 0 ≤ cross (X i - ox) (Y i - oy) (X j - ox) (Y j - oy) := by omega
      have hq : 0 ≤ cross (X j - ox) (Y j - oy) (X k - ox) (Y k - oy) := by omega
      obtain ⟨g1, g2⟩ := cross_half e1 e2 hp hq
      generalize cross (X i - ox) (Y i - oy) (X j - ox) (Y j - oy) = p at *
      generalize cross (X j - ox) (Y j - oy) (X k - ox) (Y k - oy) = q at *
      generalize cross (X i - ox) (Y i - oy) (X k - ox) (Y k - oy) = r at *
      by_cases hh : 0 < p ∨ 0 < q
      · have := g1 hh; omega
      · have := g2 (by omega) (by omega); omega
    · omega
  · omega
end Spot
end Go.Proofs.Ytelblgnleaffoaa
