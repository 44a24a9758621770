/- Plain facts of layer 2's answers: ways, triangles, turns, roots. -/
import Derived.Test.YtcfbondgbhmcaaaSpotTurn
import Derived.Test.YtcfbondgbhmcaaaNumFacts
namespace Go.Proofs.Ytcfbondgbhmcaaa
namespace Spot
open Num
theorem sq_nonneg (a : Int) : 0 ≤ a * a := by
  rcases Int.lt_or_le a 0 with h | h
  · have := Int.mul_nonneg_of_nonpos_of_nonpos (Int.le_of_lt h) (Int.le_of_lt h); exact this
  · exact Int.mul_nonneg h h
theorem sq_bounds {x y u v : Int} (hx : Near x) (hy : Near y) (hu : Near u) (hv : Near v) : 0 ≤ sq x y u v ∧ sq x y u v ≤ 2251799813685248 := by
  have b1 := Fl.prod_way (near_way hu hx) (near_way hu hx)
  have b2 := Fl.prod_way (near_way hv hy) (near_way hv hy)
  have c1 := sq_nonneg (u - x)
  have c2 := sq_nonneg (v - y)
  unfold sq; omega
theorem sq_zero {x y u v : Int} : sq x y u v = 0 ↔ (x = u ∧ y = v) := by
  unfold sq
  constructor
  · intro h
    have c1 := sq_nonneg (u - x)
    have c2 := sq_nonneg (v - y)
    have e1 : (u - x) * (u - x) = 0 := by omega
    have e2 : (v - y) * (v - y) = 0 := by omega
    have f1 : u - x = 0 := by rcases Int.mul_eq_zero.1 e1 with h | h <;> exact h
    have f2 : v - y = 0 := by rcases Int.mul_eq_zero.1 e2 with h | h <;> exact h
    omega
  · rintro ⟨rfl, rfl⟩; simp
theorem sq_comm (x y u v : Int) : sq u v x y = sq x y u v := by
  unfold sq
  have e1 : (x - u) * (x - u) = (u - x) * (u - x) := by rw [show x - u = -(u - x) by omega, Int.neg_mul_neg]
  have e2 : (y - v) * (y - v) = (v - y) * (v - y) := by rw [show y - v = -(v - y) by omega, Int.neg_mul_neg]
  rw [e1, e2]
theorem le_of_sq {a b : Int} (hb : 0 ≤ b) (h : a * a ≤ b * b) : a ≤ b := by
  rcases Int.lt_or_le b a with h1 | h1
  · have h2 : b * b ≤ b * a := Int.mul_le_mul_of_nonneg_left (Int.le_of_lt h1) hb
    have h3 : b * a < a * a := Int.mul_lt_mul_of_pos_right h1 (by omega)
    omega
  · exact h1
theorem mul4 (a b c d : Int) : a * b * (c * d) = a * c * (b * d) := by rw [Int.mul_assoc, Int.mul_left_comm b, ← Int.mul_assoc]
theorem cauchy (a b c d : Int) : (a * c + b * d) * (a * c + b * d) ≤ (a * a + b * b) * (c * c + d * d) := by
  have h := sq_nonneg (a * d - b * c)
  have key : (a * a + b * b) * (c * c + d * d) = (a * c + b * d) * (a * c + b * d) + (a * d - b * c) * (a * d - b * c) := by
    have e1 : a * a * (c * c) = a * c * (a * c) := by rw [mul4]
    have e2 : b * b * (d * d) = b * d * (b * d) := by rw [mul4]
    have e3 : a * a * (d * d) = a * d * (a * d) := by rw [mul4]
    have e4 : b * b * (c * c) = b * c * (b * c) := by rw [mul4]
    have e5 : a * c * (b * d) = a * d * (b * c) := by rw [Int.mul_assoc, Int.mul_assoc, Int.mul_left_comm c, Int.mul_comm c d, Int.mul_left_comm b d c]
    have e6 : b * d * (a * c) = a * c * (b * d) := Int.mul_comm ..
    have e7 : b * c * (a * d) = a * d * (b * c) := Int.mul_comm ..
    rw [Int.add_mul, Int.mul_add, Int.mul_add, Int.add_mul, Int.mul_add, Int.mul_add, Int.sub_mul, Int.mul_sub, Int.mul_sub, e1, e2, e3, e4, e6, e7, e5]
    omega
  omega
/-- No way is longer than by a third spot. -/
theorem triangle {ax ay bx by' cx cy p q : Int} (hp : 0 ≤ p) (hq : 0 ≤ q) (h1 : sq ax ay cx cy ≤ p * p) (h2 : sq cx cy bx by' ≤ q * q) : sq ax ay bx by' ≤ (p + q) * (p + q) := by
  have hpq : 0 ≤ p * q := Int.mul_nonneg hp hq
  unfold sq at *
  have hc := cauchy (cx - ax) (cy - ay) (bx - cx) (by' - cy)
  have s1 : 0 ≤ (cx - ax) * (cx - ax) + (cy - ay) * (cy - ay) := by have := sq_nonneg (cx - ax); have := sq_nonneg (cy - ay); omega
  have s2 : 0 ≤ (bx - cx) * (bx - cx) + (by' - cy) * (by' - cy) := by have := sq_nonneg (bx - cx); have := sq_nonneg (by' - cy); omega
  have hm : ((cx - ax) * (cx - ax) + (cy - ay) * (cy - ay)) * ((bx - cx) * (bx - cx) + (by' - cy) * (by' - cy)) ≤ p * p * (q * q) := Int.mul_le_mul h1 h2 s2 (by have := sq_nonneg p; omega)
  have hd : (cx - ax) * (bx - cx) + (cy - ay) * (by' - cy) ≤ p * q := by
    apply le_of_sq hpq
    rw [mul4]
    omega
  have ex : (bx - ax) * (bx - ax) = (cx - ax) * (cx - ax) + (bx - cx) * (bx - cx) + 2 * ((cx - ax) * (bx - cx)) := by
    rw [show bx - ax = (cx - ax) + (bx - cx) by omega]
    generalize cx - ax = a
    generalize bx - cx = b
    rw [Int.add_mul, Int.mul_add, Int.mul_add, Int.mul_comm b a]; omega
  have ey : (by' - ay) * (by' - ay) = (cy - ay) * (cy - ay) + (by' - cy) * (by' - cy) + 2 * ((cy - ay) * (by' - cy)) := by
    rw [show by' - ay = (cy - ay) + (by' - cy) by omega]
    generalize cy - ay = a
    generalize by' - cy = b
    rw [Int.add_mul, Int.mul_add, Int.mul_add, Int.mul_comm b a]; omega
  have ep : (p + q) * (p + q) = p * p + q * q + 2 * (p * q) := by
    rw [Int.add_mul, Int.mul_add, Int.mul_add, Int.mul_comm q p]; omega
  rw [ex, ey, ep]
  omega
theorem dist_facts {x y u v : Int} (hx : Near x) (hy : Near y) (hu : Near u) (hv : Near v) :
    0 ≤ dist x y u v ∧ dist x y u v ≤ 1073741824 ∧ sq x y u v ≤ dist x y u v * dist x y u v ∧ (sq x y u v ≤ 0 → dist x y u v = 0) ∧ (0 < sq x y u v → (dist x y u v - 1) * (dist x y u v - 1) < sq x y u v) := by
  obtain ⟨b1, b2⟩ := sq_bounds hx hy hu hv
  obtain ⟨g1, g2, g3, g4, g5⟩ := rootV_spec (sq x y u v) (by omega)
  exact ⟨g2, g3, g4, g1, g5⟩
theorem dist_le {x y u v r : Int} (hx : Near x) (hy : Near y) (hu : Near u) (hv : Near v) (hr : 0 ≤ r) (h : sq x y u v ≤ r * r) : dist x y u v ≤ r := by
  obtain ⟨g1, g2, g3, g4, g5⟩ := dist_facts hx hy hu hv
  rcases Int.lt_or_le r (dist x y u v) with h1 | h1
  · by_cases h0 : 0 < sq x y u v
    · have h5 := g5 h0
      have : r * r ≤ (dist x y u v - 1) * (dist x y u v - 1) := Int.mul_le_mul (by omega) (by omega) hr (by omega)
      omega
    · have := g4 (by omega); omega
  · exact h1
theorem dist_triangle {ax ay bx by' cx cy : Int} (h1 : Near ax) (h2 : Near ay) (h3 : Near bx) (h4 : Near by') (h5 : Near cx) (h6 : Near cy) : dist ax ay bx by' ≤ dist ax ay cx cy + dist cx cy bx by' := by
  obtain ⟨a1, a2, a3, a4, a5⟩ := dist_facts h1 h2 h5 h6
  obtain ⟨b1, b2, b3, b4, b5⟩ := dist_facts h5 h6 h3 h4
  exact dist_le h1 h2 h3 h4 (by omega) (triangle a1 b1 a3 b3)
theorem dist_comm (x y u v : Int) : dist u v x y = dist x y u v := by unfold dist; rw [sq_comm]
theorem dist_zero {x y u v : Int} (hx : Near x) (hy : Near y) (hu : Near u) (hv : Near v) : dist x y u v = 0 ↔ (x = u ∧ y = v) := by
  obtain ⟨g1, g2, g3, g4, g5⟩ := dist_facts hx hy hu hv
  rw [← sq_zero]
  constructor
  · intro h
    rw [h, Int.mul_zero] at g3
    have := (sq_bounds hx hy hu hv).1; omega
  · intro h; exact g4 (by omega)
theorem sgn_neg (n : Int) : sgn (-n) = -sgn n := by unfold sgn; split <;> (try split) <;> (try split) <;> (try split) <;> omega
theorem side_swap (ox oy ax ay bx by' : Int) : side ox oy bx by' ax ay = -side ox oy ax ay bx by' := by
  unfold side
  rw [← sgn_neg]
  congr 1
  unfold cross
  rw [Int.mul_comm (bx - ox), Int.mul_comm (by' - oy)]; omega
theorem sgn_range' (n : Int) : -1 ≤ sgn n ∧ sgn n ≤ 1 := by unfold sgn; split <;> (try split) <;> omega
theorem side_range (ox oy ax ay bx by' : Int) : -1 ≤ side ox oy ax ay bx by' ∧ side ox oy ax ay bx by' ≤ 1 := sgn_range' _
/-- What is left of a division by k. -/
theorem tmod_range (a k : Int) (hk : 0 < k) : -k < a.tmod k ∧ a.tmod k < k :=
  ⟨by have := Int.tmod_lt_of_pos (-a) hk; rw [Int.neg_tmod] at this; omega, Int.tmod_lt_of_pos a hk⟩
theorem tmod_near (a k : Int) (hk : 0 < k) (hk' : k ≤ 16777217) : Near (a.tmod k) := by
  obtain ⟨h1, h2⟩ := tmod_range a k hk
  exact ⟨by omega, by omega⟩
end Spot
end Go.Proofs.Ytcfbondgbhmcaaa
