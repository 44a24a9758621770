/- Contracts of package spot: Square, Dist, Turn at spots; cmp's comparisons of whole numbers that stand as floats. -/
import Derived.Test.YtelblgnleaffoaaSwSpot
namespace Go.Proofs.Ytelblgnleaffoaa
open Go.RowKit
namespace Spot
open Fl
theorem near_way {a b : Int} (ha : Near a) (hb : Near b) : Fl.Way (a - b) := ⟨by have := ha.1; have := hb.2; omega, by have := ha.2; have := hb.1; omega⟩
theorem way_abs {a : Int} (h : Fl.Way a) : a.natAbs < 2 ^ 53 := abs_of h.1 h.2 (by decide)
/-- The square of the way from one spot to another. -/
def sq (x y u v : Int) : Int := (u - x) * (u - x) + (v - y) * (v - y)
theorem square_yes (a b c d : Nat) (x y u v : Int) (w : World) (h : Sp a b x y) (g : Sp c d u v) (hx : Near x) (hy : Near y) (hu : Near u) (hv : Near v) :
    Calls Try.prog 69 #[.complex .f64 a b, .complex .f64 c d] w fun e w' => e = .returned (.int .i64 (sq x y u v)) ∧ w = w' := by
  obtain ⟨re, im, hm, hs⟩ := csub g h (way_abs (near_way hu hx)) (way_abs (near_way hv hy))
  have hm' := fun w => run_complex_sum w .sub (Or.inr rfl) 40 .f64 c d a b re im hm (P := Try.prog)
  have h1 := fun w => good_yes a b x y w h hx hy
  have h2 := fun w => good_yes c d u v w g hu hv
  have h3 := fun w => sq_any re im (u - x) (v - y) w hs (near_way hu hx) (near_way hv hy)
  have h4 : (u - x) * (u - x) + (v - y) * (v - y) = sq x y u v := rfl
  rw [h4] at h3
  generalize sq x y u v = r at *
  clear h g hx hy hu hv hm hs h4
  go_enter Try.func69, Try.ntmps69
  go_wp2_with fail
  refine (h1 _).mono ?_
  rintro e w' ⟨rfl, rfl⟩
  go_wp2_with fail
  refine (h2 _).mono ?_
  rintro e w' ⟨rfl, rfl⟩
  go_wp2_with fail
  refine (h3 _).mono ?_
  rintro e w' ⟨rfl, rfl⟩
  go_wp2_with fail
  go_ret
  exact ⟨rfl, rfl⟩
/-- How far: the root of the square. -/
def dist (x y u v : Int) : Int := Num.rootV (sq x y u v)
theorem dist_yes (a b c d : Nat) (x y u v : Int) (w : World) (h : Sp a b x y) (g : Sp c d u v) (hx : Near x) (hy : Near y) (hu : Near u) (hv : Near v) :
    Calls Try.prog 44 #[.complex .f64 a b, .complex .f64 c d] w fun e w' => e = .returned (.int .i64 (dist x y u v)) ∧ w = w' := by
  have h1 := fun w => square_yes a b c d x y u v w h g hx hy hu hv
  unfold dist
  generalize sq x y u v = r at *
  clear h g hx hy hu hv
  go_enter Try.func44, Try.ntmps44
  go_wp2_with fail
  refine (h1 _).mono ?_
  rintro e w' ⟨rfl, rfl⟩
  go_wp2_with fail
  refine (Num.root_any _ _).mono ?_
  rintro e w' ⟨rfl, rfl⟩
  go_wp2_with fail
  go_ret
  exact ⟨rfl, rfl⟩

/-! ### cmp.Compare of floats, int64s, ints -/
/-- 1, 0 or -1, as a number is above, at or below 0. -/
def sgn (n : Int) : Int := if n < 0 then -1 else if 0 < n then 1 else 0
theorem nanF_any (p : Nat) (a : Int) (w : World) (h : Isz p a) :
    Calls Try.prog 80 #[.float .f64 p] w fun e w' => e = .returned (.bool false) ∧ w = w' := by
  have c : (FloatKind.f64.format.order p p != some .eq) = false := by
    have : FloatKind.f64.format.order p p = some (compare a a) := isz_order h h
    rw [this]; simp
  clear h
  go_enter Try.func80, Try.ntmps80
  go_wp2
  go_ret
  exact ⟨rfl, rfl⟩
theorem cmpF_any (p q : Nat) (a b : Int) (w : World) (h : Isz p a) (g : Isz q b) :
    Calls Try.prog 65 #[.float .f64 p, .float .f64 q] w fun e w' => e = .returned (.int .i64 (sgn (a - b))) ∧ w = w' := by
  have h1 := fun w => nanF_any p a w h
  have h2 := fun w => nanF_any q b w g
  have ho : FloatKind.f64.format.order p q = some (compare a b) := isz_order h g
  have c : ((FloatKind.f64.format.order p q == some .lt) = true ∧ sgn (a - b) = -1) ∨ ((FloatKind.f64.format.order p q == some .lt) = false ∧ (FloatKind.f64.format.order p q == some .gt) = true ∧ sgn (a - b) = 1) ∨ ((FloatKind.f64.format.order p q == some .lt) = false ∧ (FloatKind.f64.format.order p q == some .gt) = false ∧ sgn (a - b) = 0) := by
    rw [ho]
    unfold sgn
    rcases Int.lt_trichotomy a b with l | l | l
    · rw [Int.compare_eq_lt.2 l, if_pos (by omega)]; exact Or.inl ⟨rfl, rfl⟩
    · rw [l, if_neg (by omega), if_neg (by omega)]; refine Or.inr (Or.inr ⟨?_, ?_, rfl⟩) <;> simp
    · rw [Int.compare_eq_gt.2 l, if_neg (by omega), if_pos (by omega)]; exact Or.inr (Or.inl ⟨rfl, rfl, rfl⟩)
  generalize sgn (a - b) = r at *
  clear h g ho
  rcases c with ⟨c1, rfl⟩ | ⟨c1, c2, rfl⟩ | ⟨c1, c2, rfl⟩
  all_goals
    go_enter Try.func65, Try.ntmps65
    go_wp2_with fail
    refine (h1 _).mono ?_
    rintro e w' ⟨rfl, rfl⟩
    go_wp2_with fail
    refine (h2 _).mono ?_
    rintro e w' ⟨rfl, rfl⟩
    go_wp2_with fail
    go_ret
    exact ⟨rfl, rfl⟩

/-! ### turn, Turn -/
/-- On which side: the sign of the cross product of two ways. -/
def cross (x y u v : Int) : Int := x * v - y * u
theorem turn_any (a b c d : Nat) (x y u v : Int) (w : World) (h : Sp a b x y) (g : Sp c d u v) (hx : Fl.Way x) (hy : Fl.Way y) (hu : Fl.Way u) (hv : Fl.Way v) :
    Calls Try.prog 39 #[.complex .f64 a b, .complex .f64 c d] w fun e w' => e = .returned (.int .i64 (sgn (cross x y u v))) ∧ w = w' := by
  have hy' : Fl.Way (-y) := ⟨by have := hy.2; omega, by have := hy.1; omega⟩
  obtain ⟨re, im, hm, hs⟩ := cmul (show Sp a (Op.negFloat .f64 b) x (-y) from ⟨h.1, isz_neg h.2⟩) g hx hy' hu hv
  have hm' := fun w => run_complex_mul w 40 a (Op.negFloat .f64 b) c d re im hm (P := Try.prog)
  have e1 : x * v + -y * u = cross x y u v := by unfold cross; rw [Int.neg_mul]; omega
  have hs2 := hs.2
  rw [e1] at hs2
  have h1 := fun w => cmpF_any im 0 _ 0 w hs2 isz_zero
  rw [Int.sub_zero] at h1
  generalize cross x y u v = r at *
  clear h g hx hy hy' hu hv hm hs hs2 e1
  go_enter Try.func39, Try.ntmps39
  go_wp2_with fail
  refine (conj_any _ _ _).mono ?_
  rintro e w' ⟨rfl, rfl⟩
  go_wp2_with fail
  refine (h1 _).mono ?_
  rintro e w' ⟨rfl, rfl⟩
  go_wp2_with fail
  go_ret
  exact ⟨rfl, rfl⟩
/-- Turn: o, a, b. -/
def side (ox oy ax ay bx by' : Int) : Int := sgn (cross (ax - ox) (ay - oy) (bx - ox) (by' - oy))
end Spot
end Go.Proofs.Ytelblgnleaffoaa
