/- Contracts of package spot: Square, Dist, Turn at spots; cmp's comparisons of whole numbers that stand as floats. -/
import Derived.Test.YtcfbondgbhmcaaaSpotBase
namespace Go.Proofs.Ytcfbondgbhmcaaa
open Go.RowKit
namespace Spot
open Fl
theorem near_way {a b : Int} (ha : Near a) (hb : Near b) : Fl.Way (a - b) := ⟨by have := ha.1; have := hb.2; omega, by have := ha.2; have := hb.1; omega⟩
theorem way_abs {a : Int} (h : Fl.Way a) : a.natAbs < 2 ^ 53 := abs_of h.1 h.2 (by decide)
/-- The square of the way from one spot to another. -/
def sq (x y u v : Int) : Int := (u - x) * (u - x) + (v - y) * (v - y)
theorem square_yes (a b c d : Nat) (x y u v : Int) (w : World) (h : Sp a b x y) (g : Sp c d u v) (hx : Near x) (hy : Near y) (hu : Near u) (hv : Near v) :
    Calls Try.prog 28 #[.complex .f64 a b, .complex .f64 c d] w fun e w' => e = .returned (.int .i64 (sq x y u v)) ∧ w = w' := by
  obtain ⟨re, im, hm, hs⟩ := csub g h (way_abs (near_way hu hx)) (way_abs (near_way hv hy))
  have hm' := fun w => run_complex_sum w .sub (Or.inr rfl) 36 .f64 c d a b re im hm (P := Try.prog)
  have h1 := fun w => good_yes a b x y w h hx hy
  have h2 := fun w => good_yes c d u v w g hu hv
  have h3 := fun w => sq_any re im (u - x) (v - y) w hs (near_way hu hx) (near_way hv hy)
  have h4 : (u - x) * (u - x) + (v - y) * (v - y) = sq x y u v := rfl
  rw [h4] at h3
  generalize sq x y u v = r at *
  clear h g hx hy hu hv hm hs h4
  go_enter Try.func28, Try.ntmps28
  go_wp2_with fail
  refine (h1 _).mono ?_
  rintro e w' ⟨rfl, rfl⟩
  go_wp2_with fail
  refine (h2 _).mono ?_
  rintro e w' ⟨rfl, rfl⟩
  go_wp2_with fail
  refine (h3 _).mono ?_
  rintro e w' ⟨rfl, rfl⟩
  go_wp2_with fail
  go_ret
  exact ⟨rfl, rfl⟩
/-- How far: the root of the square. -/
def dist (x y u v : Int) : Int := Num.rootV (sq x y u v)
theorem dist_yes (a b c d : Nat) (x y u v : Int) (w : World) (h : Sp a b x y) (g : Sp c d u v) (hx : Near x) (hy : Near y) (hu : Near u) (hv : Near v) :
    Calls Try.prog 26 #[.complex .f64 a b, .complex .f64 c d] w fun e w' => e = .returned (.int .i64 (dist x y u v)) ∧ w = w' := by
  have h1 := fun w => square_yes a b c d x y u v w h g hx hy hu hv
  unfold dist
  generalize sq x y u v = r at *
  clear h g hx hy hu hv
  go_enter Try.func26, Try.ntmps26
  go_wp2_with fail
  refine (h1 _).mono ?_
  rintro e w' ⟨rfl, rfl⟩
  go_wp2_with fail
  refine (Num.root_any _ _).mono ?_
  rintro e w' ⟨rfl, rfl⟩
  go_wp2_with fail
  go_ret
  exact ⟨rfl, rfl⟩

/-! ### cmp.Compare of floats, int64s, ints -/
/-- 1, 0 or -1, as a number is above, at or below 0. -/
def sgn (n : Int) : Int := if n < 0 then -1 else if 0 < n then 1 else 0
theorem nanF_any (p : Nat) (a : Int) (w : World) (h : Isz p a) :
    Calls Try.prog 56 #[.float .f64 p] w fun e w' => e = .returned (.bool false) ∧ w = w' := by
  have c : (FloatKind.f64.format.order p p != some .eq) = false := by
    have : FloatKind.f64.format.order p p = some (compare a a) := isz_order h h
    rw [this]; simp
  clear h
  go_enter Try.func56, Try.ntmps56
  go_wp2
  go_ret
  exact ⟨rfl, rfl⟩
theorem cmpF_any (p q : Nat) (a b : Int) (w : World) (h : Isz p a) (g : Isz q b) :
    Calls Try.prog 48 #[.float .f64 p, .float .f64 q] w fun e w' => e = .returned (.int .i64 (sgn (a - b))) ∧ w = w' := by
  have h1 := fun w => nanF_any p a w h
  have h2 := fun w => nanF_any q b w g
  have ho : FloatKind.f64.format.order p q = some (compare a b) := isz_order h g
  have c : ((FloatKind.f64.format.order p q == some .lt) = true ∧ sgn (a - b) = -1) ∨ ((FloatKind.f64.format.order p q == some .lt) = false ∧ (FloatKind.f64.format.order p q == some .gt) = true ∧ sgn (a - b) = 1) ∨ ((FloatKind.f64.format.order p q == some .lt) = false ∧ (FloatKind.f64.format.order p q == some .gt) = false ∧ sgn (a - b) = 0) := by
    rw [ho]
    unfold sgn
    rcases Int.lt_trichotomy a b with l | l | l
    · rw [Int.compare_eq_lt.2 l, if_pos (by omega)]; exact Or.inl ⟨rfl, rfl⟩
    · rw [l, if_neg (by omega), if_neg (by omega)]; refine Or.inr (Or.inr ⟨?_, ?_, rfl⟩) <;> simp
    · rw [Int.compare_eq_gt.2 l, if_neg (by omega), if_pos (by omega)]; exact Or.inr (Or.inl ⟨rfl, rfl, rfl⟩)
  generalize sgn (a - b) = r at *
  clear h g ho
  rcases c with ⟨c1, rfl⟩ | ⟨c1, c2, rfl⟩ | ⟨c1, c2, rfl⟩
  all_goals
    go_enter Try.func48, Try.ntmps48
    go_wp2_with fail
    refine (h1 _).mono ?_
    rintro e w' ⟨rfl, rfl⟩
    go_wp2_with fail
    refine (h2 _).mono ?_
    rintro e w' ⟨rfl, rfl⟩
    go_wp2_with fail
    go_ret
    exact ⟨rfl, rfl⟩

/-! ### turn, Turn -/
/-- On which side: the sign of the cross product of two ways. -/
def cross (x y u v : Int) : Int := x * v - y * u
theorem turn_any (a b c d : Nat) (x y u v : Int) (w : World) (h : Sp a b x y) (g : Sp c d u v) (hx : Fl.Way x) (hy : Fl.Way y) (hu : Fl.Way u) (hv : Fl.Way v) :
    Calls Try.prog 39 #[.complex .f64 a b, .complex .f64 c d] w fun e w' => e = .returned (.int .i64 (sgn (cross x y u v))) ∧ w = w' := by
  have hy' : Fl.Way (-y) := ⟨by have := hy.2; omega, by have := hy.1; omega⟩
  obtain ⟨re, im, hm, hs⟩ := cmul (show Sp a (Op.negFloat .f64 b) x (-y) from ⟨h.1, isz_neg h.2⟩) g hx hy' hu hv
  have hm' := fun w => run_complex_mul w 36 a (Op.negFloat .f64 b) c d re im hm (P := Try.prog)
  have e1 : x * v + -y * u = cross x y u v := by unfold cross; rw [Int.neg_mul]; omega
  have hs2 := hs.2
  rw [e1] at hs2
  have h1 := fun w => cmpF_any im 0 _ 0 w hs2 isz_zero
  rw [Int.sub_zero] at h1
  generalize cross x y u v = r at *
  clear h g hx hy hy' hu hv hm hs hs2 e1
  go_enter Try.func39, Try.ntmps39
  go_wp2_with fail
  refine (conj_any _ _ _).mono ?_
  rintro e w' ⟨rfl, rfl⟩
  go_wp2_with fail
  refine (h1 _).mono ?_
  rintro e w' ⟨rfl, rfl⟩
  go_wp2_with fail
  go_ret
  exact ⟨rfl, rfl⟩
/-- Turn: o, a, b. -/
def side (ox oy ax ay bx by' : Int) : Int := sgn (cross (ax - ox) (ay - oy) (bx - ox) (by' - oy))
theorem Turn_yes (o1 o2 a1 a2 b1 b2 : Nat) (ox oy ax ay bx by' : Int) (w : World) (ho : Sp o1 o2 ox oy) (ha : Sp a1 a2 ax ay) (hb : Sp b1 b2 bx by')
    (n1 : Near ox) (n2 : Near oy) (n3 : Near ax) (n4 : Near ay) (n5 : Near bx) (n6 : Near by') :
    Calls Try.prog 27 #[.complex .f64 o1 o2, .complex .f64 a1 a2, .complex .f64 b1 b2] w fun e w' => e = .returned (.int .i64 (side ox oy ax ay bx by')) ∧ w = w' := by
  obtain ⟨r1, r2, hm, hs⟩ := csub ha ho (way_abs (near_way n3 n1)) (way_abs (near_way n4 n2))
  obtain ⟨s1, s2, hm2, hs2⟩ := csub hb ho (way_abs (near_way n5 n1)) (way_abs (near_way n6 n2))
  have k1 := fun w => run_complex_sum w .sub (Or.inr rfl) 36 .f64 a1 a2 o1 o2 r1 r2 hm (P := Try.prog)
  have k2 := fun w => run_complex_sum w .sub (Or.inr rfl) 36 .f64 b1 b2 o1 o2 s1 s2 hm2 (P := Try.prog)
  have h1 := fun w => good_yes o1 o2 ox oy w ho n1 n2
  have h2 := fun w => good_yes a1 a2 ax ay w ha n3 n4
  have h3 := fun w => good_yes b1 b2 bx by' w hb n5 n6
  have h4 := fun w => turn_any r1 r2 s1 s2 _ _ _ _ w hs hs2 (near_way n3 n1) (near_way n4 n2) (near_way n5 n1) (near_way n6 n2)
  have h5 : sgn (cross (ax - ox) (ay - oy) (bx - ox) (by' - oy)) = side ox oy ax ay bx by' := rfl
  rw [h5] at h4
  generalize side ox oy ax ay bx by' = r at *
  clear ho ha hb n1 n2 n3 n4 n5 n6 hm hm2 hs hs2 h5
  go_enter Try.func27, Try.ntmps27
  go_wp2_with fail
  refine (h1 _).mono ?_
  rintro e w' ⟨rfl, rfl⟩
  go_wp2_with fail
  refine (h2 _).mono ?_
  rintro e w' ⟨rfl, rfl⟩
  go_wp2_with fail
  refine (h3 _).mono ?_
  rintro e w' ⟨rfl, rfl⟩
  go_wp2_with fail
  refine (h4 _).mono ?_
  rintro e w' ⟨rfl, rfl⟩
  go_wp2_with fail
  go_ret
  exact ⟨rfl, rfl⟩
end Spot
end Go.Proofs.Ytcfbondgbhmcaaa
