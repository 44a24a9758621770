/- Contracts of package spot: half, compare; cmp.Compare of ints and int64s; cmp.Or of three ints, or two. -/
import Derived.Test.YtelblgnleaffoaaSwTurn
namespace Go.Proofs.Ytelblgnleaffoaa
open Go.RowKit
namespace Spot
open Fl
theorem nanI_any (a : Int) (w : World) : Calls Try.prog 42 #[.int .i64 a] w fun e w' => e = .returned (.bool false) ∧ w = w' := by
  go_enter Try.func42, Try.ntmps42
  go_wp2
  go_ret
  exact ⟨rfl, rfl⟩
theorem nanL_any (a : Int) (w : World) : Calls Try.prog 67 #[.int .i64 a] w fun e w' => e = .returned (.bool false) ∧ w = w' := by
  go_enter Try.func67, Try.ntmps67
  go_wp2
  go_ret
  exact ⟨rfl, rfl⟩
theorem sgn_cases (a b : Int) : (a < b ∧ sgn (a - b) = -1) ∨ (¬ a < b ∧ b < a ∧ sgn (a - b) = 1) ∨ (¬ a < b ∧ ¬ b < a ∧ sgn (a - b) = 0) := by
  unfold sgn
  rcases Int.lt_trichotomy a b with l | l | l
  · rw [if_pos (by omega)]; exact Or.inl ⟨l, rfl⟩
  · rw [if_neg (by omega), if_neg (by omega)]; exact Or.inr (Or.inr ⟨by omega, by omega, rfl⟩)
  · rw [if_neg (by omega), if_pos (by omega)]; exact Or.inr (Or.inl ⟨by omega, l, rfl⟩)
theorem cmpI_any (a b : Int) (w : World) :
    Calls Try.prog 30 #[.int .i64 a, .int .i64 b] w fun e w' => e = .returned (.int .i64 (sgn (a - b))) ∧ w = w' := by
  have c := sgn_cases a b
  generalize sgn (a - b) = r at *
  rcases c with ⟨c1, rfl⟩ | ⟨c1, c2, rfl⟩ | ⟨c1, c2, rfl⟩
  all_goals
    go_enter Try.func30, Try.ntmps30
    go_wp2_with fail
    refine (nanI_any _ _).mono ?_
    rintro e w' ⟨rfl, rfl⟩
    go_wp2_with fail
    refine (nanI_any _ _).mono ?_
    rintro e w' ⟨rfl, rfl⟩
    go_wp2_with fail
    go_ret
    exact ⟨rfl, rfl⟩
theorem cmpL_any (a b : Int) (w : World) :
    Calls Try.prog 40 #[.int .i64 a, .int .i64 b] w fun e w' => e = .returned (.int .i64 (sgn (a - b))) ∧ w = w' := by
  have c := sgn_cases a b
  generalize sgn (a - b) = r at *
  rcases c with ⟨c1, rfl⟩ | ⟨c1, c2, rfl⟩ | ⟨c1, c2, rfl⟩
  all_goals
    go_enter Try.func40, Try.ntmps40
    go_wp2_with fail
    refine (nanL_any _ _).mono ?_
    rintro e w' ⟨rfl, rfl⟩
    go_wp2_with fail
    refine (nanL_any _ _).mono ?_
    rintro e w' ⟨rfl, rfl⟩
    go_wp2_with fail
    go_ret
    exact ⟨rfl, rfl⟩

/-- The first of a list that is not 0, or 0. -/
def orV : List Int → Int
  | [] => 0
  | x :: xs => if x = 0 then orV xs else x
theorem orV_step (zs : List Int) (k : Nat) (h : k < zs.length) (h0 : zs.getD k 0 = 0) : orV (zs.drop k) = orV (zs.drop (k + 1)) := by
  have e : zs.drop k = zs.getD k 0 :: zs.drop (k + 1) := by
    rw [List.drop_eq_getElem_cons h]; simp [List.getD, List.getElem?_eq_getElem h]
  rw [e]; simp only [orV, h0, if_true]
theorem orV_stop (zs : List Int) (k : Nat) (h : k < zs.length) (h0 : zs.getD k 0 ≠ 0) : orV (zs.drop k) = zs.getD k 0 := by
  have e : zs.drop k = zs.getD k 0 :: zs.drop (k + 1) := by
    rw [List.drop_eq_getElem_cons h]; simp [List.getD, List.getElem?_eq_getElem h]
  rw [e]; simp only [orV, if_neg h0]
theorem or_any (b off cap : Nat) (zs : List Int) (w : World) (hlen : zs.length ≤ 9223372036854775806)
    (hc : ∀ j, j < zs.length → w.cell? ⟨b, off + j, none⟩ = some (.int .i64 (zs.getD j 0))) :
    Calls Try.prog 28 #[.slice (some ⟨b, off, none⟩) zs.length cap] w fun e w' => e = .returned (.int .i64 (orV zs)) ∧ w = w' := by
  obtain ⟨len, hlen'⟩ : ∃ n : Nat, n = zs.length := ⟨_, rfl⟩
  rw [← hlen'] at hlen ⊢
  have HL := Lib.hid hlen'; clear hlen'
  have HC := Lib.hid hc; clear hc
  generalize hv : orV zs = V
  have HV := Lib.hid hv; clear hv
  go_enter Try.func28, Try.ntmps28
  go_wp2_with fail
  go_loop [8] (fun i => ∃ k : Nat, k ≤ len ∧ i = .int .i64 k ∧ Hid (orV (zs.drop k) = V)) (fun i => len - (intOf i).toNat)
  case atStart => exact ⟨0, Nat.zero_le _, rfl, Lib.hid HV.out⟩
  case round =>
    obtain ⟨k, hk, rfl, HS⟩ := hrel
    by_cases hlt : k < len
    · have hcell := HC.out k (by rw [← HL.out]; exact hlt)
      generalize hz : zs.getD k 0 = z at *
      have HZ := Lib.hid hz; clear hz
      by_cases h0 : z = 0
      · have hst := orV_step zs k (by rw [← HL.out]; exact hlt) (by rw [HZ.out]; exact h0)
        rw [HS.out] at hst
        have HST := Lib.hid hst.symm; clear hst
        have h0' : (z != 0) = false := by simp [h0]
        clear h0
        go_wp2_with fail
        go_round
        case rel => exact ⟨k + 1, by omega, by go_num, HST⟩
        case measure => simp [intOf]; omega
      · have hst := orV_stop zs k (by rw [← HL.out]; exact hlt) (by rw [HZ.out]; exact h0)
        rw [HS.out, HZ.out] at hst
        have HST := Lib.hid hst; clear hst
        have h0' : (z != 0) = true := by simp [h0]
        clear h0
        go_wp2_with fail
        go_ret
        exact ⟨ret_int HST.out.symm, rfl⟩
    · have hkl : k = len := by omega
      subst hkl
      have hsm : V = 0 := by rw [← HS.out, List.drop_of_length_le (by rw [HL.out]; exact Nat.le_refl _)]; rfl
      have HSM := Lib.hid hsm; clear hsm
      go_wp2_with fail
      go_ret
      exact ⟨ret_int HSM.out.symm, rfl⟩

/-- 0 of no way at all, 1 of one in the first half turn, 2 of the others. -/
def halfV (x y : Int) : Int := if x = 0 ∧ y = 0 then 0 else if 0 < y ∨ (y = 0 ∧ 0 < x) then 1 else 2
theorem order_zero {p : Nat} {x : Int} (h : Isz p x) : FloatKind.f64.format.order p 0 = some (compare x 0) := isz_order h isz_zero
theorem half_any (p q : Nat) (x y : Int) (w : World) (h : Sp p q x y) :
    Calls Try.prog 38 #[.complex .f64 p q] w fun e w' => e = .returned (.int .i64 (halfV x y)) ∧ w = w' := by
  have o1 := order_zero h.1
  have o2 := order_zero h.2
  clear h
  have cx : (x < 0 ∧ compare x 0 = .lt) ∨ (x = 0 ∧ compare x 0 = .eq) ∨ (0 < x ∧ compare x 0 = .gt) := by
    rcases Int.lt_trichotomy x 0 with l | l | l
    · exact Or.inl ⟨l, Int.compare_eq_lt.2 l⟩
    · exact Or.inr (Or.inl ⟨l, by rw [l]; decide⟩)
    · exact Or.inr (Or.inr ⟨l, Int.compare_eq_gt.2 l⟩)
  have cy : (y < 0 ∧ compare y 0 = .lt) ∨ (y = 0 ∧ compare y 0 = .eq) ∨ (0 < y ∧ compare y 0 = .gt) := by
    rcases Int.lt_trichotomy y 0 with l | l | l
    · exact Or.inl ⟨l, Int.compare_eq_lt.2 l⟩
    · exact Or.inr (Or.inl ⟨l, by rw [l]; decide⟩)
    · exact Or.inr (Or.inr ⟨l, Int.compare_eq_gt.2 l⟩)
  have hv : ∀ k, halfV x y = k ↔ k = (if x = 0 ∧ y = 0 then 0 else if 0 < y ∨ (y = 0 ∧ 0 < x) then 1 else 2) := fun k => ⟨fun h => h.symm, fun h => h.symm⟩
  generalize halfV x y = r at *
  rcases cx with ⟨hx, ex⟩ | ⟨hx, ex⟩ | ⟨hx, ex⟩ <;> rcases cy with ⟨hy, ey⟩ | ⟨hy, ey⟩ | ⟨hy, ey⟩
  all_goals
    rw [ex] at o1
    rw [ey] at o2
    clear ex ey
    first
    | (have hr := (hv 0).2 (by rw [if_pos (by omega)]))
    | (have hr := (hv 1).2 (by rw [if_neg (by omega), if_pos (by omega)]))
    | (have hr := (hv 2).2 (by rw [if_neg (by omega), if_neg (by omega)]))
    clear hv hx hy
    subst hr
    go_enter Try.func38, Try.ntmps38
    go_wp2
    go_ret
    exact ⟨rfl, rfl⟩

/-- How two ways from the middle of a sweep stand to each other. -/
def cmpWay (x y u v : Int) : Int := orV [sgn (halfV x y - halfV u v), -(sgn (cross x y u v)), sgn (x * x + y * y - (u * u + v * v))]
/-- The block that compare lays. -/
def cmpObj (x y u v : Int) : Obj := .cells #[.int .i64 (sgn (halfV x y - halfV u v)), .int .i64 (-(sgn (cross x y u v))), .int .i64 (sgn (x * x + y * y - (u * u + v * v)))] 3
theorem sgn_range (n : Int) : -1 ≤ sgn n ∧ sgn n ≤ 1 := by unfold sgn; split <;> (try split) <;> omega
theorem or_three (p q r : Int) (w : World) :
    Calls Try.prog 28 #[.slice (some ⟨w.heap.size, 0, none⟩) 3 3] (w.alloc (.cells #[.int .i64 p, .int .i64 q, .int .i64 r] 3)) fun e w' => e = .returned (.int .i64 (orV [p, q, r])) ∧ w.alloc (.cells #[.int .i64 p, .int .i64 q, .int .i64 r] 3) = w' :=
  or_any w.heap.size 0 3 [p, q, r] _ (by simp) (fun j hj => by
    simp only [List.length_cons, List.length_nil] at hj
    rw [Nat.zero_add, World.cell?_alloc_new]
    match j, hj with
    | 0, _ => rfl
    | 1, _ => rfl
    | 2, _ => rfl)
theorem compare_any (a b c d : Nat) (x y u v : Int) (w : World) (h : Sp a b x y) (g : Sp c d u v) (hx : Fl.Way x) (hy : Fl.Way y) (hu : Fl.Way u) (hv : Fl.Way v) :
    Calls Try.prog 29 #[.complex .f64 a b, .complex .f64 c d] w fun e w' => e = .returned (.int .i64 (cmpWay x y u v)) ∧ w.alloc (cmpObj x y u v) = w' := by
  have h1 := fun w => half_any a b x y w h
  have h2 := fun w => half_any c d u v w g
  have h3 := fun w => turn_any a b c d x y u v w h g hx hy hu hv
  have h4 := fun w => sq_any a b x y w h hx hy
  have h5 := fun w => sq_any c d u v w g hu hv
  have ho := fun w => or_three (sgn (halfV x y - halfV u v)) (-(sgn (cross x y u v))) (sgn (x * x + y * y - (u * u + v * v))) w
  have hc1 := fun w => cmpI_any (halfV x y) (halfV u v) w
  have hc2 := fun w => cmpL_any (x * x + y * y) (u * u + v * v) w
  obtain ⟨t1, t2⟩ := sgn_range (cross x y u v)
  unfold cmpWay cmpObj
  generalize sgn (halfV x y - halfV u v) = r1 at *
  generalize sgn (cross x y u v) = r2 at *
  generalize sgn (x * x + y * y - (u * u + v * v)) = r3 at *
  generalize halfV x y = k1 at *
  generalize halfV u v = k2 at *
  generalize x * x + y * y = k3 at *
  generalize u * u + v * v = k4 at *
  clear h g hx hy hu hv
  generalize orV [r1, -r2, r3] = res at *
  go_enter Try.func29, Try.ntmps29
  go_wp2_with fail
  refine (h1 _).mono ?_
  rintro e w' ⟨rfl, rfl⟩
  go_wp2_with fail
  refine (h2 _).mono ?_
  rintro e w' ⟨rfl, rfl⟩
  go_wp2_with fail
  refine (hc1 _).mono ?_
  rintro e w' ⟨rfl, rfl⟩
  go_wp2_with fail
  refine (h3 _).mono ?_
  rintro e w' ⟨rfl, rfl⟩
  go_wp2_with fail
  refine (h4 _).mono ?_
  rintro e w' ⟨rfl, rfl⟩
  go_wp2_with fail
  refine (h5 _).mono ?_
  rintro e w' ⟨rfl, rfl⟩
  go_wp2_with fail
  refine (hc2 _).mono ?_
  rintro e w' ⟨rfl, rfl⟩
  go_wp2_with fail
  refine (ho _).mono ?_
  rintro e w' ⟨rfl, rfl⟩
  go_wp2_with fail
  go_ret
  exact ⟨rfl, rfl⟩
/-- Before: o, a, b. -/
def beforeB (ox oy ax ay bx by' : Int) : Bool := decide (cmpWay (ax - ox) (ay - oy) (bx - ox) (by' - oy) < 0)
end Spot
end Go.Proofs.Ytelblgnleaffoaa
