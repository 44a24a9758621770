/- Contracts of package spot: what its functions answer at spots (complex numbers whose parts are whole numbers within the bounds). -/
import Derived.Test.YtelblgnleaffoaaSwNum
import Derived.Test.YtelblgnleaffoaaFlc
import Derived.Below
namespace Go.Proofs.Ytelblgnleaffoaa
open Go.RowKit
namespace Spot
open Fl
/-- A number that may be a part of a spot. -/
def Near (n : Int) : Prop := -16777216 ≤ n ∧ n ≤ 16777216
/-- The word of a whole number. -/
def wd (n : Int) : Nat := floatOfInt .f64 n
theorem isz_wd {n : Int} (h : Near n) : Isz (wd n) n := isz_ofInt n (abs_of (b := 16777216) h.1 h.2 (by decide))
/-! ### Trunc, whole, Good -/
theorem run_trunc (x : Nat) (n : Int) (hx : Isz x n) (hn : n.natAbs < 2 ^ 53) : ∃ z, Isz z n ∧ ∀ w : World, (callFunc 75 #[.float .f64 x]).run Try.prog w = .ok (.value (.float .f64 z)) w := by
  obtain ⟨d, h1, h2, h3⟩ := isz_trunc hx hn
  refine ⟨_, h3, fun w => ?_⟩
  have key : ∃ q : Bool → Nat → Sem Value, Extern.MathFloor.toIntegral "math.archTrunc" .zero #[.float .f64 x] = (match FloatKind.f64.decode x with | .nan s t => q s t | d => pure (Value.float .f64 (FloatKind.f64.encode (d.integral .zero)))) := ⟨_, rfl⟩
  obtain ⟨q, hq⟩ := key
  have e : (Extern.MathFloor.toIntegral "math.archTrunc" .zero #[.float .f64 x]).run Try.prog w = .ok (.float .f64 (Ieee.double.write (d.integral .zero))) w := by
    have h1' : FloatKind.f64.decode x = d := h1
    rw [hq, h1']
    cases d with
    | nan s t => exact absurd rfl (h2 s t)
    | number s m e => rfl
    | infinity s => rfl
  rw [run_callFunc_extern Try.func75 (by kernel_rfl) (by kernel_rfl) (by kernel_rfl) (e := Extern.MathFloor.toIntegral "math.archTrunc" .zero) (by kernel_rfl), e]
  rfl
theorem trunc_any (x : Nat) (n : Int) (hx : Isz x n) (hn : n.natAbs < 2 ^ 53) : ∃ z, Isz z n ∧ ∀ w : World,
    Calls Try.prog 56 #[.float .f64 x] w fun e w' => e = .returned (.float .f64 z) ∧ w = w' := by
  obtain ⟨z, hz, hr⟩ := run_trunc x n hx hn
  refine ⟨z, hz, fun w => ?_⟩
  clear hx hn hz
  go_enter Try.func56, Try.ntmps56
  go_wp2
  go_ret
  exact ⟨rfl, rfl⟩
theorem whole_yes (x : Nat) (n : Int) (w : World) (hx : Isz x n) (hn : Near n) :
    Calls Try.prog 36 #[.float .f64 x] w fun e w' => e = .returned (.bool true) ∧ w = w' := by
  obtain ⟨z, hz, ht⟩ := trunc_any x n hx (abs_of (b := 16777216) hn.1 hn.2 (by decide))
  have c1 : (FloatKind.f64.format.order 13938640846711685120 x == some .lt || FloatKind.f64.format.order 13938640846711685120 x == some .eq) = true := by
    have : FloatKind.f64.format.order 13938640846711685120 x = some (compare (-16777216) n) := isz_order isz_low hx
    rw [this]
    rcases Int.lt_trichotomy (-16777216) n with h | h | h
    · rw [Int.compare_eq_lt.2 h]; rfl
    · rw [← h]; decide
    · have := hn.1; omega
  have c2 : (FloatKind.f64.format.order x 4715268809856909312 == some .lt || FloatKind.f64.format.order x 4715268809856909312 == some .eq) = true := by
    have : FloatKind.f64.format.order x 4715268809856909312 = some (compare n 16777216) := isz_order hx isz_high
    rw [this]
    rcases Int.lt_trichotomy n 16777216 with h | h | h
    · rw [Int.compare_eq_lt.2 h]; rfl
    · rw [h]; decide
    · have := hn.2; omega
  have c3 : (FloatKind.f64.format.order z x == some .eq) = true := by
    have : FloatKind.f64.format.order z x = some (compare n n) := isz_order hz hx
    rw [this]; simp
  clear hx hn hz
  go_enter Try.func36, Try.ntmps36
  go_wp2_with fail
  refine (ht _).mono ?_
  rintro e w' ⟨rfl, rfl⟩
  go_wp2_with fail
  go_ret
  exact ⟨rfl, rfl⟩
theorem good_yes (p q : Nat) (x y : Int) (w : World) (h : Sp p q x y) (hx : Near x) (hy : Near y) :
    Calls Try.prog 25 #[.complex .f64 p q] w fun e w' => e = .returned (.bool true) ∧ w = w' := by
  have h1 := fun w => whole_yes p x w h.1 hx
  have h2 := fun w => whole_yes q y w h.2 hy
  clear h hx hy
  go_enter Try.func25, Try.ntmps25
  go_wp2_with fail
  refine (h1 _).mono ?_
  rintro e w' ⟨rfl, rfl⟩
  go_wp2_with fail
  refine (h2 _).mono ?_
  rintro e w' ⟨rfl, rfl⟩
  go_wp2_with fail
  go_ret
  exact ⟨rfl, rfl⟩
/-! ### conjugate, square, turn -/
@[local go_sem] theorem unary_neg_float (k : FloatKind) (b : Nat) : Op.unary .neg (.float k b) = pure (.float k (Op.negFloat k b)) := rfl
theorem conj_any (p q : Nat) (w : World) :
    Calls Try.prog 66 #[.complex .f64 p q] w fun e w' => e = .returned (.complex .f64 p (Op.negFloat .f64 q)) ∧ w = w' := by
  go_enter Try.func66, Try.ntmps66
  go_wp2
  go_ret
  exact ⟨rfl, rfl⟩
theorem sq_any (p q : Nat) (x y : Int) (w : World) (h : Sp p q x y) (hx : Fl.Way x) (hy : Fl.Way y) :
    Calls Try.prog 41 #[.complex .f64 p q] w fun e w' => e = .returned (.int .i64 (x * x + y * y)) ∧ w = w' := by
  have hy' : Fl.Way (-y) := ⟨by have := hy.2; omega, by have := hy.1; omega⟩
  obtain ⟨re, im, hm, hs⟩ := cmul h (show Sp p (Op.negFloat .f64 q) x (-y) from ⟨h.1, isz_neg h.2⟩) hx hy hx hy'
  have hm' := fun w => run_complex_mul w 40 p q p (Op.negFloat .f64 q) re im hm (P := Try.prog)
  have e1 : x * x - y * -y = x * x + y * y := by rw [Int.mul_neg]; omega
  have b1 := prod_way hx hx
  have b2 := prod_way hy hy
  have hs1 := hs.1
  rw [e1] at hs1
  have c1 := fun w => run_convert_float_int w 66 2 .f64 .i64 re (x * x + y * y) (P := Try.prog) (by rw [Try.underlying66]; rfl) Try.underlying2 (isz_toInt hs1 (by omega) (by omega))
  generalize x * x + y * y = r at *
  clear h hx hy hy' hm hs e1 b1 b2 hs1
  go_enter Try.func41, Try.ntmps41
  go_wp2_with fail
  refine (conj_any _ _ _).mono ?_
  rintro e w' ⟨rfl, rfl⟩
  go_wp2_with fail
  go_ret
  exact ⟨rfl, rfl⟩
end Spot
end Go.Proofs.Ytelblgnleaffoaa
