/- Contracts of spot.At, Good, XY at spots (complex numbers whose parts are whole numbers within the bounds): for the seat of SheetParses. -/
import Derived.Test.YtjmhlabgoegeoaaGreatDoorDeciBase
import Derived.Test.YtjmhlabgoegeoaaGreatDoorFlc
import Derived.Below
namespace Go.Proofs.YtjmhlabgoegeoaaGreatDoor
open Go.RowKit
namespace Spot
open Fl
/-- A number that may be a part of a spot. -/
def Near (n : Int) : Prop := -16777216 ≤ n ∧ n ≤ 16777216
theorem near_yes (n : Int) (w : World) (h : Near n) :
    Calls Tryz.prog 122 #[.int .i64 n] w fun e w' => e = .returned (.bool true) ∧ w = w' := by
  obtain ⟨h1, h2⟩ := h
  go_enter Tryz.func122, Tryz.ntmps122
  go_wp2
  go_ret
  exact ⟨rfl, rfl⟩
/-- The word of a whole number. -/
def wd (n : Int) : Nat := floatOfInt .f64 n
theorem isz_wd {n : Int} (h : Near n) : Isz (wd n) n := isz_ofInt n (abs_of (b := 16777216) h.1 h.2 (by decide))
theorem at_yes (x y : Int) (w : World) (hx : Near x) (hy : Near y) :
    Calls Tryz.prog 103 #[.int .i64 x, .int .i64 y] w fun e w' => e = .returned (.tuple #[.complex .f64 (wd x) (wd y), .bool true]) ∧ w = w' := by
  unfold wd
  go_enter Tryz.func103, Tryz.ntmps103
  go_wp2_with fail
  refine (near_yes x _ hx).mono ?_
  rintro e w' ⟨rfl, rfl⟩
  go_wp2_with fail
  refine (near_yes y _ hy).mono ?_
  rintro e w' ⟨rfl, rfl⟩
  go_wp2_with fail
  go_ret2
  exact ⟨rfl, rfl⟩
theorem near_no (n : Int) (w : World) (h : n < -16777216 ∨ 16777216 < n) :
    Calls Tryz.prog 122 #[.int .i64 n] w fun e w' => e = .returned (.bool false) ∧ w = w' := by
  by_cases h1 : n < -16777216
  · clear h
    go_enter Tryz.func122, Tryz.ntmps122
    go_wp2
    go_ret
    exact ⟨rfl, rfl⟩
  · have h2 : ¬ n ≤ 16777216 := by omega
    clear h
    go_enter Tryz.func122, Tryz.ntmps122
    go_wp2
    go_ret
    exact ⟨rfl, rfl⟩
theorem at_no1 (x y : Int) (w : World) (hx : x < -16777216 ∨ 16777216 < x) :
    Calls Tryz.prog 103 #[.int .i64 x, .int .i64 y] w fun e w' => e = .returned (.tuple #[.complex .f64 0 0, .bool false]) ∧ w = w' := by
  have hn := fun w => near_no x w hx
  clear hx
  go_enter Tryz.func103, Tryz.ntmps103
  go_wp2_with fail
  refine (hn _).mono ?_
  rintro e w' ⟨rfl, rfl⟩
  go_wp2_with fail
  go_ret2
  exact ⟨rfl, rfl⟩

/-! ### Trunc, whole, Good -/
theorem run_trunc (x : Nat) (n : Int) (hx : Isz x n) (hn : n.natAbs < 2 ^ 53) : ∃ z, Isz z n ∧ ∀ w : World, (callFunc 123 #[.float .f64 x]).run Tryz.prog w = .ok (.value (.float .f64 z)) w := by
  obtain ⟨d, h1, h2, h3⟩ := isz_trunc hx hn
  refine ⟨_, h3, fun w => ?_⟩
  have key : ∃ q : Bool → Nat → Sem Value, Extern.MathFloor.toIntegral "math.archTrunc" .zero #[.float .f64 x] = (match FloatKind.f64.decode x with | .nan s t => q s t | d => pure (Value.float .f64 (FloatKind.f64.encode (d.integral .zero)))) := ⟨_, rfl⟩
  obtain ⟨q, hq⟩ := key
  have e : (Extern.MathFloor.toIntegral "math.archTrunc" .zero #[.float .f64 x]).run Tryz.prog w = .ok (.float .f64 (Ieee.double.write (d.integral .zero))) w := by
    have h1' : FloatKind.f64.decode x = d := h1
    rw [hq, h1']
    cases d with
    | nan s t => exact absurd rfl (h2 s t)
    | number s m e => rfl
    | infinity s => rfl
  rw [run_callFunc_extern Tryz.func123 (by kernel_rfl) (by kernel_rfl) (by kernel_rfl) (e := Extern.MathFloor.toIntegral "math.archTrunc" .zero) (by kernel_rfl), e]
  rfl
theorem trunc_any (x : Nat) (n : Int) (hx : Isz x n) (hn : n.natAbs < 2 ^ 53) : ∃ z, Isz z n ∧ ∀ w : World,
    Calls Tryz.prog 105 #[.float .f64 x] w fun e w' => e = .returned (.float .f64 z) ∧ w = w' := by
  obtain ⟨z, hz, hr⟩ := run_trunc x n hx hn
  refine ⟨z, hz, fun w => ?_⟩
  clear hx hn hz
  go_enter Tryz.func105, Tryz.ntmps105
  go_wp2
  go_ret
  exact ⟨rfl, rfl⟩
theorem whole_yes (x : Nat) (n : Int) (w : World) (hx : Isz x n) (hn : Near n) :
    Calls Tryz.prog 90 #[.float .f64 x] w fun e w' => e = .returned (.bool true) ∧ w = w' := by
  obtain ⟨z, hz, ht⟩ := trunc_any x n hx (abs_of (b := 16777216) hn.1 hn.2 (by decide))
  have c1 : (FloatKind.f64.format.order 13938640846711685120 x == some .lt || FloatKind.f64.format.order 13938640846711685120 x == some .eq) = true := by
    have : FloatKind.f64.format.order 13938640846711685120 x = some (compare (-16777216) n) := isz_order isz_low hx
    rw [this]
    rcases Int.lt_trichotomy (-16777216) n with h | h | h
    · rw [Int.compare_eq_lt.2 h]; rfl
    · rw [← h]; decide
    · have := hn.1; omega
  have c2 : (FloatKind.f64.format.order x 4715268809856909312 == some .lt || FloatKind.f64.format.order x 4715268809856909312 == some .eq) = true := by
    have : FloatKind.f64.format.order x 4715268809856909312 = some (compare n 16777216) := isz_order hx isz_high
    rw [this]
    rcases Int.lt_trichotomy n 16777216 with h | h | h
    · rw [Int.compare_eq_lt.2 h]; rfl
    · rw [h]; decide
    · have := hn.2; omega
  have c3 : (FloatKind.f64.format.order z x == some .eq) = true := by
    have : FloatKind.f64.format.order z x = some (compare n n) := isz_order hz hx
    rw [this]; simp
  clear hx hn hz
  go_enter Tryz.func90, Tryz.ntmps90
  go_wp2_with fail
  refine (ht _).mono ?_
  rintro e w' ⟨rfl, rfl⟩
  go_wp2_with fail
  go_ret
  exact ⟨rfl, rfl⟩
theorem good_yes (p q : Nat) (x y : Int) (w : World) (h : Sp p q x y) (hx : Near x) (hy : Near y) :
    Calls Tryz.prog 71 #[.complex .f64 p q] w fun e w' => e = .returned (.bool true) ∧ w = w' := by
  have h1 := fun w => whole_yes p x w h.1 hx
  have h2 := fun w => whole_yes q y w h.2 hy
  clear h hx hy
  go_enter Tryz.func71, Tryz.ntmps71
  go_wp2_with fail
  refine (h1 _).mono ?_
  rintro e w' ⟨rfl, rfl⟩
  go_wp2_with fail
  refine (h2 _).mono ?_
  rintro e w' ⟨rfl, rfl⟩
  go_wp2_with fail
  go_ret
  exact ⟨rfl, rfl⟩
theorem xy_yes (p q : Nat) (x y : Int) (w : World) (h : Sp p q x y) (hx : Near x) (hy : Near y) :
    Calls Tryz.prog 77 #[.complex .f64 p q] w fun e w' => e = .returned (.tuple #[.int .i64 x, .int .i64 y]) ∧ w = w' := by
  have h1 := fun w => good_yes p q x y w h hx hy
  have c1 := fun w => run_convert_float_int w 111 3 .f64 .i64 p x (P := Tryz.prog) (by rw [Tryz.underlying111]; rfl) Tryz.underlying3 (isz_toInt h.1 (by have := hx.1; omega) (by have := hx.2; omega))
  have c2 := fun w => run_convert_float_int w 111 3 .f64 .i64 q y (P := Tryz.prog) (by rw [Tryz.underlying111]; rfl) Tryz.underlying3 (isz_toInt h.2 (by have := hy.1; omega) (by have := hy.2; omega))
  clear h hx hy
  go_enter Tryz.func77, Tryz.ntmps77
  go_wp2_with fail
  refine (h1 _).mono ?_
  rintro e w' ⟨rfl, rfl⟩
  go_wp2_with fail
  go_ret2
  exact ⟨rfl, rfl⟩

/-! ### conjugate, square, turn -/
end Spot
end Go.Proofs.YtjmhlabgoegeoaaGreatDoor
