/- Complex numbers whose parts are whole numbers: differences and products are exact; opposites; cutting. Plain: nothing of a program. -/
import Derived.Test.YtelblgnleaffoaaFl
namespace Fl
open Ieee

theorem xor_one_mod (x : Nat) : ((x ^^^ 1) % 2 == 1) = !(x % 2 == 1) := by
  have h : (x ^^^ 1) % 2 = (x % 2) ^^^ (1 % 2) := Nat.xor_mod_two_pow (n := 1)
  rw [h]
  rcases Nat.mod_two_eq_zero_or_one x with e | e <;> rw [e] <;> decide

theorem read_neg (b : Nat) : double.read (b ^^^ 2 ^ 63) = (double.read b).opposite := by
  have h1 : (b ^^^ 2 ^ 63) % 2 ^ 63 = b % 2 ^ 63 := by rw [Nat.xor_mod_two_pow, Nat.mod_self, Nat.xor_zero]
  have h2 : ((b ^^^ 2 ^ 63) / 2 ^ 63 % 2 == 1) = !(b / 2 ^ 63 % 2 == 1) := by
    rw [Nat.xor_div_two_pow, Nat.div_self (Nat.two_pow_pos _), xor_one_mod]
  unfold Format.read
  rw [signWeight_double, h1, h2]
  generalize b % 2 ^ 63 = r
  generalize (b / 2 ^ 63 % 2 == 1) = s
  simp only []
  split
  · rfl
  · split
    · rfl
    · split <;> rfl

theorem isz_neg {b : Nat} {n : Int} (h : Isz b n) : Isz (Go.Op.negFloat .f64 b) (-n) := by
  unfold Isz
  have e : Go.Op.negFloat .f64 b = b ^^^ 2 ^ 63 := rfl
  rw [e, read_neg]
  exact opposite_isZ h

theorem isz_zero : Isz 0 0 := ⟨false, 0, -1074, rfl, by rw [Nat.zero_mul, Int.natAbs_zero, Nat.zero_mul], by simp, by simp⟩
theorem isz_low : Isz 13938640846711685120 (-16777216) := ⟨true, 2 ^ 52, -28, by decide +kernel, by decide +kernel, by decide, by decide⟩
theorem isz_high : Isz 4715268809856909312 16777216 := ⟨false, 2 ^ 52, -28, by decide +kernel, by decide +kernel, by decide, by decide⟩

theorem isz_trunc {x : Nat} {n : Int} (h : Isz x n) (hn : n.natAbs < 2 ^ 53) :
    ∃ d, double.read x = d ∧ (∀ s t, d ≠ .nan s t) ∧ Isz (double.write (d.integral .zero)) n := by
  obtain ⟨s, m, e, hr, h1, h2, h3⟩ := h
  refine ⟨_, hr, fun _ _ h => (by cases h), ?_⟩
  have hi : Datum.integral .zero (.number s m e) = .number s n.natAbs 0 := by
    show Datum.number s (Toward.zero.cut s (m <<< e.toNat) (-e).toNat) 0 = _
    rw [shl, h1, cut_exact]
  rw [hi]
  exact nearest_isZ ⟨s, _, 0, rfl, rfl, h2, h3⟩ hn

/-- a spot's parts -/
def Sp (p q : Nat) (x y : Int) : Prop := Isz p x ∧ Isz q y

theorem abs_of {n b : Int} (h1 : -b ≤ n) (h2 : n ≤ b) (hb : b < 9007199254740992) : n.natAbs < 2 ^ 53 := by
  have : (2 : Nat) ^ 53 = 9007199254740992 := by decide
  omega

theorem csub {a b c d : Nat} {x y u v : Int} (h : Sp a b x y) (g : Sp c d u v) (hx : (x - u).natAbs < 2 ^ 53) (hy : (y - v).natAbs < 2 ^ 53) :
    ∃ re im, Go.cSumBits .sub .f64 a b c d = some (re, im) ∧ Sp re im (x - u) (y - v) := by
  obtain ⟨r, h1, h2⟩ := isz_sub h.1 g.1 hx
  obtain ⟨s, h3, h4⟩ := isz_sub h.2 g.2 hy
  exact ⟨r, s, by unfold Go.cSumBits; rw [h1, h3]; rfl, h2, h4⟩

theorem cadd {a b c d : Nat} {x y u v : Int} (h : Sp a b x y) (g : Sp c d u v) (hx : (x + u).natAbs < 2 ^ 53) (hy : (y + v).natAbs < 2 ^ 53) :
    ∃ re im, Go.cSumBits .add .f64 a b c d = some (re, im) ∧ Sp re im (x + u) (y + v) := by
  obtain ⟨r, h1, h2⟩ := isz_add h.1 g.1 hx
  obtain ⟨s, h3, h4⟩ := isz_add h.2 g.2 hy
  exact ⟨r, s, by unfold Go.cSumBits; rw [h1, h3]; rfl, h2, h4⟩

/-- Between -2^25 and 2^25: what differences of two spots are. -/
def Way (n : Int) : Prop := -33554432 ≤ n ∧ n ≤ 33554432

theorem prod_way {a b : Int} (h : Way a) (g : Way b) : -1125899906842624 ≤ a * b ∧ a * b ≤ 1125899906842624 := by
  unfold Way at h g
  have ha : a.natAbs ≤ 33554432 := by omega
  have hb : b.natAbs ≤ 33554432 := by omega
  have hab : a.natAbs * b.natAbs ≤ 33554432 * 33554432 := Nat.mul_le_mul ha hb
  rw [← Int.natAbs_mul] at hab
  omega

theorem cmul {a b c d : Nat} {x y u v : Int} (h : Sp a b x y) (g : Sp c d u v) (hx : Way x) (hy : Way y) (hu : Way u) (hv : Way v) :
    ∃ re im, Go.cMulBits a b c d = some (re, im) ∧ Sp re im (x * u - y * v) (x * v + y * u) := by
  obtain ⟨p1, p2⟩ := prod_way hx hu
  obtain ⟨q1, q2⟩ := prod_way hy hv
  obtain ⟨r1, r2⟩ := prod_way hx hv
  obtain ⟨s1, s2⟩ := prod_way hy hu
  obtain ⟨ac, e1, i1⟩ := isz_mul h.1 g.1 (abs_of p1 p2 (by decide))
  obtain ⟨bd, e2, i2⟩ := isz_mul h.2 g.2 (abs_of q1 q2 (by decide))
  obtain ⟨re, e3, i3⟩ := isz_sub i1 i2 (abs_of (b := 2251799813685248) (by omega) (by omega) (by decide))
  obtain ⟨ad, e4, i4⟩ := isz_mul h.1 g.2 (abs_of r1 r2 (by decide))
  obtain ⟨bc, e5, i5⟩ := isz_mul h.2 g.1 (abs_of s1 s2 (by decide))
  obtain ⟨im, e6, i6⟩ := isz_add i4 i5 (abs_of (b := 2251799813685248) (by omega) (by omega) (by decide))
  refine ⟨re, im, ?_, i3, i6⟩
  unfold Go.cMulBits
  rw [e1, e2]; simp only [Option.bind_some]; rw [e3, e4, e5]; simp only [Option.bind_some]; rw [e6]; rfl
end Fl
