/- Contracts of package num: what each of its functions answers, over the translated program. -/
import Derived.Test.YtelblgnleaffoaaChecked
import Derived.Test.YtelblgnleaffoaaFl
import Derived.WalkKit
import Derived.WalkLawsBesides
import Derived.WalkSpells
import Derived.Lib.Hide
import Derived.IntWalk
import Derived.BigQuiet
import Derived.Deep.QuietTactic
import Derived.Laws.Externs
namespace Go.Proofs.Ytelblgnleaffoaa
open Go.RowKit
theorem ret_int {k : IntKind} {a b : Int} (h : a = b) : Ending.returned (.int k a) = .returned (.int k b) := by rw [h]
namespace Num
def mayB (n : Int) : Bool := decide (-1152921504606846976 ≤ n) && decide (n ≤ 1152921504606846976)
theorem mayB_true {n : Int} (h : mayB n = true) : -1152921504606846976 ≤ n ∧ n ≤ 1152921504606846976 := by
  unfold mayB at h; simpa using h
theorem mayB_of {n : Int} (h1 : -1152921504606846976 ≤ n) (h2 : n ≤ 1152921504606846976) : mayB n = true := by
  unfold mayB; simp [h1, h2]
def addB (a b : Int) : Bool := mayB a && mayB b && mayB (a + b)
def addV (a b : Int) : Int := if addB a b then a + b else 0
theorem addB_of {a b : Int} (h1 : mayB a = true) (h2 : mayB b = true) (h3 : mayB (a + b) = true) : addB a b = true := by simp [addB, h1, h2, h3]

/-- Held -/
def heldV (n low high : Int) : Int := if n < low ∨ high < low then low else if n < high then n else high
theorem held_any (n low high : Int) (w : World) :
    Calls Try.prog 31 #[.int .i64 n, .int .i64 low, .int .i64 high] w fun e w' => e = .returned (.int .i64 (heldV n low high)) ∧ w = w' := by
  by_cases h1 : n < low
  · have hv : heldV n low high = low := if_pos (Or.inl h1)
    generalize heldV n low high = v at *
    subst hv
    go_enter Try.func31, Try.ntmps31
    go_wp2
    go_ret
    exact ⟨rfl, rfl⟩
  · by_cases h2 : high < low
    · have hv : heldV n low high = low := if_pos (Or.inr h2)
      generalize heldV n low high = v at *
      subst hv
      go_enter Try.func31, Try.ntmps31
      go_wp2
      go_ret
      exact ⟨rfl, rfl⟩
    · have hv : heldV n low high = if n < high then n else high := if_neg (by omega)
      by_cases h3 : n < high
      · rw [if_pos h3] at hv
        have hv' : heldV n low high ≤ n ∧ n ≤ heldV n low high := by omega
        generalize heldV n low high = v at *
        clear hv
        go_enter Try.func31, Try.ntmps31
        go_wp2
        all_goals
          go_ret
          exact ⟨ret_int (by omega), rfl⟩
      · rw [if_neg h3] at hv
        have hv' : heldV n low high ≤ high ∧ high ≤ heldV n low high := by omega
        generalize heldV n low high = v at *
        clear hv
        go_enter Try.func31, Try.ntmps31
        go_wp2
        all_goals
          go_ret
          exact ⟨ret_int (by omega), rfl⟩

/-- Ceil: the least whole number that is a divided by b, or more -/
def ceilV (a b : Int) : Int := if b < 1 then 0 else -((-a) / b)
theorem neg_div {a b q r : Int} (hb : 0 < b) (h : a = b * q + r) (hr : 0 ≤ r) (hr' : r < b) : a / b = q :=
  ((Int.ediv_emod_unique hb).2 ⟨by omega, hr, hr'⟩).1
theorem tdiv_facts (a b : Int) (hb : 0 < b) : a = b * a.tdiv b + a.tmod b ∧ -b < a.tmod b ∧ a.tmod b < b :=
  ⟨(Int.mul_tdiv_add_tmod a b).symm, by have := Int.tmod_lt_of_pos (-a) hb; rw [Int.neg_tmod] at this; omega, Int.tmod_lt_of_pos a hb⟩
theorem ceil_up {a b : Int} (hb : 1 ≤ b) (h : 0 < a.tmod b) : -((-a) / b) = a.tdiv b + 1 := by
  obtain ⟨h1, h2, h3⟩ := tdiv_facts a b (by omega)
  have := neg_div (a := -a) (b := b) (q := -(a.tdiv b + 1)) (r := b - a.tmod b) (by omega) (by rw [Int.mul_neg, Int.mul_add]; omega) (by omega) (by omega)
  omega
theorem ceil_down {a b : Int} (hb : 1 ≤ b) (h : a.tmod b ≤ 0) : -((-a) / b) = a.tdiv b := by
  obtain ⟨h1, h2, h3⟩ := tdiv_facts a b (by omega)
  have := neg_div (a := -a) (b := b) (q := -(a.tdiv b)) (r := - a.tmod b) (by omega) (by rw [Int.mul_neg]; omega) (by omega) (by omega)
  omega
theorem ceil_range {a b : Int} (hb : 1 ≤ b) (h : 0 < a.tmod b) (h1 : -9223372036854775808 ≤ a) (h2 : a ≤ 9223372036854775807) : -9223372036854775808 ≤ a.tdiv b + 1 ∧ a.tdiv b + 1 ≤ 9223372036854775807 := by
  obtain ⟨g1, g2, g3⟩ := tdiv_facts a b (by omega)
  have hb2 : 2 ≤ b := by omega
  generalize a.tdiv b = q at *
  generalize a.tmod b = r at *
  constructor
  · rcases Int.lt_or_le (q + 1) (-9223372036854775808) with hh | hh
    · have : b * q ≤ b * (-9223372036854775810) := Int.mul_le_mul_of_nonneg_left (by omega) (by omega)
      omega
    · exact hh
  · rcases Int.lt_or_le 9223372036854775807 (q + 1) with hh | hh
    · have : b * 9223372036854775807 ≤ b * q := Int.mul_le_mul_of_nonneg_left (by omega) (by omega)
      omega
    · exact hh
/-! ### Mul -/
def mulB (a b : Int) : Bool := mayB a && mayB b && mayB (a * b)
def mulV (a b : Int) : Int := if mulB a b then a * b else 0
theorem mul_size {a b : Int} (ha : a ≠ 0) : mayB (a * b) = !decide ((1152921504606846976 : Int).tdiv a.natAbs < b.natAbs) := by
  have h0 : 0 < (a.natAbs : Int) := by omega
  have e : (1152921504606846976 : Int).tdiv a.natAbs = 1152921504606846976 / (a.natAbs : Int) := Int.tdiv_eq_ediv_of_nonneg (by decide)
  rw [e]
  have key : mayB (a * b) = decide ((b.natAbs : Int) * a.natAbs ≤ 1152921504606846976) := by
    have : ((b.natAbs : Int) * a.natAbs) = ((a * b).natAbs : Int) := by rw [Int.natAbs_mul, Int.natCast_mul, Int.mul_comm]
    rw [this]
    unfold mayB
    rw [Bool.eq_iff_iff]
    simp only [Bool.and_eq_true, decide_eq_true_eq]
    omega
  rw [key, Bool.eq_iff_iff]
  simp only [decide_eq_true_eq, Bool.not_eq_true', decide_eq_false_iff_not, Int.not_lt]
  exact (Int.le_ediv_iff_mul_le h0).symm
theorem div_range (a : Int) : 0 ≤ (1152921504606846976 : Int).tdiv (a.natAbs : Int) ∧ (1152921504606846976 : Int).tdiv (a.natAbs : Int) ≤ 1152921504606846976 := by
  rw [Int.tdiv_eq_ediv_of_nonneg (by decide)]
  exact ⟨Int.ediv_nonneg (by decide) (by omega), Int.ediv_le_self _ (by decide)⟩
/-! ### Root -/
theorem run_sqrt (x z : Nat) (h : Ieee.double.sqrt x = some z) (w : World) : (callFunc 88 #[.float .f64 x]).run Try.prog w = .ok (.value (.float .f64 z)) w := by
  have e : (Extern.MathSqrt.sqrt #[.float .f64 x]).run Try.prog w = .ok (.float .f64 z) w := by
    have h' : FloatKind.f64.format.sqrt x = some z := h
    have key : ∃ q : Sem Value, Extern.MathSqrt.sqrt #[.float .f64 x] = (match FloatKind.f64.format.sqrt x with | some r => pure (Value.float .f64 r) | none => q) := ⟨_, rfl⟩
    obtain ⟨q, hq⟩ := key
    rw [hq, h']
    rfl
  rw [run_callFunc_extern Try.func88 (by kernel_rfl) (by kernel_rfl) (by kernel_rfl) (e := Extern.MathSqrt.sqrt) (by kernel_rfl), e]
  rfl
theorem sqrt_any (x z : Nat) (h : Ieee.double.sqrt x = some z) (w : World) :
    Calls Try.prog 81 #[.float .f64 x] w fun e w' => e = .returned (.float .f64 z) ∧ w = w' := by
  have hr := run_sqrt x z h
  go_enter Try.func81, Try.ntmps81
  go_wp2
  go_ret
  exact ⟨rfl, rfl⟩

/-- The least r with n ≤ r * r: searched by halves between low and high. -/
def rootIn (n : Nat) : (fuel low high : Nat) → Nat
  | 0, low, _ => low
  | fuel + 1, low, high => if low < high then (if n ≤ (low + high) / 2 * ((low + high) / 2) then rootIn n fuel low ((low + high) / 2) else rootIn n fuel ((low + high) / 2 + 1) high) else low
def rootN (n : Nat) : Nat := rootIn n 31 0 1073741824
def rootV (n : Int) : Int := (rootN (heldV n 0 1152921504606846976).toNat : Int)
structure IsRoot (n r : Nat) : Prop where
  up : n ≤ r * r
  least : ∀ k, n ≤ k * k → r ≤ k
theorem rootIn_isRoot (n : Nat) : ∀ fuel low high, low ≤ high → high - low < 2 ^ fuel → n ≤ high * high → (∀ k, n ≤ k * k → low ≤ k) → IsRoot n (rootIn n fuel low high) := by
  intro fuel
  induction fuel with
  | zero => intro low high h1 h2 h3 h4; have : low = high := by omega
            subst this; exact ⟨h3, h4⟩
  | succ f ih =>
    intro low high h1 h2 h3 h4
    unfold rootIn
    rw [Nat.pow_succ] at h2
    by_cases hlt : low < high
    · rw [if_pos hlt]
      by_cases hm : n ≤ (low + high) / 2 * ((low + high) / 2)
      · rw [if_pos hm]; exact ih _ _ (by omega) (by omega) hm h4
      · rw [if_neg hm]
        refine ih _ _ (by omega) (by omega) h3 ?_
        intro k hk
        rcases Nat.lt_or_ge ((low + high) / 2) k with h | h
        · omega
        · exact absurd (Nat.le_trans hk (Nat.mul_le_mul h h)) hm
    · rw [if_neg hlt]
      have : low = high := by omega
      subst this; exact ⟨h3, h4⟩
theorem rootN_isRoot {n : Nat} (h : n ≤ 1152921504606846976) : IsRoot n (rootN n) :=
  rootIn_isRoot n 31 0 1073741824 (by omega) (by omega) (by omega) (fun _ _ => Nat.zero_le _)
theorem IsRoot.eq {n r s : Nat} (h : IsRoot n r) (g : IsRoot n s) : r = s := Nat.le_antisymm (h.least _ g.up) (g.least _ h.up)
theorem rootN_le {n : Nat} (h : n ≤ 1152921504606846976) : rootN n ≤ 1073741824 := (rootN_isRoot h).least _ (by omega)

theorem root_core (n0 : Int) (n r : Nat) (w : World) (hn : n ≤ 1152921504606846976) (hr : r ≤ 1073741824) (Hr : Hid (IsRoot n r)) (Hh : Hid (heldV n0 0 1152921504606846976 = n)) :
    Calls Try.prog 68 #[.int .i64 n0] w fun e w' => e = .returned (.int .i64 r) ∧ w = w' := by
  obtain ⟨z, h1, t, h2, h3⟩ := Fl.sqrt_toInt n r hn hr Hr.out.up
  have H1 := Lib.hid h1
  clear h1
  have hc := fun w => run_convert_float_int w 66 2 .f64 .i64 z t (P := Try.prog) (by rw [Try.underlying66]; rfl) Try.underlying2 h2
  have H2 := Lib.hid h2
  clear h2
  go_enter Try.func68, Try.ntmps68
  go_wp2_with fail
  refine (held_any _ _ _ _).mono ?_
  rintro e w' ⟨rfl, rfl⟩
  rw [Hh.out]
  go_wp2_with fail
  refine (sqrt_any _ _ H1.out _).mono ?_
  rintro e w' ⟨rfl, rfl⟩
  go_wp2_with fail
  clear hc
  go_loop [3] (fun t => ∃ k : Nat, k ≤ r ∧ t = .int .i64 k) (fun t => r - (intOf t).toNat)
  case atStart => exact ⟨t, h3, rfl⟩
  case round =>
    obtain ⟨k, hk, rfl⟩ := hrel
    have hkk : k * k ≤ 1073741824 * 1073741824 := Nat.mul_le_mul (by omega) (by omega)
    have hz0 : (0 : Int) ≤ (k : Int) * k := by rw [← Int.natCast_mul]; omega
    have hz1 : (k : Int) * k ≤ 1152921504606846976 := by rw [← Int.natCast_mul]; omega
    by_cases hlt : (k : Int) * k < n
    · have hkr : k < r := by
        rcases Nat.lt_or_ge k r with h | h
        · exact h
        · have h1 := Nat.le_trans Hr.out.up (Nat.mul_le_mul h h)
          rw [← Int.natCast_mul] at hlt
          omega
      clear hkk
      go_wp2
      go_round
      case rel => exact ⟨k + 1, by omega, by go_num⟩
      case measure => simp [intOf]; omega
    · have hkr : r ≤ k := Hr.out.least k (by rw [← Int.natCast_mul] at hlt; omega)
      clear hkk
      go_wp2
      go_ret
      exact ⟨ret_int (by omega), rfl⟩
theorem held_root (n : Int) : ∃ m : Nat, heldV n 0 1152921504606846976 = m ∧ m ≤ 1152921504606846976 := by
  refine ⟨(heldV n 0 1152921504606846976).toNat, ?_, ?_⟩ <;> (unfold heldV; split <;> try split) <;> omega
/-- Root -/
theorem root_any (n : Int) (w : World) : Calls Try.prog 68 #[.int .i64 n] w fun e w' => e = .returned (.int .i64 (rootV n)) ∧ w = w' := by
  obtain ⟨m, h1, h2⟩ := held_root n
  have hv : rootV n = (rootN m : Int) := by unfold rootV; rw [h1, Int.toNat_natCast]
  rw [hv]
  exact root_core n m (rootN m) w h2 (rootN_le h2) (Lib.hid (rootN_isRoot h2)) (Lib.hid h1)
end Num
end Go.Proofs.Ytelblgnleaffoaa
