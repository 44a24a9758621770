/- Doubles that stand for whole numbers: sums, products and comparisons of them are exact; a root is never too great. Plain: nothing of a program. -/
import Derived.Laws.ComplexArith
import Derived.Laws.FloatArith

namespace Fl
open Ieee

theorem leastPlace_double : double.leastPlace = -1074 := rfl
theorem binade_double : double.binade = 2 ^ 52 := rfl
theorem infRung_double : double.infRung = 2047 * 2 ^ 52 := by decide +kernel
theorem signWeight_double : double.signWeight = 2 ^ 63 := rfl

/-- A datum that is a whole number. -/
def IsZ (d : Datum) (n : Int) : Prop := ∃ s m e, d = .number s m e ∧ m * 2 ^ e.toNat = n.natAbs * 2 ^ (-e).toNat ∧ (0 < n → s = false) ∧ (n < 0 → s = true)

theorem pow_cancel {a b k : Nat} (h : a * 2 ^ k = b * 2 ^ k) : a = b := Nat.eq_of_mul_eq_mul_right (Nat.two_pow_pos k) h

theorem lower {m : Nat} {e base : Int} {n : Nat} (h : m * 2 ^ e.toNat = n * 2 ^ (-e).toNat) (hb : base ≤ e) :
    m * 2 ^ (e - base).toNat * 2 ^ base.toNat = n * 2 ^ (-base).toNat := by
  apply pow_cancel (k := (-e).toNat)
  calc m * 2 ^ (e - base).toNat * 2 ^ base.toNat * 2 ^ (-e).toNat
      = m * 2 ^ ((e - base).toNat + base.toNat + (-e).toNat) := by rw [Nat.pow_add, Nat.pow_add]; simp only [Nat.mul_assoc]
    _ = m * 2 ^ (e.toNat + (-base).toNat) := by congr 2; omega
    _ = m * 2 ^ e.toNat * 2 ^ (-base).toNat := by rw [Nat.pow_add, Nat.mul_assoc]
    _ = n * 2 ^ (-base).toNat * 2 ^ (-e).toNat := by rw [h, Nat.mul_right_comm]

theorem signed_lower {s : Bool} {m : Nat} {e base : Int} {n : Int} (h : m * 2 ^ e.toNat = n.natAbs * 2 ^ (-e).toNat)
    (hp : 0 < n → s = false) (hn : n < 0 → s = true) (hb : base ≤ e) :
    signed s m (e - base).toNat * (2 ^ base.toNat : Nat) = n * (2 ^ (-base).toNat : Nat) := by
  have L := lower h hb
  unfold signed
  rw [Nat.shiftLeft_eq]
  by_cases h0 : n = 0
  · subst h0
    simp only [Int.natAbs_zero, Nat.zero_mul] at L
    have : m * 2 ^ (e - base).toNat = 0 := by
      rcases Nat.mul_eq_zero.1 L with h | h
      · exact h
      · exact absurd h (Nat.ne_of_gt (Nat.two_pow_pos _))
    rw [this]; simp
  · by_cases hs : s = true
    · have hneg : n < 0 := by
        rcases Int.lt_or_le n 0 with h | h
        · exact h
        · have := hp (by omega); simp_all
      rw [if_pos hs]
      have e1 : (n : Int) = -((n.natAbs : Nat) : Int) := by omega
      rw [e1, Int.neg_mul, Int.neg_mul, ← Int.natCast_mul, ← Int.natCast_mul, L]
    · have hpos : 0 < n := by
        rcases Int.lt_or_le n 0 with h | h
        · exact absurd (hn h) hs
        · omega
      rw [if_neg hs]
      have e1 : (n : Int) = ((n.natAbs : Nat) : Int) := by omega
      rw [e1, ← Int.natCast_mul, ← Int.natCast_mul, L]

theorem posPow (k : Nat) : (0 : Int) < ((2 ^ k : Nat) : Int) := by exact_mod_cast Nat.two_pow_pos k

theorem of_signed {t : Int} {s : Bool} {base n : Int} (h : t * (2 ^ base.toNat : Nat) = n * (2 ^ (-base).toNat : Nat))
    (hs : t ≠ 0 → s = decide (t < 0)) : IsZ (.number s t.natAbs base) n := by
  refine ⟨s, t.natAbs, base, rfl, ?_, ?_, ?_⟩
  · have := congrArg Int.natAbs h
    rw [Int.natAbs_mul, Int.natAbs_mul, Int.natAbs_natCast, Int.natAbs_natCast] at this
    exact this
  · intro hn
    have : 0 < t * (2 ^ base.toNat : Nat) := by rw [h]; exact Int.mul_pos hn (posPow _)
    have ht : 0 < t := by
      rcases Int.lt_or_le 0 t with h | h
      · exact h
      · have := Int.mul_nonpos_of_nonpos_of_nonneg h (Int.le_of_lt (posPow base.toNat)); omega
    rw [hs (by omega)]; simp; omega
  · intro hn
    have : t * (2 ^ base.toNat : Nat) < 0 := by rw [h]; exact Int.mul_neg_of_neg_of_pos hn (posPow _)
    have ht : t < 0 := by
      rcases Int.lt_or_le t 0 with h | h
      · exact h
      · have := Int.mul_nonneg h (Int.le_of_lt (posPow base.toNat)); omega
    rw [hs (by omega)]; simp; omega

theorem sum_isZ {x y : Datum} {a b : Int} (hx : IsZ x a) (hy : IsZ y b) : ∃ d, x.sum y = some d ∧ IsZ d (a + b) := by
  obtain ⟨s, m, i, rfl, h1, h2, h3⟩ := hx
  obtain ⟨t, n, j, rfl, g1, g2, g3⟩ := hy
  refine ⟨_, rfl, ?_⟩
  apply of_signed
  · rw [Int.add_mul, signed_lower h1 h2 h3 (by omega), signed_lower g1 g2 g3 (by omega), Int.add_mul]
  · intro h; rw [if_neg h]

theorem opposite_isZ {x : Datum} {a : Int} (hx : IsZ x a) : IsZ x.opposite (-a) := by
  obtain ⟨s, m, i, rfl, h1, h2, h3⟩ := hx
  exact ⟨!s, m, i, rfl, by rw [Int.natAbs_neg]; exact h1, fun h => by rw [h3 (by omega)]; rfl, fun h => by rw [h2 (by omega)]; rfl⟩

theorem product_isZ {x y : Datum} {a b : Int} (hx : IsZ x a) (hy : IsZ y b) : ∃ d, x.product y = some d ∧ IsZ d (a * b) := by
  obtain ⟨s, m, i, rfl, h1, h2, h3⟩ := hx
  obtain ⟨t, n, j, rfl, g1, g2, g3⟩ := hy
  refine ⟨_, rfl, s ^^ t, m * n, i + j, rfl, ?_, ?_, ?_⟩
  · apply pow_cancel (k := i.toNat + j.toNat + (-i).toNat + (-j).toNat - (i + j).toNat - (-(i+j)).toNat)
    rw [Int.natAbs_mul]
    have e1 : (i+j).toNat + (i.toNat + j.toNat + (-i).toNat + (-j).toNat - (i + j).toNat - (-(i+j)).toNat) = i.toNat + j.toNat + ((i.toNat + j.toNat + (-i).toNat + (-j).toNat - (i + j).toNat - (-(i+j)).toNat) - (i.toNat + j.toNat - (i+j).toNat)) := by omega
    generalize hk : i.toNat + j.toNat + (-i).toNat + (-j).toNat - (i + j).toNat - (-(i+j)).toNat = k at *
    obtain ⟨k', hk'⟩ : ∃ k', (i+j).toNat + k = i.toNat + j.toNat + k' ∧ (-(i+j)).toNat + k = (-i).toNat + (-j).toNat + k' := ⟨k - (i.toNat + j.toNat - (i+j).toNat), by omega, by omega⟩
    rw [Nat.mul_assoc, ← Nat.pow_add, hk'.1, Nat.mul_assoc (a.natAbs * b.natAbs), ← Nat.pow_add, hk'.2]
    rw [Nat.pow_add, Nat.pow_add, Nat.pow_add, Nat.pow_add]
    calc m * n * (2 ^ i.toNat * 2 ^ j.toNat * 2 ^ k') = (m * 2 ^ i.toNat) * (n * 2 ^ j.toNat) * 2 ^ k' := by simp only [Nat.mul_assoc, Nat.mul_left_comm, Nat.mul_comm]
      _ = (a.natAbs * 2 ^ (-i).toNat) * (b.natAbs * 2 ^ (-j).toNat) * 2 ^ k' := by rw [h1, g1]
      _ = _ := by simp only [Nat.mul_assoc, Nat.mul_left_comm, Nat.mul_comm]
  · intro h
    rcases Int.lt_or_le a 0 with ha | ha
    · have hb : b < 0 := by
        rcases Int.lt_or_le b 0 with hb | hb
        · exact hb
        · have := Int.mul_nonpos_of_nonpos_of_nonneg (Int.le_of_lt ha) hb; omega
      rw [h3 ha, g3 hb]; rfl
    · have ha' : 0 < a := by rcases Int.lt_or_le 0 a with h' | h'
                             · exact h'
                             · have : a = 0 := by omega
                               subst this; simp at h
      have hb : 0 < b := by
        rcases Int.lt_or_le 0 b with hb | hb
        · exact hb
        · have := Int.mul_nonpos_of_nonneg_of_nonpos ha hb; omega
      rw [h2 ha', g2 hb]; rfl
  · intro h
    rcases Int.lt_or_le a 0 with ha | ha
    · have hb : 0 < b := by
        rcases Int.lt_or_le 0 b with hb | hb
        · exact hb
        · have := Int.mul_nonneg_of_nonpos_of_nonpos (Int.le_of_lt ha) hb; omega
      rw [h3 ha, g2 hb]; rfl
    · have ha' : 0 < a := by rcases Int.lt_or_le 0 a with h' | h'
                             · exact h'
                             · have : a = 0 := by omega
                               subst this; simp at h
      have hb : b < 0 := by
        rcases Int.lt_or_le b 0 with hb | hb
        · exact hb
        · have := Int.mul_nonneg ha hb; omega
      rw [h2 ha', g3 hb]; rfl

theorem order_isZ {x y : Datum} {a b : Int} (hx : IsZ x a) (hy : IsZ y b) : x.order y = some (compare a b) := by
  obtain ⟨s, m, i, rfl, h1, h2, h3⟩ := hx
  obtain ⟨t, n, j, rfl, g1, g2, g3⟩ := hy
  have e1 := signed_lower h1 h2 h3 (base := min i j) (by omega)
  have e2 := signed_lower g1 g2 g3 (base := min i j) (by omega)
  show some (compare (signed s m (i - min i j).toNat) (signed t n (j - min i j).toNat)) = _
  generalize signed s m (i - min i j).toNat = p at *
  generalize signed t n (j - min i j).toNat = q at *
  congr 1
  have P := posPow (min i j).toNat
  have Q := posPow (-(min i j)).toNat
  generalize ((2 ^ (min i j).toNat : Nat) : Int) = u at *
  generalize ((2 ^ (-(min i j)).toNat : Nat) : Int) = v at *
  have lt : ∀ {p q a b : Int}, p * u = a * v → q * u = b * v → p < q → a < b := by
    intro p q a b h1 h2 h
    have : a * v < b * v := by rw [← h1, ← h2]; exact Int.mul_lt_mul_of_pos_right h P
    exact Int.lt_of_mul_lt_mul_right this (Int.le_of_lt Q)
  rcases Int.lt_trichotomy p q with h | h | h
  · have := lt e1 e2 h
    rw [show compare p q = .lt from Int.compare_eq_lt.2 h, show compare a b = .lt from Int.compare_eq_lt.2 this]
  · subst h
    have : a = b := Int.eq_of_mul_eq_mul_right (by omega) (e1.symm.trans e2)
    subst this; simp
  · have := lt e2 e1 h
    rw [show compare p q = .gt from Int.compare_eq_gt.2 h, show compare a b = .gt from Int.compare_eq_gt.2 this]


/-! ### The nearest word -/
theorem mem_two_pow {a b : Nat} (h : a < 2 ^ b) (hb : b ≤ 53) : a < 2 ^ 53 := Nat.lt_of_lt_of_le h (Nat.pow_le_pow_right (by decide) hb)

/-- cut, upper and lower bound -/
theorem cut_bounds (s : Bool) (n drop : Nat) :
    2 * (Toward.even.cut s n drop * 2 ^ drop) ≤ 2 * n + 2 ^ drop ∧ n / 2 ^ drop ≤ Toward.even.cut s n drop := by
  unfold Toward.cut
  simp only [Nat.one_shiftLeft]
  by_cases hd : drop ≤ n.log2 + 2
  · rw [Nat.min_eq_left hd]
    generalize 2 ^ drop = g
    have hdm := Nat.div_add_mod n g
    refine ⟨?_, Nat.le_add_right _ _⟩
    generalize n / g = q at *
    generalize n % g = r at *
    cases hb : (decide (g < 2 * r) || (g == 2 * r && q % 2 == 1)) with
    | false =>
      simp only [Bool.toNat_false, Nat.add_zero]
      rw [Nat.mul_comm q g]; omega
    | true =>
      have hr : g ≤ 2 * r := by
        rw [Bool.or_eq_true, Bool.and_eq_true] at hb
        rcases hb with h | ⟨h, _⟩
        · have := of_decide_eq_true h; omega
        · have := beq_iff_eq.1 h; omega
      simp only [Bool.toNat_true, Nat.add_mul, Nat.one_mul]
      rw [Nat.mul_comm q g]; omega
  · rw [Nat.min_eq_right (by omega)]
    have h1 : n < 2 ^ (n.log2 + 1) := Nat.lt_log2_self
    have h2 : (2 : Nat) ^ (n.log2 + 2) = 2 * 2 ^ (n.log2 + 1) := by rw [Nat.pow_succ, Nat.mul_comm]
    have h3 : 2 ^ (n.log2 + 2) ≤ 2 ^ drop := Nat.pow_le_pow_right (by decide) (by omega)
    rw [Nat.div_eq_of_lt (by omega), Nat.mod_eq_of_lt (by omega), Nat.div_eq_of_lt (by omega)]
    have hb : (decide (2 ^ (n.log2 + 2) < 2 * n) || (2 ^ (n.log2 + 2) == 2 * n && 0 % 2 == 1)) = false := by
      simp; omega
    rw [hb]; simp

theorem cut_exact (s : Bool) (way : Toward) (k drop : Nat) : way.cut s (k * 2 ^ drop) drop = k := by
  by_cases hk : k = 0
  · subst hk
    unfold Toward.cut
    simp only [Nat.zero_mul, Nat.zero_div, Nat.zero_mod]
    cases way
    all_goals simp
  · unfold Toward.cut
    have hlog : drop ≤ (k * 2 ^ drop).log2 := by
      rw [Nat.le_log2 (by have := Nat.two_pow_pos drop; exact Nat.mul_ne_zero hk (by omega))]
      exact Nat.le_mul_of_pos_left _ (by omega)
    simp only [Nat.one_shiftLeft]
    rw [Nat.min_eq_left (by omega), Nat.mul_div_cancel _ (Nat.two_pow_pos _), Nat.mul_mod_left]
    have hp := Nat.two_pow_pos drop
    cases way
    case even => 
      have hb : (decide (2 ^ drop < 2 * 0) || (2 ^ drop == 2 * 0 && k % 2 == 1)) = false := by
        simp
      simp only [hb, Bool.toNat_false, Nat.add_zero]
    all_goals simp

theorem B_pos : 0 < double.binade := by rw [binade_double]; exact Nat.two_pow_pos _
theorem infRung_B : double.infRung = 2047 * double.binade := by rw [infRung_double, binade_double]
theorem signWeight_B : double.signWeight = 2048 * double.binade := by rw [signWeight_double, binade_double]
theorem two_B : (2 : Nat) ^ 53 = 2 * double.binade := by rw [binade_double]

theorem read_word (s : Bool) (R : Nat) (hR : R < 2047 * double.binade) : double.read (double.word s R) =
      if R < double.binade then .number s R (-1074) else .number s (double.binade + R % double.binade) (-1074 + (R / double.binade - 1 : Nat)) := by
  unfold Format.read Format.word
  rw [leastPlace_double, infRung_B, signWeight_B]
  generalize double.binade = B at *
  have h1 : R < 2048 * B := by omega
  have h2 : 0 < 2048 * B := by omega
  generalize 2048 * B = W at *
  cases s
  · simp only [Bool.false_eq_true, if_false]
    rw [Nat.mod_eq_of_lt h1, Nat.div_eq_of_lt h1, if_pos hR]
    rfl
  · simp only [if_true]
    rw [Nat.add_mod_left, Nat.mod_eq_of_lt h1, Nat.add_div_left _ h2, Nat.div_eq_of_lt h1, if_pos hR]
    rfl

theorem kept_le (s : Bool) (m : Nat) (e last : Int) (L : Nat) (hmu : m < 2 ^ (L + 1)) (h : e + L - 52 ≤ last) :
    Toward.even.cut s (m <<< (e - last).toNat) (last - e).toNat ≤ 2 * double.binade := by
  have := (cut_bounds s (m <<< (e - last).toNat) (last - e).toNat).1
  rw [Nat.shiftLeft_eq] at *
  rw [← two_B]
  generalize Toward.even.cut s (m * 2 ^ (e - last).toNat) (last - e).toNat = k at *
  by_cases hd : last ≤ e
  · rw [show (last - e).toNat = 0 by omega, Nat.pow_zero, Nat.mul_one] at this
    have h1 : m * 2 ^ (e - last).toNat < 2 ^ (L + 1) * 2 ^ (e - last).toNat := Nat.mul_lt_mul_of_pos_right hmu (Nat.two_pow_pos _)
    rw [← Nat.pow_add] at h1
    have h2 : 2 ^ (L + 1 + (e - last).toNat) ≤ 2 ^ 53 := Nat.pow_le_pow_right (by decide) (by omega)
    generalize (2 : Nat) ^ 53 = C at *
    generalize m * 2 ^ (e - last).toNat = z at *
    omega
  · rw [show (e - last).toNat = 0 by omega, Nat.pow_zero, Nat.mul_one] at this
    have h2 : 2 ^ (L + 1) ≤ 2 ^ (53 + (last - e).toNat) := Nat.pow_le_pow_right (by decide) (by omega)
    rw [Nat.pow_add _ 53] at h2
    have hp := Nat.two_pow_pos (last - e).toNat
    generalize 2 ^ (last - e).toNat = g at *
    generalize (2 : Nat) ^ (L + 1) = l1 at *
    generalize (2 : Nat) ^ 53 = C at *
    have h3 : 2 * (k * g) < (2 * C + 1) * g := by rw [Nat.add_mul, Nat.one_mul, Nat.mul_assoc]; omega
    have h4 : 2 * k < 2 * C + 1 := by
      rw [← Nat.mul_assoc] at h3
      exact Nat.lt_of_mul_lt_mul_right h3
    omega

theorem le_kept (s : Bool) (m : Nat) (e last : Int) (L : Nat) (hml : 2 ^ L ≤ m) (h : last = e + L - 52) :
    double.binade ≤ Toward.even.cut s (m <<< (e - last).toNat) (last - e).toNat := by
  have hq := (cut_bounds s (m <<< (e - last).toNat) (last - e).toNat).2
  refine Nat.le_trans ?_ hq
  rw [binade_double, Nat.le_div_iff_mul_le (Nat.two_pow_pos _), Nat.shiftLeft_eq, ← Nat.pow_add]
  calc 2 ^ (52 + (last - e).toNat) = 2 ^ (L + (e - last).toNat) := by congr 1; omega
    _ = 2 ^ L * 2 ^ (e - last).toNat := Nat.pow_add ..
    _ ≤ _ := Nat.mul_le_mul_right _ hml

/-- what the nearest word reads as: 'kept * 2 ^ last' -/
theorem read_nearest (s : Bool) (m : Nat) (e last : Int) (hm : m ≠ 0) (hla : max (e + (m.log2 : Int) - 52) (-1074) = last) (hl : last ≤ 900) :
    ∃ kept : Nat, kept = Toward.even.cut s (m <<< (e - last).toNat) (last - e).toNat ∧ kept ≤ 2 * double.binade ∧
      (double.read (double.nearest s m e) = .number s kept last ∨
        (kept = 2 * double.binade ∧ double.read (double.nearest s m e) = .number s double.binade (last + 1))) := by
  refine ⟨_, rfl, ?_⟩
  unfold Format.nearest
  rw [if_neg hm]
  have hf : ((double.fractionBits : Nat) : Int) = 52 := rfl
  simp only []
  rw [leastPlace_double, infRung_B, hf, hla]
  have hml : 2 ^ m.log2 ≤ m := Nat.log2_self_le hm
  have hmu : m < 2 ^ (m.log2 + 1) := Nat.lt_log2_self
  have hk1 := kept_le s m e last m.log2 hmu (by omega)
  have hk2 : last ≠ -1074 → double.binade ≤ Toward.even.cut s (m <<< (e - last).toNat) (last - e).toNat := fun hne => le_kept s m e last m.log2 hml (by omega)
  have hlow : -1074 ≤ last := by omega
  clear hml hmu hla
  generalize Toward.even.cut s (m <<< (e - last).toNat) (last - e).toNat = k at *
  refine ⟨hk1, ?_⟩
  have hsub : (last - -1074).toNat = (last + 1074).toNat := by congr 1
  rw [hsub]
  have hB := B_pos
  have hbound : (last + 1074).toNat * double.binade + k < 2047 * double.binade := by
    have : (last + 1074).toNat ≤ 1974 := by omega
    have : (last + 1074).toNat * double.binade ≤ 1974 * double.binade := Nat.mul_le_mul_right _ this
    omega
  rw [Nat.min_eq_left (Nat.le_of_lt hbound), read_word _ _ hbound]
  clear hbound
  generalize double.binade = B at *
  by_cases hsmall : k < B
  · have hl0 : last = -1074 := by
      by_cases h : last = -1074
      · exact h
      · have := hk2 h; omega
    subst hl0
    left
    rw [show (-1074 + 1074 : Int).toNat = 0 from rfl, Nat.zero_mul, Nat.zero_add]
    rw [if_pos hsmall]
  · have hge : ¬ ((last + 1074).toNat * B + k < B) := by
      generalize (last + 1074).toNat * B = z; omega
    rw [if_neg hge]
    by_cases hk53 : k = 2 * B
    · right
      refine ⟨hk53, ?_⟩
      rw [hk53, ← Nat.add_mul, Nat.mul_mod_left, Nat.mul_div_cancel _ hB]
      congr 1
      omega
    · left
      have e1 : (last + 1074).toNat * B + k = ((last + 1074).toNat + 1) * B + (k - B) := by
        rw [Nat.add_mul]; generalize (last + 1074).toNat * B = z; omega
      have e2 : ((last + 1074).toNat * B + k) % B = k - B := by
        rw [e1, Nat.mul_comm, Nat.mul_add_mod, Nat.mod_eq_of_lt (by omega)]
      have e3 : ((last + 1074).toNat * B + k) / B = (last + 1074).toNat + 1 := by
        rw [e1, Nat.mul_comm, Nat.mul_add_div hB, Nat.div_eq_of_lt (by omega), Nat.add_zero]
      rw [e2, e3]
      congr 1
      · omega
      · omega

theorem nearest_zero (s : Bool) (e : Int) : double.read (double.nearest s 0 e) = .number s 0 (-1074) := by
  unfold Format.nearest
  rw [if_pos rfl, read_word _ _ (by have := B_pos; omega), if_pos B_pos]

/-- a whole number below 2^53 is written exactly -/
theorem nearest_isZ {d : Datum} {n : Int} (h : IsZ d n) (hn : n.natAbs < 2 ^ 53) : IsZ (double.read (double.write d)) n := by
  obtain ⟨s, m, e, rfl, h1, h2, h3⟩ := h
  show IsZ (double.read (double.nearest s m e)) n
  by_cases hm : m = 0
  · subst hm
    rw [nearest_zero]
    have : n.natAbs = 0 := by
      rw [Nat.zero_mul] at h1
      rcases Nat.mul_eq_zero.1 h1.symm with h | h
      · exact h
      · exact absurd h (Nat.ne_of_gt (Nat.two_pow_pos _))
    have hn0 : n = 0 := by omega
    subst hn0
    exact ⟨s, 0, -1074, rfl, by rw [Nat.zero_mul, Int.natAbs_zero, Nat.zero_mul], by simp, by simp⟩
  · have hn0 : n.natAbs ≠ 0 := by
      intro h0
      rw [h0, Nat.zero_mul] at h1
      rcases Nat.mul_eq_zero.1 h1 with h | h
      · exact hm h
      · exact absurd h (Nat.ne_of_gt (Nat.two_pow_pos _))
    have hlog : (m.log2 : Int) + e = (n.natAbs.log2 : Int) := by
      have hml : 2 ^ m.log2 ≤ m := Nat.log2_self_le hm
      have hmu : m < 2 ^ (m.log2 + 1) := Nat.lt_log2_self
      have hnl : 2 ^ n.natAbs.log2 ≤ n.natAbs := Nat.log2_self_le hn0
      have hnu : n.natAbs < 2 ^ (n.natAbs.log2 + 1) := Nat.lt_log2_self
      have a1 : 2 ^ (m.log2 + e.toNat) ≤ n.natAbs * 2 ^ (-e).toNat := by rw [← h1, Nat.pow_add]; exact Nat.mul_le_mul_right _ hml
      have a2 : n.natAbs * 2 ^ (-e).toNat < 2 ^ (m.log2 + 1 + e.toNat) := by rw [← h1, Nat.pow_add _ (m.log2 + 1)]; exact Nat.mul_lt_mul_of_pos_right hmu (Nat.two_pow_pos _)
      have b1 : 2 ^ (n.natAbs.log2 + (-e).toNat) ≤ n.natAbs * 2 ^ (-e).toNat := by rw [Nat.pow_add]; exact Nat.mul_le_mul_right _ hnl
      have b2 : n.natAbs * 2 ^ (-e).toNat < 2 ^ (n.natAbs.log2 + 1 + (-e).toNat) := by rw [Nat.pow_add _ (n.natAbs.log2 + 1)]; exact Nat.mul_lt_mul_of_pos_right hnu (Nat.two_pow_pos _)
      have c1 : m.log2 + e.toNat < n.natAbs.log2 + 1 + (-e).toNat := (Nat.pow_lt_pow_iff_right (by decide)).1 (Nat.lt_of_le_of_lt a1 b2)
      have c2 : n.natAbs.log2 + (-e).toNat < m.log2 + 1 + e.toNat := (Nat.pow_lt_pow_iff_right (by decide)).1 (Nat.lt_of_le_of_lt b1 a2)
      omega
    have hL : n.natAbs.log2 < 53 := (Nat.log2_lt hn0).2 hn
    have hlast : max (e + (m.log2 : Int) - 52) (-1074) = n.natAbs.log2 - 52 := by omega
    obtain ⟨kept, hk, hk53, hr⟩ := read_nearest s m e _ hm hlast (by omega)
    generalize hlast' : (n.natAbs.log2 : Int) - 52 = last at *
    -- kept is exact
    have hkept : kept * 2 ^ last.toNat = n.natAbs * 2 ^ (-last).toNat := by
      rw [hk, Nat.shiftLeft_eq]
      have key : m * 2 ^ (e - last).toNat = (n.natAbs * 2 ^ (-last).toNat) * 2 ^ (last - e).toNat := by
        apply pow_cancel (k := e.toNat + (-e).toNat)
        have : m * 2 ^ (e - last).toNat * 2 ^ (e.toNat + (-e).toNat) = m * 2 ^ e.toNat * (2 ^ ((-e).toNat + (e - last).toNat)) := by
          rw [Nat.pow_add, Nat.pow_add]; simp only [Nat.mul_assoc, Nat.mul_left_comm, Nat.mul_comm]
        rw [this, h1, Nat.mul_assoc, ← Nat.pow_add, Nat.mul_assoc, Nat.mul_assoc, ← Nat.pow_add, ← Nat.pow_add]
        congr 2; omega
      rw [key, cut_exact, show last.toNat = 0 by omega, Nat.pow_zero, Nat.mul_one]
    rcases hr with hr | ⟨hk2, hr⟩
    · exact ⟨s, kept, last, hr, hkept, h2, h3⟩
    · refine ⟨s, double.binade, last + 1, hr, ?_, h2, h3⟩
      rw [hk2] at hkept
      have t0 : last.toNat = 0 := by omega
      rw [t0, Nat.pow_zero, Nat.mul_one] at hkept
      by_cases hz : last = 0
      · subst hz
        simp only [Int.neg_zero, Int.toNat_zero, Nat.pow_zero, Nat.mul_one] at hkept
        rw [show (0 + 1 : Int).toNat = 1 from rfl, show (-(0 + 1) : Int).toNat = 0 from rfl, Nat.pow_zero, Nat.mul_one, Nat.pow_one]
        omega
      · rw [show (last + 1).toNat = 0 by omega, Nat.pow_zero, Nat.mul_one]
        have hn1 : (-last).toNat = (-(last + 1)).toNat + 1 := by omega
        rw [hn1, Nat.pow_succ, ← Nat.mul_assoc, Nat.mul_comm 2] at hkept
        exact Nat.eq_of_mul_eq_mul_right (by decide) hkept


theorem shl (a b : Nat) : a <<< b = a * 2 ^ b := Nat.shiftLeft_eq a b

theorem toInt_isZ {d : Datum} {n : Int} (h : IsZ d n) : d.toInt .zero = some n := by
  obtain ⟨s, m, e, rfl, h1, h2, h3⟩ := h
  show some (signed s (Toward.zero.cut s (m <<< e.toNat) (-e).toNat) 0) = some n
  rw [shl, h1, cut_exact]
  congr 1
  unfold signed
  rw [shl, Nat.pow_zero, Nat.mul_one]
  by_cases hs : s = true
  · rw [if_pos hs]
    have : ¬ 0 < n := fun h => by have := h2 h; simp_all
    omega
  · rw [if_neg hs]
    have : ¬ n < 0 := fun h => hs (h3 h)
    omega

/-! ### Words -/
/-- A word of a double that stands for a whole number. -/
def Isz (x : Nat) (n : Int) : Prop := IsZ (double.read x) n

theorem isZ_int (n : Int) : IsZ (.number (decide (n < 0)) n.natAbs 0) n :=
  ⟨_, _, _, rfl, rfl, fun h => by simp; omega, fun h => by simp [h]⟩

theorem isz_ofInt (n : Int) (hn : n.natAbs < 2 ^ 53) : Isz (Go.floatOfInt .f64 n) n := nearest_isZ (isZ_int n) hn

theorem isz_order {x y : Nat} {a b : Int} (hx : Isz x a) (hy : Isz y b) : double.order x y = some (compare a b) := order_isZ hx hy

theorem isz_add {x y : Nat} {a b : Int} (hx : Isz x a) (hy : Isz y b) (h : (a + b).natAbs < 2 ^ 53) : ∃ r, Go.floatBits .add .f64 x y = some r ∧ Isz r (a + b) := by
  obtain ⟨d, h1, h2⟩ := sum_isZ hx hy
  refine ⟨double.write d, ?_, nearest_isZ h2 h⟩
  show ((double.read x).sum (double.read y)).map double.write = _
  rw [h1]; rfl

theorem isz_sub {x y : Nat} {a b : Int} (hx : Isz x a) (hy : Isz y b) (h : (a - b).natAbs < 2 ^ 53) : ∃ r, Go.floatBits .sub .f64 x y = some r ∧ Isz r (a - b) := by
  obtain ⟨d, h1, h2⟩ := sum_isZ hx (opposite_isZ hy)
  rw [← Int.sub_eq_add_neg] at h2
  refine ⟨double.write d, ?_, nearest_isZ h2 h⟩
  show ((double.read x).sum (double.read y).opposite).map double.write = _
  rw [h1]; rfl

theorem isz_mul {x y : Nat} {a b : Int} (hx : Isz x a) (hy : Isz y b) (h : (a * b).natAbs < 2 ^ 53) : ∃ r, Go.floatBits .mul .f64 x y = some r ∧ Isz r (a * b) := by
  obtain ⟨d, h1, h2⟩ := product_isZ hx hy
  refine ⟨double.write d, ?_, nearest_isZ h2 h⟩
  show ((double.read x).product (double.read y)).map double.write = _
  rw [h1]; rfl

theorem isz_toInt {x : Nat} {n : Int} (h : Isz x n) (h1 : -9223372036854775808 ≤ n) (h2 : n ≤ 9223372036854775807) : Go.floatToIntVal .f64 x .i64 = some n := by
  unfold Go.floatToIntVal
  have : (Go.FloatKind.decode .f64 x).toInt .zero = some n := toInt_isZ h
  rw [this]
  exact if_pos ⟨h1, h2⟩

/-! ### Roots -/
theorem rootFrom_sq (n : Nat) : ∀ todo root, root * root ≤ n → Datum.rootFrom n todo root * Datum.rootFrom n todo root ≤ n := by
  intro todo
  induction todo with
  | zero => intro root h; exact h
  | succ t ih =>
    intro root h
    unfold Datum.rootFrom
    simp only
    apply ih
    split
    · assumption
    · exact h

theorem cut_zero (s : Bool) (n drop : Nat) : Toward.zero.cut s n drop = n / 2 ^ drop := by
  unfold Toward.cut
  simp only [Bool.toNat_false, Nat.add_zero, Nat.one_shiftLeft]
  by_cases hd : drop ≤ n.log2 + 2
  · rw [Nat.min_eq_left hd]
  · rw [Nat.min_eq_right (by omega)]
    have h1 : n < 2 ^ (n.log2 + 1) := Nat.lt_log2_self
    have h2 : (2 : Nat) ^ (n.log2 + 2) = 2 * 2 ^ (n.log2 + 1) := by rw [Nat.pow_succ, Nat.mul_comm]
    have h3 : 2 ^ (n.log2 + 2) ≤ 2 ^ drop := Nat.pow_le_pow_right (by decide) (by omega)
    rw [Nat.div_eq_of_lt (by omega), Nat.div_eq_of_lt (by omega)]

/-- float64(n) of a whole number up to 2^60: a number of at most n, and 128 more from 2^53 on. -/
theorem float_le (n : Nat) (hn : n ≤ 2 ^ 60) : ∃ M E, double.read (Go.floatOfInt .f64 (n : Int)) = .number false M E ∧ E ≤ 9 ∧ M < 2 ^ 54 ∧
    M * 2 ^ E.toNat ≤ (n + if n < 2 ^ 53 then 0 else 128) * 2 ^ (-E).toNat := by
  by_cases hsm : n < 2 ^ 53
  · rw [if_pos hsm, Nat.add_zero]
    obtain ⟨s, m, e, hr, h1, h2, h3⟩ := isz_ofInt (n : Int) (by simpa using hsm)
    have hz : ∀ e', double.read (Go.floatOfInt .f64 (n : Int)) = .number s m e' → s = false := by
      intro _ _
      by_cases h0 : n = 0
      · subst h0
        have : double.read (Go.floatOfInt .f64 ((0 : Nat) : Int)) = .number false 0 (-1074) := nearest_zero false 0
        rw [this] at hr; injection hr with a b c; exact a.symm
      · exact h2 (by omega)
    have hs := hz e hr
    subst hs
    by_cases h0 : n = 0
    · subst h0
      refine ⟨0, -1074, nearest_zero false 0, by decide, by decide, ?_⟩
      rw [Nat.zero_mul, Nat.zero_mul]; exact Nat.le_refl _
    · have hr2 : double.read (double.nearest false n 0) = .number false m e := by
        have : decide ((n : Int) < 0) = false := by simp
        have h4 : double.read (double.nearest (decide ((n : Int) < 0)) (n : Int).natAbs 0) = .number false m e := hr
        rw [this] at h4; exact h4
      have hL : n.log2 < 53 := (Nat.log2_lt h0).2 hsm
      obtain ⟨kept, hk, hk1, hk2⟩ := read_nearest false n 0 _ h0 rfl (by omega)
      rw [← two_B] at hk1
      have hBB : double.binade < 2 ^ 54 := by decide
      refine ⟨m, e, hr, ?_, ?_, by rw [Int.natAbs_natCast] at h1; omega⟩
      · rcases hk2 with hk2 | ⟨_, hk2⟩ <;> (rw [hk2] at hr2; injection hr2 with a b c; omega)
      · rcases hk2 with hk2 | ⟨_, hk2⟩ <;> (rw [hk2] at hr2; injection hr2 with a b c; omega)
  · rw [if_neg hsm]
    have h0 : n ≠ 0 := by omega
    have hL : n.log2 < 61 := (Nat.log2_lt h0).2 (by omega)
    have hL2 : 53 ≤ n.log2 := (Nat.le_log2 h0).2 (by omega)
    obtain ⟨kept, hk, hk1, hk2⟩ := read_nearest false n 0 ((n.log2 : Int) - 52) h0 (by omega) (by omega)
    have hcb := (cut_bounds false (n <<< (0 - ((n.log2 : Int) - 52)).toNat) (((n.log2 : Int) - 52) - 0).toNat).1
    rw [← hk, shl, show (0 - ((n.log2 : Int) - 52)).toNat = 0 by omega, Nat.pow_zero, Nat.mul_one] at hcb
    have hg : 2 ^ (((n.log2 : Int) - 52) - 0).toNat ≤ 2 ^ 8 := Nat.pow_le_pow_right (by decide) (by omega)
    have hr2 : Go.floatOfInt .f64 (n : Int) = double.nearest false n 0 := by
      have : decide ((n : Int) < 0) = false := by simp
      have h4 : Go.floatOfInt .f64 (n : Int) = double.nearest (decide ((n : Int) < 0)) (n : Int).natAbs 0 := rfl
      rw [this] at h4; exact h4
    rw [hr2]
    have hB : 2 * double.binade < 2 ^ 54 := by decide
    rw [Int.sub_zero] at hcb hg
    rcases hk2 with hk2 | ⟨hk3, hk2⟩
    · refine ⟨kept, _, hk2, by omega, by omega, ?_⟩
      rw [show (-((n.log2 : Int) - 52)).toNat = 0 by omega, Nat.pow_zero, Nat.mul_one]
      generalize kept * 2 ^ ((n.log2 : Int) - 52).toNat = z at *
      omega
    · refine ⟨_, _, hk2, by omega, by omega, ?_⟩
      rw [show (-((n.log2 : Int) - 52 + 1)).toNat = 0 by omega, Nat.pow_zero, Nat.mul_one, show ((n.log2 : Int) - 52 + 1).toNat = ((n.log2 : Int) - 52).toNat + 1 by omega, Nat.pow_succ, Nat.mul_comm _ 2, ← Nat.mul_assoc, Nat.mul_comm _ 2, ← hk3]
      generalize kept * 2 ^ ((n.log2 : Int) - 52).toNat = z at *
      omega

/-- What is written of a small positive number, cut to a whole one: no more than the number's bound, where that bound lies a half above a whole one. -/
theorem written_le (S r q : Nat) (hr : r ≤ 2 ^ 30) (hS : S ≤ (2 * r + 1) * 2 ^ q) :
    ∃ t : Nat, (double.read (double.write (.number false S (-(q : Int) - 1)))).toInt .zero = some (t : Int) ∧ t ≤ r := by
  show ∃ t : Nat, (double.read (double.nearest false S (-(q : Int) - 1))).toInt .zero = some (t : Int) ∧ t ≤ r
  by_cases h0 : S = 0
  · subst h0
    rw [nearest_zero]
    exact ⟨0, by decide +kernel, Nat.zero_le _⟩
  · have hlog : S.log2 < 32 + q := by
      rw [Nat.log2_lt h0]
      refine Nat.lt_of_le_of_lt hS ?_
      rw [Nat.pow_add]
      exact Nat.mul_lt_mul_of_pos_right (by omega) (Nat.two_pow_pos _)
    generalize hla : max (-(q : Int) - 1 + (S.log2 : Int) - 52) (-1074) = last
    obtain ⟨kept, hk, hk1, hk2⟩ := read_nearest false S (-(q : Int) - 1) last h0 hla (by omega)
    have hneg : last ≤ -21 := by omega
    have hcb := (cut_bounds false (S <<< (-(q : Int) - 1 - last).toNat) (last - (-(q : Int) - 1)).toNat).1
    rw [← hk, shl] at hcb
    have hkept : kept < (r + 1) * 2 ^ (-last).toNat := by
      by_cases hc : last ≤ -(q : Int) - 1
      · rw [show (last - (-(q : Int) - 1)).toNat = 0 by omega, Nat.pow_zero, Nat.mul_one] at hcb
        have h1 : S * 2 ^ (-(q : Int) - 1 - last).toNat ≤ (2 * r + 1) * 2 ^ ((-last).toNat - 1) := by
          have h2 := Nat.mul_le_mul_right (2 ^ (-(q : Int) - 1 - last).toNat) hS
          rw [Nat.mul_assoc, ← Nat.pow_add, show q + (-(q : Int) - 1 - last).toNat = (-last).toNat - 1 by omega] at h2
          exact h2
        have h3 : 2 ^ (-last).toNat = 2 * 2 ^ ((-last).toNat - 1) := by rw [← Nat.pow_succ']; congr 1; omega
        have h4 := Nat.two_pow_pos ((-last).toNat - 1)
        rw [h3]
        generalize 2 ^ ((-last).toNat - 1) = z at *
        generalize S * 2 ^ (-(q : Int) - 1 - last).toNat = y at *
        have e1 : (2 * r + 1) * z = 2 * (r * z) + z := by rw [Nat.add_mul, Nat.one_mul, Nat.mul_assoc]
        have e2 : (r + 1) * (2 * z) = 2 * (r * z) + 2 * z := by rw [Nat.add_mul, Nat.one_mul]; congr 1; rw [Nat.mul_left_comm]
        rw [e1] at h1; rw [e2]
        generalize r * z = rz at *
        omega
      · rw [show (-(q : Int) - 1 - last).toNat = 0 by omega, Nat.pow_zero, Nat.mul_one] at hcb
        have hd : (last - (-(q : Int) - 1)).toNat + (-last).toNat = q + 1 := by omega
        have hdl : 2 ^ (last - (-(q : Int) - 1)).toNat ≤ 2 ^ q := Nat.pow_le_pow_right (by decide) (by omega)
        have hp := Nat.two_pow_pos (last - (-(q : Int) - 1)).toNat
        apply Nat.lt_of_mul_lt_mul_right (a := 2 ^ (last - (-(q : Int) - 1)).toNat)
        rw [Nat.mul_assoc, ← Nat.pow_add, Nat.add_comm (-last).toNat, hd, Nat.pow_succ]
        have hq := Nat.two_pow_pos q
        generalize 2 ^ (last - (-(q : Int) - 1)).toNat = g at *
        generalize 2 ^ q = z at *
        generalize kept * g = y at *
        have e1 : (2 * r + 1) * z = 2 * (r * z) + z := by rw [Nat.add_mul, Nat.one_mul, Nat.mul_assoc]
        have e2 : (r + 1) * (z * 2) = 2 * (r * z) + 2 * z := by rw [Nat.add_mul, Nat.one_mul, Nat.mul_comm z 2]; congr 1; rw [Nat.mul_left_comm]
        rw [e1] at hS; rw [e2]
        generalize r * z = rz at *
        omega
    have fin : ∀ (K : Nat) (l : Int), l < 0 → K < (r + 1) * 2 ^ (-l).toNat → ∃ t : Nat, (Datum.number false K l).toInt .zero = some (t : Int) ∧ t ≤ r := by
      intro K l hl hK
      refine ⟨K / 2 ^ (-l).toNat, ?_, ?_⟩
      · show some (signed false (Toward.zero.cut false (K <<< l.toNat) (-l).toNat) 0) = _
        rw [cut_zero, shl, show l.toNat = 0 by omega, Nat.pow_zero, Nat.mul_one]
        unfold signed
        rw [shl, Nat.pow_zero, Nat.mul_one]; rfl
      · have := (Nat.div_lt_iff_lt_mul (Nat.two_pow_pos (-l).toNat)).2 hK
        omega
    rcases hk2 with hk2 | ⟨hk3, hk2⟩
    · rw [hk2]; exact fin _ _ (by omega) hkept
    · rw [hk2]
      refine fin _ _ (by omega) ?_
      rw [hk3, show (-last).toNat = (-(last + 1)).toNat + 1 by omega, Nat.pow_succ, ← Nat.mul_assoc, Nat.mul_comm 2] at hkept
      exact Nat.lt_of_mul_lt_mul_right hkept

theorem sqrt_le (n r : Nat) (hn : n ≤ 2 ^ 60) (hr : r ≤ 2 ^ 30) (h : n ≤ r * r) :
    ∃ z, double.sqrt (Go.floatOfInt .f64 (n : Int)) = some z ∧ ∃ t : Nat, (double.read z).toInt .zero = some (t : Int) ∧ t ≤ r := by
  obtain ⟨M, E, hread, hE, hM, hval⟩ := float_le n hn
  have hX : (n + if n < 2 ^ 53 then 0 else 128) ≤ r * r + r := by
    split
    · omega
    · have : 128 ≤ r := by
        rcases Nat.lt_or_ge r 128 with hlt | hge
        · have : r * r ≤ 127 * 127 := Nat.mul_le_mul (by omega) (by omega)
          omega
        · exact hge
      omega
  generalize (n + if n < 2 ^ 53 then 0 else 128) = X at *
  show ∃ z, ((double.read (Go.floatOfInt .f64 (n : Int))).root 54).map double.write = some z ∧ _
  rw [hread]
  unfold Datum.root
  simp only
  by_cases hM0 : M = 0
  · rw [if_pos hM0]
    refine ⟨_, rfl, 0, ?_, Nat.zero_le _⟩
    subst hM0
    show (double.read (double.nearest false 0 E)).toInt .zero = _
    rw [nearest_zero]; decide +kernel
  · rw [if_neg hM0]
    simp only [Bool.false_eq_true, if_false]
    have hML : M.log2 < 54 := (Nat.log2_lt hM0).2 hM
    generalize hmo : 2 * 54 - M.log2 + ((E - ((2 * 54 - M.log2 : Nat) : Int)) % 2).toNat = more
    have hmore : 55 ≤ more := by omega
    obtain ⟨q, hq⟩ : ∃ q : Nat, E - (more : Int) = -2 * (q : Int) := by
      refine ⟨((more - E) / 2).toNat, ?_⟩
      omega
    refine ⟨_, rfl, ?_⟩
    have hsq := rootFrom_sq (M <<< more) ((M <<< more).log2 / 2 + 1) 0 (Nat.zero_le _)
    generalize Datum.rootFrom (M <<< more) ((M <<< more).log2 / 2 + 1) 0 = whole at *
    have hpl : (E - (more : Int)) / 2 - 1 = -(q : Int) - 1 := by omega
    rw [hpl]
    apply written_le _ _ _ hr
    -- whole ^ 2 ≤ X * 4 ^ q
    have h1 : whole * whole ≤ X * 2 ^ (2 * q) := by
      refine Nat.le_trans hsq ?_
      rw [shl]
      apply Nat.le_of_mul_le_mul_right (c := 2 ^ E.toNat) _ (Nat.two_pow_pos _)
      calc M * 2 ^ more * 2 ^ E.toNat = M * 2 ^ E.toNat * 2 ^ more := Nat.mul_right_comm ..
        _ ≤ X * 2 ^ (-E).toNat * 2 ^ more := Nat.mul_le_mul_right _ hval
        _ = X * 2 ^ (2 * q) * 2 ^ E.toNat := by
          rw [Nat.mul_assoc, ← Nat.pow_add, Nat.mul_assoc, ← Nat.pow_add]; congr 2; omega
    have hq1 : 1 ≤ q := by omega
    have h2 : (2 * whole) * (2 * whole) < ((2 * r + 1) * 2 ^ q) * ((2 * r + 1) * 2 ^ q) := by
      have hp := Nat.two_pow_pos (2 * q)
      have e1 : ((2 * r + 1) * 2 ^ q) * ((2 * r + 1) * 2 ^ q) = (4 * (r * r + r) + 1) * 2 ^ (2 * q) := by
        rw [show 2 * q = q + q by omega, Nat.pow_add, Nat.mul_mul_mul_comm]
        congr 1
        rw [Nat.add_mul, Nat.mul_add, Nat.mul_add, Nat.mul_mul_mul_comm]; omega
      have e2 : (2 * whole) * (2 * whole) = 4 * (whole * whole) := by rw [Nat.mul_mul_mul_comm]
      rw [e1, e2, Nat.add_mul, Nat.one_mul, Nat.mul_assoc]
      have h3 : X * 2 ^ (2 * q) ≤ (r * r + r) * 2 ^ (2 * q) := Nat.mul_le_mul_right _ hX
      generalize (r * r + r) * 2 ^ (2 * q) = y at *
      generalize X * 2 ^ (2 * q) = x at *
      generalize whole * whole = ww at *
      generalize 2 ^ (2 * q) = p at *
      omega
    have h3 : 2 * whole < (2 * r + 1) * 2 ^ q := by
      rcases Nat.lt_or_ge (2 * whole) ((2 * r + 1) * 2 ^ q) with h | h
      · exact h
      · exact absurd (Nat.mul_le_mul h h) (by omega)
    have h4 : (whole * whole != M <<< more).toNat ≤ 1 := Bool.toNat_le _
    omega

theorem sqrt_toInt (n r : Nat) (hn : n ≤ 2 ^ 60) (hr : r ≤ 2 ^ 30) (h : n ≤ r * r) :
    ∃ z, double.sqrt (Go.floatOfInt .f64 (n : Int)) = some z ∧ ∃ t : Nat, Go.floatToIntVal .f64 z .i64 = some (t : Int) ∧ t ≤ r := by
  obtain ⟨z, h1, t, h2, h3⟩ := sqrt_le n r hn hr h
  refine ⟨z, h1, t, ?_, h3⟩
  unfold Go.floatToIntVal
  have : (Go.FloatKind.decode .f64 z).toInt .zero = some (t : Int) := h2
  rw [this]
  have e1 : (Go.IntKind.i64).min = -9223372036854775808 := by decide
  have e2 : (Go.IntKind.i64).max = 9223372036854775807 := by decide
  exact if_pos ⟨by rw [e1]; omega, by rw [e2]; omega⟩

end Fl
