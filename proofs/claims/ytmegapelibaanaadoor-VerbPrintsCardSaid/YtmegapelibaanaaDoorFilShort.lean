/- Plain facts: what is written of a number that was read is no longer than what was read; texts put together again, piece by piece. -/
import Derived.Test.YtmegapelibaanaaDoorDeciMath
import Derived.Test.YtmegapelibaanaaDoorFilParts
namespace Go.Proofs.YtmegapelibaanaaDoor
namespace Deci
open Go
theorem natV_lt : ∀ (n : Nat) (l : List UInt8), l.length = n → inB 48 57 l = true → natV l < 10 ^ n
  | 0, l, h, _ => by rw [List.eq_nil_of_length_eq_zero h]; decide
  | n + 1, l, h, hi => by
    rcases snoc_cases l with rfl | ⟨a, x, rfl⟩
    · simp at h
    rw [inB_snoc] at hi
    simp only [Bool.and_eq_true, decide_eq_true_eq] at hi
    have := natV_lt n a (by simpa using h) hi.1
    rw [natV_snoc, Nat.pow_succ]; omega
theorem trim_le (l : List UInt8) : (Lib.trimRightB l 48).length ≤ l.length := by
  obtain ⟨j, _, h⟩ := trim_split l; omega
/-- A cut's parts, as long as what was cut. -/
theorem cut_length (s : List UInt8) : ((Lib.cut s [46]).2.2 = true → s.length = (Lib.cut s [46]).1.length + 1 + (Lib.cut s [46]).2.1.length) ∧ ((Lib.cut s [46]).2.2 = false → s.length = (Lib.cut s [46]).1.length ∧ (Lib.cut s [46]).2.1 = []) := by
  rcases index_cases s 46 with h | ⟨i, h, hlt⟩
  · have e : Lib.cut s [46] = (s, [], false) := by unfold Lib.cut; rw [index_one, h]; simp
    rw [e]; simp
  · have e : Lib.cut s [46] = (s.take i, s.drop (i + 1), true) := by unfold Lib.cut; rw [index_one, h, if_pos (by omega)]; simp
    rw [e]; simp; omega
theorem rest_length (l : List UInt8) : l.length = (restOf l).length + (if minusOf l then 1 else 0) := by
  unfold restOf minusOf Lib.trimPrefix
  cases h : Lib.hasPrefix l [45] with
  | false => simp
  | true =>
    cases l with
    | nil => unfold Lib.hasPrefix at h; simp at h
    | cons b t => simp
/-- WHAT IS WRITTEN OF A NUMBER THAT WAS READ IS NO LONGER. -/
theorem short (l : List UInt8) (k : Nat) (hk : k ≤ 6) (h : readE l k = 0) : (writeV (readV l k) k).length ≤ l.length := by
  have hsc : ¬ ((k : Int) < 0 ∨ 6 < (k : Int)) := by omega
  have hf : formB l k = true := by
    cases hb : formB l k with
    | true => rfl
    | false => unfold readE at h; rw [if_neg hsc, if_pos hb] at h; omega
  have hN : ¬ 1099511627776 < readN l k := fun hc => by
    unfold readE at h; rw [if_neg hsc, if_neg (by rw [hf]; simp), if_pos hc] at h; omega
  have hv : readV l k = if minusOf l then -(readN l k : Int) else readN l k := by
    unfold readV; rw [if_neg hsc, if_neg (by rw [hf]; simp), if_neg hN]
  have hrl := rest_length l
  obtain ⟨hc1, hc2⟩ := cut_length (restOf l)
  have hform := hf
  unfold formB digB at hform
  have hrn : readN l k = natV ((cutOf l).1 ++ (cutOf l).2.1) * 10 ^ ((k : Int) - ((cutOf l).2.1.length : Int)).toNat := rfl
  change ((cutOf l).2.2 = true → _ = (cutOf l).1.length + 1 + (cutOf l).2.1.length) at hc1
  change ((cutOf l).2.2 = false → _ = (cutOf l).1.length ∧ (cutOf l).2.1 = []) at hc2
  generalize readV l k = m at *
  generalize readN l k = N at *
  generalize cutOf l = C at *
  obtain ⟨a, b, dot⟩ := C
  simp only [Bool.and_eq_true, Bool.or_eq_true, decide_eq_true_eq] at hform hc1 hc2 hrn
  obtain ⟨⟨a1, a2, a3⟩, hb⟩ := hform
  have hb' : inB 48 57 b = true ∧ b.length ≤ k := by
    cases dot with
    | false => have := (hc2 rfl).2; subst this; exact ⟨rfl, Nat.zero_le _⟩
    | true => obtain ⟨_, h2, h3⟩ := hb.resolve_left (by simp); exact ⟨h3, by omega⟩
  obtain ⟨b1, b2⟩ := hb'
  have hkb : ((k : Int) - (b.length : Int)).toNat = k - b.length := by omega
  rw [hkb] at hrn
  have hZ : natV (a ++ (b ++ List.replicate (k - b.length) 48)) = N := by rw [← List.append_assoc, natV_rep, hrn]
  have hZi : inB 48 57 (a ++ (b ++ List.replicate (k - b.length) 48)) = true := by rw [inB_append, inB_append, a3, b1, inB_rep]; rfl
  have hZl : (a ++ (b ++ List.replicate (k - b.length) 48)).length = a.length + k := by simp; omega
  have hmN : m.natAbs = N := by rw [hv]; split <;> omega
  have hp := parts m k hk
  have hdec : (Lib.decDigits N).length ≤ a.length + k := by
    have h1 := natV_lt _ _ hZl hZi
    rw [hZ] at h1
    obtain ⟨q, hq⟩ : ∃ q, a.length + k = q + 1 := ⟨a.length + k - 1, by omega⟩
    rw [hq] at h1 ⊢
    exact dig_len q N h1
  have hH : (headV m k).length ≤ a.length := by have := hp.hlen; rw [hmN] at this; omega
  have hP : partV m k = Lib.trimRightB b 48 := by
    have hs := scV_in hk
    obtain ⟨D, hD⟩ : ∃ D, D = padL k (Lib.decDigits N) := ⟨_, rfl⟩
    have hDl : D.length = max (k + 1) (Lib.decDigits N).length := by rw [hD]; exact padL_length _ _
    have e2 : partV m k = Lib.trimRightB (D.drop (D.length - k)) 48 := by unfold partV; rw [hs, hmN, hD]
    have hu := dig_unique (a.length + k) (List.replicate (a.length + k - D.length) 48 ++ D) (a ++ (b ++ List.replicate (k - b.length) 48)) (by simp; omega) hZl
      (by rw [inB_append, inB_rep, hD, padL_in]; rfl) hZi (by rw [natV_zero, hZ, hD, padL_val])
    have e3 : D.drop (D.length - k) = b ++ List.replicate (k - b.length) 48 := by
      have h1 := congrArg (List.drop a.length) hu
      rw [List.drop_left] at h1
      have h2 : (List.replicate (a.length + k - D.length) (48 : UInt8)).drop a.length = [] := List.drop_eq_nil_of_le (by rw [List.length_replicate]; omega)
      rw [← h1, List.drop_append, h2, List.nil_append]
      congr 1
      rw [List.length_replicate]; omega
    rw [e2, e3, trim_rep]
  have hPl := trim_le b
  rw [write_eq, hP]
  have hsign : (if m < 0 then ([45] : List UInt8) else []).length ≤ if minusOf l then 1 else 0 := by
    rw [hv]
    cases minusOf l with
    | true => simp only [if_true]; split <;> simp
    | false =>
      simp only [Bool.false_eq_true, if_false]
      rw [if_neg (by omega)]; simp
  generalize (if m < 0 then ([45] : List UInt8) else []) = S at hsign ⊢
  rw [List.length_append, List.length_append]
  cases dot with
  | false =>
    have hbn := (hc2 rfl).2
    have hl2 := (hc2 rfl).1
    subst hbn
    rw [if_pos (show Lib.trimRightB ([] : List UInt8) 48 = [] from rfl)]
    have : ([] : List UInt8).length = 0 := rfl
    omega
  | true =>
    have hl2 := hc1 rfl
    by_cases hb0 : Lib.trimRightB b 48 = []
    · rw [if_pos hb0]
      have : ([] : List UInt8).length = 0 := rfl
      omega
    · rw [if_neg hb0, List.length_cons]
      omega
/-- Pieces, each with a byte behind it. -/
def flat (c : UInt8) (ps : List (List UInt8)) : List UInt8 := ps.flatMap fun p => p ++ [c]
theorem flat_snoc (c : UInt8) (ps : List (List UInt8)) (p : List UInt8) : flat c (ps ++ [p]) = flat c ps ++ (p ++ [c]) := by unfold flat; simp
theorem flat_take (c : UInt8) (ps : List (List UInt8)) (i : Nat) : (flat c (ps.take i)).length ≤ (flat c ps).length := by
  have : flat c ps = flat c (ps.take i) ++ flat c (ps.drop i) := by unfold flat; rw [← List.flatMap_append, List.take_append_drop]
  rw [this]; simp
theorem flat_many (c : UInt8) : ∀ L : List (List UInt8), L.length ≤ (flat c L).length
  | [] => by simp
  | p :: L => by
    have := flat_many c L
    unfold flat at this ⊢
    rw [List.flatMap_cons]
    simp only [List.length_append, List.length_cons, List.length_nil] at this ⊢
    omega
theorem flat_pcs (c : UInt8) : ∀ l cur, flat c (pcs c cur l) = cur ++ l ++ [c]
  | [], cur => by simp [pcs, flat]
  | b :: l, cur => by
    by_cases hb : b = c
    · subst hb
      have := flat_pcs b l []
      rw [pcs_eq]
      unfold flat at this ⊢
      rw [List.flatMap_cons, this]; simp
    · rw [pcs_ne hb, flat_pcs c l]; simp
theorem joinW_snoc (c : UInt8) : ∀ (r : List (List UInt8)) (p : List UInt8), joinW c (r ++ [p]) = (if r = [] then [] else joinW c r ++ [c]) ++ p
  | [], p => rfl
  | [q], p => by simp [joinW]
  | q :: q2 :: r, p => by
    have := joinW_snoc c (q2 :: r) p
    rw [if_neg (by simp)] at this
    rw [if_neg (by simp), List.cons_append, joinW_cons c q (by simp), this, joinW_cons c q (by simp : q2 :: r ≠ [])]
    simp
theorem joinW_flat (c : UInt8) : ∀ (r : List (List UInt8)), (joinW c r).length ≤ (flat c r).length
  | [] => by simp [joinW, flat]
  | [p] => by simp [joinW, flat]
  | p :: q :: r => by
    have := joinW_flat c (q :: r)
    rw [joinW_cons _ _ (by simp)]
    unfold flat at this ⊢
    rw [List.flatMap_cons]
    simp only [List.length_append, List.length_cons, List.length_nil] at this ⊢
    omega
/-- The lines of a text, as lists of bytes; the words of a line likewise. -/
theorem lines_list (l : List UInt8) (h : linesE l = 0) : ∃ L : List (List UInt8), linesP l = L.map strOf ∧ flat 10 L = l := by
  rcases lines_end h with rfl | ⟨a, rfl, h1⟩
  · exact ⟨[], lines_nil.1, rfl⟩
  · exact ⟨pcs 10 [] a, (lines_nl a h1).1, by rw [flat_pcs]; rfl⟩
theorem words_list (l : List UInt8) : ∃ Q : List (List UInt8), wordsP l = Q.map strOf ∧ (flat 32 Q).length ≤ l.length + 1 ∧ (wordsE l = 0 → joinW 32 Q = l) := by
  by_cases hn : l = []
  · subst hn
    exact ⟨[], by unfold wordsP; simp, by simp [flat], fun _ => rfl⟩
  · by_cases ha : (pcs 32 [] l).all wordB = true
    · refine ⟨pcs 32 [] l, by unfold wordsP; rw [if_neg hn, if_pos ha], by rw [flat_pcs]; simp, fun _ => by rw [join_pcs]; rfl⟩
    · exact ⟨[], by unfold wordsP; rw [if_neg hn, if_neg ha]; rfl, by simp [flat], fun h => by unfold wordsE at h; rw [if_neg hn, if_neg ha] at h; omega⟩
theorem line_size (l : List UInt8) (L : List (List UInt8)) (h : flat 10 L = l) : ∀ p ∈ L, p.length ≤ l.length := by
  intro p hp
  obtain ⟨a, b, rfl⟩ := List.append_of_mem hp
  rw [← h]
  unfold flat
  rw [List.flatMap_append, List.flatMap_cons]
  simp only [List.length_append, List.length_cons, List.length_nil]
  omega
end Deci
end Go.Proofs.YtmegapelibaanaaDoor
