/- Plain facts on lists of bytes: a list cut at one byte; where that byte stands first. -/
import Derived.Lib.Bytealg
import Derived.Lib.SplitLaws
import Derived.Lib.ItoaNum
import Derived.Lib.TrimByte
namespace Go.Proofs.YtmegapelibaanaaDoor
namespace Deci
open Go
/-- The pieces of a list, cut at each c; cur has come already. -/
def pcs (c : UInt8) : List UInt8 → List UInt8 → List (List UInt8)
  | cur, [] => [cur]
  | cur, b :: l => if b = c then cur :: pcs c [] l else pcs c (cur ++ [b]) l
theorem pcs_nil (c : UInt8) (cur : List UInt8) : pcs c cur [] = [cur] := rfl
theorem pcs_eq (c : UInt8) (cur l : List UInt8) : pcs c cur (c :: l) = cur :: pcs c [] l := by simp [pcs]
theorem pcs_ne {c b : UInt8} (h : b ≠ c) (cur l : List UInt8) : pcs c cur (b :: l) = pcs c (cur ++ [b]) l := by simp [pcs, h]
theorem pcs_ne_nil (c : UInt8) : ∀ l cur, pcs c cur l ≠ []
  | [], cur => by simp [pcs]
  | b :: l, cur => by unfold pcs; split <;> simp [pcs_ne_nil c l]
theorem pcs_miss (c : UInt8) : ∀ l cur, Lib.indexByte l c = -1 → pcs c cur l = [cur ++ l]
  | [], cur, _ => by simp [pcs]
  | b :: l, cur, h => by
    unfold Lib.indexByte at h
    have hge := Lib.indexByte_ge l c
    by_cases hb : b = c
    · simp [hb] at h
    · have hb' : (b == c) = false := by simpa using hb
      rw [hb'] at h
      have hm : Lib.indexByte l c = -1 := by
        by_cases h2 : Lib.indexByte l c = -1
        · exact h2
        · have h3 : (Lib.indexByte l c == -1) = false := by simpa using h2
          simp [h3] at h; omega
      rw [pcs_ne hb, pcs_miss c l _ hm]; simp
theorem pcs_hit (c : UInt8) : ∀ l cur (i : Nat), Lib.indexByte l c = i → pcs c cur l = (cur ++ l.take i) :: pcs c [] (l.drop (i + 1))
  | [], cur, i, h => by simp [Lib.indexByte] at h
  | b :: l, cur, i, h => by
    unfold Lib.indexByte at h
    have hge := Lib.indexByte_ge l c
    by_cases hb : b = c
    · subst hb
      obtain rfl : i = 0 := by simp at h; omega
      rw [pcs_eq]; simp
    · have hb' : (b == c) = false := by simpa using hb
      rw [hb'] at h
      by_cases h2 : Lib.indexByte l c = -1
      · simp [h2] at h
      · have h3 : (Lib.indexByte l c == -1) = false := by simpa using h2
        simp [h3] at h
        obtain ⟨j, rfl⟩ : ∃ j, i = j + 1 := ⟨i - 1, by omega⟩
        rw [pcs_ne hb, pcs_hit c l _ j (by omega)]
        simp
theorem pcs_app (c : UInt8) : ∀ a cur b, pcs c cur (a ++ c :: b) = pcs c cur a ++ pcs c [] b
  | [], cur, b => by simp [pcs]
  | x :: a, cur, b => by
    by_cases hx : x = c
    · subst hx; rw [List.cons_append, pcs_eq, pcs_app x a, pcs_eq]; rfl
    · rw [List.cons_append, pcs_ne hx, pcs_ne hx, pcs_app c a]
theorem pcs_last (c : UInt8) (a cur : List UInt8) : pcs c cur (a ++ [c]) = pcs c cur a ++ [[]] := by rw [pcs_app, pcs_nil]
theorem pcs_last_ne {c b : UInt8} (h : b ≠ c) : ∀ a cur, ∃ p q, pcs c cur (a ++ [b]) = p ++ [q] ∧ q ≠ []
  | [], cur => ⟨[], cur ++ [b], by simp [pcs, h], by simp⟩
  | x :: a, cur => by
    by_cases hx : x = c
    · subst hx
      obtain ⟨p, q, h1, h2⟩ := pcs_last_ne h a []
      exact ⟨cur :: p, q, by rw [List.cons_append, pcs_eq, h1]; rfl, h2⟩
    · obtain ⟨p, q, h1, h2⟩ := pcs_last_ne h a (cur ++ [x])
      exact ⟨p, q, by rw [List.cons_append, pcs_ne hx, h1], h2⟩
theorem pcs_length (c : UInt8) : ∀ l cur, (pcs c cur l).length ≤ l.length + 1
  | [], cur => by simp [pcs]
  | b :: l, cur => by
    unfold pcs
    split
    · have := pcs_length c l []; simp; omega
    · have := pcs_length c l (cur ++ [b]); simp; omega
theorem pcs_mem (c : UInt8) : ∀ l cur p, p ∈ pcs c cur l → p.length ≤ cur.length + l.length
  | [], cur, p, h => by simp [pcs] at h; subst h; simp
  | b :: l, cur, p, h => by
    unfold pcs at h
    split at h
    · rcases List.mem_cons.1 h with rfl | h
      · omega
      · have := pcs_mem c l [] p h; simp at this ⊢; omega
    · have := pcs_mem c l _ p h; simp at this ⊢; omega
theorem index_one (l : List UInt8) (c : UInt8) : Lib.index l [c] = Lib.indexByte l c := by
  induction l with
  | nil => simp [Lib.index, Lib.indexByte]
  | cons b l ih =>
    unfold Lib.index Lib.indexByte
    rw [ih]
    by_cases hb : b = c
    · subst hb; simp [List.isPrefixOf]
    · have h1 : (b == c) = false := by simpa using hb
      have h2 : (c == b) = false := by simpa using fun e => hb e.symm
      simp [List.isPrefixOf, h1, h2]
theorem splitK_pcs (c : UInt8) : ∀ k (l : List UInt8), Lib.count l [c] = k → Lib.splitK [c] 0 k l = pcs c [] l
  | 0, l, h => by
    have hm : Lib.index l [c] = -1 := by
      have hge := Lib.index_ge l [c]
      by_cases h2 : Lib.index l [c] = -1
      · exact h2
      · obtain ⟨i, hi⟩ : ∃ i : Nat, Lib.index l [c] = i := ⟨(Lib.index l [c]).toNat, by omega⟩
        rw [Lib.count_hit (by simp) hi] at h; omega
    rw [index_one] at hm
    rw [pcs_miss c l [] hm]; simp [Lib.splitK]
  | k + 1, l, h => by
    have hge := Lib.index_ge l [c]
    by_cases h2 : Lib.index l [c] = -1
    · rw [Lib.count_miss h2] at h; omega
    · obtain ⟨i, hi⟩ : ∃ i : Nat, Lib.index l [c] = i := ⟨(Lib.index l [c]).toNat, by omega⟩
      rw [Lib.count_hit (by simp) hi] at h
      have h3 : (Lib.index l [c] == -1) = false := by simpa using h2
      unfold Lib.splitK
      rw [h3]
      simp only [Bool.false_eq_true, if_false]
      have e : (Lib.index l [c]).toNat = i := by omega
      rw [e]
      rw [splitK_pcs c k _ (by simp at h ⊢; omega)]
      rw [index_one] at hi
      rw [pcs_hit c l [] i hi]; simp
end Deci
end Go.Proofs.YtmegapelibaanaaDoor
