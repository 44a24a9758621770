/- Plain facts: the lines and the words of a text and of another one behind it; put together again. What a slice's own row is behind later calls. -/
import Derived.Test.YtmegapelibaanaaDoorDeciLines
import Derived.Test.YtmegapelibaanaaDoorDeciWords
import Derived.Laws.AppendOwn
import Derived.Laws.AppendOwnNone
namespace Go.Proofs.YtmegapelibaanaaDoor
namespace Deci
open Go Go.RowKit
theorem getLast_app {α : Type} (a : List α) {b : List α} (h : b ≠ []) : (a ++ b).getLast? = b.getLast? := by
  rw [List.getLast?_append]
  cases hb : b.getLast? with
  | none => exact absurd (List.getLast?_eq_none_iff.1 hb) h
  | some x => rfl
theorem dropLast_app {α : Type} (a : List α) {b : List α} (h : b ≠ []) : (a ++ b).dropLast = a ++ b.dropLast := List.dropLast_append_of_ne_nil h
theorem lines_end {l : List UInt8} (h : linesE l = 0) : l = [] ∨ ∃ a, l = a ++ [10] ∧ a.length + 1 ≤ 1048576 := by
  by_cases hl : 1048576 < l.length
  · have := (lines_long hl).2; omega
  · rcases snoc_cases l with h1 | ⟨a, b, rfl⟩
    · exact .inl h1
    · by_cases hb : b = 10
      · subst hb; exact .inr ⟨a, rfl, by simp at hl; omega⟩
      · have := (lines_ne a b hb (by simp at hl; omega)).2; omega
/-- The lines of a text of lines, and of another text behind it. -/
theorem lines_both (a b : List UInt8) (ha : linesE a = 0) (hl : a.length + b.length ≤ 1048576) : linesE (a ++ b) = linesE b ∧ (linesE b = 0 → linesP (a ++ b) = linesP a ++ linesP b) := by
  rcases lines_end ha with rfl | ⟨a', rfl, h1⟩
  · rw [List.nil_append]; exact ⟨rfl, fun _ => by rw [lines_nil.1]; rfl⟩
  · have hn := pcs_ne_nil 10 b []
    have e : pcs 10 [] (a' ++ [10] ++ b) = pcs 10 [] a' ++ pcs 10 [] b := by rw [List.append_assoc]; exact pcs_app 10 a' [] b
    have l1 : ¬ 1048576 < (a' ++ [10] ++ b).length := by simp at hl ⊢; omega
    have l2 : ¬ 1048576 < b.length := by simp at hl ⊢; omega
    refine ⟨?_, fun hb => ?_⟩
    · unfold linesE; rw [if_neg l1, if_neg l2, e, getLast_app _ hn]
    · rw [(lines_nl a' h1).1]
      have hb' : (pcs 10 [] b).getLast? = some [] := by
        unfold linesE at hb
        rw [if_neg l2] at hb
        refine Decidable.byContradiction fun h => ?_
        rw [if_neg h] at hb; omega
      unfold linesP
      rw [if_neg l1, if_neg l2, e, getLast_app _ hn, if_pos hb', if_pos hb', dropLast_app _ hn, List.map_append]
theorem words_zero (l : List UInt8) : wordsE l = 0 ↔ (l = [] ∨ (pcs 32 [] l).all wordB = true) := by
  unfold wordsE
  by_cases h : l = []
  · rw [if_pos h]; simp [h]
  · rw [if_neg h]
    cases hA : (pcs 32 [] l).all wordB <;> simp [h]
theorem words_len (l : List UInt8) (h : wordsE l = 0) : (wordsP l).length = 0 ↔ l = [] := by
  unfold wordsP
  by_cases hn : l = []
  · rw [if_pos hn]; simp [hn]
  · rw [if_neg hn]
    rcases (words_zero l).1 h with h1 | h1
    · exact absurd h1 hn
    · rw [if_pos h1]
      have := pcs_ne_nil 32 l []
      constructor
      · intro h2; exact absurd (List.eq_nil_of_length_eq_zero (by simpa using h2)) this
      · intro h2; exact absurd h2 hn
/-- The words of two lines with a blank between. -/
theorem words_both (a b : List UInt8) : (wordsE a = 0 ∧ wordsE b = 0 ∧ (wordsP a).length ≠ 0 ∧ (wordsP b).length ≠ 0 → wordsE (a ++ [32] ++ b) = 0 ∧ wordsP (a ++ [32] ++ b) = wordsP a ++ wordsP b) ∧
    (¬ (wordsE a = 0 ∧ wordsE b = 0 ∧ (wordsP a).length ≠ 0 ∧ (wordsP b).length ≠ 0) → wordsE (a ++ [32] ++ b) = 21) := by
  have e : pcs 32 [] (a ++ [32] ++ b) = pcs 32 [] a ++ pcs 32 [] b := by rw [List.append_assoc]; exact pcs_app 32 a [] b
  have hn : a ++ [32] ++ b ≠ [] := by simp
  refine ⟨fun ⟨h1, h2, h3, h4⟩ => ?_, fun h => ?_⟩
  · have a1 : a ≠ [] := fun h => h3 ((words_len a h1).2 h)
    have b1 : b ≠ [] := fun h => h4 ((words_len b h2).2 h)
    have a2 := ((words_zero a).1 h1).resolve_left a1
    have b2 := ((words_zero b).1 h2).resolve_left b1
    have hall : (pcs 32 [] (a ++ [32] ++ b)).all wordB = true := by rw [e, List.all_append, a2, b2]; rfl
    refine ⟨(words_zero _).2 (.inr hall), ?_⟩
    unfold wordsP
    rw [if_neg hn, if_pos hall, if_neg a1, if_pos a2, if_neg b1, if_pos b2, e, List.map_append]
  · have hall : (pcs 32 [] (a ++ [32] ++ b)).all wordB = false := by
      rw [Bool.eq_false_iff]
      intro hc
      rw [e, List.all_append, Bool.and_eq_true] at hc
      obtain ⟨a2, b2⟩ := hc
      have a1 : a ≠ [] := by rintro rfl; simp [pcs, wordB] at a2
      have b1 : b ≠ [] := by rintro rfl; simp [pcs, wordB] at b2
      have h1 := (words_zero a).2 (.inr a2)
      have h2 := (words_zero b).2 (.inr b2)
      exact h ⟨h1, h2, fun h5 => a1 ((words_len a h1).1 h5), fun h5 => b1 ((words_len b h2).1 h5)⟩
    unfold wordsE
    rw [if_neg hn, if_neg (by rw [hall]; simp)]
theorem row_below {w w' : World} {base : Nat} {e : TypeId} {v : Value} {n : Nat} {xs : List Value} (h : w.ownsRow base e 1 v n xs) (hb : Below w.heap.size w w') : w'.ownsRow base e 1 v n xs := by
  obtain ⟨h1, h2⟩ := h
  refine ⟨h1, h2.imp id ?_⟩
  rintro ⟨g, cap, cur, a, c, d, r⟩
  exact ⟨g, cap, cur, a, c, by rw [hb.block g (Array.getElem?_eq_some_iff.1 d).1]; exact d, r⟩
/-- Words put together with blanks, lines with their ends. -/
def joinW (c : UInt8) : List (List UInt8) → List UInt8
  | [] => []
  | [p] => p
  | p :: q :: r => p ++ c :: joinW c (q :: r)
theorem joinW_cons (c : UInt8) (p : List UInt8) {r : List (List UInt8)} (h : r ≠ []) : joinW c (p :: r) = p ++ c :: joinW c r := by
  cases r with
  | nil => exact absurd rfl h
  | cons q r => rfl
theorem join_pcs (c : UInt8) : ∀ l cur, joinW c (pcs c cur l) = cur ++ l
  | [], cur => by simp [pcs, joinW]
  | b :: l, cur => by
    by_cases hb : b = c
    · subst hb
      rw [pcs_eq, joinW_cons _ _ (pcs_ne_nil _ _ _), join_pcs _ l []]; rfl
    · rw [pcs_ne hb, join_pcs c l]; simp
/-- Lines, each with its end. -/
def joinL (ps : List (List UInt8)) : List UInt8 := ps.flatMap fun p => p ++ [10]
theorem joinL_pcs : ∀ l cur, joinL (pcs 10 cur l) = cur ++ l ++ [10]
  | [], cur => by simp [pcs, joinL]
  | b :: l, cur => by
    by_cases hb : b = 10
    · subst hb
      have := joinL_pcs l []
      rw [pcs_eq]
      unfold joinL at this ⊢
      rw [List.flatMap_cons, this]; simp
    · rw [pcs_ne hb, joinL_pcs l]; simp

theorem row_lt {w : World} {base : Nat} {e : TypeId} {v : Value} {n : Nat} {xs : List Value} (h : w.ownsRow base e 1 v n xs) {j : Nat} (hj : v.ownBlock = some j) : j < w.heap.size := by
  rcases h.2 with ⟨rfl, _⟩ | ⟨g, cap, cur, rfl, _, hg, _⟩
  · simp [Value.ownBlock] at hj
  · have : g = j := by simpa [Value.ownBlock] using hj
    subst this; exact (Array.getElem?_eq_some_iff.1 hg).1
/-- A row lies on where another slice's row has grown that was there before it. -/
theorem row_apart {w w1 : World} {b : Nat} {e : TypeId} {v v1 : Value} {n : Nat} {xs : List Value} (h : w.ownsRow b e 1 v n xs) (hg : w.grownBy w1 v1.ownBlock) (hlt : ∀ j, v1.ownBlock = some j → j < b) : w1.ownsRow b e 1 v n xs := by
  refine h.kept hg ?_
  rcases h.2 with ⟨rfl, _⟩ | ⟨g, cap, cur, rfl, hb, _⟩
  · exact .inl rfl
  · refine .inr fun e' => ?_
    have := hlt g (e'.symm.trans rfl)
    omega
theorem below_grew {w wr w1 : World} {B b : Nat} {e : TypeId} {v : Value} {k : Nat} {xs : List Value} (hB : Below B w wr) (hs : B ≤ wr.heap.size) (hb : B ≤ b) (hrow : wr.ownsRow b e 1 v k xs) (hgrow : wr.grownBy w1 v.ownBlock) : Below B w w1 := by
  refine hB.grown hgrow hs fun j ej => ?_
  rcases Nat.lt_or_ge j B with h | h
  · exact absurd ej.symm (row_ne hrow (by omega))
  · exact h
end Deci
end Go.Proofs.YtmegapelibaanaaDoor
