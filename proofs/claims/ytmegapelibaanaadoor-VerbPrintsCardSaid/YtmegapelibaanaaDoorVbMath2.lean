/- Plain facts: a command that a line tells may be. -/
import Derived.Test.YtmegapelibaanaaDoorVbMath
namespace Go.Proofs.YtmegapelibaanaaDoor
namespace Vb
open Go Go.RowKit Deci
set_option linter.unusedVariables false
theorem read_rng {l : List UInt8} (h : readE l 0 = 0) : Rng (readV l 0) := by
  have h0 : ¬ ((0 : Int) < 0 ∨ (6 : Int) < 0) := by omega
  unfold readE at h
  unfold readV
  rw [if_neg h0] at h ⊢
  split at h
  · omega
  · rename_i h1
    rw [if_neg h1]
    split at h
    · omega
    · rename_i h2
      rw [if_neg h2]
      unfold Rng
      split <;> omega
theorem whole_rng {l : List UInt8} (h : wholeE l = 0) : Rng (wholeV l) ∧ 0 ≤ wholeV l := by
  unfold wholeE at h
  unfold wholeV
  split at h
  · omega
  · rename_i h1
    rw [if_neg h1]
    refine ⟨read_rng h, ?_⟩
    have hm : minusOf l = false := by
      unfold wholeBad at h1
      unfold minusOf
      cases hp : Lib.hasPrefix l [45] with
      | true => rw [hp] at h1; simp at h1
      | false => first | rfl | simp [hp]
    unfold readV
    rw [hm]
    split
    · omega
    · split
      · omega
      · split
        · omega
        · simp
theorem ws_rng : ∀ {ws : List ByteArray}, wsE ws = 0 → ∀ x ∈ wsV ws, Rng x ∧ 0 ≤ x
  | [], _, x, hx => by cases hx
  | s :: r, h, x, hx => by
    unfold wsE at h
    by_cases hc : wholeE s.data.toList ≠ 0
    · rw [if_pos hc] at h; exact absurd h hc
    · rw [if_neg hc] at h
      unfold wsV at hx
      rw [List.map_cons] at hx
      rcases List.mem_cons.1 hx with rfl | hx
      · exact whole_rng (by simpa using hc)
      · exact ws_rng h x hx
/-- A line's parts, if it has no error. -/
theorem line_parts {l : List UInt8} (h : lineE l = 0) : ∃ p r, wordsE l = 0 ∧ wordsP l = p :: r ∧ kindV p.data.toList ≠ 0 ∧ countE (kindV p.data.toList) r.length = 0 ∧ numE (kindV p.data.toList) r = 0 ∧ lineC l = numC (kindV p.data.toList) r := by
  unfold lineE at h
  by_cases hw : wordsE l ≠ 0
  · rw [if_pos hw] at h; exact absurd h hw
  · rw [if_neg hw] at h
    cases hp : wordsP l with
    | nil => rw [hp] at h; simp at h
    | cons p r =>
      rw [hp] at h
      simp only at h
      by_cases hk : kindV p.data.toList = 0
      · rw [if_pos hk] at h; simp at h
      · rw [if_neg hk] at h
        by_cases hc : countE (kindV p.data.toList) r.length ≠ 0
        · rw [if_pos hc] at h; exact absurd h hc
        · rw [if_neg hc] at h
          exact ⟨p, r, by simpa using hw, rfl, hk, by simpa using hc, h, by unfold lineC; rw [hp]⟩
theorem cnt_one {k m : Nat} (h : countE k m = 0) (hk : k ≠ 5) : (m : Int) = cntN k := by
  unfold countE at h
  split at h
  · omega
  · rename_i h1
    simp only [not_or, not_and, Decidable.not_not] at h1
    by_cases h2 : 0 < (m : Int) - cntN k
    · exact absurd (h1.2 h2) hk
    · omega
theorem cnt_five {m : Nat} (h : countE 5 m = 0) : 2 ≤ m ∧ m ≤ 4098 := by
  unfold countE at h
  rw [show cntN 5 = 2 from rfl] at h
  split at h
  · omega
  · rename_i h1
    split at h
    · omega
    · simp only [not_or, not_and, Decidable.not_not] at h1
      omega
/-- A command that a line tells: a load, whose text is still to come, or one that may be. -/
theorem line_ok {l : List UInt8} (h : lineE l = 0) : (∃ n, Rng n ∧ 0 ≤ n ∧ lineC l = ⟨1, n, 0, 0, [], ⟨#[]⟩⟩) ∨ ((lineC l).kind ≠ 1 ∧ Good (lineC l)) := by
  obtain ⟨p, r, -, -, hk, hc, hn, he⟩ := line_parts h
  rw [he]
  have hk7 := kind_le p.data.toList
  generalize kindV p.data.toList = k at *
  by_cases h5 : k = 5
  · subst h5
    have hl := cnt_five hc
    have hn' : wsE r = 0 := hn
    have hr := ws_rng hn'
    have hvl : (wsV r).length = r.length := by unfold wsV; simp
    have he' : numC 5 r = ⟨5, (wsV r).getD 0 0, (wsV r).getD 1 0, 0, (wsV r).drop 2, ⟨#[]⟩⟩ := rfl
    rw [he']
    refine .inr ⟨by simp, ?_⟩
    match hh : wsV r, hvl with
    | [], hv => simp at hv; omega
    | [_], hv => simp at hv; omega
    | a :: b :: ds, hv =>
      rw [hh] at hr
      refine Good.solve _ _ _ (fun x hx => hr x ?_) ?_
      · simpa using hx
      · simp at hv ⊢; omega
  have hm := cnt_one hc h5
  by_cases h4 : k = 4
  · subst h4
    have hn' : readE (hdL r) 0 = 0 := hn
    exact .inr ⟨by simp [numC], Good.tick _ (read_rng hn')⟩
  by_cases h6 : 6 ≤ k
  · have he' : numC k r = ⟨k, 0, 0, 0, [], ⟨#[]⟩⟩ := by unfold numC; rw [if_neg h4, if_neg h5, if_neg (by omega)]
    rw [he']
    exact .inr ⟨by simp; omega, Good.bare _ (by omega)⟩
  · have hn' : wholeE (hdL r) = 0 := by unfold numE at hn; rw [if_neg h4, if_neg h5, if_pos ⟨by omega, by omega⟩] at hn; exact hn
    have he' : numC k r = ⟨k, wholeV (hdL r), 0, 0, [], ⟨#[]⟩⟩ := by unfold numC; rw [if_neg h4, if_neg h5, if_pos ⟨by omega, by omega⟩]
    obtain ⟨g1, g2⟩ := whole_rng hn'
    rw [he']
    by_cases h1 : k = 1
    · subst h1
      exact .inl ⟨_, g1, g2, rfl⟩
    · exact .inr ⟨by simp; omega, Good.one _ _ (by omega) g1 g2⟩
end Vb
end Go.Proofs.YtmegapelibaanaaDoor
