/- What round's marks say, without the program. -/
import Derived.Test.YtjhghkieghdoaaaDiffMath
namespace Go.Proofs.Ytjhghkieghdoaaa
namespace Diff
set_option linter.unusedVariables false
/-- ahead of round i: what is marked leads to an end -/
structure MarkI (S : Sys) (L : Nat → Int) (i : Nat) (M : Nat → Int) : Prop where
  mem : ∀ v, v < S.n → M v ≠ 0 → Term S L v ∧ 1 ≤ M v ∧ M v ≤ i
  low : ∀ v, v < S.n → v < i → M v ≠ 0 ∨ L v = -1
/-- on the way back from i -/
structure MarkJ (S : Sys) (L : Nat → Int) (i : Nat) (M0 M : Nat → Int) (j a : Nat) : Prop where
  pos : a = anc S L i j
  dfn : Def S L i j
  mine : ∀ v, v < S.n → M v = i + 1 → ∃ l, l < j ∧ v = anc S L i l
  all : ∀ l, l < j → M (anc S L i l) = i + 1
  old : ∀ v, v < S.n → M v ≠ i + 1 → M v = M0 v
variable {S : Sys} {K : Nat} {D L M0 M : Nat → Int} {i j a : Nat}
theorem MarkI.start (h : ∀ v, v < S.n → M v = 0) : MarkI S L 0 M := ⟨fun v hv hm => absurd (h v hv) hm, fun v _ hi => by omega⟩
theorem MarkJ.start (h : MarkI S L i M) : MarkJ S L i M M 0 i :=
  ⟨rfl, Def.zero _, fun v hv hm => by have := (h.mem v hv (by omega)).2; omega, fun l hl => by omega, fun v _ _ => rfl⟩
theorem MarkJ.lt (h : MarkJ S L i M0 M j a) (hi : Inv S K D L) (ok : S.Ok) (hn : i < S.n) : a < S.n := by rw [h.pos]; exact hi.anc_lt ok hn h.dfn
theorem MarkJ.next (h : MarkJ S L i M0 M j a) (hl : L a ≠ -1) : MarkJ S L i M0 (put M a (i + 1)) (j + 1) (S.F (L a).toNat) := by
  obtain ⟨h1, h2, h3, h4, h5⟩ := h
  refine ⟨by rw [anc, ← h1], h2.succ (by rw [← h1]; exact hl), fun v hv hm => ?_, fun l hlt => ?_, fun v hv hm => ?_⟩
  · by_cases e : v = a
    · exact ⟨j, by omega, by rw [e, h1]⟩
    · rw [put_ne _ _ e] at hm
      obtain ⟨l, h6, h7⟩ := h3 v hv hm
      exact ⟨l, by omega, h7⟩
  · by_cases e : anc S L i l = a
    · rw [e, put_at]
    · rw [put_ne _ _ e]
      refine h4 l ?_
      rcases Nat.lt_or_ge l j with h6 | h6
      · exact h6
      · obtain rfl : l = j := by omega
        exact absurd h1.symm e
  · by_cases e : v = a
    · subst e; rw [put_at] at hm; exact absurd rfl hm
    · rw [put_ne _ _ e] at hm ⊢; exact h5 v hv hm
/-- a mark of one's own is met: the way goes round -/
theorem MarkJ.found (h : MarkJ S L i M0 M j a) (ha : a < S.n) (hm : M a = i + 1) : ∃ k, 1 ≤ k ∧ Def S L a k ∧ anc S L a k = a := by
  obtain ⟨l, h1, h2⟩ := h.mine a ha hm
  refine ⟨j - l, by omega, ?_, ?_⟩
  · have := h.dfn.from (j := l) (by omega); rw [← h2] at this; exact this
  · have h3 := h.pos
    rw [show j = l + (j - l) from by omega, anc_add, ← h2] at h3
    exact h3.symm
theorem MarkJ.done (h : MarkJ S L i M0 M j a) (h0 : MarkI S L i M0) (ha : a < S.n) (hi : i < S.n) (hend : M a ≠ 0 ∨ L a = -1) (hm : M a ≠ i + 1) : MarkI S L (i + 1) M := by
  have hT : Term S L a := by
    rcases hend with e | e
    · have := h.old a ha hm
      exact (h0.mem a ha (by omega)).1
    · exact Term.mk0 e
  have hpath : ∀ l, l ≤ j → Term S L (anc S L i l) := fun l hl => by
    refine Term.back (j := j - l) (h.dfn.from hl) ?_
    rw [← anc_add, show l + (j - l) = j from by omega, ← h.pos]; exact hT
  refine ⟨fun v hv hne => ?_, fun v hv hlt => ?_⟩
  · by_cases e : M v = i + 1
    · obtain ⟨l, h1, h2⟩ := h.mine v hv e
      rw [e, h2]
      exact ⟨hpath l (by omega), by omega, by omega⟩
    · have := h.old v hv e
      obtain ⟨h1, h2, h3⟩ := h0.mem v hv (by omega)
      exact ⟨h1, by omega, by omega⟩
  · by_cases e : M v = i + 1
    · left; omega
    · have ho := h.old v hv e
      rcases Nat.lt_or_ge v i with h1 | h1
      · rw [ho]; exact h0.low v hv h1
      · obtain rfl : v = i := by omega
        rcases Nat.eq_zero_or_pos j with h2 | h2
        · subst h2
          have := h.pos
          simp only [anc] at this
          subst this
          exact hend
        · exact absurd (h.all 0 h2) e
theorem MarkI.acyc (h : MarkI S L S.n M) (ok : S.Ok) (hi : Inv S K D L) : Acyc S L := by
  refine acyc_of_term ok (fun v hv => ?_) fun v hv => ?_
  · rcases h.low v hv hv with h1 | h1
    · exact (h.mem v hv h1).1
    · exact Term.mk0 h1
  · rcases hi.last v hv with h1 | ⟨i, h1, h2, _⟩
    · exact .inl h1
    · exact .inr ⟨i, h1, h2⟩
end Diff
end Go.Proofs.Ytjhghkieghdoaaa
