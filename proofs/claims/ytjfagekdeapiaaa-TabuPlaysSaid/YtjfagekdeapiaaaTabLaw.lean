/- A table that the call has made, through a row of steps. -/
import Derived.Test.YtjfagekdeapiaaaTabOpen
namespace Go.Proofs.Ytjfagekdeapiaaa
open Go.RowKit Go.Lib
namespace Tab
set_option linter.unusedVariables false
/-- a table that the call has made -/
structure Tb (w : World) (T : Nat) (B : Option Nat) (l : List E) (wr : World) : Prop where
  tab : At wr T B l
  below : Below w.heap.size w wr
  hT : w.heap.size ≤ T
  hB : ∀ b, B = some b → w.heap.size ≤ b
section
variable {w wr w' : World} {T : Nat} {B B' : Option Nat} {l l' : List E}
theorem Tb.tur (h : Tb w T B l wr) (hA : At w' T B' l') (ht : Tur T B wr w') (hB : B' = B ∨ ∃ b, B' = some b ∧ (B = some b ∨ wr.heap.size ≤ b)) : Tb w T B' l' w' := by
  refine ⟨hA, h.below.trans (ht.below h.below.size h.hT h.hB), h.hT, fun b e => ?_⟩
  rcases hB with rfl | ⟨b', rfl, h1 | h1⟩
  · exact h.hB b e
  · cases e; exact h.hB b h1
  · cases e; exact Nat.le_trans h.below.size h1
theorem Tb.turSame (h : Tb w T B l wr) (hA : At w' T B l') (ht : Tur T B wr w') : Tb w T B l' w' := h.tur hA ht (.inl rfl)
theorem Tb.ban {r t u : Int} {e : Ending} (h : Tb w T B l wr) (hb : BanP T B (ban l r t u) wr e w') : ∃ B', Tb w T B' (Tab.ban l r t u) w' := by
  obtain ⟨_, ht, b, hA, hb⟩ := hb
  exact ⟨some b, h.tur hA ht (.inr ⟨b, rfl, hb⟩)⟩
theorem Tb.bel (h : Tb w T B l wr) (hb : Below wr.heap.size wr w') : Tb w T B l w' := ⟨h.tab.below hb, h.below.trans (hb.mono h.below.size), h.hT, h.hB⟩
theorem Tb.start {w1 : World} (hb : Below w.heap.size w w1) : Tb w w1.heap.size none [] (w1.alloc (.cells #[.map none] 26)) :=
  ⟨At.made w1, hb.alloc hb.size _, hb.size, fun b e => by cases e⟩
end
theorem below_alloc (w : World) (o : Obj) : Below w.heap.size w (w.alloc o) := (Below.refl _ _).alloc (Nat.le_refl _) _
/-- The cells of a block of four. -/
theorem four_cells {w : World} {x y z v : Value} {t : TypeId} : (w.alloc (.cells #[x, y, z, v] t)).cell? ⟨w.heap.size, 0, none⟩ = some x ∧ (w.alloc (.cells #[x, y, z, v] t)).cell? ⟨w.heap.size, 1, none⟩ = some y ∧
    (w.alloc (.cells #[x, y, z, v] t)).cell? ⟨w.heap.size, 2, none⟩ = some z ∧ (w.alloc (.cells #[x, y, z, v] t)).cell? ⟨w.heap.size, 3, none⟩ = some v := by
  refine ⟨?_, ?_, ?_, ?_⟩ <;> simp [go_sem]
end Tab
end Go.Proofs.Ytjfagekdeapiaaa
