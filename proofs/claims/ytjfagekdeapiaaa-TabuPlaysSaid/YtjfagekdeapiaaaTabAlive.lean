/- The document's example (alive), over the translated program. -/
import Derived.Test.YtjfagekdeapiaaaTabBan
import Derived.Test.YtjfagekdeapiaaaTabRef
import Derived.Test.YtjfagekdeapiaaaTabW
namespace Go.Proofs.Ytjfagekdeapiaaa
open Go.RowKit Go.Lib
namespace Tab
set_option linter.unusedVariables false
theorem Wt.tur {w w' : World} {V T : Nat} {B : Option Nat} {l : List E} {x : Int} (h : Wt w V x) (hA : At w T B l) (ht : Tur T B w w') (hn : V ≠ T) : Wt w' V x := by
  have hlt := World.block_lt_of_cell? _ _ h.cell
  have hb := hA.notCells h.cell
  exact ⟨(ht.cell hlt hn hb).trans h.cell, (ht.frozen hlt hn hb).trans h.fz, h.ok⟩
theorem At.set {w : World} {V T : Nat} {B : Option Nat} {l : List E} {v u : Value} (h : At w T B l) (hV : w.cell? ⟨V, 0, none⟩ = some v) (hn : V ≠ T) : At (w.setCell ⟨V, 0, none⟩ u) T B l :=
  h.kept (Below.heap_setCell w ⟨V, 0, none⟩ u T (by simpa using (Ne.symm hn))) fun b e => Below.heap_setCell w ⟨V, 0, none⟩ u b (by intro hc; simp at hc; subst hc; exact h.notCells hV e)
/-- a table and a weight that the call has made -/
structure St (w : World) (T V : Nat) (B : Option Nat) (l : List E) (x : Int) (wr : World) : Prop where
  tab : At wr T B l
  wt : Wt wr V x
  below : Below w.heap.size w wr
  hT : w.heap.size ≤ T
  hV : w.heap.size ≤ V
  hB : ∀ b, B = some b → w.heap.size ≤ b
  ne : V ≠ T
section
variable {w wr w' : World} {T V : Nat} {B B' : Option Nat} {l l' : List E} {x y : Int}
theorem St.tur (h : St w T V B l x wr) (hA : At w' T B' l') (ht : Tur T B wr w') (hB : B' = B ∨ ∃ b, B' = some b ∧ (B = some b ∨ wr.heap.size ≤ b)) : St w T V B' l' x w' := by
  refine ⟨hA, h.wt.tur h.tab ht h.ne, h.below.trans (ht.below h.below.size h.hT h.hB), h.hT, h.hV, fun b e => ?_, h.ne⟩
  rcases hB with rfl | ⟨b', rfl, h1 | h1⟩
  · exact h.hB b e
  · cases e; exact h.hB b h1
  · cases e; exact Nat.le_trans h.below.size h1
theorem St.turSame (h : St w T V B l x wr) (hA : At w' T B l') (ht : Tur T B wr w') : St w T V B l' x w' := h.tur hA ht (.inl rfl)
theorem St.bel (h : St w T V B l x wr) (hb : Below wr.heap.size wr w') : St w T V B l x w' := ⟨h.tab.below hb, h.wt.below hb, h.below.trans (hb.mono h.below.size), h.hT, h.hV, h.hB, h.ne⟩
theorem St.set (h : St w T V B l x wr) (hy : 1 ≤ y ∧ y ≤ 1000000) : St w T V B l y (wr.setCell ⟨V, 0, none⟩ (.int .i64 (y - 1000))) :=
  ⟨h.tab.set h.wt.cell h.ne, h.wt.set hy, h.below.setCell (p := ⟨V, 0, none⟩) h.hV _, h.hT, h.hV, h.hB, h.ne⟩
end
theorem St.start (w : World) : St w w.heap.size (w.heap.size + 1) none [] 1000 ((w.alloc (.cells #[.map none] 26)).alloc (.cells #[.int .i64 0] 39)) := by
  have hb : Below (w.alloc (.cells #[.map none] 26)).heap.size (w.alloc (.cells #[.map none] 26)) ((w.alloc (.cells #[.map none] 26)).alloc (.cells #[.int .i64 0] 39)) := (Below.refl _ _).alloc (Nat.le_refl _) _
  refine ⟨(At.made w).below hb, ?_, ((Below.refl _ _).alloc (Nat.le_refl _) _).trans (hb.mono (by simp)), Nat.le_refl _, by omega, (fun b e => by cases e), by omega⟩
  have := Wt.made (w.alloc (.cells #[.map none] 26))
  rw [World.size_alloc] at this
  exact this
set_option maxHeartbeats 2000000 in
theorem alive_any (w : World) : Calls Try.prog 8 #[] w fun e w' => e = .returned (.bool true) ∧ Below w.heap.size w w' := by
  have S0 := Lib.hid (St.start w)
  go_enter Try.func8, Try.ntmps8
  go_wp2_with fail
  refine (sweep_any _ none [] 3 _ S0.out.tab (by simp)).mono ?_
  rintro e w1 ⟨rfl, hA, ht⟩
  have S1 := Lib.hid (S0.out.turSame hA ht)
  clear hA ht
  rw [show ((List.length ([] : List E) : Int) - ((live 3 []).length : Int)) = 0 from rfl]
  go_wp2_with fail
  refine (ban_any _ none _ 1 0 5 _ S1.out.tab (by simp [live]) (by decide) (by decide) (by decide)).mono ?_
  rintro e w2 ⟨rfl, ht, b, hA, hb⟩
  have S2 := Lib.hid (S1.out.tur hA ht (.inr ⟨b, rfl, hb⟩))
  clear hA ht hb
  rw [show ban (live 3 []) 1 0 5 = [⟨1, 0, 5⟩] from rfl] at S2
  go_wp2_with fail
  refine (is_any _ _ _ 1 0 4 _ S2.out.tab (by decide) (by decide)).mono ?_
  rintro e w3 ⟨rfl, rfl⟩
  rw [show isB [⟨1, 0, 5⟩] 1 0 4 = true from rfl]
  go_wp2_with fail
  refine (is_any _ _ _ 1 0 5 _ S2.out.tab (by decide) (by decide)).mono ?_
  rintro e w3 ⟨rfl, rfl⟩
  rw [show isB [⟨1, 0, 5⟩] 1 0 5 = false from rfl]
  go_wp2_with fail
  refine (count_any _ _ _ 4 _ S2.out.tab (by simp)).mono ?_
  rintro e w3 ⟨rfl, hb⟩
  have S3 := Lib.hid (S2.out.bel hb)
  clear hb
  rw [show ((live 4 [⟨1, 0, 5⟩]).length : Int) = 1 from rfl]
  go_wp2_with fail
  refine (sweep_any _ _ _ 5 _ S3.out.tab (by simp)).mono ?_
  rintro e w4 ⟨rfl, hA, ht⟩
  have S4 := Lib.hid (S3.out.turSame hA ht)
  clear hA ht
  rw [show ((List.length ([⟨1, 0, 5⟩] : List E) : Int) - ((live 5 [⟨1, 0, 5⟩]).length : Int)) = 1 from rfl]
  rw [show live 5 [⟨1, 0, 5⟩] = [] from rfl] at S4
  go_wp2_with fail
  refine (value_any _ 1000 _ S4.out.wt).mono ?_
  rintro e w5 ⟨rfl, rfl⟩
  go_wp2_with fail
  refine (turn_any _ 1000 true _ S4.out.wt).mono ?_
  rintro e w5 ⟨rfl, hw⟩
  have S5 := Lib.hid (show St w w.heap.size (w.heap.size + 1) (some b) [] (turnV 1000 true) w5 by rw [hw]; exact S4.out.set (by decide))
  clear hw
  rw [show turnV 1000 true = 666 from rfl] at S5 ⊢
  go_wp2_with fail
  refine (turn_any _ 666 false _ S5.out.wt).mono ?_
  rintro e w6 ⟨rfl, hw⟩
  have S6 := Lib.hid (show St w w.heap.size (w.heap.size + 1) (some b) [] (turnV 666 false) w6 by rw [hw]; exact S5.out.set (by decide))
  clear hw
  rw [show turnV 666 false = 1000 from rfl] at S6 ⊢
  go_wp2_with fail
  refine (count_any _ _ _ 0 _ S6.out.tab (by simp)).mono ?_
  rintro e w7 ⟨rfl, hb⟩
  have S7 := Lib.hid (S6.out.bel hb)
  clear hb
  rw [show ((live 0 ([] : List E)).length : Int) = 0 from rfl]
  go_wp2_with fail
  refine (of_any _ 1000 2 (-1) _ S7.out.wt).mono ?_
  rintro e w8 ⟨rfl, rfl⟩
  rw [show (1000 : Int) * (heldV 2 0 1048576 + heldV (-1) 0 1048576) = 2000 from rfl]
  go_wp2_with fail
  go_ret
  exact ⟨rfl, S7.out.below⟩
end Tab
end Go.Proofs.Ytjfagekdeapiaaa
