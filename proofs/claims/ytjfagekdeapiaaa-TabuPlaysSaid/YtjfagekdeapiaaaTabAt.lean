/- A table in memory (a block of one cell that holds a map, or nil); rows of bans in memory; what turns. -/
import Derived.Test.YtjfagekdeapiaaaTabKey
import Derived.WalkKit
import Derived.WalkLawsBesides
import Derived.WalkSpells
import Derived.Lib.Hide
import Derived.Lib.Walk
import Derived.Lib.SliceRun
import Derived.Deep.LoopGhost
import Derived.IntWalk
import Derived.BigQuiet
import Derived.Below
import Derived.Deep.QuietTactic
import Derived.Laws.MakeOwn
namespace Go.Proofs.Ytjfagekdeapiaaa
open Go.RowKit Go.Lib
namespace Tab
set_option linter.unusedVariables false
theorem ret_int {k : IntKind} {a b : Int} (h : a = b) : Ending.returned (.int k a) = .returned (.int k b) := by rw [h]
theorem ret_bool {a b : Bool} (h : a = b) : Ending.returned (.bool a) = .returned (.bool b) := by rw [h]
theorem bcell {W w1 : World} (hb : Below W.heap.size W w1) : (∀ b o, b < W.heap.size → w1.cell? ⟨b, o, none⟩ = W.cell? ⟨b, o, none⟩) ∧ (∀ b o, b < W.heap.size → w1.frozen? ⟨b, o, none⟩ = W.frozen? ⟨b, o, none⟩) :=
  ⟨fun b o h => hb.cell (p := ⟨b, o, none⟩) h, fun b o h => hb.frozen (p := ⟨b, o, none⟩) h⟩
theorem cells_of {w : World} {b o : Nat} {v : Value} (h : w.cell? ⟨b, o, none⟩ = some v) : ∃ a t f, w.heap[b]? = some (.cells a t f) := by
  unfold World.cell? at h
  cases hb : w.heap[b]? with
  | none => simp [hb] at h
  | some x => cases x <;> simp [hb] at h ⊢
/-! ### what turns: a table and its map -/
/-- Of what was there nothing but a table and its map has turned. -/
structure Tur (T : Nat) (B : Option Nat) (w w' : World) : Prop where
  os : w'.os = w.os
  tape : w'.tape = w.tape
  output : w'.output = w.output
  size : w.heap.size ≤ w'.heap.size
  block : ∀ k, k < w.heap.size → k ≠ T → B ≠ some k → w'.heap[k]? = w.heap[k]?
section
variable {T : Nat} {B : Option Nat} {w w' w'' : World}
theorem Tur.refl (T : Nat) (B : Option Nat) (w : World) : Tur T B w w := ⟨rfl, rfl, rfl, Nat.le_refl _, fun _ _ _ _ => rfl⟩
theorem Tur.of (h : Below w.heap.size w w') : Tur T B w w' := ⟨h.os, h.tape, h.output, h.size, fun k hk _ _ => h.block k hk⟩
theorem Tur.below {N : Nat} (h : Tur T B w w') (hN : N ≤ w.heap.size) (hT : N ≤ T) (hB : ∀ b, B = some b → N ≤ b) : Below N w w' :=
  ⟨h.os, h.tape, h.output, h.size, fun k hk => h.block k (by omega) (by omega) (fun e => by have := hB k e; omega)⟩
theorem Tur.cell (h : Tur T B w w') {k o : Nat} (hk : k < w.heap.size) (h1 : k ≠ T) (h2 : B ≠ some k) : w'.cell? ⟨k, o, none⟩ = w.cell? ⟨k, o, none⟩ := World.cell?_of_block (w := w) (a := ⟨k, o, none⟩) (h.block k hk h1 h2)
theorem Tur.frozen (h : Tur T B w w') {k o : Nat} (hk : k < w.heap.size) (h1 : k ≠ T) (h2 : B ≠ some k) : w'.frozen? ⟨k, o, none⟩ = w.frozen? ⟨k, o, none⟩ := World.frozen?_of_block (w := w) (a := ⟨k, o, none⟩) (h.block k hk h1 h2)
end
/-! ### a table -/
/-- Block T is a table that forbids l; B: its map. -/
structure At (w : World) (T : Nat) (B : Option Nat) (l : List E) : Prop where
  cell : w.cell? ⟨T, 0, none⟩ = some (.map B)
  fz : w.frozen? ⟨T, 0, none⟩ = false
  nil : B = none → l = []
  map : ∀ b, B = some b → ∃ D, w.ownsMap Try.prog 51 El b l.length D ∧ Rep D l
section
variable {w w' : World} {T : Nat} {B : Option Nat} {l : List E}
theorem At.lt (h : At w T B l) : T < w.heap.size := World.block_lt_of_cell? _ _ h.cell
theorem At.blt (h : At w T B l) {b : Nat} (hb : B = some b) : b < w.heap.size := by obtain ⟨D, h1, _⟩ := h.map b hb; exact h1.lt
theorem At.isMap (h : At w T B l) {b : Nat} (hb : B = some b) : ∃ es c, w.heap[b]? = some (.map es c) := by
  obtain ⟨D, ⟨es, c, h1, _⟩, _⟩ := h.map b hb; exact ⟨es, c, h1⟩
theorem At.notCells (h : At w T B l) {k o : Nat} {v : Value} (hc : w.cell? ⟨k, o, none⟩ = some v) : B ≠ some k := fun hb => by
  obtain ⟨es, c, h1⟩ := h.isMap hb
  obtain ⟨a, t, f, h2⟩ := cells_of hc
  rw [h1] at h2; cases h2
theorem At.ne (h : At w T B l) {b : Nat} (hb : B = some b) : b ≠ T := fun e => by subst e; exact h.notCells h.cell hb
theorem At.kept (h : At w T B l) (hT : w'.heap[T]? = w.heap[T]?) (hB : ∀ b, B = some b → w'.heap[b]? = w.heap[b]?) : At w' T B l := by
  refine ⟨(World.cell?_of_block (w := w) (a := ⟨T, 0, none⟩) hT).trans h.cell, (World.frozen?_of_block (w := w) (a := ⟨T, 0, none⟩) hT).trans h.fz, h.nil, fun b hb => ?_⟩
  obtain ⟨D, ⟨es, c, h1, h2⟩, h3⟩ := h.map b hb
  exact ⟨D, ⟨es, c, (hB b hb).trans h1, h2⟩, h3⟩
theorem At.below (h : At w T B l) (hb : Below w.heap.size w w') : At w' T B l := h.kept (hb.block T h.lt) fun b e => hb.block b (h.blt e)
theorem At.tur {T' : Nat} {B' : Option Nat} {l' : List E} (h : At w T B l) (h' : At w T' B' l') (ht : Tur T' B' w w') (h1 : T ≠ T') (h2 : ∀ b, B = some b → B' ≠ some b) : At w' T B l :=
  h.kept (ht.block T h.lt h1 (h'.notCells h.cell)) fun b e => ht.block b (h.blt e) (fun c => h.notCells h'.cell (by rw [e, c])) (h2 b e)
theorem At.made (w : World) : At (w.alloc (.cells #[.map none] 26)) w.heap.size none [] :=
  ⟨by simp [go_sem], by simp, fun _ => rfl, fun b hb => by cases hb⟩
theorem At.wf (h : At w T B l) : ∀ e ∈ l, Wf e.r ∧ Wf e.t ∧ Wf e.u := by
  intro e he
  cases hB : B with
  | none => rw [h.nil hB] at he; cases he
  | some b => obtain ⟨D, _, h2⟩ := h.map b hB; exact h2.wf e he
theorem At.apart (h : At w T B l) : Apart l := by
  cases hB : B with
  | none => rw [h.nil hB]; exact List.Pairwise.nil
  | some b => obtain ⟨D, _, h2⟩ := h.map b hB; exact h2.apart
end
/-! ### rows of bans -/
def cellsL : List E → List Value
  | [] => []
  | e :: l => .int .i64 e.r :: .int .i64 e.t :: .int .i64 e.u :: cellsL l
theorem cellsL_append (l m : List E) : cellsL (l ++ m) = cellsL l ++ cellsL m := by
  induction l with
  | nil => rfl
  | cons e l ih => simp [cellsL, ih]
theorem cellsL_len (l : List E) : (cellsL l).length = l.length * 3 := by
  induction l with
  | nil => rfl
  | cons e l ih => simp [cellsL, ih]; omega
theorem cellsL_one (l : List E) : ∀ u ∈ cellsL l, u.oneCell' = true := by
  induction l with
  | nil => intro u hu; cases hu
  | cons e l ih =>
    intro u hu
    simp only [cellsL, List.mem_cons] at hu
    rcases hu with rfl | rfl | rfl | hu
    · rfl
    · rfl
    · rfl
    · exact ih u hu
theorem cellsL_at (l : List E) : ∀ j (hj : j < l.length), (cellsL l)[j * 3]? = some (.int .i64 l[j].r) ∧ (cellsL l)[j * 3 + 1]? = some (.int .i64 l[j].t) ∧ (cellsL l)[j * 3 + 2]? = some (.int .i64 l[j].u) := by
  induction l with
  | nil => intro j hj; simp at hj
  | cons e l ih =>
    intro j hj
    match j, hj with
    | 0, _ => exact ⟨rfl, rfl, rfl⟩
    | j + 1, hj =>
      have := ih j (by simpa using hj)
      simp only [cellsL, show (j + 1) * 3 = j * 3 + 1 + 1 + 1 by omega, show (j * 3 + 1 + 1 + 1 + 1) = (j * 3 + 1) + 1 + 1 + 1 by omega, show (j * 3 + 1 + 1 + 1 + 2) = (j * 3 + 2) + 1 + 1 + 1 by omega, List.getElem?_cons_succ, List.getElem_cons_succ]
      exact this
/-- a slice of bans -/
def IsL (w : World) (a : Option Addr) (l : List E) : Prop :=
  l = [] ∨ ∃ b off, a = some ⟨b, off, none⟩ ∧ b < w.heap.size ∧ l.length ≤ maxLen ∧ ∀ j (hj : j < l.length), w.cell? ⟨b, off + j * 3, none⟩ = some (.int .i64 l[j].r) ∧ w.cell? ⟨b, off + j * 3 + 1, none⟩ = some (.int .i64 l[j].t) ∧ w.cell? ⟨b, off + j * 3 + 2, none⟩ = some (.int .i64 l[j].u)
section
variable {w w' : World} {a : Option Addr} {l : List E}
theorem IsL.kept (h : IsL w a l) (hs : w.heap.size ≤ w'.heap.size) (hb : ∀ b o v, (∃ off, a = some ⟨b, off, none⟩) → w.cell? ⟨b, o, none⟩ = some v → w'.heap[b]? = w.heap[b]?) : IsL w' a l := by
  by_cases h0 : l = []
  · exact .inl h0
  rcases h with h | ⟨b, off, h1, h2, h3, h4⟩
  · exact .inl h
  · have hl : 0 < l.length := List.length_pos_iff.2 h0
    have e := hb b (off + 0 * 3) _ ⟨off, h1⟩ (h4 0 hl).1
    have c : ∀ o, w'.cell? ⟨b, o, none⟩ = w.cell? ⟨b, o, none⟩ := fun o => World.cell?_of_block (w := w) (a := ⟨b, o, none⟩) e
    exact .inr ⟨b, off, h1, by omega, h3, fun j hj => ⟨(c _).trans (h4 j hj).1, (c _).trans (h4 j hj).2.1, (c _).trans (h4 j hj).2.2⟩⟩
theorem IsL.below (h : IsL w a l) (hb : Below w.heap.size w w') : IsL w' a l :=
  h.kept hb.size fun b o v _ hc => hb.block b (World.block_lt_of_cell? _ _ hc)
theorem IsL.tur {T : Nat} {B : Option Nat} {l' : List E} (h : IsL w a l) (hA : At w T B l') (ht : Tur T B w w') (hn : ∀ x, a = some x → x.block ≠ T) : IsL w' a l :=
  h.kept ht.size fun b o v ⟨off, e⟩ hc => ht.block b (World.block_lt_of_cell? _ _ hc) (hn _ e) (hA.notCells hc)
theorem isL_own {base n : Nat} {v : Value} (h : w.ownsRow base 54 3 v n (cellsL l)) (hn : n = l.length) : ∃ a c, v = .slice a n c ∧ (∀ x, a = some x → base ≤ x.block) ∧ IsL w a l := by
  have hcl := h
  obtain ⟨h1, h2⟩ := h
  rcases h2 with ⟨h2, h3⟩ | ⟨b, c, cur, rfl, h4, h5, h6, h7, h8, h9⟩
  · subst h3
    exact ⟨none, 0, h2, (fun x hx => by cases hx), .inl (List.length_eq_zero_iff.1 hn.symm)⟩
  · have hlt : b < w.heap.size := (Array.getElem?_eq_some_iff.1 h5).1
    have hcell : ∀ j u, (cellsL l)[j]? = some u → w.cell? ⟨b, 0 + j, none⟩ = some u := fun j u hj => by
      have := hcl.cells (g := b) rfl j u hj; rwa [Go.WideShapes.add_plain] at this
    refine ⟨_, c, rfl, fun x hx => by cases hx; exact h4, .inr ⟨b, 0, rfl, hlt, by omega, fun j hj => ?_⟩⟩
    obtain ⟨r0, r1, r2⟩ := cellsL_at l j hj
    exact ⟨hcell _ _ r0, by have := hcell _ _ r1; rwa [← Nat.add_assoc] at this, by have := hcell _ _ r2; rwa [← Nat.add_assoc] at this⟩
end
end Tab
end Go.Proofs.Ytjfagekdeapiaaa
