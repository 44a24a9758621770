/- How a plan that came in is opened. -/
import Derived.Test.YtkggahoadeeajaaGreatDoorFilLaw
import Derived.Deep.Slices
import Derived.Deep.Fields
import Derived.ChangeOld
import Derived.RowKit
import Derived.ProofKit
import Derived.ShutString
import Derived.OpenShut
import Derived.Lib.SmallJoins
namespace Go.Proofs.YtkggahoadeeajaaGreatDoor
open Go.ChangeShapes Go.WideShapes Go.ChangeAt Go.RowKit Go.Deep
namespace Fil
set_option linter.unusedVariables false
theorem cellsInt : Tryz.prog.cellsOf 3 = 1 := by kernel_rfl
theorem cellsLong : Tryz.prog.cellsOf 2 = 1 := by kernel_rfl
theorem cellsInts : Tryz.prog.cellsOf 25 = 1 := by kernel_rfl
theorem cellsLongs : Tryz.prog.cellsOf 55 = 1 := by kernel_rfl
theorem cellsPlan : Tryz.prog.cellsOf 27 = 4 := by kernel_rfl
theorem list_of {α : Type} {P : Nat → α → Prop} : ∀ {n : Nat}, (∀ j, j < n → ∃ x, P j x) → ∃ xs : List α, xs.length = n ∧ ∀ j (hj : j < xs.length), P j xs[j]
  | 0, _ => ⟨[], rfl, fun j hj => absurd hj (by simp)⟩
  | n + 1, h => by
    obtain ⟨xs, h1, h2⟩ := list_of (n := n) fun j hj => h j (by omega)
    obtain ⟨x, hx⟩ := h n (by omega)
    refine ⟨xs ++ [x], by simp [h1], fun j hj => ?_⟩
    by_cases hlt : j < xs.length
    · rw [List.getElem_append_left hlt]; exact h2 j hlt
    · obtain rfl : j = xs.length := by simp at hj; omega
      rw [List.getElem_append_right (Nat.le_refl _)]; subst h1; simpa using hx
theorem w64_of {u : Int} (h : (Lit.int .i64 u).wf = true) : W64 u := by simp [Lit.wf] at h; exact h
section
variable {H : Type} {enc : TypeId × Value → H} {w : World} {spare : Nat → Bool} {held : Bool} {t l e : TypeId} {fuel : Nat} {v : Value} {y : DataW H × List MemPlace}
theorem isRow_open (ht : Tryz.prog.underlying t = some (.slice l)) (ul : Tryz.prog.underlying l = some (.int .i64)) (cl : Tryz.prog.cellsOf l = 1)
    (h : DataW.trod enc Tryz.prog w 0 spare held fuel t [v] = some y) : ∃ xs, IsRow w v xs ∧ (∀ x ∈ xs, W64 x) ∧ xs.length ≤ maxLen := by
  rcases open_slice ht h with ⟨hcs, _⟩ | ⟨x, lx, cx, m, n, DD, Pl, hcs, _, hl, hm, hmm, _, hel⟩
  · injection hcs with hv _
    exact ⟨[], by rw [hv]; exact isRow_nil w, by simp, by simp⟩
  · injection hcs with hv _
    subst hv
    have hlm : lx ≤ m := by rw [hmm]; split <;> omega
    rcases Nat.eq_zero_or_pos lx with h0 | h0
    · subst h0; exact ⟨[], ⟨_, _, rfl, Nat.zero_le _, .inl rfl⟩, by simp, by simp⟩
    obtain ⟨b, off, sp⟩ := x
    have key : ∀ j, j < lx → ∃ u, w.cell? (((⟨b, off, sp⟩ : Addr).add (j * 1)).add 0) = some (.int .i64 u) ∧ W64 u := fun j hj => by
      obtain ⟨cs, hc, hr⟩ := hel j (by omega)
      rw [cl] at hc
      obtain ⟨_, hcl, hat⟩ := World.cells?_some hc
      match cs, hcl with
      | [c0], _ =>
        obtain ⟨u, hu, _, wu⟩ := DataW.trod_int ul hr
        simp only [List.cons.injEq, and_true] at hu
        exact ⟨u, by rw [hat 0 (by omega), ← hu]; rfl, w64_of wu⟩
    obtain ⟨u, k0, _⟩ := key 0 h0
    have hsp : sp = none := by simpa [Addr.add] using World.cell?_spot k0
    subst hsp
    obtain ⟨X, hX, hx⟩ := list_of key
    subst hX
    refine ⟨X, ⟨_, _, rfl, hl, .inr ⟨b, off, rfl, by simpa [Addr.add] using World.block_lt_of_cell? _ _ k0, fun j hj => ?_⟩⟩, fun z hz => ?_, by omega⟩
    · have h3 := (hx j hj).1
      rw [Go.WideShapes.add_plain, Go.WideShapes.add_plain, Nat.mul_one] at h3
      exact h3
    · obtain ⟨j, hj, rfl⟩ := List.getElem_of_mem hz
      exact (hx j hj).2
theorem isRows_open (ht : Tryz.prog.underlying t = some (.slice e)) (he : Tryz.prog.underlying e = some (.slice l)) (ce : Tryz.prog.cellsOf e = 1) (ul : Tryz.prog.underlying l = some (.int .i64)) (cl : Tryz.prog.cellsOf l = 1)
    (h : DataW.trod enc Tryz.prog w 0 spare held fuel t [v] = some y) : ∃ rs, IsRows w v rs ∧ (∀ r ∈ rs, ∀ x ∈ r, W64 x) ∧ rs.length ≤ maxLen ∧ ∀ r ∈ rs, r.length ≤ maxLen := by
  rcases open_slice ht h with ⟨hcs, _⟩ | ⟨x, lx, cx, m, n, DD, Pl, hcs, _, hl, hm, hmm, _, hel⟩
  · injection hcs with hv _
    exact ⟨[], by rw [hv]; exact isRows_nil w, by simp, by simp, by simp⟩
  · injection hcs with hv _
    subst hv
    have hlm : lx ≤ m := by rw [hmm]; split <;> omega
    rcases Nat.eq_zero_or_pos lx with h0 | h0
    · subst h0; exact ⟨[], ⟨_, _, rfl, Nat.zero_le _, .inl rfl⟩, by simp, by simp, by simp⟩
    obtain ⟨b, off, sp⟩ := x
    have key : ∀ j, j < lx → ∃ r u, w.cell? (((⟨b, off, sp⟩ : Addr).add (j * 1)).add 0) = some u ∧ IsRow w u r ∧ (∀ x ∈ r, W64 x) ∧ r.length ≤ maxLen := fun j hj => by
      obtain ⟨cs, hc, hr⟩ := hel j (by omega)
      rw [ce] at hc
      obtain ⟨_, hcl, hat⟩ := World.cells?_some hc
      match cs, hcl with
      | [c0], _ =>
        obtain ⟨r, h1, h2, h3⟩ := isRow_open he ul cl hr
        exact ⟨r, c0, by rw [hat 0 (by omega)]; rfl, h1, h2, h3⟩
    obtain ⟨r, u, k0, _⟩ := key 0 h0
    have hsp : sp = none := by simpa [Addr.add] using World.cell?_spot k0
    subst hsp
    obtain ⟨X, hX, hx⟩ := list_of key
    subst hX
    refine ⟨X, ⟨_, _, rfl, hl, .inr ⟨b, off, rfl, by simpa [Addr.add] using World.block_lt_of_cell? _ _ k0, fun j hj => ?_⟩⟩, fun z hz => ?_, by omega, fun z hz => ?_⟩
    · obtain ⟨u, h3, h4, _⟩ := hx j hj
      rw [Go.WideShapes.add_plain, Go.WideShapes.add_plain, Nat.mul_one] at h3
      exact ⟨u, h3, h4⟩
    · obtain ⟨j, hj, rfl⟩ := List.getElem_of_mem hz
      exact (hx j hj).choose_spec.2.2.1
    · obtain ⟨j, hj, rfl⟩ := List.getElem_of_mem hz
      exact (hx j hj).choose_spec.2.2.2
end
/-- A plan that came in: what it is, its numbers, its lengths. -/
structure Came (w : World) (v : Value) (p : PL) : Prop where
  is : IsPlan w v p
  n1 : ∀ r ∈ p.routes, ∀ x ∈ r, W64 x
  n2 : ∀ r ∈ p.times, ∀ x ∈ r, W64 x
  n3 : ∀ x ∈ p.left, W64 x
  n4 : W64 p.cost
  l1 : p.routes.length ≤ maxLen
  l2 : p.times.length ≤ maxLen
  l3 : p.left.length ≤ maxLen
  l4 : ∀ r ∈ p.routes, r.length ≤ maxLen
  l5 : ∀ r ∈ p.times, r.length ≤ maxLen
set_option maxRecDepth 100000 in
theorem plan_open {H : Type} {enc : TypeId × Value → H} {w : World} {spare : Nat → Bool} {held : Bool} {r : Reach} {b0 : Nat} {v : Value} {d : DataW H} {q : List MemPlace}
    (hv : Value.okWide Tryz.prog w r b0 27 v) (h : DataW.Trod enc Tryz.prog w 0 spare held 27 v d q) : ∃ p, Came w v p := by
  obtain ⟨v0, v1, v2, v3, y0, y1, y2, y3, n, rfl, _, _, h0, h1, h2, h3⟩ := Go.Joins.open_agg4 Tryz.underlying27 (by kernel_rfl) cellsPlan hv h
  obtain ⟨rs, a1, a2, a3, a4⟩ := isRows_open Tryz.underlying23 Tryz.underlying25 cellsInts Tryz.underlying3 cellsInt h0
  obtain ⟨ts, b1, b2, b3, b4⟩ := isRows_open Tryz.underlying24 Tryz.underlying55 cellsLongs Tryz.underlying2 cellsLong h1
  obtain ⟨ls, c1, c2, c3⟩ := isRow_open Tryz.underlying25 Tryz.underlying3 cellsInt h2
  obtain ⟨c, hc, _, wc⟩ := DataW.trod_int Tryz.underlying2 h3
  simp only [List.cons.injEq, and_true] at hc
  subst hc
  exact ⟨⟨rs, ts, ls, c⟩, ⟨v0, v1, v2, rfl, a1, b1, c1⟩, a2, b2, c2, w64_of wc, a3, b3, c3, a4, b4⟩
end Fil
end Go.Proofs.YtkggahoadeeajaaGreatDoor
