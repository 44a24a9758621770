/- How commands that came in are opened. -/
import Derived.Test.YtmegapelibaanaaDoorVbA
import Derived.Deep.Slices
import Derived.Deep.Fields
import Derived.ChangeOld
import Derived.RowKit
import Derived.ProofKit
import Derived.ShutString
import Derived.OpenShut
import Derived.Lib.SmallJoins
namespace Go.Proofs.YtmegapelibaanaaDoor
open Go.ChangeShapes Go.WideShapes Go.ChangeAt Go.RowKit Go.Deep Go.Joins
namespace Vb
set_option linter.unusedVariables false
theorem cellsInt : Tryd.prog.cellsOf 3 = 1 := by kernel_rfl
theorem cellsLong : Tryd.prog.cellsOf 2 = 1 := by kernel_rfl
theorem cellsInts : Tryd.prog.cellsOf 35 = 1 := by kernel_rfl
theorem cellsStr : Tryd.prog.cellsOf 9 = 1 := by kernel_rfl
theorem cellsCmd : Tryd.prog.cellsOf 37 = 6 := by kernel_rfl
theorem list_of {α : Type} {P : Nat → α → Prop} : ∀ {n : Nat}, (∀ j, j < n → ∃ x, P j x) → ∃ xs : List α, xs.length = n ∧ ∀ j (hj : j < xs.length), P j xs[j]
  | 0, _ => ⟨[], rfl, fun j hj => absurd hj (by simp)⟩
  | n + 1, h => by
    obtain ⟨xs, h1, h2⟩ := list_of (n := n) fun j hj => h j (by omega)
    obtain ⟨x, hx⟩ := h n (by omega)
    refine ⟨xs ++ [x], by simp [h1], fun j hj => ?_⟩
    by_cases hlt : j < xs.length
    · rw [List.getElem_append_left hlt]; exact h2 j hlt
    · obtain rfl : j = xs.length := by simp at hj; omega
      rw [List.getElem_append_right (Nat.le_refl _)]; subst h1; simpa using hx
section
variable {H : Type} {enc : TypeId × Value → H} {w : World} {spare : Nat → Bool} {held : Bool} {t l e : TypeId} {fuel : Nat} {v : Value} {y : DataW H × List MemPlace}
theorem isXs_open (ht : Tryd.prog.underlying t = some (.slice l)) (ul : Tryd.prog.underlying l = some (.int .i64)) (cl : Tryd.prog.cellsOf l = 1)
    (h : DataW.trod enc Tryd.prog w 0 spare held fuel t [v] = some y) : ∃ xs, IsXs w v xs ∧ xs.length ≤ maxLen := by
  rcases open_slice ht h with ⟨hcs, _⟩ | ⟨x, lx, cx, m, n, DD, Pl, hcs, _, hl, hm, hmm, _, hel⟩
  · injection hcs with hv _
    exact ⟨[], by rw [hv]; exact isXs_nil w, by simp⟩
  · injection hcs with hv _
    subst hv
    have hlm : lx ≤ m := by rw [hmm]; split <;> omega
    rcases Nat.eq_zero_or_pos lx with h0 | h0
    · subst h0; exact ⟨[], ⟨_, _, rfl, Nat.zero_le _, by simp, .inl rfl⟩, by simp⟩
    obtain ⟨b, off, sp⟩ := x
    have key : ∀ j, j < lx → ∃ u, w.cell? (((⟨b, off, sp⟩ : Addr).add (j * 1)).add 0) = some (.int .i64 u) ∧ True := fun j hj => by
      obtain ⟨cs, hc, hr⟩ := hel j (by omega)
      rw [cl] at hc
      obtain ⟨_, hcl, hat⟩ := World.cells?_some hc
      match cs, hcl with
      | [c0], _ =>
        obtain ⟨u, hu, _, wu⟩ := DataW.trod_int ul hr
        simp only [List.cons.injEq, and_true] at hu
        exact ⟨u, by rw [hat 0 (by omega), ← hu]; rfl, trivial⟩
    obtain ⟨u, k0, _⟩ := key 0 h0
    have hsp : sp = none := by simpa [Addr.add] using World.cell?_spot k0
    subst hsp
    obtain ⟨X, hX, hx⟩ := list_of key
    subst hX
    refine ⟨X, ⟨_, _, rfl, hl, by simp, .inr ⟨b, off, rfl, by simpa [Addr.add] using World.block_lt_of_cell? _ _ k0, fun j hj => ?_⟩⟩, by omega⟩
    have h3 := (hx j hj).1
    rw [Go.WideShapes.add_plain, Go.WideShapes.add_plain, Nat.mul_one] at h3
    exact h3
end
/-- Commands that came in. -/
structure Came (w : World) (v : Value) (L : List CM) : Prop where
  is : IsCm w v L
  len : L.length ≤ maxLen
  txt : ∀ c ∈ L, c.text.size ≤ maxLen
  drw : ∀ c ∈ L, c.draws.length ≤ maxLen
set_option maxRecDepth 100000 in
theorem cmds_open {H : Type} {enc : TypeId × Value → H} {w : World} {spare : Nat → Bool} {held : Bool} {rr : Reach} {b0 : Nat} {v : Value} {d : DataW H} {q : List MemPlace} {f0 f1 f2 f3 f4 f5 : Field}
    (he : Tryd.prog.underlying 37 = some (.struct #[f0, f1, f2, f3, f4, f5]))
    (hv : Value.okWide Tryd.prog w rr b0 22 v) (h : DataW.Trod enc Tryd.prog w 0 spare held 22 v d q) (o0 : f0.offset = 0 := by rfl) (o1 : f1.offset = 1 := by rfl) (o2 : f2.offset = 2 := by rfl) (o3 : f3.offset = 3 := by rfl) (o4 : f4.offset = 4 := by rfl) (o5 : f5.offset = 5 := by rfl)
    (t0 : f0.type = 3 := by rfl) (t1 : f1.type = 3 := by rfl) (t2 : f2.type = 3 := by rfl) (t3 : f3.type = 2 := by rfl) (t4 : f4.type = 35 := by rfl) (t5 : f5.type = 9 := by rfl) : ∃ L, Came w v L := by
  obtain ⟨fuel, hf⟩ := h
  obtain ⟨va, vl, vc, rfl⟩ := okWide_slice Tryd.underlying22 hv
  rcases open_slice Tryd.underlying22 hf with ⟨hcs, _⟩ | ⟨x, lx, cx, m, n, DD, Pl, hcs, _, hl, hm, hmm, _, hel⟩
  · simp [Value.cells] at hcs
    obtain ⟨rfl, rfl, rfl⟩ := hcs
    exact ⟨[], isCm_nil w, by simp, by simp, by simp⟩
  · simp [Value.cells] at hcs
    obtain ⟨rfl, rfl, rfl⟩ := hcs
    have hlm : vl ≤ m := by rw [hmm]; split <;> omega
    rcases Nat.eq_zero_or_pos vl with h0 | h0
    · subst h0; exact ⟨[], ⟨_, _, rfl, .inl rfl⟩, by simp, by simp, by simp⟩
    obtain ⟨b, off, sp⟩ := x
    have key : ∀ j, j < vl → ∃ l : CM, (w.cell? (((⟨b, off, sp⟩ : Addr).add (j * 6)).add 0) = some (.int .i64 l.kind) ∧ w.cell? (((⟨b, off, sp⟩ : Addr).add (j * 6)).add 1) = some (.int .i64 l.n) ∧ w.cell? (((⟨b, off, sp⟩ : Addr).add (j * 6)).add 2) = some (.int .i64 l.steps) ∧
        w.cell? (((⟨b, off, sp⟩ : Addr).add (j * 6)).add 3) = some (.int .i64 l.clock) ∧ w.cell? (((⟨b, off, sp⟩ : Addr).add (j * 6)).add 5) = some (.string l.text)) ∧ (∃ dv, w.cell? (((⟨b, off, sp⟩ : Addr).add (j * 6)).add 4) = some dv ∧ IsXs w dv l.draws) ∧ l.text.size ≤ maxLen ∧ l.draws.length ≤ maxLen := fun j hj => by
      obtain ⟨cs, hc, hr⟩ := hel j (by omega)
      rw [cellsCmd] at hc
      obtain ⟨_, hcl, hat⟩ := World.cells?_some hc
      obtain ⟨ys, n', _, _, _, hyl, hfd⟩ := DataW.trod_struct he hr
      have g0 := hfd 0 f0 rfl
      have g1 := hfd 1 f1 rfl
      have g2 := hfd 2 f2 rfl
      have g3 := hfd 3 f3 rfl
      have g4 := hfd 4 f4 rfl
      have g5 := hfd 5 f5 rfl
      rw [o0, t0, cellsInt] at g0
      rw [o1, t1, cellsInt] at g1
      rw [o2, t2, cellsInt] at g2
      rw [o3, t3, cellsLong] at g3
      rw [o4, t4, cellsInts] at g4
      rw [o5, t5, cellsStr] at g5
      match cs, hcl, ys, hyl with
      | [c0, c1, c2, c3, c4, c5], _, [y0, y1, y2, y3, y4, y5], _ =>
        obtain ⟨k0, e0, _, _⟩ := DataW.trod_int Tryd.underlying3 (show DataW.trod enc Tryd.prog w 0 spare held n' 3 [c0] = some y0 from g0)
        obtain ⟨k1, e1, _, _⟩ := DataW.trod_int Tryd.underlying3 (show DataW.trod enc Tryd.prog w 0 spare held n' 3 [c1] = some y1 from g1)
        obtain ⟨k2, e2, _, _⟩ := DataW.trod_int Tryd.underlying3 (show DataW.trod enc Tryd.prog w 0 spare held n' 3 [c2] = some y2 from g2)
        obtain ⟨k3, e3, _, _⟩ := DataW.trod_int Tryd.underlying2 (show DataW.trod enc Tryd.prog w 0 spare held n' 2 [c3] = some y3 from g3)
        obtain ⟨k4, e4, l4⟩ := isXs_open Tryd.underlying35 Tryd.underlying3 cellsInt (show DataW.trod enc Tryd.prog w 0 spare held n' 35 [c4] = some y4 from g4)
        obtain ⟨k5, e5, _, l5⟩ := DataW.trod_string Tryd.underlying9 (show DataW.trod enc Tryd.prog w 0 spare held n' 9 [c5] = some y5 from g5)
        simp only [List.cons.injEq, and_true] at e0 e1 e2 e3 e5
        exact ⟨⟨k0, k1, k2, k3, k4, k5⟩, ⟨by rw [hat 0 (by omega), ← e0]; rfl, by rw [hat 1 (by omega), ← e1]; rfl, by rw [hat 2 (by omega), ← e2]; rfl, by rw [hat 3 (by omega), ← e3]; rfl, by rw [hat 5 (by omega), ← e5]; rfl⟩, ⟨c4, by rw [hat 4 (by omega)]; rfl, e4⟩, l5, l4⟩
    obtain ⟨l0, ⟨k0, _⟩, _⟩ := key 0 h0
    have hsp : sp = none := by simpa [Addr.add] using World.cell?_spot k0
    subst hsp
    obtain ⟨X, hX, hx⟩ := list_of key
    subst hX
    refine ⟨X, ⟨⟨_, _, rfl, .inr ⟨b, off, rfl, by simpa [Addr.add] using World.block_lt_of_cell? _ _ k0, fun j hj => ?_⟩⟩, by omega, fun c hc => ?_, fun c hc => ?_⟩⟩
    · obtain ⟨⟨h1, h2, h3, h4, h5⟩, ⟨dv, h6, h7⟩, -⟩ := hx j hj
      rw [Go.WideShapes.add_plain, Go.WideShapes.add_plain] at h1 h2 h3 h4 h5 h6
      exact ⟨dv, ⟨h1, h2, h3, h4, h6, h5⟩, h7⟩
    · obtain ⟨j, hj, rfl⟩ := List.getElem_of_mem hc
      exact (hx j hj).2.2.1
    · obtain ⟨j, hj, rfl⟩ := List.getElem_of_mem hc
      exact (hx j hj).2.2.2
end Vb
end Go.Proofs.YtmegapelibaanaaDoor
