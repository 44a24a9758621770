/- How lines that came in are opened. -/
import Derived.Test.YtjmingdlfihmaaaDoorTkA
import Derived.Deep.Slices
import Derived.Deep.Fields
import Derived.ChangeOld
import Derived.RowKit
import Derived.ProofKit
import Derived.ShutString
import Derived.OpenShut
import Derived.Lib.SmallJoins
namespace Go.Proofs.YtjmingdlfihmaaaDoor
open Go.ChangeShapes Go.WideShapes Go.ChangeAt Go.RowKit Go.Deep Go.Joins
namespace Tk
set_option linter.unusedVariables false
theorem cellsInt : Tryd.prog.cellsOf 3 = 1 := by kernel_rfl
theorem cellsLong : Tryd.prog.cellsOf 2 = 1 := by kernel_rfl
theorem cellsBool : Tryd.prog.cellsOf 4 = 1 := by kernel_rfl
theorem cellsLine : Tryd.prog.cellsOf 25 = 6 := by kernel_rfl
theorem list_of {α : Type} {P : Nat → α → Prop} : ∀ {n : Nat}, (∀ j, j < n → ∃ x, P j x) → ∃ xs : List α, xs.length = n ∧ ∀ j (hj : j < xs.length), P j xs[j]
  | 0, _ => ⟨[], rfl, fun j hj => absurd hj (by simp)⟩
  | n + 1, h => by
    obtain ⟨xs, h1, h2⟩ := list_of (n := n) fun j hj => h j (by omega)
    obtain ⟨x, hx⟩ := h n (by omega)
    refine ⟨xs ++ [x], by simp [h1], fun j hj => ?_⟩
    by_cases hlt : j < xs.length
    · rw [List.getElem_append_left hlt]; exact h2 j hlt
    · obtain rfl : j = xs.length := by simp at hj; omega
      rw [List.getElem_append_right (Nat.le_refl _)]; subst h1; simpa using hx
/-- Lines that came in. -/
structure Came (w : World) (v : Value) (L : List LN) : Prop where
  is : IsLn w v L
  len : L.length ≤ maxLen
set_option maxRecDepth 100000 in
theorem lines_open {H : Type} {enc : TypeId × Value → H} {w : World} {spare : Nat → Bool} {held : Bool} {rr : Reach} {b0 : Nat} {v : Value} {d : DataW H} {q : List MemPlace} {f0 f1 f2 f3 f4 f5 : Field}
    (he : Tryd.prog.underlying 25 = some (.struct #[f0, f1, f2, f3, f4, f5]))
    (hv : Value.okWide Tryd.prog w rr b0 22 v) (h : DataW.Trod enc Tryd.prog w 0 spare held 22 v d q) (o0 : f0.offset = 0 := by rfl) (o1 : f1.offset = 1 := by rfl) (o2 : f2.offset = 2 := by rfl) (o3 : f3.offset = 3 := by rfl) (o4 : f4.offset = 4 := by rfl) (o5 : f5.offset = 5 := by rfl)
    (t0 : f0.type = 3 := by rfl) (t1 : f1.type = 3 := by rfl) (t2 : f2.type = 2 := by rfl) (t3 : f3.type = 2 := by rfl) (t4 : f4.type = 2 := by rfl) (t5 : f5.type = 4 := by rfl) : ∃ L, Came w v L := by
  obtain ⟨fuel, hf⟩ := h
  obtain ⟨va, vl, vc, rfl⟩ := okWide_slice Tryd.underlying22 hv
  rcases open_slice Tryd.underlying22 hf with ⟨hcs, _⟩ | ⟨x, lx, cx, m, n, DD, Pl, hcs, _, hl, hm, hmm, _, hel⟩
  · simp [Value.cells] at hcs
    obtain ⟨rfl, rfl, rfl⟩ := hcs
    exact ⟨[], isLn_nil w, by simp⟩
  · simp [Value.cells] at hcs
    obtain ⟨rfl, rfl, rfl⟩ := hcs
    have hlm : vl ≤ m := by rw [hmm]; split <;> omega
    rcases Nat.eq_zero_or_pos vl with h0 | h0
    · subst h0; exact ⟨[], ⟨_, _, rfl, .inl rfl⟩, by simp⟩
    obtain ⟨b, off, sp⟩ := x
    have key : ∀ j, j < vl → ∃ l : LN, w.cell? (((⟨b, off, sp⟩ : Addr).add (j * 6)).add 0) = some (.int .i64 l.id) ∧ w.cell? (((⟨b, off, sp⟩ : Addr).add (j * 6)).add 1) = some (.int .i64 l.car) ∧ w.cell? (((⟨b, off, sp⟩ : Addr).add (j * 6)).add 2) = some (.int .i64 l.pick) ∧
        w.cell? (((⟨b, off, sp⟩ : Addr).add (j * 6)).add 3) = some (.int .i64 l.drop) ∧ w.cell? (((⟨b, off, sp⟩ : Addr).add (j * 6)).add 4) = some (.int .i64 l.ride) ∧ w.cell? (((⟨b, off, sp⟩ : Addr).add (j * 6)).add 5) = some (.bool l.served) := fun j hj => by
      obtain ⟨cs, hc, hr⟩ := hel j (by omega)
      rw [cellsLine] at hc
      obtain ⟨_, hcl, hat⟩ := World.cells?_some hc
      obtain ⟨ys, n', _, _, _, hyl, hfd⟩ := DataW.trod_struct he hr
      have g0 := hfd 0 f0 rfl
      have g1 := hfd 1 f1 rfl
      have g2 := hfd 2 f2 rfl
      have g3 := hfd 3 f3 rfl
      have g4 := hfd 4 f4 rfl
      have g5 := hfd 5 f5 rfl
      rw [o0, t0, cellsInt] at g0
      rw [o1, t1, cellsInt] at g1
      rw [o2, t2, cellsLong] at g2
      rw [o3, t3, cellsLong] at g3
      rw [o4, t4, cellsLong] at g4
      rw [o5, t5, cellsBool] at g5
      match cs, hcl, ys, hyl with
      | [c0, c1, c2, c3, c4, c5], _, [y0, y1, y2, y3, y4, y5], _ =>
        obtain ⟨k0, e0, _, _⟩ := DataW.trod_int Tryd.underlying3 (show DataW.trod enc Tryd.prog w 0 spare held n' 3 [c0] = some y0 from g0)
        obtain ⟨k1, e1, _, _⟩ := DataW.trod_int Tryd.underlying3 (show DataW.trod enc Tryd.prog w 0 spare held n' 3 [c1] = some y1 from g1)
        obtain ⟨k2, e2, _, _⟩ := DataW.trod_int Tryd.underlying2 (show DataW.trod enc Tryd.prog w 0 spare held n' 2 [c2] = some y2 from g2)
        obtain ⟨k3, e3, _, _⟩ := DataW.trod_int Tryd.underlying2 (show DataW.trod enc Tryd.prog w 0 spare held n' 2 [c3] = some y3 from g3)
        obtain ⟨k4, e4, _, _⟩ := DataW.trod_int Tryd.underlying2 (show DataW.trod enc Tryd.prog w 0 spare held n' 2 [c4] = some y4 from g4)
        obtain ⟨k5, e5, _⟩ := DataW.trod_bool Tryd.underlying4 (show DataW.trod enc Tryd.prog w 0 spare held n' 4 [c5] = some y5 from g5)
        simp only [List.cons.injEq, and_true] at e0 e1 e2 e3 e4 e5
        exact ⟨⟨k0, k1, k2, k3, k4, k5⟩, by rw [hat 0 (by omega), ← e0]; rfl, by rw [hat 1 (by omega), ← e1]; rfl, by rw [hat 2 (by omega), ← e2]; rfl, by rw [hat 3 (by omega), ← e3]; rfl, by rw [hat 4 (by omega), ← e4]; rfl, by rw [hat 5 (by omega), ← e5]; rfl⟩
    obtain ⟨l0, k0, _⟩ := key 0 h0
    have hsp : sp = none := by simpa [Addr.add] using World.cell?_spot k0
    subst hsp
    obtain ⟨X, hX, hx⟩ := list_of key
    subst hX
    refine ⟨X, ⟨_, _, rfl, .inr ⟨b, off, rfl, by simpa [Addr.add] using World.block_lt_of_cell? _ _ k0, fun j hj => ?_⟩⟩, by omega⟩
    have h3 := hx j hj
    rw [Go.WideShapes.add_plain, Go.WideShapes.add_plain, Go.WideShapes.add_plain, Go.WideShapes.add_plain, Go.WideShapes.add_plain, Go.WideShapes.add_plain, Go.WideShapes.add_plain] at h3
    exact ⟨h3.1, h3.2.1, h3.2.2.1, h3.2.2.2.1, h3.2.2.2.2.1, h3.2.2.2.2.2⟩
end Tk
end Go.Proofs.YtjmingdlfihmaaaDoor
