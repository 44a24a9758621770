/- How slices of steps and of bools that came in are opened. -/
import Derived.Test.YtjfagekdeapiaaaTabAlive
import Derived.Deep.Slices
import Derived.Deep.Fields
import Derived.ChangeOld
import Derived.RowKit
import Derived.ProofKit
import Derived.ShutString
import Derived.OpenShut
import Derived.Lib.SmallJoins
namespace Go.Proofs.Ytjfagekdeapiaaa
open Go.ChangeShapes Go.WideShapes Go.ChangeAt Go.RowKit Go.Deep
namespace Tab
set_option linter.unusedVariables false
/-- a slice of steps -/
def IsOps (w : World) (a : Option Addr) (m : Nat) (k r t u : Nat → Int) : Prop :=
  m = 0 ∨ ∃ b off, a = some ⟨b, off, none⟩ ∧ b < w.heap.size ∧ m ≤ maxLen ∧ ∀ j, j < m → (w.cell? ⟨b, off + j * 4, none⟩ = some (.int .i64 (k j)) ∧ w.cell? ⟨b, off + j * 4 + 1, none⟩ = some (.int .i64 (r j)) ∧ w.cell? ⟨b, off + j * 4 + 2, none⟩ = some (.int .i64 (t j)) ∧ w.cell? ⟨b, off + j * 4 + 3, none⟩ = some (.int .i64 (u j))) ∧ Wf (r j) ∧ Wf (t j) ∧ Wf (u j)
theorem IsOps.below {w w' : World} {a : Option Addr} {m : Nat} {k r t u : Nat → Int} (h : IsOps w a m k r t u) (hb : Below w.heap.size w w') : IsOps w' a m k r t u := by
  rcases h with h | ⟨b, off, h1, h2, h3, h4⟩
  · exact .inl h
  · exact .inr ⟨b, off, h1, Nat.lt_of_lt_of_le h2 hb.size, h3, fun j hj => ⟨⟨(hb.cell h2).trans (h4 j hj).1.1, (hb.cell h2).trans (h4 j hj).1.2.1, (hb.cell h2).trans (h4 j hj).1.2.2.1, (hb.cell h2).trans (h4 j hj).1.2.2.2⟩, (h4 j hj).2⟩⟩
/-- a slice of bools -/
def IsBs (w : World) (a : Option Addr) (m : Nat) (g : Nat → Bool) : Prop :=
  m = 0 ∨ ∃ b off, a = some ⟨b, off, none⟩ ∧ b < w.heap.size ∧ m ≤ maxLen ∧ ∀ j, j < m → w.cell? ⟨b, off + j, none⟩ = some (.bool (g j))
theorem IsBs.below {w w' : World} {a : Option Addr} {m : Nat} {g : Nat → Bool} (h : IsBs w a m g) (hb : Below w.heap.size w w') : IsBs w' a m g := by
  rcases h with h | ⟨b, off, h1, h2, h3, h4⟩
  · exact .inl h
  · exact .inr ⟨b, off, h1, Nat.lt_of_lt_of_le h2 hb.size, h3, fun j hj => (hb.cell h2).trans (h4 j hj)⟩
theorem cellsOp : Try.prog.cellsOf 29 = 4 := by kernel_rfl
theorem cellsInt : Try.prog.cellsOf 3 = 1 := by kernel_rfl
theorem cellsBool : Try.prog.cellsOf 4 = 1 := by kernel_rfl
theorem choose_four {n : Nat} {P : Nat → Int → Int → Int → Int → Prop} (h : ∀ j, j < n → ∃ x y z v, P j x y z v) : ∃ X Y Z V : Nat → Int, ∀ j, j < n → P j (X j) (Y j) (Z j) (V j) := by
  classical
  refine ⟨fun j => if hj : j < n then (h j hj).choose else 0, fun j => if hj : j < n then (h j hj).choose_spec.choose else 0, fun j => if hj : j < n then (h j hj).choose_spec.choose_spec.choose else 0, fun j => if hj : j < n then (h j hj).choose_spec.choose_spec.choose_spec.choose else 0, fun j hj => ?_⟩
  simp only [hj, dif_pos]
  exact (h j hj).choose_spec.choose_spec.choose_spec.choose_spec
theorem choose_bool {n : Nat} {P : Nat → Bool → Prop} (h : ∀ j, j < n → ∃ x, P j x) : ∃ X : Nat → Bool, ∀ j, j < n → P j (X j) := by
  classical
  refine ⟨fun j => if hj : j < n then (h j hj).choose else false, fun j hj => ?_⟩
  simp only [hj, dif_pos]
  exact (h j hj).choose_spec
theorem isOps_of {H : Type} {enc : TypeId × Value → H} {w : World} {spare : Nat → Bool} {held : Bool} {t e i : TypeId} {f0 f1 f2 f3 : Field} {a : Option Addr} {len cap : Nat} {d : DataW H} {p : List MemPlace}
    (ht : Try.prog.underlying t = some (.slice e)) (he : Try.prog.underlying e = some (.struct #[f0, f1, f2, f3])) (ce : Try.prog.cellsOf e = 4) (ui : Try.prog.underlying i = some (.int .i64)) (ci : Try.prog.cellsOf i = 1)
    (h : DataW.Trod enc Try.prog w 0 spare held t (.slice a len cap) d p) (o0 : f0.offset = 0 := by rfl) (o1 : f1.offset = 1 := by rfl) (o2 : f2.offset = 2 := by rfl) (o3 : f3.offset = 3 := by rfl) (t0 : f0.type = i := by rfl) (t1 : f1.type = i := by rfl) (t2 : f2.type = i := by rfl) (t3 : f3.type = i := by rfl) : ∃ K X Y Z, IsOps w a len K X Y Z := by
  obtain ⟨fuel, hf⟩ := h
  rcases open_slice ht hf with ⟨hcs, _⟩ | ⟨x, lx, cx, m, n, DD, Pl, hcs, _, hl, hm, hmm, _, hel⟩
  · simp [Value.cells] at hcs
    exact ⟨fun _ => 0, fun _ => 0, fun _ => 0, fun _ => 0, .inl hcs.2.1⟩
  · simp [Value.cells] at hcs
    obtain ⟨rfl, rfl, rfl⟩ := hcs
    have hlm : len ≤ m := by rw [hmm]; split <;> omega
    rcases Nat.eq_zero_or_pos len with h0 | h0
    · exact ⟨fun _ => 0, fun _ => 0, fun _ => 0, fun _ => 0, .inl h0⟩
    obtain ⟨b, off, sp⟩ := x
    have key : ∀ j, j < len → ∃ k u v z, (w.cell? (((⟨b, off, sp⟩ : Addr).add (j * 4)).add 0) = some (.int .i64 k) ∧ w.cell? (((⟨b, off, sp⟩ : Addr).add (j * 4)).add 1) = some (.int .i64 u) ∧ w.cell? (((⟨b, off, sp⟩ : Addr).add (j * 4)).add 2) = some (.int .i64 v) ∧ w.cell? (((⟨b, off, sp⟩ : Addr).add (j * 4)).add 3) = some (.int .i64 z)) ∧ Wf u ∧ Wf v ∧ Wf z := fun j hj => by
      obtain ⟨cs, hc, hr⟩ := hel j (by omega)
      rw [ce] at hc
      obtain ⟨_, hcl, hat⟩ := World.cells?_some hc
      obtain ⟨ys, n', _, _, _, hyl, hfd⟩ := DataW.trod_struct he hr
      have g0 := hfd 0 f0 rfl
      have g1 := hfd 1 f1 rfl
      have g2 := hfd 2 f2 rfl
      have g3 := hfd 3 f3 rfl
      rw [o0, t0, ci] at g0
      rw [o1, t1, ci] at g1
      rw [o2, t2, ci] at g2
      rw [o3, t3, ci] at g3
      match cs, hcl, ys, hyl with
      | [c0, c1, c2, c3], _, [y0, y1, y2, y3], _ =>
        obtain ⟨k, hk, _, _⟩ := DataW.trod_int ui (show DataW.trod enc Try.prog w 0 spare held n' i [c0] = some y0 from g0)
        obtain ⟨u, hu, _, wu⟩ := DataW.trod_int ui (show DataW.trod enc Try.prog w 0 spare held n' i [c1] = some y1 from g1)
        obtain ⟨v, hv, _, wv⟩ := DataW.trod_int ui (show DataW.trod enc Try.prog w 0 spare held n' i [c2] = some y2 from g2)
        obtain ⟨z, hz, _, wz⟩ := DataW.trod_int ui (show DataW.trod enc Try.prog w 0 spare held n' i [c3] = some y3 from g3)
        simp only [List.cons.injEq, and_true] at hk hu hv hz
        exact ⟨k, u, v, z, ⟨by rw [hat 0 (by omega), ← hk]; rfl, by rw [hat 1 (by omega), ← hu]; rfl, by rw [hat 2 (by omega), ← hv]; rfl, by rw [hat 3 (by omega), ← hz]; rfl⟩, wu, wv, wz⟩
    obtain ⟨k, u, v, z, ⟨k0, _⟩, _⟩ := key 0 h0
    have hsp : sp = none := by simpa [Addr.add] using World.cell?_spot k0
    subst hsp
    obtain ⟨K, X, Y, Z, hXYZ⟩ := choose_four key
    refine ⟨K, X, Y, Z, .inr ⟨b, off, rfl, by simpa [Addr.add] using World.block_lt_of_cell? _ _ k0, by omega, fun j hj => ?_⟩⟩
    have h3 := hXYZ j hj
    rw [Go.WideShapes.add_plain, Go.WideShapes.add_plain, Go.WideShapes.add_plain, Go.WideShapes.add_plain, Go.WideShapes.add_plain] at h3
    exact h3
theorem isBs_of {H : Type} {enc : TypeId × Value → H} {w : World} {spare : Nat → Bool} {held : Bool} {t l : TypeId} {a : Option Addr} {len cap : Nat} {d : DataW H} {p : List MemPlace}
    (ht : Try.prog.underlying t = some (.slice l)) (ul : Try.prog.underlying l = some .bool) (cl : Try.prog.cellsOf l = 1)
    (h : DataW.Trod enc Try.prog w 0 spare held t (.slice a len cap) d p) : ∃ X, IsBs w a len X := by
  obtain ⟨fuel, hf⟩ := h
  rcases open_slice ht hf with ⟨hcs, _⟩ | ⟨x, lx, cx, m, n, DD, Pl, hcs, _, hl, hm, hmm, _, hel⟩
  · simp [Value.cells] at hcs
    exact ⟨fun _ => false, .inl hcs.2.1⟩
  · simp [Value.cells] at hcs
    obtain ⟨rfl, rfl, rfl⟩ := hcs
    have hlm : len ≤ m := by rw [hmm]; split <;> omega
    rcases Nat.eq_zero_or_pos len with h0 | h0
    · exact ⟨fun _ => false, .inl h0⟩
    obtain ⟨b, off, sp⟩ := x
    have key : ∀ j, j < len → ∃ u, w.cell? (((⟨b, off, sp⟩ : Addr).add (j * 1)).add 0) = some (.bool u) := fun j hj => by
      obtain ⟨cs, hc, hr⟩ := hel j (by omega)
      rw [cl] at hc
      obtain ⟨_, hcl, hat⟩ := World.cells?_some hc
      match cs, hcl with
      | [c0], _ =>
        obtain ⟨u, hu, _⟩ := DataW.trod_bool ul hr
        simp only [List.cons.injEq, and_true] at hu
        exact ⟨u, by rw [hat 0 (by omega), ← hu]; rfl⟩
    obtain ⟨u, k0⟩ := key 0 h0
    have hsp : sp = none := by simpa [Addr.add] using World.cell?_spot k0
    subst hsp
    obtain ⟨X, hX⟩ := choose_bool key
    refine ⟨X, .inr ⟨b, off, rfl, by simpa [Addr.add] using World.block_lt_of_cell? _ _ k0, by omega, fun j hj => ?_⟩⟩
    have h3 := hX j hj
    rw [Go.WideShapes.add_plain, Go.WideShapes.add_plain, Nat.mul_one] at h3
    exact h3
end Tab
end Go.Proofs.Ytjfagekdeapiaaa
