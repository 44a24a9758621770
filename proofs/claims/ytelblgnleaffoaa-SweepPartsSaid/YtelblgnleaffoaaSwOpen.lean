/- How a slice of numbers that came in is opened. -/
import Derived.Test.YtelblgnleaffoaaSwXs
import Derived.Deep.Slices
import Derived.Deep.Fields
import Derived.ChangeOld
import Derived.RowKit
import Derived.ProofKit
import Derived.ShutString
import Derived.OpenShut
import Derived.Lib.SmallJoins
namespace Go.Proofs.Ytelblgnleaffoaa
open Go.ChangeShapes Go.WideShapes Go.ChangeAt Go.RowKit Go.Deep
namespace Sw
set_option linter.unusedVariables false
theorem cellsInt : Try.prog.cellsOf 3 = 1 := by kernel_rfl
theorem choose_one {n : Nat} {P : Nat → Int → Prop} (h : ∀ j, j < n → ∃ x, P j x) : ∃ X : Nat → Int, ∀ j, j < n → P j (X j) := by
  classical
  refine ⟨fun j => if hj : j < n then (h j hj).choose else 0, fun j hj => ?_⟩
  simp only [hj, dif_pos]
  exact (h j hj).choose_spec
theorem isXs_open {H : Type} {enc : TypeId × Value → H} {w : World} {spare : Nat → Bool} {held : Bool} {t l : TypeId} {a : Option Addr} {len cap : Nat} {d : DataW H} {p : List MemPlace}
    (ht : Try.prog.underlying t = some (.slice l)) (ul : Try.prog.underlying l = some (.int .i64)) (cl : Try.prog.cellsOf l = 1)
    (h : DataW.Trod enc Try.prog w 0 spare held t (.slice a len cap) d p) : (∃ X, IsXs w a len X) ∧ len ≤ cap ∧ cap ≤ maxLen ∧ (a = none → len = 0 ∧ cap = 0) := by
  obtain ⟨fuel, hf⟩ := h
  rcases open_slice ht hf with ⟨hcs, _⟩ | ⟨x, lx, cx, m, n, DD, Pl, hcs, _, hl, hm, hmm, _, hel⟩
  · simp [Value.cells] at hcs
    exact ⟨⟨fun _ => 0, .inl hcs.2.1⟩, by omega, by omega, fun _ => hcs.2⟩
  · simp [Value.cells] at hcs
    obtain ⟨rfl, rfl, rfl⟩ := hcs
    refine ⟨?_, hl, hm, fun h => by cases h⟩
    have hlm : len ≤ m := by rw [hmm]; split <;> omega
    rcases Nat.eq_zero_or_pos len with h0 | h0
    · exact ⟨fun _ => 0, .inl h0⟩
    obtain ⟨b, off, sp⟩ := x
    have key : ∀ j, j < len → ∃ u, w.cell? (((⟨b, off, sp⟩ : Addr).add (j * 1)).add 0) = some (.int .i64 u) := fun j hj => by
      obtain ⟨cs, hc, hr⟩ := hel j (by omega)
      rw [cl] at hc
      obtain ⟨_, hcl, hat⟩ := World.cells?_some hc
      match cs, hcl with
      | [c0], _ =>
        obtain ⟨u, hu, _, _⟩ := DataW.trod_int ul hr
        simp only [List.cons.injEq, and_true] at hu
        exact ⟨u, by rw [hat 0 (by omega), ← hu]; rfl⟩
    obtain ⟨u, k0⟩ := key 0 h0
    have hsp : sp = none := by simpa [Addr.add] using World.cell?_spot k0
    subst hsp
    obtain ⟨X, hX⟩ := choose_one key
    refine ⟨X, .inr ⟨b, off, rfl, by simpa [Addr.add] using World.block_lt_of_cell? _ _ k0, fun j hj => ?_⟩⟩
    have h3 := hX j hj
    rw [Go.WideShapes.add_plain, Go.WideShapes.add_plain, Nat.mul_one] at h3
    exact h3
end Sw
end Go.Proofs.Ytelblgnleaffoaa
