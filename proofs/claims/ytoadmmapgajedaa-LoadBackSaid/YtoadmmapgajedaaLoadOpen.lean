/- How a slice of loads that came in is opened: the cells behind each index. -/
import Derived.Test.YtoadmmapgajedaaChecked
import Derived.Deep.SlicePairs
import Derived.ChangeOld
import Derived.RowKit
import Derived.WalkKit
import Derived.ProofKit
import Derived.ShutString
import Derived.OpenShut
import Derived.Lib.SmallJoins
namespace Go.Proofs.Ytoadmmapgajedaa
open Go.ChangeShapes Go.WideShapes Go.ChangeAt Go.RowKit Go.Deep
namespace Load
theorem cellsLoad : Try.prog.cellsOf 23 = 2 := by kernel_rfl
theorem cellsInt : Try.prog.cellsOf 3 = 1 := by kernel_rfl
/-- a slice of loads: nil or empty, or a row of cells -/
def IsLds (w : World) (a : Option Addr) (len : Nat) (X Y : Nat → Int) : Prop :=
  len = 0 ∨ ∃ b off, a = some ⟨b, off, none⟩ ∧ b < w.heap.size ∧ len ≤ maxLen ∧ ∀ j, j < len → w.cell? ⟨b, off + j * 2, none⟩ = some (.int .i64 (X j)) ∧ w.cell? ⟨b, off + j * 2 + 1, none⟩ = some (.int .i64 (Y j))
theorem choose_two {n : Nat} {P : Nat → Int → Int → Prop} (h : ∀ j, j < n → ∃ x y, P j x y) : ∃ X Y : Nat → Int, ∀ j, j < n → P j (X j) (Y j) := by
  classical
  refine ⟨fun j => if hj : j < n then (h j hj).choose else 0, fun j => if hj : j < n then (h j hj).choose_spec.choose else 0, fun j hj => ?_⟩
  simp only [hj, dif_pos]
  exact (h j hj).choose_spec.choose_spec
theorem isLds_of {H : Type} {enc : TypeId × Value → H} {w : World} {spare : Nat → Bool} {held : Bool} {t e i : TypeId} {f0 f1 : Field} {a : Option Addr} {len cap : Nat} {d : DataW H} {p : List MemPlace}
    (ht : Try.prog.underlying t = some (.slice e)) (he : Try.prog.underlying e = some (.struct #[f0, f1])) (ce : Try.prog.cellsOf e = 2) (ui : Try.prog.underlying i = some (.int .i64)) (ci : Try.prog.cellsOf i = 1)
    (h : DataW.Trod enc Try.prog w 0 spare held t (.slice a len cap) d p) (o0 : f0.offset = 0 := by rfl) (o1 : f1.offset = 1 := by rfl) (t0 : f0.type = i := by rfl) (t1 : f1.type = i := by rfl) : ∃ X Y, IsLds w a len X Y := by
  obtain ⟨fuel, hf⟩ := h
  rcases open_slice_pairs ht he ce o0 o1 (by rw [t0]; exact ci) (by rw [t1]; exact ci) hf with ⟨hcs, _⟩ | ⟨x, l, c, m, n, V0, V1, D0, D1, P0, P1, hcs, _, hl, hm, hmm, _, hcell⟩
  · simp [Value.cells] at hcs
    exact ⟨fun _ => 0, fun _ => 0, .inl hcs.2.1⟩
  · simp [Value.cells] at hcs
    obtain ⟨rfl, rfl, rfl⟩ := hcs
    have hlm : len ≤ m := by rw [hmm]; split <;> omega
    rcases Nat.eq_zero_or_pos len with h0 | h0
    · exact ⟨fun _ => 0, fun _ => 0, .inl h0⟩
    obtain ⟨b, off, sp⟩ := x
    have hsp : sp = none := by
      simpa [Addr.add] using World.cell?_spot (hcell 0 (by omega)).1
    subst hsp
    obtain ⟨X, Y, hXY⟩ := choose_two (n := len) (P := fun j x y => w.cell? ⟨b, off + j * 2, none⟩ = some (.int .i64 x) ∧ w.cell? ⟨b, off + j * 2 + 1, none⟩ = some (.int .i64 y)) (fun j hj => by
      obtain ⟨g0, g1, g2, g3⟩ := hcell j (by omega)
      rw [t0] at g2
      rw [t1] at g3
      obtain ⟨x, hx, _, _⟩ := DataW.trod_int ui g2
      obtain ⟨y, hy, _, _⟩ := DataW.trod_int ui g3
      have hx' : V0 j = .int .i64 x := by simpa using hx
      have hy' : V1 j = .int .i64 y := by simpa using hy
      rw [hx', Go.WideShapes.add_plain] at g0
      rw [hy', Go.WideShapes.add_plain] at g1
      exact ⟨x, y, g0, g1⟩)
    exact ⟨X, Y, .inr ⟨b, off, rfl, World.block_lt_of_cell? _ _ (hXY 0 (by omega)).1, by omega, hXY⟩⟩
end Load
end Go.Proofs.Ytoadmmapgajedaa
