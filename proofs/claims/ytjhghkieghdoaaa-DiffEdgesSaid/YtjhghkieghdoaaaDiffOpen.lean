/- How slices of edges and of numbers that came in are opened; a right system as a system. -/
import Derived.Test.YtjhghkieghdoaaaDiffRight
import Derived.Test.YtjhghkieghdoaaaDiffMath
import Derived.Deep.Slices
import Derived.Deep.Fields
import Derived.ChangeOld
import Derived.RowKit
import Derived.ProofKit
import Derived.ShutString
import Derived.OpenShut
import Derived.Lib.SmallJoins
namespace Go.Proofs.Ytjhghkieghdoaaa
open Go.ChangeShapes Go.WideShapes Go.ChangeAt Go.RowKit Go.Deep
namespace Diff
set_option linter.unusedVariables false
theorem cellsEdge : Try.prog.cellsOf 42 = 3 := by kernel_rfl
theorem cellsInt : Try.prog.cellsOf 3 = 1 := by kernel_rfl
theorem cellsLong : Try.prog.cellsOf 2 = 1 := by kernel_rfl
theorem choose_three {n : Nat} {P : Nat → Int → Int → Int → Prop} (h : ∀ j, j < n → ∃ x y z, P j x y z) : ∃ X Y Z : Nat → Int, ∀ j, j < n → P j (X j) (Y j) (Z j) := by
  classical
  refine ⟨fun j => if hj : j < n then (h j hj).choose else 0, fun j => if hj : j < n then (h j hj).choose_spec.choose else 0, fun j => if hj : j < n then (h j hj).choose_spec.choose_spec.choose else 0, fun j hj => ?_⟩
  simp only [hj, dif_pos]
  exact (h j hj).choose_spec.choose_spec.choose_spec
theorem isEs_of {H : Type} {enc : TypeId × Value → H} {w : World} {spare : Nat → Bool} {held : Bool} {t e i l : TypeId} {f0 f1 f2 : Field} {a : Option Addr} {len cap : Nat} {d : DataW H} {p : List MemPlace}
    (ht : Try.prog.underlying t = some (.slice e)) (he : Try.prog.underlying e = some (.struct #[f0, f1, f2])) (ce : Try.prog.cellsOf e = 3) (ui : Try.prog.underlying i = some (.int .i64)) (ci : Try.prog.cellsOf i = 1) (ul : Try.prog.underlying l = some (.int .i64)) (cl : Try.prog.cellsOf l = 1)
    (h : DataW.Trod enc Try.prog w 0 spare held t (.slice a len cap) d p) (o0 : f0.offset = 0 := by rfl) (o1 : f1.offset = 1 := by rfl) (o2 : f2.offset = 2 := by rfl) (t0 : f0.type = i := by rfl) (t1 : f1.type = i := by rfl) (t2 : f2.type = l := by rfl) : ∃ X Y Z, IsEs w a len X Y Z := by
  obtain ⟨fuel, hf⟩ := h
  rcases open_slice ht hf with ⟨hcs, _⟩ | ⟨x, lx, cx, m, n, DD, Pl, hcs, _, hl, hm, hmm, _, hel⟩
  · simp [Value.cells] at hcs
    exact ⟨fun _ => 0, fun _ => 0, fun _ => 0, .inl hcs.2.1⟩
  · simp [Value.cells] at hcs
    obtain ⟨rfl, rfl, rfl⟩ := hcs
    have hlm : len ≤ m := by rw [hmm]; split <;> omega
    rcases Nat.eq_zero_or_pos len with h0 | h0
    · exact ⟨fun _ => 0, fun _ => 0, fun _ => 0, .inl h0⟩
    obtain ⟨b, off, sp⟩ := x
    have key : ∀ j, j < len → ∃ u v z, w.cell? (((⟨b, off, sp⟩ : Addr).add (j * 3)).add 0) = some (.int .i64 u) ∧ w.cell? (((⟨b, off, sp⟩ : Addr).add (j * 3)).add 1) = some (.int .i64 v) ∧ w.cell? (((⟨b, off, sp⟩ : Addr).add (j * 3)).add 2) = some (.int .i64 z) := fun j hj => by
      obtain ⟨cs, hc, hr⟩ := hel j (by omega)
      rw [ce] at hc
      obtain ⟨_, hcl, hat⟩ := World.cells?_some hc
      obtain ⟨ys, n', _, _, _, hyl, hfd⟩ := DataW.trod_struct he hr
      have g0 := hfd 0 f0 rfl
      have g1 := hfd 1 f1 rfl
      have g2 := hfd 2 f2 rfl
      rw [o0, t0, ci] at g0
      rw [o1, t1, ci] at g1
      rw [o2, t2, cl] at g2
      match cs, hcl, ys, hyl with
      | [c0, c1, c2], _, [y0, y1, y2], _ =>
        obtain ⟨u, hu, _, _⟩ := DataW.trod_int ui (show DataW.trod enc Try.prog w 0 spare held n' i [c0] = some y0 from g0)
        obtain ⟨v, hv, _, _⟩ := DataW.trod_int ui (show DataW.trod enc Try.prog w 0 spare held n' i [c1] = some y1 from g1)
        obtain ⟨z, hz, _, _⟩ := DataW.trod_int ul (show DataW.trod enc Try.prog w 0 spare held n' l [c2] = some y2 from g2)
        simp only [List.cons.injEq, and_true] at hu hv hz
        exact ⟨u, v, z, by rw [hat 0 (by omega), ← hu]; rfl, by rw [hat 1 (by omega), ← hv]; rfl, by rw [hat 2 (by omega), ← hz]; rfl⟩
    obtain ⟨u, v, z, k0, _⟩ := key 0 h0
    have hsp : sp = none := by simpa [Addr.add] using World.cell?_spot k0
    subst hsp
    obtain ⟨X, Y, Z, hXYZ⟩ := choose_three key
    refine ⟨X, Y, Z, .inr ⟨b, off, rfl, by simpa [Addr.add] using World.block_lt_of_cell? _ _ k0, by omega, fun j hj => ?_⟩⟩
    have h3 := hXYZ j hj
    rw [Go.WideShapes.add_plain, Go.WideShapes.add_plain, Go.WideShapes.add_plain, Go.WideShapes.add_plain] at h3
    exact h3
theorem choose_one {n : Nat} {P : Nat → Int → Prop} (h : ∀ j, j < n → ∃ x, P j x) : ∃ X : Nat → Int, ∀ j, j < n → P j (X j) := by
  classical
  refine ⟨fun j => if hj : j < n then (h j hj).choose else 0, fun j hj => ?_⟩
  simp only [hj, dif_pos]
  exact (h j hj).choose_spec
theorem isXs_open {H : Type} {enc : TypeId × Value → H} {w : World} {spare : Nat → Bool} {held : Bool} {t l : TypeId} {a : Option Addr} {len cap : Nat} {d : DataW H} {p : List MemPlace}
    (ht : Try.prog.underlying t = some (.slice l)) (ul : Try.prog.underlying l = some (.int .i64)) (cl : Try.prog.cellsOf l = 1)
    (h : DataW.Trod enc Try.prog w 0 spare held t (.slice a len cap) d p) : ∃ X, IsXs w a len X := by
  obtain ⟨fuel, hf⟩ := h
  rcases open_slice ht hf with ⟨hcs, _⟩ | ⟨x, lx, cx, m, n, DD, Pl, hcs, _, hl, hm, hmm, _, hel⟩
  · simp [Value.cells] at hcs
    exact ⟨fun _ => 0, .inl hcs.2.1⟩
  · simp [Value.cells] at hcs
    obtain ⟨rfl, rfl, rfl⟩ := hcs
    have hlm : len ≤ m := by rw [hmm]; split <;> omega
    rcases Nat.eq_zero_or_pos len with h0 | h0
    · exact ⟨fun _ => 0, .inl h0⟩
    obtain ⟨b, off, sp⟩ := x
    have key : ∀ j, j < len → ∃ u, w.cell? (((⟨b, off, sp⟩ : Addr).add (j * 1)).add 0) = some (.int .i64 u) := fun j hj => by
      obtain ⟨cs, hc, hr⟩ := hel j (by omega)
      rw [cl] at hc
      obtain ⟨_, hcl, hat⟩ := World.cells?_some hc
      match cs, hcl with
      | [c0], _ =>
        obtain ⟨u, hu, _, _⟩ := DataW.trod_int ul hr
        simp only [List.cons.injEq, and_true] at hu
        exact ⟨u, by rw [hat 0 (by omega), ← hu]; rfl⟩
    obtain ⟨u, k0⟩ := key 0 h0
    have hsp : sp = none := by simpa [Addr.add] using World.cell?_spot k0
    subst hsp
    obtain ⟨X, hX⟩ := choose_one key
    refine ⟨X, .inr ⟨b, off, rfl, by simpa [Addr.add] using World.block_lt_of_cell? _ _ k0, by omega, fun j hj => ?_⟩⟩
    have h3 := hX j hj
    rw [Go.WideShapes.add_plain, Go.WideShapes.add_plain, Nat.mul_one] at h3
    exact h3
/-! ### a right system -/
def sysOf (n : Int) (m : Nat) (f t g : Nat → Int) (s : Int) : Sys := ⟨n.toNat, m, fun i => (f i).toNat, fun i => (t i).toNat, g, s.toNat⟩
theorem sys_ok {n : Int} {m : Nat} {f t g : Nat → Int} {s : Int} (h : rightB n m f t g = true) (hs : inB s n = true) (hn : n ≤ 60) (hm : m ≤ 201) : (sysOf n m f t g s).Ok := by
  obtain ⟨h1, h2⟩ := rightB_iff.1 h
  obtain ⟨s1, s2⟩ := inB_iff.1 hs
  refine ⟨by show n.toNat ≤ 60; omega, hm, by show s.toNat < n.toNat; omega, fun i hi => ?_, fun i hi => ?_, fun i hi => ?_⟩
  · have := h2 i hi; show (f i).toNat < n.toNat; omega
  · have := h2 i hi; show (t i).toNat < n.toNat; omega
  · exact (h2 i hi).2.2
theorem sys_es {n : Int} {m : Nat} {f t g : Nat → Int} {s : Int} (h : rightB n m f t g = true) {w : World} {a : Option Addr} (he : IsEs w a m f t g) :
    IsEs w a (sysOf n m f t g s).m (fun i => ((sysOf n m f t g s).F i : Nat)) (fun i => ((sysOf n m f t g s).T i : Nat)) (sysOf n m f t g s).W := by
  obtain ⟨h1, h2⟩ := rightB_iff.1 h
  rcases he with h0 | ⟨b, off, k1, k2, k3, k4⟩
  · exact .inl h0
  · refine .inr ⟨b, off, k1, k2, k3, fun j hj => ?_⟩
    have hj' : j < m := hj
    have h3 := h2 j hj'
    have e1 : (((sysOf n m f t g s).F j : Nat) : Int) = f j := by show (((f j).toNat : Nat) : Int) = f j; omega
    have e2 : (((sysOf n m f t g s).T j : Nat) : Int) = t j := by show (((t j).toNat : Nat) : Int) = t j; omega
    simp only [e1, e2]
    exact k4 j hj'
theorem sys_n {n : Int} {m : Nat} {f t g : Nat → Int} {s : Int} (h : rightB n m f t g = true) : (((sysOf n m f t g s).n : Nat) : Int) = n := by
  have := (rightB_iff.1 h).1; show ((n.toNat : Nat) : Int) = n; omega
theorem sys_s {n : Int} {m : Nat} {f t g : Nat → Int} {s : Int} (hs : inB s n = true) : (((sysOf n m f t g s).s : Nat) : Int) = s := by
  have := inB_iff.1 hs; show ((s.toNat : Nat) : Int) = s; omega
end Diff
end Go.Proofs.Ytjhghkieghdoaaa
