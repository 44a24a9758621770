/- What the laws of layer 7 take of a right system; how their calls end. -/
import Derived.Test.YtjhghkieghdoaaaDiffOpen
import Derived.Test.YtjhghkieghdoaaaDiffSolve
import Derived.Test.YtjhghkieghdoaaaDiffRefS
import Derived.Test.YtjhghkieghdoaaaDiffRight
namespace Go.Proofs.Ytjhghkieghdoaaa
open Go.RowKit Go.Lib
namespace Diff
set_option linter.unusedVariables false
theorem i64_range {a : Int} (h : (Lit.int .i64 a).wf = true) : -9223372036854775808 ≤ a ∧ a ≤ 9223372036854775807 := by
  simpa [Lit.wf, IntKind.min, IntKind.max, IntKind.bits, IntKind.signed] using h
theorem sys_get {n : Int} {m : Nat} {f t g : Nat → Int} {s : Int} (h : (rightB n m f t g && inB s n) = true) (hn : n ≤ 60) (hm : m ≤ 201) :
    ∃ S : Sys, S.Ok ∧ n = S.n ∧ m = S.m ∧ s = S.s ∧ (∀ (w : World) (a : Option Addr), IsEs w a m f t g → IsEs w a S.m (fun i => (S.F i : Nat)) (fun i => (S.T i : Nat)) S.W) ∧ (∀ i, i < m → f i = (S.F i : Nat) ∧ t i = (S.T i : Nat) ∧ g i = S.W i) := by
  rw [Bool.and_eq_true] at h
  refine ⟨sysOf n m f t g s, sys_ok h.1 h.2 hn hm, (sys_n h.1).symm, rfl, (sys_s h.2).symm, fun w a he => sys_es h.1 he, fun i hi => ?_⟩
  have h3 := (rightB_iff.1 h.1).2 i hi
  exact ⟨by show f i = (((f i).toNat : Nat) : Int); omega, by show t i = (((t i).toNat : Nat) : Int); omega, rfl⟩
theorem nat_get {t n : Int} (h : inB t n = true) : ∃ T : Nat, t = T ∧ (T : Int) < n := by
  obtain ⟨h1, h2⟩ := inB_iff.1 h
  exact ⟨t.toNat, by omega, by omega⟩
/-- What is shut is so wherever the numbers are the same. -/
theorem shut_congr {S : Sys} (ok : S.Ok) {D D' : Nat → Int} (he : ∀ v, v < S.n → D v = D' v) (h : Shut S D') : Shut S D := by
  intro i hi hd
  rw [he _ (ok.hF i hi)] at hd ⊢
  rw [he _ (ok.hT i hi)]
  exact h i hi hd
theorem ref_of_dist {S : Sys} (ok : S.Ok) {D : Nat → Int} (hg : Good S D) (hR : ∀ v, v < S.n → R S (S.n - 1) v = D v) : ¬ ∀ k, k < S.n → ¬ Shut S (R S k) := fun h =>
  h (S.n - 1) (by have := ok.hs; omega) (shut_congr ok hR hg.shut)
/-- The same system, from another number. -/
def Sys.at (S : Sys) (b : Nat) : Sys := ⟨S.n, S.m, S.F, S.T, S.W, b⟩
theorem Sys.Ok.at {S : Sys} (ok : S.Ok) {b : Nat} (hb : b < S.n) : (S.at b).Ok := ⟨ok.hn, ok.hm, hb, ok.hF, ok.hT, ok.hW⟩
/-- Numbers that hold are values of which all edges hold. -/
theorem closed_of_holds {S : Sys} {f t g x : Nat → Int} {lx : Nat} (hfg : ∀ i, i < S.m → f i = (S.F i : Nat) ∧ t i = (S.T i : Nat) ∧ g i = S.W i) (h : holdsB S.m f t g lx x = true) : Closed S (fun _ => True) (fun v => x v - x S.s) := by
  obtain ⟨_, h2⟩ := holdsB_iff.1 h
  refine ⟨trivial, by show x S.s - x S.s ≤ 0; omega, fun j hj _ => ⟨trivial, ?_⟩⟩
  obtain ⟨_, _, h3⟩ := h2 j hj
  obtain ⟨e1, e2, e3⟩ := hfg j hj
  rw [e1, e2, e3, Int.toNat_natCast, Int.toNat_natCast] at h3
  show x (S.T j) - x S.s ≤ x (S.F j) - x S.s + S.W j
  omega
/-- By a third number it is never nearer. -/
theorem third {S : Sys} (ok : S.Ok) {b : Nat} (hb : b < S.n) {D X : Nat → Int} (hD : Good S D) (hX : Good (S.at b) X) {i : Nat} (hi : i < S.n) (h1 : D b ≠ Far) (h2 : X i ≠ Far) : D i ≠ Far ∧ D i ≤ D b + X i := by
  have hc := hD.closed ok
  have h1' : D b < Far := by have := hD.far hb; omega
  have h2' : X i < Far := by have := hX.far hi; omega
  have := hX.great (fun v => D v < Far) (fun v => D v - D b) ⟨h1', by show D b - D b ≤ 0; omega, fun j hj hf => by
    obtain ⟨g1, g2⟩ := hc.edge j hj hf
    exact ⟨g1, by show D (S.T j) - D b ≤ D (S.F j) - D b + S.W j; omega⟩⟩ i hi h2'
  exact ⟨by have := this.1; omega, by have := this.2; omega⟩
end Diff
end Go.Proofs.Ytjhghkieghdoaaa
