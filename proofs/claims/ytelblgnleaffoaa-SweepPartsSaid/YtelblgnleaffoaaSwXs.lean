/- Slices of numbers, slices of these, and jitneyref01.SameInts and SameRows where they hold the same. -/
import Derived.Test.YtelblgnleaffoaaSwSame
import Derived.Deep.QuietTactic
import Derived.BigQuiet
namespace Go.Proofs.Ytelblgnleaffoaa
open Go.RowKit
namespace Sw
open Go.Lib Spot
set_option linter.unusedVariables false
/-- A slice of numbers. -/
def IsXs (w : World) (a : Option Addr) (n : Nat) (x : Nat → Int) : Prop :=
  n = 0 ∨ ∃ b off, a = some ⟨b, off, none⟩ ∧ b < w.heap.size ∧ ∀ j, j < n → w.cell? ⟨b, off + j, none⟩ = some (.int .i64 (x j))
theorem IsXs.below {w w' : World} {a : Option Addr} {n : Nat} {x : Nat → Int} (h : IsXs w a n x) (hb : Below w.heap.size w w') : IsXs w' a n x := by
  rcases h with h | ⟨b, off, h1, h2, h3⟩
  · exact .inl h
  · exact .inr ⟨b, off, h1, Nat.lt_of_lt_of_le h2 hb.size, fun j hj => (hb.cell (by exact h2)).trans (h3 j hj)⟩
/-- A slice of slices of numbers lies in block g. -/
def RowsAt (w : World) (g M : Nat) (L : Nat → Nat) (Z : Nat → Nat → Int) : Prop :=
  g < w.heap.size ∧ ∀ j, j < M → ∃ a c, w.cell? ⟨g, j, none⟩ = some (.slice a (L j) c) ∧ L j ≤ c ∧ (a = none → L j = 0 ∧ c = 0) ∧ IsXs w a (L j) (Z j)
theorem RowsAt.below {w w' : World} {g M : Nat} {L : Nat → Nat} {Z : Nat → Nat → Int} (h : RowsAt w g M L Z) (hb : Below w.heap.size w w') : RowsAt w' g M L Z :=
  ⟨Nat.lt_of_lt_of_le h.1 hb.size, fun j hj => by
    obtain ⟨a, c, h1, h2, h3, h4⟩ := h.2 j hj
    exact ⟨a, c, (hb.cell (by exact h.1)).trans h1, h2, h3, h4.below hb⟩⟩
/-- SameInts of two slices that hold the same numbers. -/
theorem same_xs {a1 a2 : Option Addr} {n c1 c2 : Nat} {x y : Nat → Int} {w : World} (hn : n ≤ 100000) (h1 : IsXs w a1 n x) (h2 : IsXs w a2 n y) (hxy : ∀ j, j < n → x j = y j) :
    Calls Try.prog 6 #[.slice a1 n c1, .slice a2 n c2] w fun e w' => e = .returned (.bool true) ∧ Drew w w' := by
  rcases Nat.eq_zero_or_pos n with h0 | h0
  · subst h0
    exact same_nil a1 a2 c1 c2 w
  rcases h1 with h | ⟨b1, o1, rfl, _, k1⟩
  · omega
  rcases h2 with h | ⟨b2, o2, rfl, _, k2⟩
  · omega
  exact same_any b1 o1 c1 b2 o2 c2 n x w (by omega) k1 (fun j hj => by rw [k2 j hj, hxy j hj])
theorem Drew.xs {w w' : World} {a : Option Addr} {n : Nat} {x : Nat → Int} (h : IsXs w a n x) (hd : Drew w w') : IsXs w' a n x := by
  obtain ⟨q, rfl⟩ := hd
  exact h
set_option maxHeartbeats 2000000 in
set_option maxRecDepth 100000 in
/-- SameRows of two slices of slices that hold the same numbers. -/
theorem same_rows {g1 g2 M c1 c2 : Nat} {L : Nat → Nat} {Z1 Z2 : Nat → Nat → Int} {w : World} (hM : M ≤ 1000) (hL : ∀ j, j < M → L j ≤ 100000) (h1 : RowsAt w g1 M L Z1) (h2 : RowsAt w g2 M L Z2) (hz : ∀ j, j < M → ∀ i, i < L j → Z1 j i = Z2 j i) :
    Calls Try.prog 7 #[.slice (some ⟨g1, 0, none⟩) M c1, .slice (some ⟨g2, 0, none⟩) M c2] w fun e w' => e = .returned (.bool true) ∧ Drew w w' := by
  have H1 := Lib.hid h1; clear h1
  have H2 := Lib.hid h2; clear h2
  have HL := Lib.hid hL; clear hL
  have HZ := Lib.hid hz; clear hz
  go_enter Try.func7, Try.ntmps7
  go_wp2
  go_loopw [5] (fun i wr => ∃ k : Nat, k ≤ M ∧ i = .int .i64 k ∧ Hid (Drew w wr)) (fun i _ => M - (intOf i).toNat)
  case atStart => exact ⟨0, Nat.zero_le _, rfl, Lib.hid (Drew.refl _)⟩
  case round =>
    obtain ⟨k, hk, rfl, hd⟩ := hrel
    by_cases hlt : k < M
    · obtain ⟨a1, d1, f1, _, _, x1⟩ := H1.out.2 k hlt
      obtain ⟨a2, d2, f2, _, _, x2⟩ := H2.out.2 k hlt
      have f1' : wr.cell? ⟨g1, k, none⟩ = some (.slice a1 (L k) d1) := (hd.out.cell _).trans f1
      have f2' : wr.cell? ⟨g2, k, none⟩ = some (.slice a2 (L k) d2) := (hd.out.cell _).trans f2
      have hl := HL.out k hlt
      have hzk := Lib.hid (HZ.out k hlt)
      have X1 := Lib.hid x1; have X2 := Lib.hid x2
      have i0 : (0 : Int) ≤ (k : Int) := by omega
      have i1 : (k : Int) < (M : Int) := by omega
      clear f1 f2 x1 x2
      generalize L k = lk at *
      have SL : Hid (∀ q, Calls Try.prog 6 #[.slice a1 lk d1, .slice a2 lk d2] (wr.drewN q) fun e w' => e = .returned (.bool true) ∧ ∃ m, w' = (wr.drewN q).drewN m) :=
        Lib.hid fun q => same_xs hl (Drew.xs X1.out (hd.out.drewN q)) (Drew.xs X2.out (hd.out.drewN q)) hzk.out
      go_wp2
      go_quiet ((go_at_call 6; exact Calls.quiet_of (SL.out _)))
      clear i0 i1
      go_wp2
      go_roundw
      case rel => exact ⟨k + 1, by omega, by go_num, Lib.hid (hd.out.drewN _)⟩
      case measure => simp [intOf]; omega
    · have hkn : k = M := by omega
      subst hkn
      go_wp2
      go_ret
      exact ⟨rfl, hd.out⟩
end Sw
end Go.Proofs.Ytelblgnleaffoaa
