/- The document's example of layer 24: jitneylaw24.alive; over the translated program. -/
import Derived.Test.YtjmingdlfihmaaaDoorTkOf
import Derived.Test.YtjmingdlfihmaaaDoorTkSample
import Derived.Test.YtjmingdlfihmaaaDoorTkParse
import Derived.Test.YtjmingdlfihmaaaDoorTkWrite
import Derived.Deep.RegionHeld3
namespace Go.Proofs.YtjmingdlfihmaaaDoor
namespace Tk
open Go Go.RowKit Deci
set_option linter.unusedVariables false
def e1 : LN := ⟨1, 0, 0, 6, 5, true⟩
def e0 : LN := ⟨1, 0, 0, 0, 0, false⟩
def e2 : LN := ⟨2, 0, 0, 0, 0, false⟩
def exA : ByteArray := ⟨#[49, 32, 48, 32, 48, 32, 54, 32, 53, 10, 50, 32, 117, 110, 115, 101, 114, 118, 101, 100, 10]⟩
def exB : ByteArray := ⟨#[50, 32, 117, 110, 115, 101, 114, 118, 101, 100, 10, 49, 32, 117, 110, 115, 101, 114, 118, 101, 100, 10]⟩
def exC : ByteArray := ⟨#[49, 32, 48, 32, 48, 32, 54, 32, 53, 10]⟩
def exD : ByteArray := ⟨#[49, 32, 117, 110, 115, 101, 114, 118, 101, 100, 10]⟩
theorem write_dig {x : Int} (h0 : 0 ≤ x) (h1 : x < 10) : writeV x 0 = [UInt8.ofNat (48 + x.natAbs)] := by
  rw [(write_sgn ⟨by omega, by omega⟩).1, if_neg (by omega), Lib.decDigits_one (by omega)]; rfl
theorem line_e1 : lineB e1 = [49, 32, 48, 32, 48, 32, 54, 32, 53] := by
  unfold lineB e1
  simp only [write_dig (x := 0) (by decide) (by decide), write_dig (x := 1) (by decide) (by decide), write_dig (x := 5) (by decide) (by decide), write_dig (x := 6) (by decide) (by decide)]
  decide +kernel
theorem line_e0 : lineB e0 = [49, 32, 117, 110, 115, 101, 114, 118, 101, 100] := by
  unfold lineB e0
  simp only [write_dig (x := 1) (by decide) (by decide)]
  decide +kernel
theorem line_e2 : lineB e2 = [50, 32, 117, 110, 115, 101, 114, 118, 101, 100] := by
  unfold lineB e2
  simp only [write_dig (x := 2) (by decide) (by decide)]
  decide +kernel
theorem text_a : strOf (textT [e1, e2]) = exA := by simp only [textT, List.flatMap_cons, List.flatMap_nil, line_e1, line_e2]; rfl
theorem text_b : strOf (textT [e2, e0]) = exB := by simp only [textT, List.flatMap_cons, List.flatMap_nil, line_e0, line_e2]; rfl
theorem text_c : strOf (textT [e1]) = exC := by simp only [textT, List.flatMap_cons, List.flatMap_nil, line_e1]; rfl
theorem text_d : strOf (textT [e0]) = exD := by simp only [textT, List.flatMap_cons, List.flatMap_nil, line_e0]; rfl
theorem rng_small {x : Int} (h0 : 0 ≤ x) (h1 : x < 10) : Rng x := ⟨by omega, by omega⟩
theorem ok_e1 : e1.Ok := ⟨rng_small (by decide) (by decide), rng_small (by decide) (by decide), rng_small (by decide) (by decide), rng_small (by decide) (by decide), rng_small (by decide) (by decide), by decide, by decide, fun h => by cases h⟩
theorem ok_e0 : e0.Ok := ⟨rng_small (by decide) (by decide), rng_small (by decide) (by decide), rng_small (by decide) (by decide), rng_small (by decide) (by decide), rng_small (by decide) (by decide), by decide, by decide, fun h => ⟨rfl, rfl, rfl, rfl⟩⟩
theorem ok_e2 : e2.Ok := ⟨rng_small (by decide) (by decide), rng_small (by decide) (by decide), rng_small (by decide) (by decide), rng_small (by decide) (by decide), rng_small (by decide) (by decide), by decide, by decide, fun h => ⟨rfl, rfl, rfl, rfl⟩⟩
theorem rise_a : Rise [e1, e2] 2 := ⟨Nat.le_refl _, fun j h hj => by
    obtain rfl : j = 0 := by omega
    show (1 : Int) < 2; decide, fun j h hj => by simp at h; omega, fun h => by simp at h⟩
theorem rise_b : Rise [e2, e0] 1 := ⟨by simp, fun j h hj => by omega, fun j h hj => by
    obtain rfl : j = 0 := by omega
    show (1 : Int) ≤ 2; decide, fun _ => by omega⟩
theorem all_two {P : LN → Prop} {a b : LN} (ha : P a) (hb : P b) : ∀ l ∈ [a, b], P l := fun l hl => by
  simp only [List.mem_cons, List.not_mem_nil, or_false] at hl
  rcases hl with rfl | rfl
  · exact ha
  · exact hb
theorem all_one {P : LN → Prop} {a : LN} (ha : P a) : ∀ l ∈ [a], P l := fun l hl => by
  simp only [List.mem_cons, List.not_mem_nil, or_false] at hl
  subst hl; exact ha
/-- Parse of the example's texts. -/
theorem parse_a (w : World) (hE : Env w) : Calls Tryd.prog 5 #[.string exA] w fun e w' => ∃ g cap, e = .returned (.tuple #[.slice (some ⟨g, 0, none⟩) 2 cap, .int .i64 0, .int .i64 0]) ∧ LnAt w' g 0 e1 ∧ LnAt w' g 6 e2 ∧ Below w.heap.size w w' := by
  have h := parse_any [e1, e2] 2 w hE (all_two ok_e1 ok_e2) (by decide) rise_a
  rw [text_a] at h
  refine h.mono ?_
  rintro e w' ⟨hb, ⟨-, v, rfl, hown⟩ | ⟨hlt, -⟩⟩
  · rcases hown.2 with ⟨_, h0⟩ | ⟨g, cap, cur, rfl, _⟩
    · simp at h0
    · exact ⟨g, cap, rfl, own_at hown 0 (by decide), own_at hown 1 (by decide), hb⟩
  · simp at hlt
theorem parse_b (w : World) (hE : Env w) : Calls Tryd.prog 5 #[.string exB] w fun e w' => e = .returned (.tuple #[.slice none 0 0, .int .i64 2, .int .i64 5]) ∧ Below w.heap.size w w' := by
  have h := parse_any [e2, e0] 1 w hE (all_two ok_e2 ok_e0) (by decide) rise_b
  rw [text_b] at h
  refine h.mono ?_
  rintro e w' ⟨hb, ⟨h1, -⟩ | ⟨-, rfl⟩⟩
  · simp at h1
  · exact ⟨rfl, hb⟩
theorem isLn_one {w : World} {G : Nat} {l : LN} (h : LnAt w G 0 l) : IsLn w (.slice (some ⟨G, 0, none⟩) 1 1) [l] :=
  ⟨_, 1, rfl, .inr ⟨G, 0, rfl, h.lt, fun j hj => by
    obtain rfl : j = 0 := by simp at hj; omega
    exact h⟩⟩
theorem print_c (G : Nat) (w : World) (hE : Env w) (h : LnAt w G 0 e1) : Calls Tryd.prog 6 #[.slice (some ⟨G, 0, none⟩) 1 1] w fun e w' => e = .returned (.string exC) ∧ Below w.heap.size w w' := by
  have := print_any _ [e1] w (env_at hE) (isLn_one h) (all_one ok_e1) (by decide)
  rw [text_c] at this
  exact this
theorem print_d (G : Nat) (w : World) (hE : Env w) (h : LnAt w G 0 e0) : Calls Tryd.prog 6 #[.slice (some ⟨G, 0, none⟩) 1 1] w fun e w' => e = .returned (.string exD) ∧ Below w.heap.size w w' := by
  have := print_any _ [e0] w (env_at hE) (isLn_one h) (all_one ok_e0) (by decide)
  rw [text_d] at this
  exact this
end Tk
end Go.Proofs.YtjmingdlfihmaaaDoor
