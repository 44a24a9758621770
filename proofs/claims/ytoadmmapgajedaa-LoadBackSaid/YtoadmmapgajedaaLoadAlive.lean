/- alive of layer 4: the document's examples hold. -/
import Derived.Test.YtoadmmapgajedaaLoadFirst
import Derived.Test.YtoadmmapgajedaaLoadKept
import Derived.Deep.RegionHeld3
namespace Go.Proofs.Ytoadmmapgajedaa
open Go.RowKit
namespace Load
def row3 (a b c : Int) (j : Nat) : Int := match j with | 0 => a | 1 => b | _ => c
theorem row3_cells {w : World} {g : Nat} {a b c : Int} (h0 : w.cell? ⟨g, 0, none⟩ = some (.int .i64 a)) (h1 : w.cell? ⟨g, 1, none⟩ = some (.int .i64 0)) (h2 : w.cell? ⟨g, 2, none⟩ = some (.int .i64 b)) (h3 : w.cell? ⟨g, 3, none⟩ = some (.int .i64 0)) (h4 : w.cell? ⟨g, 4, none⟩ = some (.int .i64 c)) (h5 : w.cell? ⟨g, 5, none⟩ = some (.int .i64 0)) :
    ∀ j, j < 3 → w.cell? ⟨g, 0 + j * 2, none⟩ = some (.int .i64 (row3 a b c j)) ∧ w.cell? ⟨g, 0 + j * 2 + 1, none⟩ = some (.int .i64 ((fun _ => 0) j)) := by
  intro j hj
  match j, hj with
  | 0, _ => exact ⟨h0, h1⟩
  | 1, _ => exact ⟨h2, h3⟩
  | 2, _ => exact ⟨h4, h5⟩
  | n + 3, h => omega
section
variable {w : World} {g c : Nat} (hg : g < w.heap.size) (h0 : w.cell? ⟨g, 0, none⟩ = some (.int .i64 1)) (h1 : w.cell? ⟨g, 1, none⟩ = some (.int .i64 0)) (h2 : w.cell? ⟨g, 2, none⟩ = some (.int .i64 1)) (h3 : w.cell? ⟨g, 3, none⟩ = some (.int .i64 0)) (h5 : w.cell? ⟨g, 5, none⟩ = some (.int .i64 0))
include hg h0 h1 h2 h3 h5
theorem peak3 (h4 : w.cell? ⟨g, 4, none⟩ = some (.int .i64 (-1))) : Calls Try.prog 21 #[.slice (some ⟨g, 0, none⟩) 3 c] w fun e w' => e = .returned (.agg #[.int .i64 2, .int .i64 0]) ∧ Below w.heap.size w w' :=
  peak_any g 0 c 3 (row3 1 1 (-1)) (fun _ => 0) w (by omega) hg (row3_cells h0 h1 h2 h3 h4 h5)
theorem first3 (h4 : w.cell? ⟨g, 4, none⟩ = some (.int .i64 (-1))) : Calls Try.prog 19 #[.agg #[.int .i64 2, .int .i64 0], .slice (some ⟨g, 0, none⟩) 3 c] w fun e w' => e = .returned (.int .i64 (-1)) ∧ Below w.heap.size w w' :=
  first_any g 0 c 3 (row3 1 1 (-1)) (fun _ => 0) 2 0 w (by omega) hg (row3_cells h0 h1 h2 h3 h4 h5)
theorem first3' (h4 : w.cell? ⟨g, 4, none⟩ = some (.int .i64 1)) : Calls Try.prog 19 #[.agg #[.int .i64 2, .int .i64 0], .slice (some ⟨g, 0, none⟩) 3 c] w fun e w' => e = .returned (.int .i64 2) ∧ Below w.heap.size w w' :=
  first_any g 0 c 3 (row3 1 1 1) (fun _ => 0) 2 0 w (by omega) hg (row3_cells h0 h1 h2 h3 h4 h5)
end
theorem fits3 (w : World) : Calls Try.prog 15 #[.agg #[.int .i64 2, .int .i64 0], .agg #[.int .i64 1, .int .i64 0]] w fun e w' => e = .returned (.bool true) ∧ Below w.heap.size w w' := fits_any 2 0 1 0 w
theorem fits3' (w : World) : Calls Try.prog 15 #[.agg #[.int .i64 2, .int .i64 0], .agg #[.int .i64 (-1), .int .i64 0]] w fun e w' => e = .returned (.bool false) ∧ Below w.heap.size w w' := fits_any 2 0 (-1) 0 w
theorem right3 (w : World) : Calls Try.prog 13 #[.agg #[.int .i64 2, .int .i64 0]] w fun e w' => e = .returned (.bool true) ∧ Below w.heap.size w w' := right_any 2 0 w
theorem right3' (w : World) : Calls Try.prog 13 #[.agg #[.int .i64 (-1), .int .i64 0]] w fun e w' => e = .returned (.bool false) ∧ Below w.heap.size w w' := right_any (-1) 0 w
theorem neg3 (w : World) : Calls Try.prog 11 #[.agg #[.int .i64 1, .int .i64 0]] w fun e w' => e = .returned (.agg #[.int .i64 (-1), .int .i64 0]) ∧ Below w.heap.size w w' := neg_any 1 0 w
theorem add3 (w : World) : Calls Try.prog 9 #[.agg #[.int .i64 1, .int .i64 0], .agg #[.int .i64 1, .int .i64 0]] w fun e w' => e = .returned (.tuple #[.agg #[.int .i64 2, .int .i64 0], .bool true]) ∧ Below w.heap.size w w' := add_any 1 0 1 0 w
theorem add3' (w : World) : Calls Try.prog 9 #[.agg #[.int .i64 1073741824, .int .i64 0], .agg #[.int .i64 1, .int .i64 0]] w fun e w' => e = .returned (.tuple #[.agg #[.int .i64 0, .int .i64 0], .bool false]) ∧ Below w.heap.size w w' := add_any 1073741824 0 1 0 w
/-- the cells of alive -/
def cellsA (A : Nat) : List (Addr × Value) := [(⟨A, 0, none⟩, .int .i64 2), (⟨A, 1, none⟩, .int .i64 0), (⟨A + 1, 0, none⟩, .int .i64 1), (⟨A + 1, 1, none⟩, .int .i64 0), (⟨A + 1 + 1, 0, none⟩, .int .i64 (-1)), (⟨A + 1 + 1, 1, none⟩, .int .i64 0)]
def cellsB (A B g : Nat) : List (Addr × Value) := (⟨g, 5, none⟩, .int .i64 0) :: (⟨g, 4, none⟩, .int .i64 1) :: (⟨B, 0, none⟩, .int .i64 2) :: cellsA A
theorem KA.six {w0 W : World} {A : Nat} (h : KA w0 (cellsA A) W) : A < W.heap.size ∧ A + 1 < W.heap.size ∧ A + 1 + 1 < W.heap.size ∧ W.cell? ⟨A, 0, none⟩ = some (.int .i64 2) ∧ W.cell? ⟨A, 1, none⟩ = some (.int .i64 0) ∧ W.cell? ⟨A + 1, 0, none⟩ = some (.int .i64 1) ∧ W.cell? ⟨A + 1, 1, none⟩ = some (.int .i64 0) ∧ W.cell? ⟨A + 1 + 1, 0, none⟩ = some (.int .i64 (-1)) ∧ W.cell? ⟨A + 1 + 1, 1, none⟩ = some (.int .i64 0) :=
  ⟨h.lt (a := ⟨A, 0, none⟩) (v := .int .i64 2) (by simp [cellsA]), h.lt (a := ⟨A + 1, 0, none⟩) (v := .int .i64 1) (by simp [cellsA]), h.lt (a := ⟨A + 1 + 1, 0, none⟩) (v := .int .i64 (-1)) (by simp [cellsA]), h.at (by simp [cellsA]), h.at (by simp [cellsA]), h.at (by simp [cellsA]), h.at (by simp [cellsA]), h.at (by simp [cellsA]), h.at (by simp [cellsA])⟩
theorem KA.all {w0 W : World} {A B g : Nat} (h : KA w0 (cellsB A B g) W) : KA w0 (cellsB A B g) W ∧ W.cell? ⟨A, 0, none⟩ = some (.int .i64 2) ∧ W.cell? ⟨A, 1, none⟩ = some (.int .i64 0) ∧ W.cell? ⟨A + 1, 0, none⟩ = some (.int .i64 1) ∧ W.cell? ⟨A + 1, 1, none⟩ = some (.int .i64 0) ∧ W.cell? ⟨A + 1 + 1, 0, none⟩ = some (.int .i64 (-1)) ∧ W.cell? ⟨A + 1 + 1, 1, none⟩ = some (.int .i64 0) ∧
    W.cell? ⟨B, 0, none⟩ = some (.int .i64 2) ∧ W.cell? ⟨g, 4, none⟩ = some (.int .i64 1) ∧ W.cell? ⟨g, 5, none⟩ = some (.int .i64 0) :=
  ⟨h, h.at (by simp [cellsA, cellsB]), h.at (by simp [cellsA, cellsB]), h.at (by simp [cellsA, cellsB]), h.at (by simp [cellsA, cellsB]), h.at (by simp [cellsA, cellsB]), h.at (by simp [cellsA, cellsB]), h.at (by simp [cellsA, cellsB]), h.at (by simp [cellsA, cellsB]), h.at (by simp [cellsA, cellsB])⟩
set_option maxHeartbeats 8000000 in
set_option maxRecDepth 100000 in
theorem alive_any (w : World) : Calls Try.prog 8 #[] w fun e w' => e = .returned (.bool true) ∧ Below w.heap.size w w' := by
  go_enter Try.func8, Try.ntmps8
  go_wp2_with fail
  refine (add3 _).mono ?_
  rintro e w1 ⟨rfl, hb⟩
  have hk0 : KA w (cellsA w.heap.size) (((w.alloc (.cells #[.int .i64 2, .int .i64 0] 23)).alloc (.cells #[.int .i64 1, .int .i64 0] 23)).alloc (.cells #[.int .i64 (-1), .int .i64 0] 23)) := by
    refine ⟨fun p hp => ?_, (((Below.refl _ _).alloc (Nat.le_refl _) _).alloc (by simp) _).alloc (by simp; omega) _⟩
    simp only [cellsA, List.mem_cons, List.not_mem_nil, or_false] at hp
    rcases hp with rfl | rfl | rfl | rfl | rfl | rfl <;> simp [go_sem]
  have hk1 := hk0.below hb
  clear hk0 hb
  obtain ⟨A, hA⟩ : ∃ A, A = w.heap.size := ⟨_, rfl⟩
  rw [← hA] at hk1 ⊢
  have HA := Lib.hid hA; clear hA
  have HK := Lib.hid hk1
  obtain ⟨l0, l1, l2, k0, k1, k2, k3, k4, k5⟩ := hk1.six
  clear hk1
  go_wp2_with fail
  refine (add3' _).mono ?_
  rintro e w2 ⟨rfl, hb⟩
  have hk := ((HK.out.alloc _).put (a := ⟨w1.heap.size, 0, none⟩) (v := .int .i64 2) (by simp [go_sem])).below hb
  clear hb HK l0 l1 l2 k0 k1 k2 k3 k4 k5
  obtain ⟨B, hB⟩ : ∃ B, B = w1.heap.size := ⟨_, rfl⟩
  rw [← hB] at hk ⊢
  have HB := Lib.hid hB; clear hB
  have HK := Lib.hid hk
  obtain ⟨l0, l1, l2, k0, k1, k2, k3, k4, k5⟩ := KA.six (A := A) (W := w2) (w0 := w) ⟨fun p hp => hk.1 p (List.mem_cons_of_mem _ hp), hk.2⟩
  clear hk
  go_wp2_with fail
  refine (prof_any _ _ _ 3 (row3 1 1 (-1)) (fun _ => 0) _ (by omega) (by simp) (row3_cells (by simp [go_sem]) (by simp [go_sem]) (by simp [go_sem]) (by simp [go_sem]) (by simp [go_sem]) (by simp [go_sem]))).mono ?_
  rintro e w3 hpp
  obtain ⟨g, rfl, hb, hg1, hg2, HCG⟩ := hpp.yes (by decide)
  have p0 : w3.cell? ⟨g, 4, none⟩ = some (.int .i64 1) := (HCG.out 2 (by omega)).1
  have p1 : w3.cell? ⟨g, 5, none⟩ = some (.int .i64 0) := (HCG.out 2 (by omega)).2
  have hk : KA w (cellsB A B g) w3 := ((((HK.out.alloc _).alloc _).below hb).put p0).put p1
  clear hpp hb HK l0 l1 l2 k0 k1 k2 k3 k4 k5 hg1 hg2 HCG p0 p1
  obtain ⟨KK, k0, k1, k2, k3, k4, k5, b0, p0, p1⟩ := hk.all
  clear hk
  go_wp2_with fail
  simp only [List.append_eq, List.cons_append, List.nil_append]
  go_region_held3 (fun w' => KA w (cellsB A B g) w' ∧ w'.cell? ⟨A, 0, none⟩ = some (.int .i64 2) ∧ w'.cell? ⟨A, 1, none⟩ = some (.int .i64 0) ∧ w'.cell? ⟨A + 1, 0, none⟩ = some (.int .i64 1) ∧ w'.cell? ⟨A + 1, 1, none⟩ = some (.int .i64 0) ∧ w'.cell? ⟨A + 1 + 1, 0, none⟩ = some (.int .i64 (-1)) ∧ w'.cell? ⟨A + 1 + 1, 1, none⟩ = some (.int .i64 0) ∧ w'.cell? ⟨B, 0, none⟩ = some (.int .i64 2) ∧ w'.cell? ⟨g, 4, none⟩ = some (.int .i64 1) ∧ w'.cell? ⟨g, 5, none⟩ = some (.int .i64 0))
    (first
      | exact KA.all ‹KA w (cellsB A B g) _›
      | exact KA.all (KA.drew (And.left ‹KA w (cellsB A B g) _ ∧ _›))
      | exact KA.all (KA.drew ‹KA w (cellsB A B g) _›)
      | exact KA.all (KA.alloc (And.left ‹KA w (cellsB A B g) _ ∧ _›) _)
      | exact KA.all (KA.drew (KA.alloc (And.left ‹KA w (cellsB A B g) _ ∧ _›) _))
      | exact KA.all (KA.drew (KA.alloc ‹KA w (cellsB A B g) _› _)))
    (first
      | (go_at_call 21; (with_reducible refine (peak3 ?_ ?_ ?_ ?_ ?_ ?_ ?_).mono ?_); (· simp); (iterate 6 (· simp [go_sem])); rintro e w' ⟨rfl, hb⟩; have hka := KA.below (And.left ‹KA w (cellsB A B g) _ ∧ _›) hb; clear hb)
      | (go_at_call 19; (with_reducible refine (first3 ?_ ?_ ?_ ?_ ?_ ?_ ?_).mono ?_); (· simp); (iterate 6 (· simp [go_sem])); rintro e w' ⟨rfl, hb⟩; have hka := KA.below (And.left ‹KA w (cellsB A B g) _ ∧ _›) hb; clear hb)
      | (go_at_call 19; (with_reducible refine (first3' ?_ ?_ ?_ ?_ ?_ ?_ ?_).mono ?_); (· simp); (iterate 6 (· simp [go_sem])); rintro e w' ⟨rfl, hb⟩; have hka := KA.below (And.left ‹KA w (cellsB A B g) _ ∧ _›) hb; clear hb)
      | (go_at_call 15; (with_reducible refine (fits3 _).mono ?_); rintro e w' ⟨rfl, hb⟩; have hka := KA.below (And.left ‹KA w (cellsB A B g) _ ∧ _›) hb; clear hb)
      | (go_at_call 15; (with_reducible refine (fits3' _).mono ?_); rintro e w' ⟨rfl, hb⟩; have hka := KA.below (And.left ‹KA w (cellsB A B g) _ ∧ _›) hb; clear hb)
      | (go_at_call 13; (with_reducible refine (right3 _).mono ?_); rintro e w' ⟨rfl, hb⟩; have hka := KA.below (And.left ‹KA w (cellsB A B g) _ ∧ _›) hb; clear hb)
      | (go_at_call 13; (with_reducible refine (right3' _).mono ?_); rintro e w' ⟨rfl, hb⟩; have hka := KA.below (And.left ‹KA w (cellsB A B g) _ ∧ _›) hb; clear hb)
      | (go_at_call 11; (with_reducible refine (neg3 _).mono ?_); rintro e w' ⟨rfl, hb⟩; have hka := KA.below (And.left ‹KA w (cellsB A B g) _ ∧ _›) hb; clear hb))
  go_wp2_with fail
  go_ret
  exact ⟨rfl, (And.left ‹KA w (cellsB A B g) _ ∧ _›).2⟩
end Load
end Go.Proofs.Ytoadmmapgajedaa
