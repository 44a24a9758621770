/- Sweep's own comparison (the closure): what it answers at two places of a list of spots, in whatever world the list lies in. -/
import Derived.Test.YtelblgnleaffoaaSwCmp
import Derived.Sort.Grow
import Derived.Deep.RegionHeld3
import Derived.Deep.DeepCutAuto
namespace Go.Proofs.Ytelblgnleaffoaa
open Go.RowKit
namespace Spot
open Fl Go.Sort
/-- w' is w with draws and new blocks. -/
def SG (w w' : World) : Prop := ∃ q os, w' = grow (w.drewN q) os
theorem SG.refl (w : World) : SG w w := ⟨0, #[], by simp; rfl⟩
theorem SG.alloc {w w' : World} (h : SG w w') (o : Obj) : SG w (w'.alloc o) := by
  obtain ⟨q, os, rfl⟩ := h
  exact ⟨q, os ++ #[o], by rw [alloc_eq_grow, grow_grow]⟩
theorem SG.drew {w w' : World} (h : SG w w') : SG w w'.drew := by
  obtain ⟨q, os, rfl⟩ := h
  exact ⟨q + 1, os, by rw [drew_grow]; rfl⟩
/-- How two places of a list stand to each other, the middle being (ox, oy). -/
def cmpAt (X Y : Nat → Int) (ox oy : Int) (i j : Nat) : Int := orV [cmpWay (X i - ox) (Y i - oy) (X j - ox) (Y j - oy), sgn ((i : Int) - j)]
theorem or_two (n : Nat) (p q : Int) (w : World) (h0 : w.cell? ⟨n, 0, none⟩ = some (.int .i64 p)) (h1 : w.cell? ⟨n, 1, none⟩ = some (.int .i64 q)) :
    Calls Try.prog 28 #[.slice (some ⟨n, 0, none⟩) 2 2] w fun e w' => e = .returned (.int .i64 (orV [p, q])) ∧ w = w' :=
  or_any n 0 2 [p, q] _ (by simp) (fun j hj => by
    simp only [List.length_cons, List.length_nil] at hj
    match j, hj with
    | 0, _ => exact h0
    | 1, _ => exact h1)
set_option maxHeartbeats 4000000 in
set_option maxRecDepth 100000 in
theorem lit_any (lb lo n cap : Nat) (B1 B2 : Nat) (P Q : Nat → Nat) (X Y : Nat → Int) (o1 o2 : Nat) (ox oy : Int) (i j : Nat) (w : World)
    (hi : i < n) (hj : j < n) (_hn : n ≤ 9223372036854775807)
    (hl : w.cell? ⟨B1, 0, none⟩ = some (.slice (some ⟨lb, lo, none⟩) n cap)) (ho : w.cell? ⟨B2, 0, none⟩ = some (.complex .f64 o1 o2))
    (hci : w.cell? ⟨lb, lo + i, none⟩ = some (.complex .f64 (P i) (Q i))) (hcj : w.cell? ⟨lb, lo + j, none⟩ = some (.complex .f64 (P j) (Q j)))
    (hs : ∀ k, k < n → Sp (P k) (Q k) (X k) (Y k)) (hnx : ∀ k, k < n → Near (X k) ∧ Near (Y k)) (hso : Sp o1 o2 ox oy) (hno : Near ox ∧ Near oy) :
    Calls Try.prog 27 #[.int .i64 i, .int .i64 j, .pointer (some ⟨B1, 0, none⟩), .pointer (some ⟨B2, 0, none⟩)] w fun e w' => e = .returned (.int .i64 (cmpAt X Y ox oy i j)) ∧ SG w w' := by
  obtain ⟨r1, r2, hm, hs1⟩ := csub (hs i hi) hso (way_abs (near_way (hnx i hi).1 hno.1)) (way_abs (near_way (hnx i hi).2 hno.2))
  obtain ⟨s1, s2, hm2, hs2⟩ := csub (hs j hj) hso (way_abs (near_way (hnx j hj).1 hno.1)) (way_abs (near_way (hnx j hj).2 hno.2))
  have k1 := fun w => run_complex_sum w .sub (Or.inr rfl) 40 .f64 (P i) (Q i) o1 o2 r1 r2 hm (P := Try.prog)
  have k2 := fun w => run_complex_sum w .sub (Or.inr rfl) 40 .f64 (P j) (Q j) o1 o2 s1 s2 hm2 (P := Try.prog)
  have h4 := fun w => compare_any r1 r2 s1 s2 _ _ _ _ w hs1 hs2 (near_way (hnx i hi).1 hno.1) (near_way (hnx i hi).2 hno.2) (near_way (hnx j hj).1 hno.1) (near_way (hnx j hj).2 hno.2)
  unfold cmpAt
  have hres := rfl (a := orV [cmpWay (X i - ox) (Y i - oy) (X j - ox) (Y j - oy), sgn ((i : Int) - j)])
  generalize cmpWay (X i - ox) (Y i - oy) (X j - ox) (Y j - oy) = c1 at *
  generalize cmpObj (X i - ox) (Y i - oy) (X j - ox) (Y j - oy) = ob at *
  have h5 := fun w => cmpI_any (i : Int) (j : Int) w
  generalize sgn ((i : Int) - j) = c2 at *
  generalize P i = pi at *
  generalize Q i = qi at *
  generalize P j = pj at *
  generalize Q j = qj at *
  clear hs hnx hso hno hm hm2 hs1 hs2 hres
  have n1 : w.heap.size ≠ B1 := World.new_ne w ⟨B1, 0, none⟩ hl
  have n2 : w.heap.size ≠ B2 := World.new_ne w ⟨B2, 0, none⟩ ho
  have n3 : w.heap.size ≠ lb := World.new_ne w ⟨lb, lo + i, none⟩ hci
  have H4 := Lib.hid h4; clear h4
  have H5 := Lib.hid h5; clear h5
  go_enter Try.func27, Try.ntmps27
  go_wp2_with fail
  go_region_held3 (fun w' => w'.cell? ⟨B1, 0, none⟩ = some (.slice (some ⟨lb, lo, none⟩) n cap) ∧ w'.cell? ⟨B2, 0, none⟩ = some (.complex .f64 o1 o2) ∧ w'.cell? ⟨lb, lo + i, none⟩ = some (.complex .f64 pi qi) ∧ w'.cell? ⟨lb, lo + j, none⟩ = some (.complex .f64 pj qj)) (go_keep)
    (first | (go_at_call 29; refine (H4.out _).mono ?_; rintro e w' ⟨rfl, rfl⟩) | (go_at_call 30; refine (H5.out _).mono ?_; rintro e w' ⟨rfl, rfl⟩) | (go_at_call 28; refine (or_two _ c1 c2 _ ?_ ?_).mono ?_; (go_simp); (go_simp); rintro e w' ⟨rfl, rfl⟩))
  go_wp2
  go_ret
  exact ⟨rfl, (((SG.refl _).alloc _).alloc _).drew⟩
end Spot
end Go.Proofs.Ytelblgnleaffoaa
