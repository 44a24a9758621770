/- More of sweeps: of an empty list; each place once, none before the one ahead of it. -/
import Derived.Test.YtcfbondgbhmcaaaSortSaid
import Derived.Test.YtcfbondgbhmcaaaSpotAlive
import Derived.Shelf.SlSortCmp.NoneTotal
namespace Go.Proofs.Ytcfbondgbhmcaaa
open Go.RowKit
namespace Spot
open Fl Go.Sort Go.Lib
variable {m : Nat}
theorem sort_none (p : Option Addr) (cap : Nat) (fv : Value) (w : World) : Calls Try.prog 41 #[.slice p 0 cap, fv] w fun e w' => e = .returned (.tuple #[]) ∧ w = w' :=
  (AnyF.slices_SortFunc_none (P := Try.prog) (ρ := sortLaid_ren) { sortLaid with } p cap fv w).mono fun _ _ ⟨he, hw⟩ => ⟨he, hw.symm⟩
set_option maxHeartbeats 1000000 in
set_option maxRecDepth 100000 in
theorem sweep_nil (o1 o2 : Nat) (a : Option Addr) (c : Nat) (w : World) :
    Calls Try.prog 29 #[.complex .f64 o1 o2, .slice a 0 c] w fun e w' => e = .returned (.slice none 0 0) ∧ Below w.heap.size w w' := by
  obtain ⟨i0, hi, hz0, hz1, hz2⟩ := info_parts info_int
  have hmf : ∀ (fn : Fn) (first cap : Array Value) (w : World), (Instr.makeFunc fn first cap).run Try.prog w = .ok (.func fn first cap) w := fun _ _ _ _ => rfl
  go_enter Try.func29, Try.ntmps29
  go_wp2_with fail
  go_loop [5, 6, 11] (fun v u i => i = .int .i64 0 ∧ v = .slice none 0 0 ∧ u = .slice none 0 0) (fun _ _ _ => 0)
  case atStart => exact ⟨rfl, rfl, rfl⟩
  case round =>
    obtain ⟨rfl, rfl, rfl⟩ := hrel
    go_wp2_with fail
    refine (sort_none _ _ _ _).mono ?_
    rintro e w' ⟨rfl, rfl⟩
    go_wp2_with ((at_builtin; refine wpList_append_own_none rfl _ _ 42 rfl 0 3 i0 1 Try.underlying42 hi _ _ _ rfl (World.ownsRow_nil _ _ _ _) rfl ?_))
    go_ret
    exact ⟨rfl, ((Below.refl _ _).alloc (Nat.le_refl _) _).alloc (by simp) _⟩

/-- The i-th place of a sweep. -/
def at' (l : List (Fin (m + 1))) (i : Nat) : Nat := (l.getD i 0).val
theorem sweepP_length (m : Nat) (X Y : Nat → Int) (ox oy : Int) : (sweepP m X Y ox oy).length = m + 1 := by
  rw [(sweepP_perm m X Y ox oy).length_eq]; simp
theorem at'_lt (l : List (Fin (m + 1))) (i : Nat) : at' l i < m + 1 := (l.getD i 0).isLt
theorem getElem?_at' (l : List (Fin (m + 1))) (i : Nat) (h : i < l.length) : l[i]? = some (l.getD i 0) := by
  simp [List.getD, List.getElem?_eq_getElem h]
theorem sweepP_nodup (m : Nat) (X Y : Nat → Int) (ox oy : Int) : (sweepP m X Y ox oy).Nodup :=
  (sweepP_perm m X Y ox oy).nodup_iff.2 (List.nodup_finRange _)
theorem at'_inj (m : Nat) (X Y : Nat → Int) (ox oy : Int) (i j : Nat) (hi : i < m + 1) (hj : j < m + 1) (h : at' (sweepP m X Y ox oy) i = at' (sweepP m X Y ox oy) j) : i = j := by
  have hl := sweepP_length m X Y ox oy
  have hn := sweepP_nodup m X Y ox oy
  unfold at' at h
  have e := Fin.ext h
  rw [List.getD, List.getD, List.getElem?_eq_getElem (by omega), List.getElem?_eq_getElem (by omega)] at e
  simp only [Option.getD_some] at e
  exact (List.getElem_inj hn).1 e
/-- None comes before the one ahead of it. -/
theorem not_before (m : Nat) (X Y : Nat → Int) (i : Nat) (hi : i + 1 < m + 1) :
    beforeB 0 0 (X (at' (sweepP m X Y 0 0) (i + 1))) (Y (at' (sweepP m X Y 0 0) (i + 1))) (X (at' (sweepP m X Y 0 0) i)) (Y (at' (sweepP m X Y 0 0) i)) = false := by
  have hl := sweepP_length m X Y 0 0
  have hs := (List.pairwise_iff_getElem.1 (sweepP_sorted m X Y 0 0)) i (i + 1) (by omega) (by omega) (by omega)
  rw [Bool.not_eq_true', ltOf_false] at hs
  have e1 : ∀ k (h : k < (sweepP m X Y 0 0).length), ((sweepP m X Y 0 0)[k]'h).val = at' (sweepP m X Y 0 0) k := fun k h => by
    unfold at'; simp [List.getD, List.getElem?_eq_getElem h]
  rw [e1, e1] at hs
  unfold beforeB
  rw [decide_eq_false_iff_not]
  intro h
  apply hs
  unfold cmpAt
  simp only [orV]
  rw [if_neg (by omega)]
  exact h
end Spot
end Go.Proofs.Ytcfbondgbhmcaaa
