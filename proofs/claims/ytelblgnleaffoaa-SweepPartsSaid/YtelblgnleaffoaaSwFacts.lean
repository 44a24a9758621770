/- A sweep's order, plainly: each place once; none before the one ahead of it; it is the only such order. Below: the order is a strict one (SWO), as the library's sort asks. -/
import Derived.Test.YtelblgnleaffoaaSwSweep
namespace Go.Proofs.Ytelblgnleaffoaa
namespace Spot
open Go.Sort Go.Lib
variable {m : Nat}
theorem ltOf_true (X Y : Nat → Int) (ox oy : Int) (i j : Fin (m + 1)) : ltOf (cfP X Y ox oy) i j = true ↔ cmpAt X Y ox oy i.val j.val < 0 := by
  unfold ltOf cfP; simp
theorem ltOf_false (X Y : Nat → Int) (ox oy : Int) (i j : Fin (m + 1)) : ltOf (cfP X Y ox oy) i j = false ↔ ¬ cmpAt X Y ox oy i.val j.val < 0 := by
  rw [← ltOf_true, Bool.not_eq_true]
theorem swo (X Y : Nat → Int) (ox oy : Int) : SWO (ltOf (cfP (m := m) X Y ox oy)) where
  irrefl x := by rw [ltOf_false]; exact cmpAt_irrefl X Y ox oy _
  trans x y z h1 h2 := by rw [ltOf_true] at *; exact cmpAt_trans X Y ox oy _ _ _ h1 h2
  ntrans x y z h1 h2 := by
    rw [ltOf_false] at *
    intro h
    by_cases e1 : x.val = y.val
    · rw [e1] at h; exact h2 h
    · by_cases e2 : y.val = z.val
      · rw [e2] at h1; exact h1 h
      · have k1 : cmpAt X Y ox oy y.val x.val < 0 := by
          rcases Int.lt_or_le (cmpAt X Y ox oy y.val x.val) 0 with h' | h'
          · exact h'
          · exact absurd (cmpAt_total X Y ox oy _ _ h1 (by omega)) e1
        exact h2 (cmpAt_trans X Y ox oy _ _ _ k1 h)
theorem tot (X Y : Nat → Int) (ox oy : Int) (x y : Fin (m + 1)) (h1 : ltOf (cfP X Y ox oy) x y = false) (h2 : ltOf (cfP X Y ox oy) y x = false) : x = y := by
  rw [ltOf_false] at *
  exact Fin.ext (cmpAt_total X Y ox oy _ _ h1 h2)
theorem sweepP_perm (m : Nat) (X Y : Nat → Int) (ox oy : Int) : (sweepP m X Y ox oy).Perm (List.finRange (m + 1)) := List.mergeSort_perm _ _
theorem sweepP_sorted (m : Nat) (X Y : Nat → Int) (ox oy : Int) : (sweepP m X Y ox oy).Pairwise fun a b => (!ltOf (cfP X Y ox oy) b a) = true := by
  apply List.pairwise_mergeSort
  · intro a b c h1 h2
    rw [Bool.not_eq_true'] at *
    exact (swo X Y ox oy).ntrans c b a h2 h1
  · intro a b
    cases h : ltOf (cfP X Y ox oy) b a with
    | false => rfl
    | true =>
      have : ltOf (cfP X Y ox oy) a b = false := by
        cases h' : ltOf (cfP X Y ox oy) a b with
        | false => rfl
        | true => have := (swo X Y ox oy).trans _ _ _ h h'; rw [(swo X Y ox oy).irrefl] at this; cases this
      rw [this]; rfl
theorem sweepP_only (m : Nat) (X Y : Nat → Int) (ox oy : Int) (l : List (Fin (m + 1))) (hp : l.Perm (List.finRange (m + 1))) (hs : l.Pairwise fun a b => (!ltOf (cfP X Y ox oy) b a) = true) : sweepP m X Y ox oy = l := by
  refine List.Perm.eq_of_pairwise (le := fun a b => (!ltOf (cfP X Y ox oy) b a) = true) ?_ (sweepP_sorted m X Y ox oy) hs ((sweepP_perm m X Y ox oy).trans hp.symm)
  intro a b _ _ h1 h2
  rw [Bool.not_eq_true'] at h1 h2
  exact tot X Y ox oy a b h2 h1
/-- Moved all together, and looked at from the middle moved likewise, the order is the same. -/
theorem sweepP_moved (m : Nat) (X Y X' Y' : Nat → Int) (ox oy ox' oy' : Int) (hx : ∀ k, k < m + 1 → X' k - ox' = X k - ox) (hy : ∀ k, k < m + 1 → Y' k - oy' = Y k - oy) : sweepP m X' Y' ox' oy' = sweepP m X Y ox oy := by
  have e : cfP (m := m) X' Y' ox' oy' = cfP X Y ox oy := by
    funext i j
    unfold cfP cmpAt
    rw [hx i.val i.isLt, hy i.val i.isLt, hx j.val j.isLt, hy j.val j.isLt]
  unfold sweepP; rw [e]
def aX (j : Nat) : Int := if j = 1 then 1 else if j = 3 then -1 else 0
def aY (j : Nat) : Int := if j = 0 then -1 else if j = 4 then 1 else 0
theorem sweep_alive : sweepP 4 aX aY 0 0 = [2, 1, 4, 3, 0] := by
  apply sweepP_only
  · decide +kernel
  · decide +kernel
end Spot
end Go.Proofs.Ytelblgnleaffoaa
