/- Plain: a row of right loads and, behind it, what takes it away again, the last first. -/
import Derived.Test.YtoadmmapgajedaaLoadMore
namespace Go.Proofs.Ytoadmmapgajedaa
open Go.RowKit
namespace Load
/-- the row, and what takes it away again -/
def mir (X : Nat → Int) (n j : Nat) : Int := if j < n then X j else -(X (2 * n - 1 - j))
theorem S_mir_lo (X : Nat → Int) (n j : Nat) (h : j ≤ n) : S (mir X n) j = S X j := by
  induction j with
  | zero => rfl
  | succ j ih => rw [S_succ, S_succ, ih (by omega)]; unfold mir; rw [if_pos (by omega)]
theorem S_mir_hi (X : Nat → Int) (n i : Nat) (h : i ≤ n) : S (mir X n) (n + i) = S X (n - i) := by
  induction i with
  | zero => exact S_mir_lo X n n (Nat.le_refl _)
  | succ i ih =>
    rw [show n + (i + 1) = (n + i) + 1 by omega, S_succ, ih (by omega)]
    unfold mir
    rw [if_neg (by omega), show 2 * n - 1 - (n + i) = n - (i + 1) by omega]
    have := S_succ X (n - (i + 1))
    rw [show n - (i + 1) + 1 = n - i by omega] at this
    omega
/-- all loads are right -/
def AllR (X Y : Nat → Int) (n : Nat) : Prop := ∀ j, j < n → rightL (X j) (Y j) = true
theorem S_range {X : Nat → Int} {n : Nat} (h : ∀ j, j < n → 0 ≤ X j ∧ X j ≤ 1000) (k : Nat) (hk : k ≤ n) : 0 ≤ S X k ∧ S X k ≤ 1000 * k := by
  induction k with
  | zero => simp [S]
  | succ k ih =>
    have := ih (by omega)
    have := h k (by omega)
    rw [S_succ]
    omega
theorem mir_sum {X : Nat → Int} {n : Nat} (h : ∀ j, j < n → 0 ≤ X j ∧ X j ≤ 1000) (hn : n ≤ 60) (k : Nat) (hk : k ≤ 2 * n) : 0 ≤ S (mir X n) k ∧ S (mir X n) k ≤ 60000 := by
  rcases Nat.le_total k n with h1 | h1
  · rw [S_mir_lo X n k h1]
    have := S_range h k h1
    omega
  · have e : k = n + (k - n) := by omega
    rw [e, S_mir_hi X n (k - n) (by omega)]
    have := S_range h (n - (k - n)) (by omega)
    omega
theorem mir_range {X : Nat → Int} {n : Nat} (h : ∀ j, j < n → 0 ≤ X j ∧ X j ≤ 1000) (j : Nat) (hj : j < 2 * n) : -1000 ≤ mir X n j ∧ mir X n j ≤ 1000 := by
  unfold mir
  split
  · have := h j (by omega); omega
  · have := h (2 * n - 1 - j) (by omega); omega
theorem AllR.x {X Y : Nat → Int} {n : Nat} (h : AllR X Y n) : ∀ j, j < n → 0 ≤ X j ∧ X j ≤ 1000 := fun j hj => (rightL_true (h j hj)).1
theorem AllR.y {X Y : Nat → Int} {n : Nat} (h : AllR X Y n) : ∀ j, j < n → 0 ≤ Y j ∧ Y j ≤ 1000 := fun j hj => (rightL_true (h j hj)).2
theorem mir_ok {X Y : Nat → Int} {n : Nat} (h : AllR X Y n) (hn : n ≤ 60) : okTo (mir X n) (mir Y n) (2 * n) = true := by
  refine (okTo_iff _ _ _).2 fun j hj => ?_
  have a := mir_sum h.x hn j (by omega)
  have b := mir_sum h.y hn j (by omega)
  have a1 := mir_sum h.x hn (j + 1) (by omega)
  have b1 := mir_sum h.y hn (j + 1) (by omega)
  rw [S_succ] at a1 b1
  have c := mir_range h.x j hj
  have d := mir_range h.y j hj
  exact adB_of (mayL_of (by omega) (by omega) (by omega) (by omega)) (mayL_of (by omega) (by omega) (by omega) (by omega)) (mayL_of (by omega) (by omega) (by omega) (by omega))
theorem row_ok {X Y : Nat → Int} {n : Nat} (h : AllR X Y n) (hn : n ≤ 60) : okTo X Y n = true := by
  refine (okTo_iff _ _ _).2 fun j hj => ?_
  have a := S_range h.x j (by omega)
  have b := S_range h.y j (by omega)
  have a1 := S_range h.x (j + 1) (by omega)
  have b1 := S_range h.y (j + 1) (by omega)
  rw [S_succ] at a1 b1
  have c := h.x j hj
  have d := h.y j hj
  exact adB_of (mayL_of (by omega) (by omega) (by omega) (by omega)) (mayL_of (by omega) (by omega) (by omega) (by omega)) (mayL_of (by omega) (by omega) (by omega) (by omega))
theorem mir_end (X : Nat → Int) (n : Nat) : S (mir X n) (2 * n) = 0 := by
  rw [show 2 * n = n + n by omega, S_mir_hi X n n (Nat.le_refl _), Nat.sub_self]; rfl
theorem bad_iff {rs rt : Int} {X Y : Nat → Int} {j n : Nat} (h : okTo X Y n = true) (hj : j < n) : badAt rs rt X Y j = false ↔ fitsL rs rt (S X (j + 1)) (S Y (j + 1)) = true := by
  unfold badAt
  rw [(okTo_iff X Y n).1 h j hj]
  cases fitsL rs rt (S X (j + 1)) (S Y (j + 1)) <;> simp
theorem fits_le {rs rt rs' rt' s t : Int} (h : fitsL rs rt s t = true) (h1 : rs ≤ rs') (h2 : rt ≤ rt') : fitsL rs' rt' s t = true := by
  obtain ⟨⟨a, b⟩, c, d⟩ := fitsL_true h
  exact fitsL_of a (by omega) c (by omega)
/-- both ways fits just if the way there does -/
theorem first_mir {rs rt : Int} {X Y : Nat → Int} {n : Nat} (h : AllR X Y n) (hn : n ≤ 60) (hr : rightL rs rt = true) :
    decide (firstV rs rt (mir X n) (mir Y n) (2 * n) < 0) = decide (firstV rs rt X Y n < 0) := by
  rw [decide_eq_decide, firstV_neg, firstV_neg]
  obtain ⟨⟨r1, _⟩, r3, _⟩ := rightL_true hr
  have ok1 := row_ok h hn
  have ok2 := mir_ok h hn
  constructor
  · intro g j hj
    have := (bad_iff ok2 (show j < 2 * n by omega)).1 (g j (by omega))
    rw [S_mir_lo X n _ (by omega), S_mir_lo Y n _ (by omega)] at this
    exact (bad_iff ok1 hj).2 this
  · intro g j hj
    rw [bad_iff ok2 hj]
    rcases Nat.lt_or_ge j n with hlt | hge
    · rw [S_mir_lo X n _ (by omega), S_mir_lo Y n _ (by omega)]
      exact (bad_iff ok1 hlt).1 (g j hlt)
    · rw [show j + 1 = n + (j + 1 - n) by omega, S_mir_hi X n _ (by omega), S_mir_hi Y n _ (by omega)]
      rcases Nat.eq_zero_or_pos (n - (j + 1 - n)) with h0 | h0
      · rw [h0]; exact fitsL_of (Int.le_refl 0) r1 (Int.le_refl 0) r3
      · have e : n - (j + 1 - n) = (n - (j + 1 - n) - 1) + 1 := by omega
        rw [e]
        exact (bad_iff ok1 (by omega)).1 (g _ (by omega))
theorem first_big {rs rt rs' rt' : Int} {X Y : Nat → Int} {n : Nat} (hok : okTo X Y n = true) (h1 : rs ≤ rs') (h2 : rt ≤ rt') (h : firstV rs rt X Y n < 0) : firstV rs' rt' X Y n < 0 := by
  rw [firstV_neg] at h ⊢
  intro j hj
  exact (bad_iff hok hj).2 (fits_le ((bad_iff hok hj).1 (h j hj)) h1 h2)
theorem fits_peak {rs rt : Int} {X Y : Nat → Int} {n : Nat} (h : AllR X Y n) (hn : n ≤ 60) (hr : rightL rs rt = true) (hf : firstV rs rt X Y n < 0) : fitsL rs rt (pk X n) (pk Y n) = true := by
  obtain ⟨⟨r1, _⟩, r3, _⟩ := rightL_true hr
  rw [firstV_neg] at hf
  have ok1 := row_ok h hn
  have hfit : ∀ j, 0 < j → j ≤ n → (S X j ≤ rs ∧ S Y j ≤ rt) := fun j h0 hj => by
    have := (bad_iff ok1 (show j - 1 < n by omega)).1 (hf (j - 1) (by omega))
    rw [show j - 1 + 1 = j by omega] at this
    obtain ⟨⟨_, b⟩, _, d⟩ := fitsL_true this
    exact ⟨b, d⟩
  refine fitsL_of (pk_ge X n).1 ?_ (pk_ge Y n).1 ?_
  · rcases pk_is X n with e | ⟨j, h1, h2, e⟩
    · rw [e]; exact r1
    · rw [e]; exact (hfit j h2 h1).1
  · rcases pk_is Y n with e | ⟨j, h1, h2, e⟩
    · rw [e]; exact r3
    · rw [e]; exact (hfit j h2 h1).2
end Load
end Go.Proofs.Ytoadmmapgajedaa
