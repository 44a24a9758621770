/- The weight: Value, Turn, Of, over the translated program; the document's Turn and Held. -/
import Derived.Test.YtjfagekdeapiaaaTabAt
namespace Go.Proofs.Ytjfagekdeapiaaa
open Go.RowKit Go.Lib
namespace Tab
set_option linter.unusedVariables false
def heldV (n low high : Int) : Int := if n < low ∨ high < low then low else if n < high then n else high
theorem held_any (n low high : Int) (w : World) :
    Calls Try.prog 23 #[.int .i64 n, .int .i64 low, .int .i64 high] w fun e w' => e = .returned (.int .i64 (heldV n low high)) ∧ w = w' := by
  by_cases h1 : n < low
  · have hv : heldV n low high = low := if_pos (Or.inl h1)
    generalize heldV n low high = v at *
    subst hv
    go_enter Try.func23, Try.ntmps23
    go_wp2
    go_ret
    exact ⟨rfl, rfl⟩
  · by_cases h2 : high < low
    · have hv : heldV n low high = low := if_pos (Or.inr h2)
      generalize heldV n low high = v at *
      subst hv
      go_enter Try.func23, Try.ntmps23
      go_wp2
      go_ret
      exact ⟨rfl, rfl⟩
    · have hv : heldV n low high = if n < high then n else high := if_neg (by omega)
      by_cases h3 : n < high
      · rw [if_pos h3] at hv
        have hv' : heldV n low high ≤ n ∧ n ≤ heldV n low high := by omega
        generalize heldV n low high = v at *
        clear hv
        go_enter Try.func23, Try.ntmps23
        go_wp2
        all_goals
          go_ret
          exact ⟨ret_int (by omega), rfl⟩
      · rw [if_neg h3] at hv
        have hv' : heldV n low high ≤ high ∧ high ≤ heldV n low high := by omega
        generalize heldV n low high = v at *
        clear hv
        go_enter Try.func23, Try.ntmps23
        go_wp2
        all_goals
          go_ret
          exact ⟨ret_int (by omega), rfl⟩
/-- the document's, of bounds in order -/
theorem refHeld_any (n low high : Int) (hb : low ≤ high) (w : World) :
    Calls Try.prog 20 #[.int .i64 n, .int .i64 low, .int .i64 high] w fun e w' => e = .returned (.int .i64 (heldV n low high)) ∧ w = w' := by
  by_cases h1 : high < n
  · have hv : heldV n low high = high := by unfold heldV; rw [if_neg (by omega), if_neg (by omega)]
    have h2 : ¬ high < low := by omega
    generalize heldV n low high = v at *
    subst hv
    go_enter Try.func20, Try.ntmps20
    go_wp2
    go_ret
    exact ⟨rfl, rfl⟩
  · by_cases h2 : n < low
    · have hv : heldV n low high = low := if_pos (Or.inl h2)
      generalize heldV n low high = v at *
      subst hv
      go_enter Try.func20, Try.ntmps20
      go_wp2
      go_ret
      exact ⟨rfl, rfl⟩
    · have hv : heldV n low high = n := by unfold heldV; rw [if_neg (by omega)]; split <;> omega
      generalize heldV n low high = v at *
      subst hv
      go_enter Try.func20, Try.ntmps20
      go_wp2
      go_ret
      exact ⟨rfl, rfl⟩
theorem heldV_le {n low high : Int} (h : low ≤ high) : low ≤ heldV n low high ∧ heldV n low high ≤ high := by
  unfold heldV
  split
  · omega
  · split <;> omega
/-! ### the weight -/
def turnV (x : Int) (good : Bool) : Int := if good = true then (if x * 2 / 3 < 1 then 1 else x * 2 / 3) else (if 1000000 < x * 3 / 2 + 1 then 1000000 else x * 3 / 2 + 1)
theorem turnV_in {x : Int} (h : 1 ≤ x ∧ x ≤ 1000000) (good : Bool) : 1 ≤ turnV x good ∧ turnV x good ≤ 1000000 := by
  unfold turnV
  split
  · split <;> omega
  · split <;> omega
/-- Block V is a weight of x. -/
structure Wt (w : World) (V : Nat) (x : Int) : Prop where
  cell : w.cell? ⟨V, 0, none⟩ = some (.int .i64 (x - 1000))
  fz : w.frozen? ⟨V, 0, none⟩ = false
  ok : 1 ≤ x ∧ x ≤ 1000000
theorem Wt.below {w w' : World} {V : Nat} {x : Int} (h : Wt w V x) (hb : Below w.heap.size w w') : Wt w' V x :=
  ⟨(hb.cell (p := ⟨V, 0, none⟩) (World.block_lt_of_cell? _ _ h.cell)).trans h.cell, (hb.frozen (p := ⟨V, 0, none⟩) (World.block_lt_of_cell? _ _ h.cell)).trans h.fz, h.ok⟩
theorem Wt.set {w : World} {V : Nat} {x y : Int} (h : Wt w V x) (hy : 1 ≤ y ∧ y ≤ 1000000) : Wt (w.setCell ⟨V, 0, none⟩ (.int .i64 (y - 1000))) V y :=
  ⟨World.cell?_setCell_same w ⟨V, 0, none⟩ _ h.cell, by simp [h.fz], hy⟩
theorem Wt.made (w : World) : Wt (w.alloc (.cells #[.int .i64 0] 39)) w.heap.size 1000 := ⟨by simp [go_sem], by simp, by omega⟩
theorem value_any (V : Nat) (x : Int) (w : World) (h : Wt w V x) :
    Calls Try.prog 18 #[.pointer (some ⟨V, 0, none⟩)] w fun e w' => e = .returned (.int .i64 x) ∧ w = w' := by
  have c0 := h.cell
  have ok := h.ok
  obtain ⟨m, hm⟩ : ∃ m, m = x - 1000 := ⟨_, rfl⟩
  rw [← hm] at c0
  have q1 : 1000 + m = x := by omega
  have q2 : IntKind.i64.wrap x = x := IntWalk.i64_in _ (by omega)
  clear h hm
  go_enter Try.func18, Try.ntmps18
  go_wp2
  go_ret
  exact ⟨ret_int (by omega), rfl⟩
set_option maxHeartbeats 1000000 in
theorem turn_any (V : Nat) (x : Int) (good : Bool) (w : World) (h : Wt w V x) :
    Calls Try.prog 17 #[.pointer (some ⟨V, 0, none⟩), .bool good] w fun e w' => e = .returned (.int .i64 (turnV x good)) ∧ w' = w.setCell ⟨V, 0, none⟩ (.int .i64 (turnV x good - 1000)) := by
  have c0 := h.cell
  have f0 := h.fz
  have ok := h.ok
  have HW := Lib.hid h
  have hin := turnV_in ok good
  obtain ⟨y, hy⟩ : ∃ y, y = (x * 3).tdiv 2 := ⟨_, rfl⟩
  have hy1 : y = x * 3 / 2 := by rw [hy]; exact Int.tdiv_eq_ediv_of_nonneg (by omega)
  obtain ⟨z, hz⟩ : ∃ z, z = (x * 2).tdiv 3 := ⟨_, rfl⟩
  have hz1 : z = x * 2 / 3 := by rw [hz]; exact Int.tdiv_eq_ediv_of_nonneg (by omega)
  have q1 : (x * 3).tdiv 2 = y := hy.symm
  have q2 : (x * 2).tdiv 3 = z := hz.symm
  have hyb : 1 ≤ y ∧ y ≤ 1500000 := by omega
  have hzb : 0 ≤ z ∧ z ≤ 1000000 := by omega
  obtain ⟨u, hu⟩ : ∃ u, u = turnV x good := ⟨_, rfl⟩
  rw [← hu] at hin ⊢
  have HSET := Lib.hid (h.set hin)
  clear h hy hz
  cases good with
  | true =>
    have hv : heldV z 1 1000000 = u := by
      rw [hu]; unfold heldV turnV
      rw [← hz1]
      simp only [if_true]
      by_cases h1 : z < 1
      · rw [if_pos (Or.inl h1), if_pos h1]
      · rw [if_neg (show ¬ (z < 1 ∨ (1000000 : Int) < 1) by omega), if_neg h1]; split <;> omega
    have HH := Lib.hid (fun w => held_any z 1 1000000 w)
    rw [hv] at HH
    clear hu hv hy1 hz1
    go_enter Try.func17, Try.ntmps17
    go_wp2_with fail
    refine (value_any V x _ HW.out).mono ?_
    rintro e w' ⟨rfl, rfl⟩
    go_wp2_with fail
    refine (value_any V x _ HW.out).mono ?_
    rintro e w' ⟨rfl, rfl⟩
    go_wp2_with fail
    refine (HH.out _).mono ?_
    rintro e w' ⟨rfl, rfl⟩
    go_wp2_with fail
    refine (value_any V u _ HSET.out).mono ?_
    rintro e w' ⟨rfl, rfl⟩
    go_wp2_with fail
    go_ret
    exact ⟨rfl, rfl⟩
  | false =>
    have hv : heldV (y + 1) 1 1000000 = u := by
      rw [hu]; unfold heldV turnV
      rw [← hy1]
      simp only [Bool.false_eq_true, if_false]
      rw [if_neg (by omega)]
      split
      · rw [if_neg (by omega)]
      · split <;> omega
    have HH := Lib.hid (fun w => held_any (y + 1) 1 1000000 w)
    rw [hv] at HH
    clear hu hv hy1 hz1
    go_enter Try.func17, Try.ntmps17
    go_wp2_with fail
    refine (value_any V x _ HW.out).mono ?_
    rintro e w' ⟨rfl, rfl⟩
    go_wp2_with fail
    refine (HH.out _).mono ?_
    rintro e w' ⟨rfl, rfl⟩
    go_wp2_with fail
    refine (value_any V u _ HSET.out).mono ?_
    rintro e w' ⟨rfl, rfl⟩
    go_wp2_with fail
    go_ret
    exact ⟨rfl, rfl⟩
theorem of_any (V : Nat) (x a b : Int) (w : World) (h : Wt w V x) :
    Calls Try.prog 19 #[.pointer (some ⟨V, 0, none⟩), .int .i64 a, .int .i64 b] w fun e w' => e = .returned (.int .i64 (x * (heldV a 0 1048576 + heldV b 0 1048576))) ∧ w = w' := by
  have ok := h.ok
  have HW := Lib.hid h
  have h1 := heldV_le (n := a) (show (0 : Int) ≤ 1048576 by omega)
  have h2 := heldV_le (n := b) (show (0 : Int) ≤ 1048576 by omega)
  have HA := Lib.hid (fun w => held_any a 0 1048576 w)
  have HB := Lib.hid (fun w => held_any b 0 1048576 w)
  obtain ⟨p, hp⟩ : ∃ p, p = heldV a 0 1048576 := ⟨_, rfl⟩
  obtain ⟨q, hq⟩ : ∃ q, q = heldV b 0 1048576 := ⟨_, rfl⟩
  rw [← hp] at h1 HA ⊢
  rw [← hq] at h2 HB ⊢
  obtain ⟨s, hs⟩ : ∃ s, s = p + q := ⟨_, rfl⟩
  have hs1 : p + q = s := hs.symm
  have hsb : 0 ≤ s ∧ s ≤ 2097152 := by omega
  have hm0 : 0 ≤ x * s := Int.mul_nonneg (by omega) hsb.1
  have hm1 : x * s ≤ 1000000 * 2097152 := Int.mul_le_mul ok.2 hsb.2 hsb.1 (by omega)
  rw [hs1]
  clear h hp hq hs
  go_enter Try.func19, Try.ntmps19
  go_wp2_with fail
  refine (value_any V x _ HW.out).mono ?_
  rintro e w' ⟨rfl, rfl⟩
  go_wp2_with fail
  refine (HA.out _).mono ?_
  rintro e w' ⟨rfl, rfl⟩
  go_wp2_with fail
  refine (HB.out _).mono ?_
  rintro e w' ⟨rfl, rfl⟩
  go_wp2_with fail
  go_ret
  exact ⟨rfl, rfl⟩
theorem refTurn_any (x : Int) (good : Bool) (w : World) (ok : 1 ≤ x ∧ x ≤ 1000000) :
    Calls Try.prog 16 #[.int .i64 x, .bool good] w fun e w' => e = .returned (.int .i64 (turnV x good)) ∧ w = w' := by
  obtain ⟨y, hy⟩ : ∃ y, y = (3 * x).tdiv 2 := ⟨_, rfl⟩
  have hy1 : y = x * 3 / 2 := by rw [hy, Int.mul_comm]; exact Int.tdiv_eq_ediv_of_nonneg (by omega)
  obtain ⟨z, hz⟩ : ∃ z, z = (2 * x).tdiv 3 := ⟨_, rfl⟩
  have hz1 : z = x * 2 / 3 := by rw [hz, Int.mul_comm]; exact Int.tdiv_eq_ediv_of_nonneg (by omega)
  have q1 : (3 * x).tdiv 2 = y := hy.symm
  have q2 : (2 * x).tdiv 3 = z := hz.symm
  have hyb : 1 ≤ y ∧ y ≤ 1500000 := by omega
  have hzb : 0 ≤ z ∧ z ≤ 1000000 := by omega
  cases good with
  | true =>
    have hv : turnV x true = if z < 1 then 1 else z := by unfold turnV; rw [← hz1]; simp
    rw [hv]
    clear hv hy hz hy1 hz1
    by_cases h : z < 1
    · rw [if_pos h]
      go_enter Try.func16, Try.ntmps16
      go_wp2
      go_ret
      exact ⟨rfl, rfl⟩
    · rw [if_neg h]
      go_enter Try.func16, Try.ntmps16
      go_wp2
      go_ret
      exact ⟨rfl, rfl⟩
  | false =>
    have hv : turnV x false = if 1000000 < y + 1 then 1000000 else y + 1 := by unfold turnV; rw [← hy1]; simp
    rw [hv]
    clear hv hy hz hy1 hz1
    by_cases h : 1000000 < y + 1
    · rw [if_pos h]
      go_enter Try.func16, Try.ntmps16
      go_wp2
      go_ret
      exact ⟨rfl, rfl⟩
    · rw [if_neg h]
      go_enter Try.func16, Try.ntmps16
      go_wp2
      go_ret
      exact ⟨rfl, rfl⟩
end Tab
end Go.Proofs.Ytjfagekdeapiaaa
