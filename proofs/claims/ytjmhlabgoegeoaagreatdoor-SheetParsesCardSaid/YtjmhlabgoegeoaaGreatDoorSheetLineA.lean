/- jitneyref06.line, whichever line it is; over the translated program. -/
import Derived.Test.YtjmhlabgoegeoaaGreatDoorSheetLine2
import Derived.Test.YtjmhlabgoegeoaaGreatDoorSheetLine3
namespace Go.Proofs.YtjmhlabgoegeoaaGreatDoor
namespace Sheet
open Go Go.RowKit Deci
/-- The instance of the lines ahead of line i. -/
def LineAt (base : Nat) (p : IP) (i : Nat) (vc vs vr vm : Value) (W : World) : Prop :=
  ∃ V, RowsAt base p (min (i - 1) p.C) (min (i - 1 - p.C) p.P) (min (i - 1 - p.C - p.P) p.R) (i - 1 - p.C - p.P - p.R) vc vs vr vm V W
theorem LineAt.below {base i : Nat} {p : IP} {vc vs vr vm : Value} {W W' : World} (h : LineAt base p i vc vs vr vm W) (hb : Below W.heap.size W W') : LineAt base p i vc vs vr vm W' := by
  obtain ⟨V, h⟩ := h
  exact ⟨V, h.below hb⟩
/-- What a line leaves: an instance, and an error; no instance that was there has turned. -/
def LineGone (base : Nat) (p : IP) (i : Nat) (w : World) (e : Ending) (w' : World) : Prop :=
  ∃ a1 n1 c1 a2 n2 c2 a3 n3 c3 a4 n4 c4, e = .returned (.tuple #[.agg #[.slice a1 n1 c1, .slice a2 n2 c2, .slice a3 n3 c3, .slice a4 n4 c4], .int .i64 (p.err i)]) ∧
    Hid ((Below base w w' ∧ ∀ (k : Nat) (cs : Array Value), w.heap[k]? = some (.cells cs 28) → w'.heap[k]? = some (.cells cs 28)) ∧
      (p.err i = 0 → LineAt base p (i + 1) (.slice a1 n1 c1) (.slice a2 n2 c2) (.slice a3 n3 c3) (.slice a4 n4 c4) w'))
theorem gone_of {base i nc ns nr nm : Nat} {p : IP} {w w' : World} {e : Ending} (h : LineOut base p nc ns nr nm (p.err i) w e w') (h1 : nc = min i p.C) (h2 : ns = min (i - p.C) p.P) (h3 : nr = min (i - p.C - p.P) p.R) (h4 : nm = i - p.C - p.P - p.R) : LineGone base p i w e w' := by
  obtain ⟨vc, vs, vr, vm, rfl, hh⟩ := h
  obtain ⟨hb, V, nc', ns', nr', nm', hr, h0⟩ := hh.out
  obtain ⟨a1, c1, rfl⟩ := own_slice hr.cars
  obtain ⟨a2, c2, rfl⟩ := own_slice hr.stops
  obtain ⟨a3, c3, rfl⟩ := own_slice hr.rides
  obtain ⟨a4, c4, rfl⟩ := own_slice hr.rows
  refine ⟨_, _, _, _, _, _, _, _, _, _, _, _, rfl, Lib.hid ⟨hb, fun h => ?_⟩⟩
  obtain ⟨rfl, rfl, rfl, rfl⟩ := h0 h
  subst h1; subst h2; subst h3; subst h4
  exact ⟨V, by simpa using hr⟩
theorem line_any (base : Nat) (p : IP) (i : Nat) (hok : p.Ok) (h1 : 1 ≤ i) (h2 : i ≤ p.all) (hlt : i < p.L.length) (hl : ∀ s ∈ p.L, s.size ≤ 1000000) (vc vs vr vm : Value) (w : World) (hb : base ≤ w.heap.size) (h : LineAt base p i vc vs vr vm w) :
    Calls Tryz.prog 12 #[.agg #[vc, vs, vr, vm], .string p.L[i], .int .i64 i, .int .i64 p.C, .int .i64 p.R, .int .i64 p.sc, .bool (!p.T)] w (LineGone base p i w) := by
  obtain ⟨V, h⟩ := h
  have hall : p.all = p.C + p.P + p.R + p.more := rfl
  by_cases k1 : i < 1 + p.C
  · rw [show min (i - 1) p.C = i - 1 by omega, show min (i - 1 - p.C) p.P = 0 by omega, show min (i - 1 - p.C - p.P) p.R = 0 by omega, show i - 1 - p.C - p.P - p.R = 0 by omega] at h
    exact (line_car base p i hok (i - 1) (by omega) k1 hlt hl vc vs vr vm V w hb h).mono fun e w' h => gone_of h (by omega) (by omega) (by omega) (by omega)
  · by_cases k2 : i < 1 + p.C + p.P
    · obtain ⟨ns, rfl⟩ : ∃ ns, i = 1 + p.C + ns := ⟨i - 1 - p.C, by omega⟩
      rw [show min (1 + p.C + ns - 1) p.C = p.C by omega, show min (1 + p.C + ns - 1 - p.C) p.P = ns by omega, show min (1 + p.C + ns - 1 - p.C - p.P) p.R = 0 by omega, show 1 + p.C + ns - 1 - p.C - p.P - p.R = 0 by omega] at h
      cases hT : p.T with
      | true => exact (line_stopT base p hT _ hok ns rfl (by omega) hlt hl vc vs vr vm V w hb h).mono fun e w' h => gone_of h (by omega) (by omega) (by omega) (by omega)
      | false => exact (line_stopS base p hT _ hok ns rfl (by omega) hlt hl vc vs vr vm V w hb h).mono fun e w' h => gone_of h (by omega) (by omega) (by omega) (by omega)
    · by_cases k3 : i < 1 + p.C + p.P + p.R
      · obtain ⟨nr, rfl⟩ : ∃ nr, i = 1 + p.C + p.P + nr := ⟨i - 1 - p.C - p.P, by omega⟩
        rw [show min (1 + p.C + p.P + nr - 1) p.C = p.C by omega, show min (1 + p.C + p.P + nr - 1 - p.C) p.P = p.P by omega, show min (1 + p.C + p.P + nr - 1 - p.C - p.P) p.R = nr by omega, show 1 + p.C + p.P + nr - 1 - p.C - p.P - p.R = 0 by omega] at h
        exact (line_ride base p _ hok nr rfl (by omega) hlt hl vc vs vr vm V w hb h).mono fun e w' h => gone_of h (by omega) (by omega) (by omega) (by omega)
      · obtain ⟨nm, rfl⟩ : ∃ nm, i = 1 + p.C + p.P + p.R + nm := ⟨i - 1 - p.C - p.P - p.R, by omega⟩
        have hmo : p.more = p.P := by
          by_cases hT : p.T = true
          · unfold IP.more; rw [if_pos hT]
          · have : p.more = 0 := by unfold IP.more; rw [if_neg hT]
            omega
        rw [show min (1 + p.C + p.P + p.R + nm - 1) p.C = p.C by omega, show min (1 + p.C + p.P + p.R + nm - 1 - p.C) p.P = p.P by omega, show min (1 + p.C + p.P + p.R + nm - 1 - p.C - p.P) p.R = p.R by omega, show 1 + p.C + p.P + p.R + nm - 1 - p.C - p.P - p.R = nm by omega] at h
        exact (line_row base p _ hok nm rfl (by omega) hlt hl vc vs vr vm V w hb h).mono fun e w' h => gone_of h (by omega) (by omega) (by omega) (by omega)
/-- A line that isn't there. -/
theorem err_short (p : IP) (i : Nat) (h : p.L.length ≤ i) : p.err i = 20 := by
  have e : ∀ name cnt, nextE p.L i name cnt = 20 := fun name cnt => by unfold nextE; rw [dif_neg (by omega)]
  unfold IP.err
  split
  · unfold carE; rw [e]; rfl
  · split
    · unfold stopE; split <;> (rw [e]; rfl)
    · split
      · unfold rideE; rw [e]; rfl
      · unfold rowE; rw [e]; rfl
theorem head_first {L : List ByteArray} (h : 0 < L.length) : headE L = firstE L[0] ∧ headC L = wholeV (tAt L[0] 1).data.toList ∧ headR L = wholeV (tAt L[0] 2).data.toList ∧ headS L = wholeV (tAt L[0] 0).data.toList ∧ ∀ k, wAt L 0 k = tAt L[0] k := by
  have hw : ∀ k, wAt L 0 k = tAt L[0] k := fun k => by unfold wAt tAt; rw [nextW_at h]
  refine ⟨?_, ?_, ?_, ?_, hw⟩
  · unfold headE firstE; rw [nextE_at h, hw 0, hw 1, hw 2, hw 3]
  · unfold headC; rw [hw]
  · unfold headR; rw [hw]
  · unfold headS; rw [hw]
/-- Spots or times: just one of both. -/
theorem head_kind {L : List ByteArray} (h : 0 < L.length) (he : headE L = 0) : decide (tAt L[0] 3 = wSpots) = !headT L := by
  have hw := (head_first h).2.2.2.2 3
  unfold headT
  rw [hw]
  unfold headE at he
  rw [hw] at he
  obtain ⟨_, he⟩ := twoE_zero he
  obtain ⟨_, he⟩ := twoE_zero he
  obtain ⟨_, he⟩ := twoE_zero he
  obtain ⟨_, he⟩ := twoE_zero he
  obtain ⟨_, he⟩ := twoE_zero he
  unfold lastE at he
  split at he
  · cases he
  · rename_i hd
    by_cases h1 : tAt L[0] 3 = wSpots
    · rw [h1]; decide
    · have h2 : tAt L[0] 3 = wTimes := by
        by_cases h2 : tAt L[0] 3 = wTimes
        · exact h2
        · exact absurd ⟨h1, h2⟩ hd
      rw [h2]; decide
end Sheet
end Go.Proofs.YtjmhlabgoegeoaaGreatDoor
