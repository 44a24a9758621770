/- Contracts of load.First: its closure, slices.IndexFunc with it, First. -/
import Derived.Test.YtoadmmapgajedaaLoadPeak
namespace Go.Proofs.Ytoadmmapgajedaa
open Go.RowKit
namespace Load
/-- What the closure of First leaves: its answer, the new sum, all else below the sum's block as it was. -/
def ClosP (s t x y rs rt : Int) (B : Nat) (w : World) (e : Ending) (w' : World) : Prop :=
  e = .returned (.bool (!adB s t x y || !fitsL rs rt (s + x) (t + y))) ∧ Below B w w' ∧ w.heap.size ≤ w'.heap.size ∧
  w'.cell? ⟨B, 0, none⟩ = some (.int .i64 (adV (adB s t x y) (s + x))) ∧ w'.cell? ⟨B, 1, none⟩ = some (.int .i64 (adV (adB s t x y) (t + y))) ∧ w'.frozen? ⟨B, 0, none⟩ = false ∧ w'.frozen? ⟨B, 1, none⟩ = false
theorem two_put {w W : World} {B : Nat} {u0 u1 a b : Value} (hb : Below (B + 1) w W) (d0 : W.cell? ⟨B, 0, none⟩ = some u0) (d1 : W.cell? ⟨B, 1, none⟩ = some u1) (e0 : W.frozen? ⟨B, 0, none⟩ = false) (e1 : W.frozen? ⟨B, 1, none⟩ = false) :
    Below B w ((W.setCell ⟨B, 0, none⟩ a).setCell ⟨B, 1, none⟩ b) ∧ ((W.setCell ⟨B, 0, none⟩ a).setCell ⟨B, 1, none⟩ b).heap.size = W.heap.size ∧
    ((W.setCell ⟨B, 0, none⟩ a).setCell ⟨B, 1, none⟩ b).cell? ⟨B, 0, none⟩ = some a ∧ ((W.setCell ⟨B, 0, none⟩ a).setCell ⟨B, 1, none⟩ b).cell? ⟨B, 1, none⟩ = some b ∧ ((W.setCell ⟨B, 0, none⟩ a).setCell ⟨B, 1, none⟩ b).frozen? ⟨B, 0, none⟩ = false ∧ ((W.setCell ⟨B, 0, none⟩ a).setCell ⟨B, 1, none⟩ b).frozen? ⟨B, 1, none⟩ = false := by
  refine ⟨((hb.mono (by omega)).setCell (by simp) _).setCell (by simp) _, by simp, ?_, ?_, by simpa using e0, by simpa using e1⟩
  · refine cell_off ?_ (cell_same d0); exact Nat.one_ne_zero
  · refine cell_same (x := u1) (cell_off ?_ d1); exact Nat.zero_ne_one
set_option maxHeartbeats 1000000 in
theorem clos_any (s t x y rs rt : Int) (B R : Nat) (w : World) (hRB : R < B) (hB : B < w.heap.size)
    (c0 : w.cell? ⟨B, 0, none⟩ = some (.int .i64 s)) (c1 : w.cell? ⟨B, 1, none⟩ = some (.int .i64 t)) (f0 : w.frozen? ⟨B, 0, none⟩ = false) (f1 : w.frozen? ⟨B, 1, none⟩ = false)
    (r0 : w.cell? ⟨R, 0, none⟩ = some (.int .i64 rs)) (r1 : w.cell? ⟨R, 1, none⟩ = some (.int .i64 rt)) :
    Calls Try.prog 26 #[.agg #[.int .i64 x, .int .i64 y], .pointer (some ⟨B, 0, none⟩), .pointer (some ⟨R, 0, none⟩)] w (ClosP s t x y rs rt B w) := by
  have hadd := fun w => add_any s t x y w
  cases hok : adB s t x y with
  | false =>
    rw [hok] at hadd
    have hfin : ∀ w', Below B w w' → w'.cell? ⟨B, 0, none⟩ = some (.int .i64 0) → w'.cell? ⟨B, 1, none⟩ = some (.int .i64 0) → w'.frozen? ⟨B, 0, none⟩ = false → w'.frozen? ⟨B, 1, none⟩ = false → ClosP s t x y rs rt B w (.returned (.bool true)) w' := by
      intro w' h1 h2 h3 h4 h5
      unfold ClosP
      rw [hok]
      exact ⟨rfl, h1, h1.size, h2, h3, h4, h5⟩
    have HADD := Lib.hid hadd; clear hadd
    have HFIN := Lib.hid hfin; clear hfin
    clear hok
    go_enter Try.func26, Try.ntmps26
    go_wp2_with fail
    refine (HADD.out _).mono ?_
    rintro e w3 ⟨rfl, hb3⟩
    rw [adV_false, adV_false]
    have hB5 : Below (B + 1) w w3 := ((Below.refl _ _).alloc (by omega) _).trans (hb3.mono (by simp; omega))
    have d0 := (hB5.cell (p := ⟨B, 0, none⟩) (by simp)).trans c0
    have d1 := (hB5.cell (p := ⟨B, 1, none⟩) (by simp)).trans c1
    have e0 := (hB5.frozen (p := ⟨B, 0, none⟩) (by simp)).trans f0
    have e1 := (hB5.frozen (p := ⟨B, 1, none⟩) (by simp)).trans f1
    have hs3 : B < w3.heap.size := by have := hB5.size; omega
    have HB5 := Lib.hid hB5
    clear hb3 hB5 c0 c1 f0 f1 r0 r1
    go_wp2_with fail
    go_ret
    obtain ⟨b1, hs, g0, g1, h0, h1⟩ := two_put (a := .int .i64 0) (b := .int .i64 0) HB5.out d0 d1 e0 e1
    have hA := (Below.refl (B + 1) ((w3.setCell ⟨B, 0, none⟩ (.int .i64 0)).setCell ⟨B, 1, none⟩ (.int .i64 0))).alloc (by omega) (.cells #[.int .i64 0, .int .i64 0] 23)
    exact HFIN.out _ (b1.trans (hA.mono (by omega))) ((hA.cell (by simp)).trans g0) ((hA.cell (by simp)).trans g1) ((hA.frozen (by simp)).trans h0) ((hA.frozen (by simp)).trans h1)
  | true =>
    rw [hok] at hadd
    cases hfit : fitsL rs rt (s + x) (t + y) with
    | false =>
      have hfin : ∀ w', Below B w w' → w'.cell? ⟨B, 0, none⟩ = some (.int .i64 (s + x)) → w'.cell? ⟨B, 1, none⟩ = some (.int .i64 (t + y)) → w'.frozen? ⟨B, 0, none⟩ = false → w'.frozen? ⟨B, 1, none⟩ = false → ClosP s t x y rs rt B w (.returned (.bool true)) w' := by
        intro w' h1 h2 h3 h4 h5
        unfold ClosP
        rw [hok, hfit]
        exact ⟨rfl, h1, h1.size, h2, h3, h4, h5⟩
      have HADD := Lib.hid hadd; clear hadd
      have HFIN := Lib.hid hfin; clear hfin
      have HFIT := Lib.hid hfit; clear hfit
      clear hok
      go_enter Try.func26, Try.ntmps26
      go_wp2_with fail
      refine (HADD.out _).mono ?_
      rintro e w3 ⟨rfl, hb3⟩
      rw [adV_true, adV_true]
      have hB5 : Below (B + 1) w w3 := ((Below.refl _ _).alloc (by omega) _).trans (hb3.mono (by simp; omega))
      have d0 := (hB5.cell (p := ⟨B, 0, none⟩) (by simp)).trans c0
      have d1 := (hB5.cell (p := ⟨B, 1, none⟩) (by simp)).trans c1
      have e0 := (hB5.frozen (p := ⟨B, 0, none⟩) (by simp)).trans f0
      have e1 := (hB5.frozen (p := ⟨B, 1, none⟩) (by simp)).trans f1
      have q0 := (hB5.cell (p := ⟨R, 0, none⟩) (by simp; omega)).trans r0
      have q1 := (hB5.cell (p := ⟨R, 1, none⟩) (by simp; omega)).trans r1
      have hs3 : B < w3.heap.size := by have := hB5.size; omega
      have hne : B ≠ R := by omega
      have hRs : R < w3.heap.size := by omega
      have HB5 := Lib.hid hB5
      clear hb3 hB5 c0 c1 f0 f1 r0 r1
      go_wp2_with fail
      refine (fits_any _ _ _ _ _).mono ?_
      rintro e w4 ⟨rfl, hb4⟩
      rw [HFIT.out]
      obtain ⟨b1, hs, g0, g1, h0, h1⟩ := two_put (a := .int .i64 (s + x)) (b := .int .i64 (t + y)) HB5.out d0 d1 e0 e1
      have hA := ((Below.refl (B + 1) ((w3.setCell ⟨B, 0, none⟩ (.int .i64 (s + x))).setCell ⟨B, 1, none⟩ (.int .i64 (t + y)))).alloc (by omega) (.cells #[.int .i64 (s + x), .int .i64 (t + y)] 23)).trans (hb4.mono (by simp; omega))
      have HEND := Lib.hid (HFIN.out _ (b1.trans (hA.mono (by omega))) ((hA.cell (by simp)).trans g0) ((hA.cell (by simp)).trans g1) ((hA.frozen (by simp)).trans h0) ((hA.frozen (by simp)).trans h1))
      clear hb4 hA g0 g1 h0 h1 hs b1 d0 d1 e0 e1 q0 q1
      go_wp2_with fail
      go_ret
      exact HEND.out
    | true =>
      have hfin : ∀ w', Below B w w' → w'.cell? ⟨B, 0, none⟩ = some (.int .i64 (s + x)) → w'.cell? ⟨B, 1, none⟩ = some (.int .i64 (t + y)) → w'.frozen? ⟨B, 0, none⟩ = false → w'.frozen? ⟨B, 1, none⟩ = false → ClosP s t x y rs rt B w (.returned (.bool false)) w' := by
        intro w' h1 h2 h3 h4 h5
        unfold ClosP
        rw [hok, hfit]
        exact ⟨rfl, h1, h1.size, h2, h3, h4, h5⟩
      have HADD := Lib.hid hadd; clear hadd
      have HFIN := Lib.hid hfin; clear hfin
      have HFIT := Lib.hid hfit; clear hfit
      clear hok
      go_enter Try.func26, Try.ntmps26
      go_wp2_with fail
      refine (HADD.out _).mono ?_
      rintro e w3 ⟨rfl, hb3⟩
      rw [adV_true, adV_true]
      have hB5 : Below (B + 1) w w3 := ((Below.refl _ _).alloc (by omega) _).trans (hb3.mono (by simp; omega))
      have d0 := (hB5.cell (p := ⟨B, 0, none⟩) (by simp)).trans c0
      have d1 := (hB5.cell (p := ⟨B, 1, none⟩) (by simp)).trans c1
      have e0 := (hB5.frozen (p := ⟨B, 0, none⟩) (by simp)).trans f0
      have e1 := (hB5.frozen (p := ⟨B, 1, none⟩) (by simp)).trans f1
      have q0 := (hB5.cell (p := ⟨R, 0, none⟩) (by simp; omega)).trans r0
      have q1 := (hB5.cell (p := ⟨R, 1, none⟩) (by simp; omega)).trans r1
      have hs3 : B < w3.heap.size := by have := hB5.size; omega
      have hne : B ≠ R := by omega
      have hRs : R < w3.heap.size := by omega
      have HB5 := Lib.hid hB5
      clear hb3 hB5 c0 c1 f0 f1 r0 r1
      go_wp2_with fail
      refine (fits_any _ _ _ _ _).mono ?_
      rintro e w4 ⟨rfl, hb4⟩
      rw [HFIT.out]
      obtain ⟨b1, hs, g0, g1, h0, h1⟩ := two_put (a := .int .i64 (s + x)) (b := .int .i64 (t + y)) HB5.out d0 d1 e0 e1
      have hA := ((Below.refl (B + 1) ((w3.setCell ⟨B, 0, none⟩ (.int .i64 (s + x))).setCell ⟨B, 1, none⟩ (.int .i64 (t + y)))).alloc (by omega) (.cells #[.int .i64 (s + x), .int .i64 (t + y)] 23)).trans (hb4.mono (by simp; omega))
      have HEND := Lib.hid (HFIN.out _ (b1.trans (hA.mono (by omega))) ((hA.cell (by simp)).trans g0) ((hA.cell (by simp)).trans g1) ((hA.frozen (by simp)).trans h0) ((hA.frozen (by simp)).trans h1))
      clear hb4 hA g0 g1 h0 h1 hs b1 d0 d1 e0 e1 q0 q1
      go_wp2_with fail
      go_ret
      exact HEND.out
/-- between two rounds of IndexFunc -/
def RelF (w : World) (B : Nat) (X Y : Nat → Int) (k : Nat) (wr : World) : Prop :=
  Below B w wr ∧ B < wr.heap.size ∧ wr.cell? ⟨B, 0, none⟩ = some (.int .i64 (S X k)) ∧ wr.cell? ⟨B, 1, none⟩ = some (.int .i64 (S Y k)) ∧ wr.frozen? ⟨B, 0, none⟩ = false ∧ wr.frozen? ⟨B, 1, none⟩ = false
theorem bad_eq (rs rt : Int) (X Y : Nat → Int) (k : Nat) : (!adB (S X k) (S Y k) (X k) (Y k) || !fitsL rs rt (S X k + X k) (S Y k + Y k)) = badAt rs rt X Y k := rfl
theorem bad_ok {rs rt : Int} {X Y : Nat → Int} {k : Nat} (h : badAt rs rt X Y k = false) : okAt X Y k = true := by
  unfold badAt at h
  cases ho : okAt X Y k with
  | true => rfl
  | false => rw [ho] at h; simp at h
theorem relF_step {w W W' : World} {B k : Nat} {X Y : Nat → Int} {rs rt : Int} {e : Ending} (h : RelF w B X Y k W) (hc : ClosP (S X k) (S Y k) (X k) (Y k) rs rt B W e W') (hbad : badAt rs rt X Y k = false) :
    e = .returned (.bool false) ∧ RelF w B X Y (k + 1) W' := by
  obtain ⟨h1, h2, h3, h4, h5, h6, h7⟩ := hc
  obtain ⟨g1, g2, g3⟩ := h
  have ho : adB (S X k) (S Y k) (X k) (Y k) = true := bad_ok hbad
  rw [ho] at h4 h5
  rw [bad_eq, hbad] at h1
  exact ⟨h1, g1.trans h2, by omega, h4, h5, h6, h7⟩
theorem relF_stop {w W W' : World} {B k : Nat} {X Y : Nat → Int} {rs rt : Int} {e : Ending} (h : RelF w B X Y k W) (hc : ClosP (S X k) (S Y k) (X k) (Y k) rs rt B W e W') (hbad : badAt rs rt X Y k = true) :
    e = .returned (.bool true) ∧ Below B w W' := by
  obtain ⟨h1, h2, h3, h4, h5, h6, h7⟩ := hc
  rw [bad_eq, hbad] at h1
  exact ⟨h1, h.1.trans h2⟩
set_option maxHeartbeats 1000000 in
theorem idx_any (b off cap n : Nat) (X Y : Nat → Int) (rs rt : Int) (B R : Nat) (w : World) (hn : n ≤ 1000) (hb : b < B) (hRB : R < B) (hB : B < w.heap.size)
    (hc : ∀ j, j < n → w.cell? ⟨b, off + j * 2, none⟩ = some (.int .i64 (X j)) ∧ w.cell? ⟨b, off + j * 2 + 1, none⟩ = some (.int .i64 (Y j)))
    (c0 : w.cell? ⟨B, 0, none⟩ = some (.int .i64 0)) (c1 : w.cell? ⟨B, 1, none⟩ = some (.int .i64 0)) (f0 : w.frozen? ⟨B, 0, none⟩ = false) (f1 : w.frozen? ⟨B, 1, none⟩ = false)
    (r0 : w.cell? ⟨R, 0, none⟩ = some (.int .i64 rs)) (r1 : w.cell? ⟨R, 1, none⟩ = some (.int .i64 rt)) :
    Calls Try.prog 25 #[.slice (some ⟨b, off, none⟩) n cap, .func (.func 26) #[] #[.pointer (some ⟨B, 0, none⟩), .pointer (some ⟨R, 0, none⟩)]] w fun e w' => e = .returned (.int .i64 (firstV rs rt X Y n)) ∧ Below B w w' := by
  have HREL0 : Hid (RelF w B X Y 0 w) := Lib.hid ⟨Below.refl _ _, hB, c0, c1, f0, f1⟩
  have hclos : ∀ W k, RelF w B X Y k W → Calls Try.prog 26 #[.agg #[.int .i64 (X k), .int .i64 (Y k)], .pointer (some ⟨B, 0, none⟩), .pointer (some ⟨R, 0, none⟩)] W (ClosP (S X k) (S Y k) (X k) (Y k) rs rt B W) := fun W k h =>
    clos_any _ _ _ _ rs rt B R W hRB h.2.1 h.2.2.1 h.2.2.2.1 h.2.2.2.2.1 h.2.2.2.2.2 ((h.1.cell (p := ⟨R, 0, none⟩) hRB).trans r0) ((h.1.cell (p := ⟨R, 1, none⟩) hRB).trans r1)
  have HCL := Lib.hid hclos; clear hclos
  have HC := Lib.hid hc; clear hc c0 c1 f0 f1 r0 r1
  go_enter Try.func25, Try.ntmps25
  go_wp2_with fail
  go_loopw [8] (fun i wr => ∃ k : Nat, k ≤ n ∧ i = .int .i64 k ∧ Hid (∀ j, j < k → badAt rs rt X Y j = false) ∧ Hid (RelF w B X Y k wr)) (fun i _ => n - (intOf i).toNat)
  case atStart => exact ⟨0, Nat.zero_le _, rfl, Lib.hid (fun j hj => absurd hj (by omega)), HREL0⟩
  case round =>
    obtain ⟨k, hk, rfl, HBAD, HREL⟩ := hrel
    by_cases hlt : k < n
    · have hx := (HREL.out.1.cell (p := ⟨b, off + k * 2, none⟩) hb).trans (HC.out k hlt).1
      have hy := (HREL.out.1.cell (p := ⟨b, off + k * 2 + 1, none⟩) hb).trans (HC.out k hlt).2
      cases hbd : badAt rs rt X Y k with
      | false =>
        have hst := fun e W' => relF_step (e := e) (W' := W') HREL.out (hbad := hbd)
        have HST := Lib.hid hst; clear hst
        have HBD := Lib.hid hbd; clear hbd
        go_wp2_with fail
        refine (HCL.out _ _ HREL.out).mono ?_
        rintro e W' hcp
        obtain ⟨rfl, hr⟩ := HST.out _ _ hcp
        have HR := Lib.hid hr
        clear hcp hr
        have hbn : ∀ j, j < k + 1 → badAt rs rt X Y j = false := fun j hj => by
          rcases Nat.lt_or_ge j k with h | h
          · exact HBAD.out j h
          · obtain rfl : j = k := by omega
            exact HBD.out
        have HBN := Lib.hid hbn; clear hbn
        go_wp2_with fail
        go_roundw
        case rel => exact ⟨k + 1, by omega, by go_num, HBN, HR⟩
        case measure => simp [intOf]; omega
      | true =>
        have hst := fun e W' => relF_stop (e := e) (W' := W') HREL.out (hbad := hbd)
        have HST := Lib.hid hst; clear hst
        have HBD := Lib.hid hbd; clear hbd
        go_wp2_with fail
        refine (HCL.out _ _ HREL.out).mono ?_
        rintro e W' hcp
        obtain ⟨rfl, hr⟩ := HST.out _ _ hcp
        have HR := Lib.hid hr
        clear hcp hr
        go_wp2_with fail
        go_ret
        exact ⟨ret_int (firstV_at hlt HBAD.out HBD.out).symm, HR.out⟩
    · obtain rfl : k = n := by omega
      go_wp2_with fail
      go_ret
      exact ⟨ret_int (firstV_none HBAD.out).symm, HREL.out.1⟩
theorem idx_nil (a : Option Addr) (cap : Nat) (f : Value) (w : World) :
    Calls Try.prog 25 #[.slice a 0 cap, f] w fun e w' => e = .returned (.int .i64 (-1)) ∧ w = w' := by
  go_enter Try.func25, Try.ntmps25
  go_wp2_with fail
  go_loop [8] (fun i => i = .int .i64 0) (fun _ => 0)
  case atStart => rfl
  case round =>
    obtain rfl := hrel
    go_wp2_with fail
    go_ret
    exact ⟨rfl, rfl⟩
theorem first_any (b off cap n : Nat) (X Y : Nat → Int) (rs rt : Int) (w : World) (hn : n ≤ 1000) (hb : b < w.heap.size)
    (hc : ∀ j, j < n → w.cell? ⟨b, off + j * 2, none⟩ = some (.int .i64 (X j)) ∧ w.cell? ⟨b, off + j * 2 + 1, none⟩ = some (.int .i64 (Y j))) :
    Calls Try.prog 19 #[.agg #[.int .i64 rs, .int .i64 rt], .slice (some ⟨b, off, none⟩) n cap] w fun e w' => e = .returned (.int .i64 (firstV rs rt X Y n)) ∧ Below w.heap.size w w' := by
  have hA : Below w.heap.size w ((w.alloc (.cells #[.int .i64 rs, .int .i64 rt] 23)).alloc (.cells #[.int .i64 0, .int .i64 0] 23)) := ((Below.refl _ _).alloc (Nat.le_refl _) _).alloc (by simp) _
  have hI := idx_any b off cap n X Y rs rt (w.heap.size + 1) w.heap.size ((w.alloc (.cells #[.int .i64 rs, .int .i64 rt] 23)).alloc (.cells #[.int .i64 0, .int .i64 0] 23)) hn (by omega) (by omega) (by simp)
    (fun j hj => ⟨(hA.cell (p := ⟨b, off + j * 2, none⟩) hb).trans (hc j hj).1, (hA.cell (p := ⟨b, off + j * 2 + 1, none⟩) hb).trans (hc j hj).2⟩) (by simp) (by simp) (by simp) (by simp) (by simp) (by simp)
  have HI := Lib.hid hI; clear hI hc
  have HA := Lib.hid hA; clear hA
  go_enter Try.func19, Try.ntmps19
  go_wp2_with fail
  refine HI.out.mono ?_
  rintro e w' ⟨rfl, hb'⟩
  go_wp2_with fail
  go_ret
  exact ⟨rfl, HA.out.trans (hb'.mono (by omega))⟩
theorem first_nil (a : Option Addr) (cap : Nat) (rs rt : Int) (w : World) :
    Calls Try.prog 19 #[.agg #[.int .i64 rs, .int .i64 rt], .slice a 0 cap] w fun e w' => e = .returned (.int .i64 (-1)) ∧ Below w.heap.size w w' := by
  go_enter Try.func19, Try.ntmps19
  go_wp2_with fail
  refine (idx_nil _ _ _ _).mono ?_
  rintro e w' ⟨rfl, rfl⟩
  go_wp2_with fail
  go_ret
  exact ⟨rfl, ((Below.refl _ _).alloc (Nat.le_refl _) _).alloc (by simp) _⟩
end Load
end Go.Proofs.Ytoadmmapgajedaa
