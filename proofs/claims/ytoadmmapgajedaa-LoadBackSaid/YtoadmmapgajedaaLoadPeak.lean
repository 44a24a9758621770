/- Contracts of load.Peak. -/
import Derived.Test.YtoadmmapgajedaaLoadProf
namespace Go.Proofs.Ytoadmmapgajedaa
open Go.RowKit
namespace Load
theorem peakV_true (X : Nat → Int) (n : Nat) : peakV true X n = pk X n := rfl
theorem peakV_false (X : Nat → Int) (n : Nat) : peakV false X n = 0 := rfl
def RelK (w : World) (g n : Nat) (X Y : Nat → Int) (k : Nat) (wr : World) : Prop :=
  (∀ j, j < n → wr.cell? ⟨g, j * 2, none⟩ = some (.int .i64 (S X (j + 1))) ∧ wr.cell? ⟨g, j * 2 + 1, none⟩ = some (.int .i64 (S Y (j + 1)))) ∧ g < wr.heap.size ∧
  wr.cell? ⟨w.heap.size + 1, 0, none⟩ = some (.int .i64 (pk X k)) ∧ wr.cell? ⟨w.heap.size + 1, 1, none⟩ = some (.int .i64 (pk Y k)) ∧ wr.frozen? ⟨w.heap.size + 1, 0, none⟩ = false ∧ wr.frozen? ⟨w.heap.size + 1, 1, none⟩ = false ∧
  wr.cell? ⟨w.heap.size, 0, none⟩ = some (.int .i64 0) ∧ wr.cell? ⟨w.heap.size, 1, none⟩ = some (.int .i64 0) ∧ wr.frozen? ⟨w.heap.size, 0, none⟩ = false ∧ wr.frozen? ⟨w.heap.size, 1, none⟩ = false ∧
  Below w.heap.size w wr
theorem relK_step {w W : World} {g n k : Nat} {X Y : Nat → Int} {T : Nat} (h : RelK w g n X Y k W) (hg : w.heap.size + 1 < g) :
    RelK w g n X Y (k + 1) (((W.setCell ⟨w.heap.size + 1, 0, none⟩ (.int .i64 (if pk X k < S X (k + 1) then S X (k + 1) else pk X k))).setCell ⟨w.heap.size + 1, 1, none⟩ (.int .i64 (if pk Y k < S Y (k + 1) then S Y (k + 1) else pk Y k))).alloc
      (.cells #[.int .i64 (S X (k + 1)), .int .i64 (S Y (k + 1))] T)) := by
  obtain ⟨hc, hgs, c0, c1, f0, f1, d0, d1, e0, e1, hbel⟩ := h
  have eX : pk X (k + 1) = if pk X k < S X (k + 1) then S X (k + 1) else pk X k := rfl
  have eY : pk Y (k + 1) = if pk Y k < S Y (k + 1) then S Y (k + 1) else pk Y k := rfl
  rw [← eX, ← eY]
  have hs : w.heap.size + 1 < W.heap.size := by omega
  have hA : Below W.heap.size ((W.setCell ⟨w.heap.size + 1, 0, none⟩ (.int .i64 (pk X (k + 1)))).setCell ⟨w.heap.size + 1, 1, none⟩ (.int .i64 (pk Y (k + 1)))) (((W.setCell ⟨w.heap.size + 1, 0, none⟩ (.int .i64 (pk X (k + 1)))).setCell ⟨w.heap.size + 1, 1, none⟩ (.int .i64 (pk Y (k + 1)))).alloc (.cells #[.int .i64 (S X (k + 1)), .int .i64 (S Y (k + 1))] T)) := (Below.refl _ _).alloc (by simp) _
  have hB : Below (w.heap.size + 1) W ((W.setCell ⟨w.heap.size + 1, 0, none⟩ (.int .i64 (pk X (k + 1)))).setCell ⟨w.heap.size + 1, 1, none⟩ (.int .i64 (pk Y (k + 1)))) := ((Below.refl _ _).setCell (by simp) _).setCell (by simp) _
  refine ⟨fun j hj => ⟨?_, ?_⟩, by simp; omega, ?_, ?_, ?_, ?_, ?_, ?_, ?_, ?_, (hbel.trans (hB.mono (by omega))).trans (hA.mono (by omega))⟩
  · rw [hA.cell (by exact hgs)]; exact cell_far (by exact Nat.ne_of_lt hg) (cell_far (by exact Nat.ne_of_lt hg) (hc j hj).1)
  · rw [hA.cell (by exact hgs)]; exact cell_far (by exact Nat.ne_of_lt hg) (cell_far (by exact Nat.ne_of_lt hg) (hc j hj).2)
  · rw [hA.cell (by exact hs)]; refine cell_off ?_ (cell_same c0); exact Nat.one_ne_zero
  · rw [hA.cell (by exact hs)]; refine cell_same (x := .int .i64 (pk Y k)) (cell_off ?_ c1); exact Nat.zero_ne_one
  · rw [hA.frozen (by exact hs)]; simpa using f0
  · rw [hA.frozen (by exact hs)]; simpa using f1
  · rw [hA.cell (by exact Nat.lt_of_succ_lt hs), hB.cell (by exact Nat.lt_succ_self _)]; exact d0
  · rw [hA.cell (by exact Nat.lt_of_succ_lt hs), hB.cell (by exact Nat.lt_succ_self _)]; exact d1
  · rw [hA.frozen (by exact Nat.lt_of_succ_lt hs), hB.frozen (by exact Nat.lt_succ_self _)]; exact e0
  · rw [hA.frozen (by exact Nat.lt_of_succ_lt hs), hB.frozen (by exact Nat.lt_succ_self _)]; exact e1
set_option maxHeartbeats 1000000 in
theorem peak_any (b off cap n : Nat) (X Y : Nat → Int) (w : World) (hn : n ≤ 1000) (hb : b < w.heap.size)
    (hc : ∀ j, j < n → w.cell? ⟨b, off + j * 2, none⟩ = some (.int .i64 (X j)) ∧ w.cell? ⟨b, off + j * 2 + 1, none⟩ = some (.int .i64 (Y j))) :
    Calls Try.prog 21 #[.slice (some ⟨b, off, none⟩) n cap] w fun e w' => e = .returned (.agg #[.int .i64 (peakV (okTo X Y n) X n), .int .i64 (peakV (okTo X Y n) Y n)]) ∧ Below w.heap.size w w' := by
  have hprof := fun W (hW : Below w.heap.size w W) => prof_any b off cap n X Y W hn (by have := hW.size; omega) (fun j hj => ⟨(hW.cell (p := ⟨b, off + j * 2, none⟩) hb).trans (hc j hj).1, (hW.cell (p := ⟨b, off + j * 2 + 1, none⟩) hb).trans (hc j hj).2⟩)
  have HP := Lib.hid hprof; clear hprof hc
  cases hok : okTo X Y n with
  | false =>
    rw [peakV_false, peakV_false]
    have HOK := Lib.hid hok; clear hok
    go_enter Try.func21, Try.ntmps21
    go_wp2_with fail
    refine (HP.out _ (((Below.refl _ _).alloc (Nat.le_refl _) _).alloc (by simp) _)).mono ?_
    rintro e w1 hpp
    obtain ⟨rfl, hb1⟩ := hpp.no HOK.out
    clear hpp
    have d0 : w1.cell? ⟨w.heap.size, 0, none⟩ = some (.int .i64 0) := (hb1.cell (p := ⟨w.heap.size, 0, none⟩) (by simp; omega)).trans (by simp)
    have d1 : w1.cell? ⟨w.heap.size, 1, none⟩ = some (.int .i64 0) := (hb1.cell (p := ⟨w.heap.size, 1, none⟩) (by simp; omega)).trans (by simp)
    have e0 : w1.frozen? ⟨w.heap.size, 0, none⟩ = false := (hb1.frozen (p := ⟨w.heap.size, 0, none⟩) (by simp; omega)).trans (by simp)
    have e1 : w1.frozen? ⟨w.heap.size, 1, none⟩ = false := (hb1.frozen (p := ⟨w.heap.size, 1, none⟩) (by simp; omega)).trans (by simp)
    have c0 : w1.cell? ⟨w.heap.size + 1, 0, none⟩ = some (.int .i64 0) := (hb1.cell (p := ⟨w.heap.size + 1, 0, none⟩) (by simp)).trans (by simp)
    have c1 : w1.cell? ⟨w.heap.size + 1, 1, none⟩ = some (.int .i64 0) := (hb1.cell (p := ⟨w.heap.size + 1, 1, none⟩) (by simp)).trans (by simp)
    have f0 : w1.frozen? ⟨w.heap.size + 1, 0, none⟩ = false := (hb1.frozen (p := ⟨w.heap.size + 1, 0, none⟩) (by simp)).trans (by simp)
    have f1 : w1.frozen? ⟨w.heap.size + 1, 1, none⟩ = false := (hb1.frozen (p := ⟨w.heap.size + 1, 1, none⟩) (by simp)).trans (by simp)
    go_wp2_with fail
    go_loop [15] (fun i => i = .int .i64 0) (fun _ => 0)
    case atStart => rfl
    case round =>
      obtain rfl := hrel
      go_wp2
      exact bodyPost_ret (v := .agg #[.int .i64 0, .int .i64 0]) (by simp [results, Try.results21, go_sem, d0, d1]) rfl ⟨rfl, ((((((Below.refl _ _).alloc (Nat.le_refl _) _).alloc (by simp) _).trans (hb1.mono (by simp; omega))).setCell (by simp) _).setCell (by simp) _)⟩
  | true =>
    rw [peakV_true, peakV_true]
    have HOK := Lib.hid hok; clear hok
    go_enter Try.func21, Try.ntmps21
    go_wp2_with fail
    refine (HP.out _ (((Below.refl _ _).alloc (Nat.le_refl _) _).alloc (by simp) _)).mono ?_
    rintro e w1 hpp
    obtain ⟨g, rfl, hb1, hg1, hg2, HCG⟩ := hpp.yes HOK.out
    clear hpp
    have d0 : w1.cell? ⟨w.heap.size, 0, none⟩ = some (.int .i64 0) := (hb1.cell (p := ⟨w.heap.size, 0, none⟩) (by simp; omega)).trans (by simp)
    have d1 : w1.cell? ⟨w.heap.size, 1, none⟩ = some (.int .i64 0) := (hb1.cell (p := ⟨w.heap.size, 1, none⟩) (by simp; omega)).trans (by simp)
    have e0 : w1.frozen? ⟨w.heap.size, 0, none⟩ = false := (hb1.frozen (p := ⟨w.heap.size, 0, none⟩) (by simp; omega)).trans (by simp)
    have e1 : w1.frozen? ⟨w.heap.size, 1, none⟩ = false := (hb1.frozen (p := ⟨w.heap.size, 1, none⟩) (by simp; omega)).trans (by simp)
    have c0 : w1.cell? ⟨w.heap.size + 1, 0, none⟩ = some (.int .i64 0) := (hb1.cell (p := ⟨w.heap.size + 1, 0, none⟩) (by simp)).trans (by simp)
    have c1 : w1.cell? ⟨w.heap.size + 1, 1, none⟩ = some (.int .i64 0) := (hb1.cell (p := ⟨w.heap.size + 1, 1, none⟩) (by simp)).trans (by simp)
    have f0 : w1.frozen? ⟨w.heap.size + 1, 0, none⟩ = false := (hb1.frozen (p := ⟨w.heap.size + 1, 0, none⟩) (by simp)).trans (by simp)
    have f1 : w1.frozen? ⟨w.heap.size + 1, 1, none⟩ = false := (hb1.frozen (p := ⟨w.heap.size + 1, 1, none⟩) (by simp)).trans (by simp)
    have hrel0 : RelK w g n X Y 0 w1 := by
      exact ⟨HCG.out, hg2, c0, c1, f0, f1, d0, d1, e0, e1, (((Below.refl _ _).alloc (Nat.le_refl _) _).alloc (by simp) _).trans (hb1.mono (by simp; omega))⟩
    have HREL0 := Lib.hid hrel0; clear hrel0
    simp only [World.size_alloc] at hg1
    have HB1 := Lib.hid hb1
    clear hb1 c0 c1 f0 f1 d0 d1 e0 e1
    go_wp2_with fail
    go_loopw [15] (fun i wr => ∃ k : Nat, k ≤ n ∧ i = .int .i64 k ∧ Hid (RelK w g n X Y k wr)) (fun i _ => n - (intOf i).toNat)
    case atStart => exact ⟨0, Nat.zero_le _, rfl, HREL0⟩
    case round =>
      obtain ⟨k, hk, rfl, HREL⟩ := hrel
      obtain ⟨hcg, hgs, c0, c1, f0, f1, d0, d1, e0, e1, hbel⟩ := HREL.out
      have hws : w.heap.size + 1 < wr.heap.size := by omega
      by_cases hlt : k < n
      · obtain ⟨hx, hy⟩ := hcg k hlt
        have HCG2 := Lib.hid hcg; clear hcg
        have HBEL := Lib.hid hbel; clear hbel
        have hst := relK_step (T := 23) HREL.out hg1
        have HST := Lib.hid hst; clear hst
        go_wp2
        go_roundw
        case rel => exact ⟨k + 1, by omega, by go_num, HST⟩
        case measure => simp [intOf]; omega
      · obtain rfl : k = n := by omega
        have HBEL := Lib.hid hbel; clear hbel hcg
        go_wp2
        exact bodyPost_ret (v := .agg #[.int .i64 (pk X k), .int .i64 (pk Y k)]) (by simp [results, Try.results21, go_sem, d0, d1]) rfl ⟨rfl, (HBEL.out.setCell (by simp) _).setCell (by simp) _⟩
theorem peak_nil (a : Option Addr) (cap : Nat) (w : World) :
    Calls Try.prog 21 #[.slice a 0 cap] w fun e w' => e = .returned (.agg #[.int .i64 0, .int .i64 0]) ∧ Below w.heap.size w w' := by
  have HP := Lib.hid (fun W => prof_nil a cap (fun _ => 0) (fun _ => 0) W)
  go_enter Try.func21, Try.ntmps21
  go_wp2_with fail
  refine (HP.out _).mono ?_
  rintro e w1 hpp
  obtain ⟨g, rfl, hb1, hg1, hg2, HCG⟩ := hpp.yes rfl
  clear hpp
  have d0 : w1.cell? ⟨w.heap.size, 0, none⟩ = some (.int .i64 0) := (hb1.cell (p := ⟨w.heap.size, 0, none⟩) (by simp; omega)).trans (by simp)
  have d1 : w1.cell? ⟨w.heap.size, 1, none⟩ = some (.int .i64 0) := (hb1.cell (p := ⟨w.heap.size, 1, none⟩) (by simp; omega)).trans (by simp)
  have e0 : w1.frozen? ⟨w.heap.size, 0, none⟩ = false := (hb1.frozen (p := ⟨w.heap.size, 0, none⟩) (by simp; omega)).trans (by simp)
  have e1 : w1.frozen? ⟨w.heap.size, 1, none⟩ = false := (hb1.frozen (p := ⟨w.heap.size, 1, none⟩) (by simp; omega)).trans (by simp)
  have c0 : w1.cell? ⟨w.heap.size + 1, 0, none⟩ = some (.int .i64 0) := (hb1.cell (p := ⟨w.heap.size + 1, 0, none⟩) (by simp)).trans (by simp)
  have c1 : w1.cell? ⟨w.heap.size + 1, 1, none⟩ = some (.int .i64 0) := (hb1.cell (p := ⟨w.heap.size + 1, 1, none⟩) (by simp)).trans (by simp)
  have f0 : w1.frozen? ⟨w.heap.size + 1, 0, none⟩ = false := (hb1.frozen (p := ⟨w.heap.size + 1, 0, none⟩) (by simp)).trans (by simp)
  have f1 : w1.frozen? ⟨w.heap.size + 1, 1, none⟩ = false := (hb1.frozen (p := ⟨w.heap.size + 1, 1, none⟩) (by simp)).trans (by simp)
  go_wp2_with fail
  go_loop [15] (fun i => i = .int .i64 0) (fun _ => 0)
  case atStart => rfl
  case round =>
    obtain rfl := hrel
    go_wp2
    exact bodyPost_ret (v := .agg #[.int .i64 0, .int .i64 0]) (by simp [results, Try.results21, go_sem, d0, d1]) rfl ⟨rfl, ((((((Below.refl _ _).alloc (Nat.le_refl _) _).alloc (by simp) _).trans (hb1.mono (by simp; omega))).setCell (by simp) _).setCell (by simp) _)⟩
end Load
end Go.Proofs.Ytoadmmapgajedaa
