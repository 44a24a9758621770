/- Contracts of load.Profile. -/
import Derived.Test.YtoadmmapgajedaaLoadSum
import Derived.OwnWalk
import Derived.RegionTactic
import Derived.Outline
namespace Go.Proofs.Ytoadmmapgajedaa
open Go.RowKit
namespace Load
theorem info_load : (Try.prog.info? 23).map (fun i => (i.zero, i.size, i.bytes)) = some (some (.agg #[.int .i64 0, .int .i64 0]), 2, 16) := by kernel_rfl
/-- a row of n loads of the call's own, the first k of which are the running sums -/
def Row (w : World) (base g n : Nat) (X Y : Nat → Int) (k : Nat) : Prop :=
  ∃ xs, w.ownsRow base 23 2 (.slice (some ⟨g, 0, none⟩) n n) n xs ∧ ∀ j, j < k → xs[j * 2]? = some (.int .i64 (S X (j + 1))) ∧ xs[j * 2 + 1]? = some (.int .i64 (S Y (j + 1)))
theorem owns_below {w w' : World} {base e size g n c : Nat} {xs : List Value} (h : w.ownsRow base e size (.slice (some ⟨g, 0, none⟩) n c) n xs) (hb : Below (g + 1) w w') : w'.ownsRow base e size (.slice (some ⟨g, 0, none⟩) n c) n xs := by
  refine ⟨h.1, ?_⟩
  rcases h.2 with ⟨h', _⟩ | ⟨g', cap', cur, h', hbg, hg, hr⟩
  · simp at h'
  · simp only [Value.slice.injEq, Option.some.injEq, Addr.mk.injEq, and_true, true_and] at h'
    obtain ⟨rfl, rfl⟩ := h'
    exact .inr ⟨g, c, cur, rfl, hbg, by rw [hb.block g (by omega)]; exact hg, hr⟩
theorem Row.below {w w' : World} {base g n k : Nat} {X Y : Nat → Int} (h : Row w base g n X Y k) (hb : Below (g + 1) w w') : Row w' base g n X Y k := by
  obtain ⟨xs, ho, hx⟩ := h
  exact ⟨xs, owns_below ho hb, hx⟩
theorem Row.old {w : World} {base g n k : Nat} {X Y : Nat → Int} (h : Row w base g n X Y k) (j : Nat) (hj : j < n) :
    (∃ u, w.cell? ⟨g, j * 2, none⟩ = some u) ∧ (∃ u, w.cell? ⟨g, j * 2 + 1, none⟩ = some u) ∧ w.frozen? ⟨g, j * 2, none⟩ = false ∧ w.frozen? ⟨g, j * 2 + 1, none⟩ = false := by
  obtain ⟨xs, ho, hx⟩ := h
  have hl := ho.1
  refine ⟨?_, ?_, ho.frozenAt _, ho.frozenAt _⟩
  · rw [ho.cellAt _ (by omega)]; exact ⟨_, List.getElem?_eq_getElem (by omega)⟩
  · rw [ho.cellAt _ (by omega)]; exact ⟨_, List.getElem?_eq_getElem (by omega)⟩
theorem Row.put {w : World} {base g n k : Nat} {X Y : Nat → Int} (h : Row w base g n X Y k) (hk : k < n) :
    Row ((w.setCell ⟨g, k * 2, none⟩ (.int .i64 (S X k + X k))).setCell ⟨g, k * 2 + 1, none⟩ (.int .i64 (S Y k + Y k))) base g n X Y (k + 1) := by
  obtain ⟨xs, ho, hx⟩ := h
  have hl := ho.1
  refine ⟨_, ((ho.stored _ _).1.stored _ _).1, fun j hj => ?_⟩
  rcases Nat.lt_or_ge j k with h | h
  · obtain ⟨h1, h2⟩ := hx j h
    rw [List.getElem?_set_ne (by omega), List.getElem?_set_ne (by omega), List.getElem?_set_ne (by omega), List.getElem?_set_ne (by omega)]
    exact ⟨h1, h2⟩
  · obtain rfl : j = k := by omega
    rw [List.getElem?_set_ne (by omega), List.getElem?_set_self (by omega), List.getElem?_set_self (by simp; omega)]
    exact ⟨rfl, rfl⟩
theorem Row.cells {w : World} {base g n : Nat} {X Y : Nat → Int} (h : Row w base g n X Y n) (j : Nat) (hj : j < n) :
    w.cell? ⟨g, j * 2, none⟩ = some (.int .i64 (S X (j + 1))) ∧ w.cell? ⟨g, j * 2 + 1, none⟩ = some (.int .i64 (S Y (j + 1))) := by
  obtain ⟨xs, ho, hx⟩ := h
  rw [ho.cellAt _ (by omega), ho.cellAt _ (by omega)]
  exact hx j hj
theorem Row.lt {w : World} {base g n k : Nat} {X Y : Nat → Int} (h : Row w base g n X Y k) : base ≤ g ∧ g < w.heap.size := by
  obtain ⟨xs, ho, hx⟩ := h
  exact ho.lt g rfl
/-- what Profile hands back -/
def ProfP (X Y : Nat → Int) (n : Nat) (w : World) (e : Ending) (w' : World) : Prop :=
  Below w.heap.size w w' ∧ ((okTo X Y n = false ∧ e = .returned (.tuple #[.slice none 0 0, .bool false])) ∨
    (okTo X Y n = true ∧ ∃ g, e = .returned (.tuple #[.slice (some ⟨g, 0, none⟩) n n, .bool true]) ∧ w.heap.size ≤ g ∧ g < w'.heap.size ∧ ∀ j, j < n → w'.cell? ⟨g, j * 2, none⟩ = some (.int .i64 (S X (j + 1))) ∧ w'.cell? ⟨g, j * 2 + 1, none⟩ = some (.int .i64 (S Y (j + 1)))))
def RelP (w : World) (G B n : Nat) (X Y : Nat → Int) (k : Nat) (wr : World) : Prop :=
  Row wr w.heap.size G n X Y k ∧ wr.cell? ⟨B, 0, none⟩ = some (.int .i64 (S X k)) ∧ wr.cell? ⟨B, 1, none⟩ = some (.int .i64 (S Y k)) ∧ wr.frozen? ⟨B, 0, none⟩ = false ∧ wr.frozen? ⟨B, 1, none⟩ = false ∧
    Below w.heap.size w wr ∧ B < wr.heap.size ∧ G < B
theorem cell_far {w : World} {p a : Addr} {v x : Value} (h : p.block ≠ a.block) (hx : w.cell? a = some x) : (w.setCell p v).cell? a = some x :=
  (World.cell?_setCell_other w p a v (fun e => h (by rw [e]))).trans hx
theorem cell_off {w : World} {p a : Addr} {v x : Value} (h : p.off ≠ a.off) (hx : w.cell? a = some x) : (w.setCell p v).cell? a = some x :=
  (World.cell?_setCell_other w p a v (fun e => h (by rw [e]))).trans hx
theorem cell_same {w : World} {a : Addr} {v x : Value} (hx : w.cell? a = some x) : (w.setCell a v).cell? a = some v := World.cell?_setCell_same w a v hx
theorem relP_step {w W : World} {G B n k : Nat} {X Y : Nat → Int} {v0 v1 : Value} (hrow : Row W w.heap.size G n X Y k) (hk : k < n) (hbel : Below w.heap.size w W) (hB : B < W.heap.size) (hG : G < B)
    (d0 : W.cell? ⟨B, 0, none⟩ = some v0) (d1 : W.cell? ⟨B, 1, none⟩ = some v1) (e0 : W.frozen? ⟨B, 0, none⟩ = false) (e1 : W.frozen? ⟨B, 1, none⟩ = false) :
    RelP w G B n X Y (k + 1) ((((W.setCell ⟨B, 0, none⟩ (.int .i64 (S X k + X k))).setCell ⟨B, 1, none⟩ (.int .i64 (S Y k + Y k))).setCell ⟨G, k * 2, none⟩ (.int .i64 (S X k + X k))).setCell ⟨G, k * 2 + 1, none⟩ (.int .i64 (S Y k + Y k))).drew := by
  have hGw := hrow.lt.1
  have hB0 : Below (G + 1) W ((W.setCell ⟨B, 0, none⟩ (.int .i64 (S X k + X k))).setCell ⟨B, 1, none⟩ (.int .i64 (S Y k + Y k))) := ((Below.refl _ _).setCell (by simp; omega) _).setCell (by simp; omega) _
  have hr := (hrow.below hB0).put hk
  have hne : B ≠ G := by omega
  refine ⟨hr.below (Below.refl _ _).drew, ?_, ?_, ?_, ?_, ((((hbel.setCell (by simp; omega) _).setCell (by simp; omega) _).setCell (by simp; omega) _).setCell (by simp; omega) _).drew, by simpa using hB, hG⟩
  · rw [S_succ, World.cell?_drew]
    refine cell_far hne.symm (cell_far hne.symm (cell_off (x := .int .i64 (S X k + X k)) ?_ (cell_same d0)))
    exact Nat.one_ne_zero
  · rw [S_succ, World.cell?_drew]
    refine cell_far hne.symm (cell_far hne.symm (cell_same (x := v1) (cell_off ?_ d1)))
    exact Nat.zero_ne_one
  · simp [e0]
  · simp [e1]
set_option maxHeartbeats 1000000 in
theorem prof_any (b off cap n : Nat) (X Y : Nat → Int) (w : World) (hn : n ≤ 1000) (hb : b < w.heap.size)
    (hc : ∀ j, j < n → w.cell? ⟨b, off + j * 2, none⟩ = some (.int .i64 (X j)) ∧ w.cell? ⟨b, off + j * 2 + 1, none⟩ = some (.int .i64 (Y j))) :
    Calls Try.prog 17 #[.slice (some ⟨b, off, none⟩) n cap] w (ProfP X Y n w) := by
  obtain ⟨i0, hi, hz0, hz1, hz2⟩ := info_parts info_load
  have HC := Lib.hid hc; clear hc
  go_enter Try.func17, Try.ntmps17
  go_wp2_with (at_make; refine wpList_make_full _ rfl _ _ 30 rfl w.heap.size 23 i0 (.agg #[.int .i64 0, .int .i64 0]) 2 Try.underlying30 hi hz0 hz1 .i64 .i64 _ _ n rfl rfl rfl rfl (by rw [hz2]; omega) (by unfold maxLen; omega) (Nat.le_refl _) ?_; intro w0 hown0 hgrow0)
  have hz00 := (hown0.lt _ rfl).2
  obtain ⟨G, hG⟩ : ∃ G, G = w.heap.size := ⟨_, rfl⟩
  obtain ⟨B, hB⟩ : ∃ B, B = w0.heap.size := ⟨_, rfl⟩
  have hrel0 : RelP w w.heap.size w0.heap.size n X Y 0 (w0.alloc (.cells #[.int .i64 0, .int .i64 0] 23)) :=
    ⟨⟨_, hown0.alloc _, fun j hj => absurd hj (by omega)⟩, by simp [S_zero], by simp [S_zero], by simp, by simp, ((Below.refl _ _).grown hgrow0 (Nat.le_refl _) (fun _ h => by cases h)).alloc hgrow0.size _, by simp, hz00⟩
  rw [← hB] at hrel0 hz00
  rw [← hB]
  have hGB0 : w.heap.size < B := hz00
  conv at hrel0 => arg 2; rw [← hG]
  rw [← hG]
  have HG := Lib.hid hG; clear hG
  have HB := Lib.hid hB; clear hB
  clear hown0 hgrow0 hi hz0 hz1 hz2
  go_loopw [15] (fun i wr => ∃ k : Nat, k ≤ n ∧ i = .int .i64 k ∧ Hid (okTo X Y k = true) ∧ Hid (RelP w G B n X Y k wr)) (fun i _ => n - (intOf i).toNat)
  case atStart => exact ⟨0, Nat.zero_le _, rfl, Lib.hid rfl, Lib.hid hrel0⟩
  case round =>
    obtain ⟨k, hk, rfl, HOK, HREL⟩ := hrel
    obtain ⟨hrow, c0, c1, f0, f1, hbel, hBs, hGB⟩ := HREL.out
    by_cases hlt : k < n
    · have hx := (hbel.cell (p := ⟨b, off + k * 2, none⟩) hb).trans (HC.out k hlt).1
      have hy := (hbel.cell (p := ⟨b, off + k * 2 + 1, none⟩) hb).trans (HC.out k hlt).2
      have hbr : b < wr.heap.size := by have := hbel.size; omega
      have hadd := fun w => add_any (S X k) (S Y k) (X k) (Y k) w
      rw [okAt_eq] at hadd
      have hGw := hrow.lt.1
      cases hok : okAt X Y k with
      | false =>
        rw [hok] at hadd
        have HADD := Lib.hid hadd; clear hadd
        have HK := Lib.hid hok; clear hok
        have HROW := Lib.hid hrow; clear hrow
        have HBEL := Lib.hid hbel; clear hbel
        go_wp2_with fail
        refine (HADD.out _).mono ?_
        rintro e w3 ⟨rfl, hb3⟩
        rw [adV_false, adV_false]
        obtain ⟨hc3, hf3⟩ := bcell hb3
        go_wp2_with fail
        go_ret2
        refine ⟨((HBEL.out.alloc (by omega) _).trans (hb3.mono (by simp; omega))).alloc (by have := hb3.size; simp at this; omega) _, .inl ⟨okTo_false hlt HK.out, rfl⟩⟩
      | true =>
        rw [hok] at hadd
        have HADD := Lib.hid hadd; clear hadd
        have HK := Lib.hid hok; clear hok
        have HROW := Lib.hid hrow; clear hrow
        have HBEL := Lib.hid hbel; clear hbel
        go_wp2_with fail
        refine (HADD.out _).mono ?_
        rintro e w3 ⟨rfl, hb3⟩
        rw [adV_true, adV_true]
        obtain ⟨hc3, hf3⟩ := bcell hb3
        go_wp2_with fail
        have hs3 := hb3.size
        simp only [World.size_alloc] at hs3
        obtain ⟨N, hN⟩ : ∃ N, N = w3.heap.size := ⟨_, rfl⟩
        have hBN : B < N := by omega
        obtain ⟨W5, hW5⟩ : ∃ W5, W5 = w3.alloc (.cells #[.int .i64 (S X k + X k), .int .i64 (S Y k + Y k)] 23) := ⟨_, rfl⟩
        have hB5 : Below (B + 1) wr W5 := by
          rw [hW5]; exact (((Below.refl (B + 1) wr).alloc (by omega) _).trans (hb3.mono (by simp; omega))).alloc (by omega) _
        have hN0 : W5.cell? ⟨N, 0, none⟩ = some (.int .i64 (S X k + X k)) := by rw [hN, hW5]; simp
        have hN1 : W5.cell? ⟨N, 1, none⟩ = some (.int .i64 (S Y k + Y k)) := by rw [hN, hW5]; simp
        have d0 := (hB5.cell (p := ⟨B, 0, none⟩) (by simp)).trans c0
        have d1 := (hB5.cell (p := ⟨B, 1, none⟩) (by simp)).trans c1
        have e0 := (hB5.frozen (p := ⟨B, 0, none⟩) (by simp)).trans f0
        have e1 := (hB5.frozen (p := ⟨B, 1, none⟩) (by simp)).trans f1
        have hrow5 := HROW.out.below (hB5.mono (by omega))
        have hbel5 := HBEL.out.trans (hB5.mono (by omega))
        obtain ⟨⟨u0, r0⟩, ⟨u1, r1⟩, q0, q1⟩ := hrow5.old k hlt
        have hs5 : B < W5.heap.size := by rw [hW5]; simp; omega
        rw [← hW5, ← hN]
        have HROW5 := Lib.hid hrow5; clear hrow5
        have HBEL5 := Lib.hid hbel5; clear hbel5
        have HN := Lib.hid hN; clear hN
        have HW5 := Lib.hid hW5; clear hW5
        have HS := Lib.hid hs3; clear hs3
        clear hB5 hb3 hc3 hf3 c0 c1 f0 f1 hx hy
        go_region
        have hrn := relP_step HROW5.out hlt HBEL5.out hs5 hGB d0 d1 e0 e1
        have HRN := Lib.hid hrn; clear hrn
        have hon := okTo_succ HOK.out HK.out
        have HON := Lib.hid hon; clear hon
        go_wp2
        go_roundw
        case rel => exact ⟨k + 1, by omega, by go_num, HON, HRN⟩
        case measure => simp [intOf]; omega
    · obtain rfl : k = n := by omega
      have HROW := Lib.hid hrow; clear hrow
      have HBEL := Lib.hid hbel; clear hbel
      go_wp2
      go_ret2
      exact ⟨HBEL.out, .inr ⟨HOK.out, G, rfl, by rw [HG.out]; exact Nat.le_refl _, by omega, fun j hj => HROW.out.cells j hj⟩⟩
theorem prof_nil (a : Option Addr) (cap : Nat) (X Y : Nat → Int) (w : World) :
    Calls Try.prog 17 #[.slice a 0 cap] w (ProfP X Y 0 w) := by
  obtain ⟨i0, hi, hz0, hz1, hz2⟩ := info_parts info_load
  go_enter Try.func17, Try.ntmps17
  go_wp2_with (at_make; refine wpList_make_full _ rfl _ _ 30 rfl w.heap.size 23 i0 (.agg #[.int .i64 0, .int .i64 0]) 2 Try.underlying30 hi hz0 hz1 .i64 .i64 _ _ 0 rfl rfl rfl rfl (by rw [hz2]; omega) (by unfold maxLen; omega) (Nat.le_refl _) ?_; intro w0 hown0 hgrow0)
  have hz00 := (hown0.lt _ rfl).2
  have hfin : Below w.heap.size w (w0.alloc (.cells #[.int .i64 0, .int .i64 0] 23)) := ((Below.refl _ _).grown hgrow0 (Nat.le_refl _) (fun _ h => by cases h)).alloc hgrow0.size _
  have HFIN := Lib.hid hfin; clear hfin
  have HZ := Lib.hid hz00; clear hz00
  clear hown0 hgrow0 hi hz0 hz1 hz2
  go_loop [15] (fun i => i = .int .i64 0) (fun _ => 0)
  case atStart => rfl
  case round =>
    obtain rfl := hrel
    go_wp2
    go_ret2
    exact ⟨HFIN.out, .inr ⟨rfl, w.heap.size, rfl, Nat.le_refl _, by have := HZ.out; simp; omega, fun j hj => absurd hj (by omega)⟩⟩
theorem ProfP.no {X Y : Nat → Int} {n : Nat} {w w' : World} {e : Ending} (h : ProfP X Y n w e w') (hok : okTo X Y n = false) : e = .returned (.tuple #[.slice none 0 0, .bool false]) ∧ Below w.heap.size w w' := by
  obtain ⟨hb, ⟨h1, h2⟩ | ⟨h1, h2⟩⟩ := h
  · exact ⟨h2, hb⟩
  · rw [hok] at h1; exact absurd h1 (by decide)
theorem ProfP.yes {X Y : Nat → Int} {n : Nat} {w w' : World} {e : Ending} (h : ProfP X Y n w e w') (hok : okTo X Y n = true) :
    ∃ g, e = .returned (.tuple #[.slice (some ⟨g, 0, none⟩) n n, .bool true]) ∧ Below w.heap.size w w' ∧ w.heap.size ≤ g ∧ g < w'.heap.size ∧ Hid (∀ j, j < n → w'.cell? ⟨g, j * 2, none⟩ = some (.int .i64 (S X (j + 1))) ∧ w'.cell? ⟨g, j * 2 + 1, none⟩ = some (.int .i64 (S Y (j + 1)))) := by
  obtain ⟨hb, ⟨h1, h2⟩ | ⟨h1, g, h2, h3, h4, h5⟩⟩ := h
  · rw [hok] at h1; exact absurd h1 (by decide)
  · exact ⟨g, h2, hb, h3, h4, Lib.hid h5⟩
end Load
end Go.Proofs.Ytoadmmapgajedaa
