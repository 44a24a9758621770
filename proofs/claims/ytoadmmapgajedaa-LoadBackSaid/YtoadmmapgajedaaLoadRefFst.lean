/- The document's answer for First (jitneyref04.First). -/
import Derived.Test.YtoadmmapgajedaaLoadMore
import Derived.Deep.RegionHeld3
import Derived.Deep.DeepCutAuto
import Derived.Deep.LoopGhost
namespace Go.Proofs.Ytoadmmapgajedaa
open Go.RowKit
namespace Load
def cellsR (b off B R k : Nat) (X Y : Nat → Int) (rs rt : Int) : List (Addr × Value) := [(⟨B, 0, none⟩, .int .i64 (S X k)), (⟨B, 1, none⟩, .int .i64 (S Y k)), (⟨b, off + k * 2, none⟩, .int .i64 (X k)), (⟨b, off + k * 2 + 1, none⟩, .int .i64 (Y k)), (⟨R, 0, none⟩, .int .i64 (rs)), (⟨R, 1, none⟩, .int .i64 (rt))]
theorem cellsR_all {w0 W : World} {b off B R k : Nat} {X Y : Nat → Int} {rs rt : Int} (h : KA w0 (cellsR b off B R k X Y rs rt) W) : KA w0 (cellsR b off B R k X Y rs rt) W ∧ W.cell? ⟨B, 0, none⟩ = some (.int .i64 (S X k)) ∧ W.cell? ⟨B, 1, none⟩ = some (.int .i64 (S Y k)) ∧ W.cell? ⟨b, off + k * 2, none⟩ = some (.int .i64 (X k)) ∧ W.cell? ⟨b, off + k * 2 + 1, none⟩ = some (.int .i64 (Y k)) ∧ W.cell? ⟨R, 0, none⟩ = some (.int .i64 (rs)) ∧ W.cell? ⟨R, 1, none⟩ = some (.int .i64 (rt)) :=
  ⟨h, h.at (by simp [cellsR]), h.at (by simp [cellsR]), h.at (by simp [cellsR]), h.at (by simp [cellsR]), h.at (by simp [cellsR]), h.at (by simp [cellsR])⟩
theorem KA.setNew {w0 V W : World} {L : List (Addr × Value)} (hV : KA w0 L V) (h : KA w0 L W) (o : Nat) (v : Value) : KA w0 L (W.setCell ⟨V.heap.size, o, none⟩ v) :=
  ⟨fun p hp => by
    have hlt := World.block_lt_of_cell? _ _ (hV.1 p hp)
    exact (World.cell?_setCell_other W _ _ v (fun e => by rw [← e] at hlt; exact absurd hlt (Nat.lt_irrefl _))).trans (h.1 p hp), h.2.setCell (by exact hV.2.size) v⟩
/-- what the region that calls Add leaves -/
def AddP (wr : World) (L : List (Addr × Value)) (u v : Int) (c : Bool) (s7 s8 : Value) (wx : World) : Prop :=
  ∃ N : Nat, s7 = .pointer (some ⟨N, 0, none⟩) ∧ s8 = .bool c ∧ KA wr ((⟨N, 1, none⟩, .int .i64 v) :: (⟨N, 0, none⟩, .int .i64 u) :: L) wx
set_option maxHeartbeats 4000000 in
set_option maxRecDepth 100000 in
theorem refFirst_any (b off cap n : Nat) (X Y : Nat → Int) (rs rt : Int) (w : World) (hn : n ≤ 1000) (hb : b < w.heap.size)
    (hc : ∀ j, j < n → w.cell? ⟨b, off + j * 2, none⟩ = some (.int .i64 (X j)) ∧ w.cell? ⟨b, off + j * 2 + 1, none⟩ = some (.int .i64 (Y j))) :
    Calls Try.prog 20 #[.agg #[.int .i64 rs, .int .i64 rt], .slice (some ⟨b, off, none⟩) n cap] w fun e w' => e = .returned (.int .i64 (firstV rs rt X Y n)) ∧ Below w.heap.size w w' := by
  have hA : Below w.heap.size w ((w.alloc (.cells #[.int .i64 rs, .int .i64 rt] 23)).alloc (.cells #[.int .i64 0, .int .i64 0] 23)) := ((Below.refl _ _).alloc (Nat.le_refl _) _).alloc (by simp) _
  have HA := Lib.hid hA; clear hA
  have HC := Lib.hid hc; clear hc
  go_enter Try.func20, Try.ntmps20
  go_wp2_with fail
  have hR0 : ((w.alloc (.cells #[.int .i64 rs, .int .i64 rt] 23)).alloc (.cells #[.int .i64 0, .int .i64 0] 23)).cell? ⟨w.heap.size, 0, none⟩ = some (.int .i64 rs) := by simp [go_sem]
  have hR1 : ((w.alloc (.cells #[.int .i64 rs, .int .i64 rt] 23)).alloc (.cells #[.int .i64 0, .int .i64 0] 23)).cell? ⟨w.heap.size, 1, none⟩ = some (.int .i64 rt) := by simp [go_sem]
  have hrel0 : RelF ((w.alloc (.cells #[.int .i64 rs, .int .i64 rt] 23)).alloc (.cells #[.int .i64 0, .int .i64 0] 23)) (w.heap.size + 1) X Y 0 ((w.alloc (.cells #[.int .i64 rs, .int .i64 rt] 23)).alloc (.cells #[.int .i64 0, .int .i64 0] 23)) := ⟨Below.refl _ _, by simp, by simp [go_sem, S_zero], by simp [go_sem, S_zero], by simp, by simp⟩
  generalize hW1 : (w.alloc (.cells #[.int .i64 rs, .int .i64 rt] 23)).alloc (.cells #[.int .i64 0, .int .i64 0] 23) = W1 at *
  have HW1 := Lib.hid hW1; clear hW1
  obtain ⟨R, hR⟩ : ∃ R, R = w.heap.size := ⟨_, rfl⟩
  rw [← hR] at hR0 hR1 hrel0 hb ⊢
  have HRR := Lib.hid hR; clear hR
  have HREL0 := Lib.hid hrel0; clear hrel0
  have HR0 := Lib.hid hR0; clear hR0
  have HR1 := Lib.hid hR1; clear hR1
  go_loopg [6] n (fun g i wr => ∃ k : Nat, k ≤ n ∧ g = n - k ∧ i = .int .i64 k ∧ Hid (∀ j, j < k → badAt rs rt X Y j = false) ∧ Hid (RelF W1 (R + 1) X Y k wr))
  case atStart => exact ⟨0, Nat.zero_le _, rfl, rfl, Lib.hid (fun j hj => absurd hj (by omega)), HREL0⟩
  case round =>
    obtain ⟨k, hk, rfl, rfl, HBAD, HREL⟩ := hrel
    obtain ⟨hbelR, hBs, c0, c1, f0, f1⟩ := HREL.out
    by_cases hlt : k < n
    · have hbw : b < R + 1 := by omega
      have hx := (hbelR.cell (p := ⟨b, off + k * 2, none⟩) hbw).trans ((HA.out.cell (p := ⟨b, off + k * 2, none⟩) (by have := HRR.out; simp; omega)).trans (HC.out k hlt).1)
      have hy := (hbelR.cell (p := ⟨b, off + k * 2 + 1, none⟩) hbw).trans ((HA.out.cell (p := ⟨b, off + k * 2 + 1, none⟩) (by have := HRR.out; simp; omega)).trans (HC.out k hlt).2)
      have r0 := (hbelR.cell (p := ⟨R, 0, none⟩) (by simp)).trans HR0.out
      have r1 := (hbelR.cell (p := ⟨R, 1, none⟩) (by simp)).trans HR1.out
      have hka : KA wr (cellsR b off (R + 1) R k X Y rs rt) wr := ⟨fun p hp => by
        simp only [cellsR, List.mem_cons, List.not_mem_nil, or_false] at hp
        rcases hp with rfl | rfl | rfl | rfl | rfl | rfl
        · exact c0
        · exact c1
        · exact hx
        · exact hy
        · exact r0
        · exact r1, Below.refl _ _⟩
      have HKA := Lib.hid hka
      have HBELR := Lib.hid hbelR
      have F0 := Lib.hid f0
      have F1 := Lib.hid f1
      clear hka hbelR c0 c1 hx hy r0 r1 f0 f1
      have hadd := fun w => refAdd_any (S X k) (S Y k) (X k) (Y k) w
      rw [okAt_eq] at hadd
      obtain ⟨u, hu⟩ : ∃ u, adV (okAt X Y k) (S X k + X k) = u := ⟨_, rfl⟩
      obtain ⟨v, hv⟩ : ∃ v, adV (okAt X Y k) (S Y k + Y k) = v := ⟨_, rfl⟩
      obtain ⟨c, hc⟩ : ∃ c, okAt X Y k = c := ⟨_, rfl⟩
      rw [hu, hv, hc] at hadd
      have HADD := Lib.hid hadd; clear hadd
      have HU := Lib.hid hu; clear hu
      have HV := Lib.hid hv; clear hv
      have HCC := Lib.hid hc; clear hc
      go_upto_region 5 with fail
      go_cut [7, 8] (fun s7 s8 wx => AddP wr (cellsR b off (R + 1) R k X Y rs rt) u v c s7 s8 wx)
      case first =>
        obtain ⟨KK, c0, c1, hx, hy, r0, r1⟩ := cellsR_all HKA.out
        go_region_held3 (fun w' => KA wr (cellsR b off (R + 1) R k X Y rs rt) w' ∧ w'.cell? ⟨R + 1, 0, none⟩ = some (.int .i64 (S X k)) ∧ w'.cell? ⟨R + 1, 1, none⟩ = some (.int .i64 (S Y k)) ∧ w'.cell? ⟨b, off + k * 2, none⟩ = some (.int .i64 (X k)) ∧ w'.cell? ⟨b, off + k * 2 + 1, none⟩ = some (.int .i64 (Y k)) ∧ w'.cell? ⟨R, 0, none⟩ = some (.int .i64 (rs)) ∧ w'.cell? ⟨R, 1, none⟩ = some (.int .i64 (rt)))
          (first
            | exact cellsR_all ‹KA wr (cellsR b off (R + 1) R k X Y rs rt) _›
            | exact cellsR_all (KA.drew (And.left ‹KA wr (cellsR b off (R + 1) R k X Y rs rt) _ ∧ _›))
            | exact cellsR_all (KA.drew ‹KA wr (cellsR b off (R + 1) R k X Y rs rt) _›)
            | exact cellsR_all (KA.alloc (And.left ‹KA wr (cellsR b off (R + 1) R k X Y rs rt) _ ∧ _›) _)
            | exact cellsR_all (KA.drew (KA.alloc (And.left ‹KA wr (cellsR b off (R + 1) R k X Y rs rt) _ ∧ _›) _))
            | exact cellsR_all (KA.alloc ‹KA wr (cellsR b off (R + 1) R k X Y rs rt) _› _)
            | exact cellsR_all (KA.drew (KA.alloc ‹KA wr (cellsR b off (R + 1) R k X Y rs rt) _› _))
            | exact cellsR_all (KA.setNew ‹KA wr (cellsR b off (R + 1) R k X Y rs rt) _› (KA.setNew ‹KA wr (cellsR b off (R + 1) R k X Y rs rt) _› ‹KA wr (cellsR b off (R + 1) R k X Y rs rt) _› 0 _) 1 _))
          (first
            | (go_at_call 10; (with_reducible refine (HADD.out _).mono ?_); rintro e w' ⟨rfl, hb⟩; have hka := KA.below (And.left ‹KA wr (cellsR b off (R + 1) R k X Y rs rt) _ ∧ _›) hb; (obtain ⟨hcc, hff⟩ := bcell hb); have hz := hb.size; (try simp only [World.size_alloc] at hz); (try have hz2 := Nat.lt_of_succ_le hz); clear hb))
        all_goals
          go_wp2_with fail
          go_meet
          refine ⟨_, rfl, rfl, KA.put (KA.put (And.left ‹KA wr (cellsR b off (R + 1) R k X Y rs rt) _ ∧ _›) ?_) ?_⟩ <;> first | (simp [go_sem]; done) | go_simp
      case rest =>
        obtain ⟨N, rfl, rfl, hka⟩ := hcut
        have n0 := hka.at (a := ⟨N, 0, none⟩) (v := .int .i64 u) (by simp)
        have n1 := hka.at (a := ⟨N, 1, none⟩) (v := .int .i64 v) (by simp)
        have r0 := hka.at (a := ⟨R, 0, none⟩) (v := .int .i64 rs) (by simp [cellsR])
        have r1 := hka.at (a := ⟨R, 1, none⟩) (v := .int .i64 rt) (by simp [cellsR])
        have b0 := hka.at (a := ⟨R + 1, 0, none⟩) (v := .int .i64 (S X k)) (by simp [cellsR])
        have b1 := hka.at (a := ⟨R + 1, 1, none⟩) (v := .int .i64 (S Y k)) (by simp [cellsR])
        have f0 := (hka.2.frozen (p := ⟨R + 1, 0, none⟩) hBs).trans F0.out
        have f1 := (hka.2.frozen (p := ⟨R + 1, 1, none⟩) hBs).trans F1.out
        have hBc : R + 1 < wc.heap.size := by have := hka.2.size; omega
        have HBC := Lib.hid (HBELR.out.trans (hka.2.mono (by omega)))
        clear hka HKA
        cases c with
        | false =>
          have hbad : badAt rs rt X Y k = true := by unfold badAt; rw [HCC.out]; rfl
          have HB := Lib.hid hbad; clear hbad
          go_wp2_with fail
          go_ret
          exact ⟨ret_int (firstV_at hlt HBAD.out HB.out).symm, HA.out.trans (HBC.out.mono (by have := HRR.out; omega))⟩
        | true =>
          have hu : u = S X k + X k := by have := HU.out; rw [HCC.out, adV_true] at this; exact this.symm
          have hv : v = S Y k + Y k := by have := HV.out; rw [HCC.out, adV_true] at this; exact this.symm
          have hfit := fun w => refFits_any rs rt u v w
          have hbd : badAt rs rt X Y k = !fitsL rs rt u v := by unfold badAt; rw [HCC.out, hu, hv]; rfl
          obtain ⟨f, hf⟩ : ∃ f, fitsL rs rt u v = f := ⟨_, rfl⟩
          rw [hf] at hfit hbd
          have HFIT := Lib.hid hfit; clear hfit
          have HBD := Lib.hid hbd; clear hbd hf
          have HU2 := Lib.hid hu; clear hu
          have HV2 := Lib.hid hv; clear hv
          cases f with
          | false =>
            go_wp2_with fail
            refine (HFIT.out _).mono ?_
            rintro e w' ⟨rfl, hb'⟩
            have HB2 := Lib.hid (HBC.out.trans (hb'.mono (by omega)))
            clear hb'
            go_wp2_with fail
            go_ret
            exact ⟨ret_int (firstV_at hlt HBAD.out HBD.out).symm, HA.out.trans (HB2.out.mono (by have := HRR.out; omega))⟩
          | true =>
            go_wp2_with fail
            refine (HFIT.out _).mono ?_
            rintro e w' ⟨rfl, hb'⟩
            have HB2 := Lib.hid (HBC.out.trans (hb'.mono (by omega)))
            have hNs := World.block_lt_of_cell? _ _ n0
            have n0' := (hb'.cell (p := ⟨N, 0, none⟩) hNs).trans n0
            have n1' := (hb'.cell (p := ⟨N, 1, none⟩) hNs).trans n1
            have b0' := (hb'.cell (p := ⟨R + 1, 0, none⟩) hBc).trans b0
            have b1' := (hb'.cell (p := ⟨R + 1, 1, none⟩) hBc).trans b1
            have f0' := (hb'.frozen (p := ⟨R + 1, 0, none⟩) hBc).trans f0
            have f1' := (hb'.frozen (p := ⟨R + 1, 1, none⟩) hBc).trans f1
            have hBc' : R + 1 < w'.heap.size := by have := hb'.size; omega
            obtain ⟨g1, gs, g2, g3, g4, g5⟩ := two_put (a := .int .i64 u) (b := .int .i64 v) (Below.refl (R + 1 + 1) w') b0' b1' f0' f1'
            have hrn : RelF W1 (R + 1) X Y (k + 1) ((w'.setCell ⟨R + 1, 0, none⟩ (.int .i64 u)).setCell ⟨R + 1, 1, none⟩ (.int .i64 v)) :=
              ⟨HB2.out.trans g1, by omega, by rw [g2, HU2.out, S_succ], by rw [g3, HV2.out, S_succ], g4, g5⟩
            have hbn : ∀ j, j < k + 1 → badAt rs rt X Y j = false := fun j hj => by
              rcases Nat.lt_or_ge j k with h | h
              · exact HBAD.out j h
              · obtain rfl : j = k := by omega
                exact HBD.out
            have HRN := Lib.hid hrn; clear hrn
            have HBN := Lib.hid hbn; clear hbn
            clear hb' g1 gs g2 g3 g4 g5 n0 n1 b0 b1 f0 f1 r0 r1
            go_wp2_with fail
            go_roundg (n - (k + 1))
            case measure => omega
            case rel => exact ⟨k + 1, by omega, rfl, by go_num, HBN, HRN⟩
    · obtain rfl : k = n := by omega
      go_wp2_with fail
      go_ret
      exact ⟨ret_int (firstV_none HBAD.out).symm, HA.out.trans (HREL.out.1.mono (by have := HRR.out; omega))⟩
theorem refFirst_nil (a : Option Addr) (cap : Nat) (rs rt : Int) (w : World) :
    Calls Try.prog 20 #[.agg #[.int .i64 rs, .int .i64 rt], .slice a 0 cap] w fun e w' => e = .returned (.int .i64 (-1)) ∧ Below w.heap.size w w' := by
  go_enter Try.func20, Try.ntmps20
  go_wp2_with fail
  go_loop [6] (fun i => i = .int .i64 0) (fun _ => 0)
  case atStart => rfl
  case round =>
    obtain rfl := hrel
    go_wp2_with fail
    go_ret
    exact ⟨rfl, ((Below.refl _ _).alloc (Nat.le_refl _) _).alloc (by simp) _⟩
end Load
end Go.Proofs.Ytoadmmapgajedaa
