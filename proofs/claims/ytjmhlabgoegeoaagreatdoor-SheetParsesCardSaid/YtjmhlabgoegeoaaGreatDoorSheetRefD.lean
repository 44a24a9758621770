/- jitneyref05.bad; over the translated program. -/
import Derived.Test.YtjmhlabgoegeoaaGreatDoorSheetRefC
namespace Go.Proofs.YtjmhlabgoegeoaaGreatDoor
namespace Sheet
open Go Go.RowKit Deci
attribute [local go_sem] store_cx
/-- Is a stop's load right? -/
def IP.okAt (p : IP) (j : Nat) : Bool :=
  if j = 0 ∨ j = 2 * p.R + 1 then p.idleOk j else if j ≤ p.R then Load.rightL (p.sa j) (p.sb j) else decide (p.sa j = -p.sa (j - p.R)) && decide (p.sb j = -p.sb (j - p.R))
theorem okAt_idle {p : IP} {j : Nat} (h : j = 0 ∨ j = 2 * p.R + 1) : p.okAt j = p.idleOk j := by unfold IP.okAt; rw [if_pos h]
theorem okAt_on {p : IP} {j : Nat} (h0 : 1 ≤ j) (h : j ≤ p.R) : p.okAt j = Load.rightL (p.sa j) (p.sb j) := by unfold IP.okAt; rw [if_neg (by omega), if_pos h]
theorem okAt_off {p : IP} {r : Nat} (h0 : 1 ≤ r) (h : r ≤ p.R) : p.okAt (p.R + r) = (decide (p.sa (p.R + r) = -p.sa r) && decide (p.sb (p.R + r) = -p.sb r)) := by
  unfold IP.okAt; rw [if_neg (by omega), if_neg (by omega), show p.R + r - p.R = r by omega]
theorem loadsB_iff {p : IP} : p.loadsB = true ↔ ∀ j, j < p.P → p.okAt j = true := by
  have hP : p.P = 2 * p.R + 2 := rfl
  unfold IP.loadsB
  rw [Bool.and_eq_true, Bool.and_eq_true, Bool.not_eq_true', anyTo_false]
  constructor
  · rintro ⟨h1, h2, h3⟩ j hj
    by_cases h0 : j = 0 ∨ j = 2 * p.R + 1
    · rw [okAt_idle h0]
      rcases h0 with rfl | rfl
      · exact h2
      · rw [← h3]; congr 1
    · rcases Nat.lt_or_ge p.R j with h | h
      · obtain ⟨r, rfl⟩ : ∃ r, j = p.R + r := ⟨j - p.R, by omega⟩
        rw [okAt_off (by omega) (by omega)]
        have := h1 (r - 1) (by omega)
        rw [show 1 + (r - 1) = r by omega] at this
        unfold IP.loadOk at this
        simp only [Bool.not_eq_false', Bool.and_eq_true] at this ⊢
        exact this.2
      · rw [okAt_on (by omega) h]
        have := h1 (j - 1) (by omega)
        rw [show 1 + (j - 1) = j by omega] at this
        unfold IP.loadOk at this
        simp only [Bool.not_eq_false', Bool.and_eq_true] at this
        exact this.1
  · intro h
    refine ⟨fun i hi => ?_, ?_, ?_⟩
    · have e1 := h (1 + i) (by omega)
      have e2 := h (p.R + (1 + i)) (by omega)
      rw [okAt_on (by omega) (by omega)] at e1
      rw [okAt_off (by omega) (by omega)] at e2
      unfold IP.loadOk
      rw [e1, e2]; rfl
    · have := h 0 (by omega); rwa [okAt_idle (.inl rfl)] at this
    · have := h (2 * p.R + 1) (by omega); rw [okAt_idle (.inr rfl)] at this; rw [← this]; congr 1
set_option maxHeartbeats 4000000 in
set_option maxRecDepth 100000 in
theorem refBad_any (p : IP) (a1 a2 a3 a4 : Option Addr) (n1 c1 c2 c3 n4 c4 : Nat) (w : World) (hP : p.P ≤ 4096) (hs : IsStop w a2 p.P p.sa p.sb p.sv p.se p.sl p.px p.py) :
    Calls Tryz.prog 26 #[.agg #[.slice a1 n1 c1, .slice a2 p.P c2, .slice a3 p.R c3, .slice a4 n4 c4]] w fun e w' => e = .returned (.bool (!p.loadsB)) ∧ Below w.heap.size w w' := by
  have hPR : p.P = 2 * p.R + 2 := rfl
  obtain ⟨X, hX⟩ : ∃ X, X = w.heap.size := ⟨_, rfl⟩
  obtain ⟨W0, hW0⟩ : ∃ W0, W0 = w.alloc (.cells #[.slice a1 n1 c1, .slice a2 p.P c2, .slice a3 p.R c3, .slice a4 n4 c4] 28) := ⟨_, rfl⟩
  have hb0 : Below X w W0 := by rw [hX, hW0]; exact (Below.refl _ _).alloc (Nat.le_refl _) _
  have hx0 : W0.heap[X]? = some (.cells #[.slice a1 n1 c1, .slice a2 p.P c2, .slice a3 p.R c3, .slice a4 n4 c4] 28) := by rw [hX, hW0]; exact World.alloc_heap_new w _
  have hz0 : W0.heap.size = X + 1 := by rw [hX, hW0]; simp
  have hs0 : IsStop W0 a2 p.P p.sa p.sb p.sv p.se p.sl p.px p.py := hs.below (by rw [hX] at hb0; exact hb0)
  rcases hs0 with h | ⟨b, off, rfl, hbz, hcell⟩
  · omega
  have hsf : ∀ W, Below (X + 1) W0 W → W.cell? ⟨X, 1, none⟩ = some (.slice (some ⟨b, off, none⟩) p.P c2) ∧ W.cell? ⟨X, 2, none⟩ = some (.slice a3 p.R c3) := by
    intro W hb
    have hx := (hb.block X (by omega)).trans hx0
    exact ⟨(own_cell hx).trans rfl, (own_cell hx).trans rfl⟩
  have hst : ∀ W, Below (X + 1) W0 W → ∀ j, j < p.P → W.cell? ⟨b, off + j * 6, none⟩ = some (.int .i64 (p.sa j)) ∧ W.cell? ⟨b, off + j * 6 + 1, none⟩ = some (.int .i64 (p.sb j)) ∧ W.cell? ⟨b, off + j * 6 + 2, none⟩ = some (.int .i64 (p.sv j)) := by
    intro W hb j hj
    have hlt : b < X + 1 := by omega
    obtain ⟨e0, e1, e2, e3, e4, e5⟩ := hcell j hj
    exact ⟨(hb.cell hlt).trans e0, (hb.cell hlt).trans e1, (hb.cell hlt).trans e2⟩
  have HSF := Lib.hid hsf; clear hsf
  have HST := Lib.hid hst; clear hst hcell hs
  have hbX : b < X + 1 := by rw [← hz0]; exact hbz
  have HBX := Lib.hid hbX; clear hbX
  rw [← hX]
  have HX := Lib.hid hX; clear hX
  have HW := Lib.hid hW0; clear hW0
  have HB0 := Lib.hid hb0; clear hb0
  have HZ0 := Lib.hid hz0; clear hz0
  clear hx0 hbz
  have hno : ∀ j, j < p.P → p.okAt j = false → p.loadsB = false := fun j hj h => by
    rw [← Bool.not_eq_true, loadsB_iff]; intro h'; rw [h' j hj] at h; cases h
  have hyes : (∀ j, j < p.P → p.okAt j = true) → p.loadsB = true := loadsB_iff.2
  have HNO := Lib.hid hno; clear hno
  have HYES := Lib.hid hyes; clear hyes
  generalize p.loadsB = lb at *
  have hRx : p.R ≤ 2047 := by omega
  obtain ⟨R, hR⟩ : ∃ R, R = p.R := ⟨_, rfl⟩
  rw [← hR] at hPR hRx HSF ⊢ HW
  generalize hPP : p.P = P at *
  have HPP := Lib.hid hPP; clear hPP
  have HR := Lib.hid hR; clear hR
  have HPR := Lib.hid hPR; clear hPR
  go_enter Tryz.func26, Tryz.ntmps26
  go_wp2_with fail
  rw [← HW.out, ← HX.out]
  go_loopw [4] (fun i wr => ∃ k : Nat, k ≤ P ∧ i = .int .i64 k ∧ Hid (Below (X + 1) W0 wr) ∧ Hid (∀ j, j < k → p.okAt j = true)) (fun i _ => P - (intOf i).toNat)
  case atStart => exact ⟨0, Nat.zero_le _, rfl, Lib.hid (Below.refl _ _), Lib.hid fun j hj => absurd hj (by omega)⟩
  case round =>
    obtain ⟨k, hk, rfl, BW, OK⟩ := hrel
    obtain ⟨x1, x2⟩ := HSF.out wr BW.out
    by_cases hlt : k < P
    · obtain ⟨y0, y1, y2⟩ := HST.out wr BW.out k hlt
      have i0 : (0 : Int) ≤ (k : Int) := by omega
      have i1 : (k : Int) < (P : Int) := by omega
      have hzr : X + 1 ≤ wr.heap.size := by have := BW.out.size; rw [HZ0.out] at this; exact this
      have hXr : X < wr.heap.size := by omega
      have hbr : b < wr.heap.size := by have := HBX.out; omega
      have HZR := Lib.hid hzr; clear hzr
      have hB1 : ∀ o, Below (X + 1) wr (wr.alloc o) := fun o => (Below.refl _ _).alloc HZR.out _
      have HBA := Lib.hid hB1; clear hB1
      have HNOK := Lib.hid (HNO.out k hlt)
      have hst2 := HST.out wr BW.out
      have HST2 := Lib.hid hst2; clear hst2
      have hkx : k ≤ 4096 := by omega
      by_cases hdep : k = 0 ∨ k = 2 * R + 1
      · have hok := okAt_idle (p := p) (j := k) (by rw [← HR.out]; exact hdep)
        unfold IP.idleOk at hok
        have hdd : ((k : Int) == 0) = true ∨ (((k : Int) == 0) = false ∧ ((k : Int) == 2 * (R : Int) + 1) = true) := by
          by_cases h : k = 0
          · left; simp [h]
          · right; exact ⟨by simpa using h, by simp; omega⟩
        have HDEP := Lib.hid hdep; clear hdep
        have HOKK := Lib.hid hok; clear hok
        have hcs : ((p.sa k != 0) = true) ∨ ((p.sa k != 0) = false ∧ (p.sb k != 0) = true) ∨ ((p.sa k != 0) = false ∧ (p.sb k != 0) = false ∧ (p.sv k != 0) = true) ∨ (p.sa k = 0 ∧ p.sb k = 0 ∧ p.sv k = 0) := by
          by_cases h1 : p.sa k = 0 <;> by_cases h2 : p.sb k = 0 <;> by_cases h3 : p.sv k = 0 <;> simp [h1, h2, h3]
        have hfalse : (p.sa k != 0) = true ∨ (p.sb k != 0) = true ∨ (p.sv k != 0) = true → lb = false := by
          intro h
          refine HNOK.out ?_
          rw [HOKK.out]
          simp only [bne_iff_ne] at h
          simp only [Bool.and_eq_false_iff, decide_eq_false_iff_not]
          exact h
        have HF := Lib.hid hfalse; clear hfalse
        generalize p.sa k = e1 at *
        generalize p.sb k = e2 at *
        generalize p.sv k = e3 at *
        rcases hdd with m0 | ⟨m0, m1⟩
        all_goals
          rcases hcs with t1 | ⟨t1, t2⟩ | ⟨t1, t2, t3⟩ | ⟨t1, t2, t3⟩
          all_goals first
            | (have hl := HF.out (by first | exact .inl t1 | exact .inr (.inl t2) | exact .inr (.inr t3))
               subst hl
               go_wp2_with fail
               go_ret
               exact ⟨rfl, HB0.out.trans ((BW.out.trans (HBA.out _)).mono (by omega))⟩)
            | (have hok := HOKK.out
               rw [t1, t2, t3] at hok
               have HOK2 := Lib.hid hok; clear hok
               subst t1; subst t2; subst t3
               go_wp2_with fail
               go_roundw
               case rel => exact ⟨k + 1, by omega, by go_num, Lib.hid (BW.out.trans (HBA.out _)), Lib.hid fun j hj => by
                 rcases Nat.lt_or_ge j k with h | h
                 · exact OK.out j h
                 · obtain rfl : j = k := by omega
                   rw [HOK2.out]; rfl⟩
               case measure => simp [intOf]; omega)
      · have m0 : ((k : Int) == 0) = false := by simp; omega
        have m1 : ((k : Int) == 2 * (R : Int) + 1) = false := by simp; omega
        by_cases hon : k ≤ R
        · have hok := okAt_on (p := p) (j := k) (by omega) (by rw [← HR.out]; exact hon)
          have hright := fun w => Load.refRight_any (p.sa k) (p.sb k) w
          have m2 : decide (k ≤ R) = true := by simpa using hon
          cases hrb : Load.rightL (p.sa k) (p.sb k) with
          | true =>
            rw [hrb] at hok hright
            have HOKK := Lib.hid hok; clear hok
            have HRT := Lib.hid hright; clear hright
            clear hrb
            generalize p.sa k = e1 at *
            generalize p.sb k = e2 at *
            go_wp2_with (go_at_call 24; refine (HRT.out _).mono ?_; rintro e w5 ⟨rfl, hb⟩; have HB5 : Hid (Below (X + 1) wr w5) := Lib.hid ((HBA.out _).trans (hb.mono (by have := HZR.out; simp; omega))); clear hb)
            go_roundw
            case rel => exact ⟨k + 1, by omega, by go_num, Lib.hid (BW.out.trans HB5.out), Lib.hid fun j hj => by
              rcases Nat.lt_or_ge j k with h | h
              · exact OK.out j h
              · obtain rfl : j = k := by omega
                exact HOKK.out⟩
            case measure => simp [intOf]; omega
          | false =>
            rw [hrb] at hok hright
            have hl := HNOK.out hok
            subst hl
            have HRT := Lib.hid hright; clear hright
            clear hrb hok
            generalize p.sa k = e1 at *
            generalize p.sb k = e2 at *
            go_wp2_with (go_at_call 24; refine (HRT.out _).mono ?_; rintro e w5 ⟨rfl, hb⟩; have HB5 : Hid (Below (X + 1) wr w5) := Lib.hid ((HBA.out _).trans (hb.mono (by have := HZR.out; simp; omega))); clear hb)
            go_ret
            exact ⟨rfl, HB0.out.trans ((BW.out.trans HB5.out).mono (by omega))⟩
        · have hPR := HPR.out
          obtain ⟨r, hr⟩ : ∃ r, k = R + r := ⟨k - R, by omega⟩
          have hok := okAt_off (p := p) (r := r) (by omega) (by rw [← HR.out]; omega)
          rw [← HR.out, ← hr] at hok
          obtain ⟨z0, z1, -⟩ := HST2.out r (by omega)
          have m2 : decide (k ≤ R) = false := by simp; omega
          have j0 : (0 : Int) ≤ (r : Int) := by omega
          have j1 : (r : Int) < (P : Int) := by omega
          have j2 : IntKind.i64.wrap ((k : Int) - (R : Int)) = (r : Int) := by rw [show (k : Int) - (R : Int) = r by omega]; unfold IntKind.wrap; simp [IntKind.signed, IntKind.bits]; omega
          have j3 : (k : Int) - (R : Int) = (r : Int) := by omega
          have b1 := sa_bd p r
          have b2 := sb_bd p r
          obtain ⟨b11, b12⟩ := b1
          obtain ⟨b21, b22⟩ := b2
          have HOKK := Lib.hid hok; clear hok
          have HKR := Lib.hid hr; clear hr
          clear hPR HST2
          generalize p.sa k = e1 at *
          generalize p.sb k = e2 at *
          generalize p.sa r = e3 at *
          generalize p.sb r = e4 at *
          have n3 : IntKind.i64.wrap (-e3) = -e3 := by unfold IntKind.wrap; simp [IntKind.signed, IntKind.bits]; omega
          have n4 : IntKind.i64.wrap (-e4) = -e4 := by unfold IntKind.wrap; simp [IntKind.signed, IntKind.bits]; omega
          have hcs : ((e1 != -e3) = true) ∨ ((e1 != -e3) = false ∧ (e2 != -e4) = true) ∨ ((e1 != -e3) = false ∧ (e2 != -e4) = false) := by
            by_cases h1 : e1 = -e3 <;> by_cases h2 : e2 = -e4 <;> simp [h1, h2]
          go_upto_region 12 with fail
          clear j3
          have q1 : (wr.alloc (.cells #[.int .i64 e1, .int .i64 e2] 52)).cell? ⟨X, 1, none⟩ = some (.slice (some ⟨b, off, none⟩) P c2) := ((HSF.out _ (BW.out.trans (HBA.out _))).1)
          have qz0 : (wr.alloc (.cells #[.int .i64 e1, .int .i64 e2] 52)).cell? ⟨b, off + r * 6, none⟩ = some (.int .i64 e3) := (((Below.refl wr.heap.size wr).alloc (Nat.le_refl _) _).cell hbr).trans z0
          have qz1 : (wr.alloc (.cells #[.int .i64 e1, .int .i64 e2] 52)).cell? ⟨b, off + r * 6 + 1, none⟩ = some (.int .i64 e4) := (((Below.refl wr.heap.size wr).alloc (Nat.le_refl _) _).cell hbr).trans z1
          have ql := World.alloc_heap_new wr (.cells #[.int .i64 e1, .int .i64 e2] 52)
          have ql0 : (wr.alloc (.cells #[.int .i64 e1, .int .i64 e2] 52)).cell? ⟨wr.heap.size, 0, none⟩ = some (.int .i64 e1) := (own_cell ql).trans rfl
          have ql1 : (wr.alloc (.cells #[.int .i64 e1, .int .i64 e2] 52)).cell? ⟨wr.heap.size, 1, none⟩ = some (.int .i64 e2) := (own_cell ql).trans rfl
          have HBL := Lib.hid (HBA.out (.cells #[.int .i64 e1, .int .i64 e2] 52))
          clear ql y0 y1 y2 z0 z1 x1 x2
          generalize wr.alloc (.cells #[.int .i64 e1, .int .i64 e2] 52) = wl at *
          generalize wr.heap.size = A at *
          rcases hcs with t1 | ⟨t1, t2⟩ | ⟨t1, t2⟩
          · have t1' : (e1 != IntKind.i64.wrap (-e3)) = true := by rw [n3]; exact t1
            have hl := HNOK.out (by rw [HOKK.out]; simp at t1; simp [t1])
            subst hl
            clear n3 n4
            go_quiet (fail)
            clear j0 j1 j2
            go_wp2_with fail
            go_ret
            exact ⟨rfl, HB0.out.trans ((BW.out.trans (HBL.out.trans (Joins.below_draws _ _ _))).mono (by omega))⟩
          · have t1' : (e1 != IntKind.i64.wrap (-e3)) = false := by rw [n3]; exact t1
            have t2' : (e2 != IntKind.i64.wrap (-e4)) = true := by rw [n4]; exact t2
            have hl := HNOK.out (by rw [HOKK.out]; simp at t2; simp [t2])
            subst hl
            clear n3 n4
            go_quiet (fail)
            clear j0 j1 j2
            go_wp2_with fail
            go_ret
            exact ⟨rfl, HB0.out.trans ((BW.out.trans (HBL.out.trans (Joins.below_draws _ _ _))).mono (by omega))⟩
          · have t1' : (e1 != IntKind.i64.wrap (-e3)) = false := by rw [n3]; exact t1
            have t2' : (e2 != IntKind.i64.wrap (-e4)) = false := by rw [n4]; exact t2
            have hok := HOKK.out
            rw [show decide (e1 = -e3) = true by simpa using t1, show decide (e2 = -e4) = true by simpa using t2] at hok
            have HOK2 := Lib.hid hok; clear hok
            clear n3 n4
            go_quiet (fail)
            clear j0 j1 j2
            go_wp2_with fail
            go_roundw
            case rel => exact ⟨k + 1, by omega, by go_num, Lib.hid (BW.out.trans (HBL.out.trans (Joins.below_draws _ _ _))), Lib.hid fun j hj => by
              rcases Nat.lt_or_ge j k with h | h
              · exact OK.out j h
              · obtain rfl : j = k := by omega
                rw [HOK2.out]; rfl⟩
            case measure => simp [intOf]; omega
    · have hl := HYES.out (fun j hj => OK.out j (by omega))
      subst hl
      go_wp2_with fail
      go_ret
      exact ⟨rfl, HB0.out.trans (BW.out.mono (by omega))⟩
end Sheet
end Go.Proofs.YtjmhlabgoegeoaaGreatDoor
