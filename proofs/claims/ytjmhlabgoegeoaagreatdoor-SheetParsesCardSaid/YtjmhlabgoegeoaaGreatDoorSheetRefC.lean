/- jitneyref02.Of at spots, jitneyref05.matrix; over the translated program. -/
import Derived.Test.YtjmhlabgoegeoaaGreatDoorSheetChk3
import Derived.Deep.QuietTactic
import Derived.BigQuiet
namespace Go.Proofs.YtjmhlabgoegeoaaGreatDoor
namespace Sheet
open Go Go.RowKit Deci
attribute [local go_sem] store_cx
theorem refPart_any (x : Nat) (n : Int) (w : World) (hx : Fl.Isz x n) (hn : Spot.Near n) :
    Calls Tryz.prog 59 #[.float .f64 x] w fun e w' => e = .returned (.tuple #[.int .i64 n, .bool true]) ∧ w = w' := by
  have c1 : (FloatKind.f64.format.order x 13938640846711685120 == some .gt || FloatKind.f64.format.order x 13938640846711685120 == some .eq) = true := by
    have : FloatKind.f64.format.order x 13938640846711685120 = some (compare n (-16777216)) := Fl.isz_order hx Fl.isz_low
    rw [this]
    rcases Int.lt_trichotomy (-16777216) n with h | h | h
    · rw [Int.compare_eq_gt.2 h]; rfl
    · rw [← h]; decide
    · have := hn.1; omega
  have c2 : (FloatKind.f64.format.order x 4715268809856909312 == some .lt || FloatKind.f64.format.order x 4715268809856909312 == some .eq) = true := by
    have : FloatKind.f64.format.order x 4715268809856909312 = some (compare n 16777216) := Fl.isz_order hx Fl.isz_high
    rw [this]
    rcases Int.lt_trichotomy n 16777216 with h | h | h
    · rw [Int.compare_eq_lt.2 h]; rfl
    · rw [h]; decide
    · have := hn.2; omega
  have c3 : (FloatKind.f64.format.order (floatOfInt .f64 n) x == some .eq) = true := by
    have : FloatKind.f64.format.order (floatOfInt .f64 n) x = some (compare n n) := Fl.isz_order (Spot.isz_wd hn) hx
    rw [this]; simp
  have k1 := fun w => run_convert_float_int w 111 2 .f64 .i64 x n (P := Tryz.prog) (by rw [Tryz.underlying111]; rfl) Tryz.underlying2 (Fl.isz_toInt hx (by have := hn.1; omega) (by have := hn.2; omega))
  clear hx hn
  go_enter Tryz.func59, Tryz.ntmps59
  go_wp2_with fail
  go_ret2
  exact ⟨rfl, rfl⟩
theorem refOf_any (p q : Nat) (x y : Int) (w : World) (h : Fl.Sp p q x y) (hx : Spot.Near x) (hy : Spot.Near y) :
    Calls Tryz.prog 28 #[.complex .f64 p q] w fun e w' => e = .returned (.agg #[.int .i64 x, .int .i64 y, .bool true]) ∧ Below w.heap.size w w' := by
  have h1 := fun w => refPart_any p x w h.1 hx
  have h2 := fun w => refPart_any q y w h.2 hy
  have H1 := Lib.hid h1; clear h1
  have H2 := Lib.hid h2; clear h2 h hx hy
  go_enter Tryz.func28, Tryz.ntmps28
  go_wp2_with fail
  refine (H1.out _).mono ?_
  rintro e w' ⟨rfl, rfl⟩
  go_wp2_with fail
  refine (H2.out _).mono ?_
  rintro e w' ⟨rfl, rfl⟩
  go_wp2_with fail
  refine bodyPost_ret (v := .agg #[.int .i64 x, .int .i64 y, .bool true]) (by simp [results, Tryz.results28, go_sem]) rfl ⟨rfl, ?_⟩
  repeat (first | exact Below.refl _ _ | refine Below.alloc ?_ (by simp) _ | refine Below.setCell ?_ (by simp) _)
set_option maxHeartbeats 2000000 in
set_option maxRecDepth 10000 in
theorem refMatrix_any (p : IP) (base : Nat) (a1 a2 a3 a4 : Option Addr) (n1 c1 c2 n3 c3 c4 : Nat) (V : Nat → Value) (w : World) (hP : p.P ≤ 4096) (hr : IsRow w a4 p.P V) (hd : ∀ j, j < p.P → DeepAt base p j (V j) w) :
    Calls Tryz.prog 27 #[.agg #[.slice a1 n1 c1, .slice a2 p.P c2, .slice a3 n3 c3, .slice a4 p.P c4]] w fun e w' => e = .returned (.int .i64 (if anyTo (fun i => !p.rowOk i) p.P then 23 else 0)) ∧ Below w.heap.size w w' := by
  obtain ⟨X, hX⟩ : ∃ X, X = w.heap.size := ⟨_, rfl⟩
  obtain ⟨W0, hW0⟩ : ∃ W0, W0 = w.alloc (.cells #[.slice a1 n1 c1, .slice a2 p.P c2, .slice a3 n3 c3, .slice a4 p.P c4] 28) := ⟨_, rfl⟩
  have hb0 : Below X w W0 := by rw [hX, hW0]; exact (Below.refl _ _).alloc (Nat.le_refl _) _
  have hx0 : W0.heap[X]? = some (.cells #[.slice a1 n1 c1, .slice a2 p.P c2, .slice a3 n3 c3, .slice a4 p.P c4] 28) := by rw [hX, hW0]; exact World.alloc_heap_new w _
  have hz0 : W0.heap.size = X + 1 := by rw [hX, hW0]; simp
  have hb0' : Below w.heap.size w W0 := by rw [hX] at hb0; exact hb0
  have hr0 : IsRow W0 a4 p.P V := hr.below hb0'
  have hd0 : ∀ j, j < p.P → DeepAt base p j (V j) W0 := fun j hj => (hd j hj).below hb0'
  have hxk : ∀ W, Below (X + 1) W0 W → W.cell? ⟨X, 1, none⟩ = some (.slice a2 p.P c2) ∧ W.cell? ⟨X, 3, none⟩ = some (.slice a4 p.P c4) := fun W hb =>
    ⟨(hb.cell (Nat.lt_succ_self X)).trans ((own_cell hx0).trans rfl), (hb.cell (Nat.lt_succ_self X)).trans ((own_cell hx0).trans rfl)⟩
  have hPp : 2 ≤ p.P := by unfold IP.P; omega
  rcases hr0 with h | ⟨b, off, rfl, hbz, hcell⟩
  · omega
  have hrow : ∀ W, Below (X + 1) W0 W → ∀ j, j < p.P → ∃ g cap, W.cell? ⟨b, off + j, none⟩ = some (.slice (some ⟨g, 0, none⟩) p.P cap) ∧ ∀ t, t < p.P → W.cell? ⟨g, 0 + t, none⟩ = some (.int .i64 (p.rowV j t)) := fun W hb j hj => by
    obtain ⟨g, cap, hv, -, hl⟩ := isLong_of (hd0 j hj)
    refine ⟨g, cap, ?_, fun t ht => ?_⟩
    · rw [← hv]; exact (hb.cell (by rw [← hz0]; exact hbz)).trans (hcell j hj)
    · rcases hl with h | ⟨g', o', he, hg, hc⟩
      · omega
      · injection he with he; injection he with e1 e2 e3; subst e1; subst e2
        exact (hb.cell (by rw [← hz0]; exact hg)).trans (hc t ht)
  have hans : (if anyTo (fun i => !p.rowOk i) p.P then (23 : Int) else 0) = 0 ∨ ((if anyTo (fun i => !p.rowOk i) p.P then (23 : Int) else 0) = 23) := by split <;> simp
  have hall : (∀ i, i < p.P → ∀ t, t < p.P → timeB (p.rowV i t) = true) → (if anyTo (fun i => !p.rowOk i) p.P then (23 : Int) else 0) = 0 := fun h => by
    rw [show anyTo (fun i => !p.rowOk i) p.P = false from anyTo_false.2 fun i hi => by
      unfold IP.rowOk
      rw [Bool.not_not]
      exact anyTo_false.2 fun t ht => by rw [h i hi t ht]; rfl]
    rfl
  have hbad : ∀ i t, i < p.P → t < p.P → timeB (p.rowV i t) = false → (if anyTo (fun i => !p.rowOk i) p.P then (23 : Int) else 0) = 23 := fun i t hi ht h => by
    rw [show anyTo (fun i => !p.rowOk i) p.P = true from anyTo_iff.2 ⟨i, hi, by
      unfold IP.rowOk
      rw [Bool.not_not]
      exact anyTo_iff.2 ⟨t, ht, by rw [h]; rfl⟩⟩]
    rfl
  have HXK := Lib.hid hxk; clear hxk
  have HROW := Lib.hid hrow; clear hrow
  have HALL := Lib.hid hall; clear hall
  have HBAD := Lib.hid hbad; clear hbad
  clear hd hr hd0 hx0 hcell hbz hans hb0'
  rw [← hX]
  have HX := Lib.hid hX; clear hX
  have HW := Lib.hid hW0; clear hW0
  have HB0 := Lib.hid hb0; clear hb0
  have HZ0 := Lib.hid hz0; clear hz0
  generalize (if anyTo (fun i => !p.rowOk i) p.P then (23 : Int) else 0) = an at *
  generalize p.P = P at *
  obtain ⟨x1, x3⟩ := HXK.out W0 (Below.refl _ _)
  go_enter Tryz.func27, Tryz.ntmps27
  go_wp2_with fail
  rw [← HX.out, ← HW.out]
  clear x1 x3
  go_loopw [3] (fun i wr => ∃ k : Nat, k ≤ P ∧ i = .int .i64 k ∧ Hid (Below (X + 1) W0 wr)) (fun i _ => P - (intOf i).toNat)
  case atStart => exact ⟨0, Nat.zero_le _, rfl, Lib.hid (Below.refl _ _)⟩
  case round =>
    obtain ⟨k, hk, rfl, BW⟩ := hrel
    obtain ⟨x1, x3⟩ := HXK.out wr BW.out
    by_cases hlt : k < P
    · obtain ⟨g, cap, y0, -⟩ := HROW.out wr BW.out k hlt
      have i0 : (0 : Int) ≤ (k : Int) := by omega
      have i1 : (k : Int) < (P : Int) := by omega
      go_wp2_with fail
      go_quiet (fail)
      clear i0 i1
      go_wp2_with fail
      go_roundw
      case rel => exact ⟨k + 1, by omega, by go_num, Lib.hid (BW.out.trans (Joins.below_draws _ _ _))⟩
      case measure => simp [intOf]; omega
    · clear HZ0
      go_wp2_with fail
      go_loop [4] (fun i => ∃ k : Nat, k ≤ P ∧ i = .int .i64 k ∧ Hid (∀ j, j < k → ∀ t, t < P → timeB (p.rowV j t) = true)) (fun i => P - (intOf i).toNat)
      case atStart => exact ⟨0, Nat.zero_le _, rfl, Lib.hid fun j hj => absurd hj (by omega)⟩
      case round =>
        obtain ⟨m, hm, rfl, HM⟩ := hrel
        by_cases hltm : m < P
        · obtain ⟨g, cap, y0, hy⟩ := HROW.out wr BW.out m hltm
          have HY := Lib.hid hy; clear hy
          have i0 : (0 : Int) ≤ (m : Int) := by omega
          have i1 : (m : Int) < (P : Int) := by omega
          go_wp2_with fail
          go_loop [5] (fun i => ∃ t : Nat, t ≤ P ∧ i = .int .i64 t ∧ Hid (∀ j, j < t → timeB (p.rowV m j) = true)) (fun i => P - (intOf i).toNat)
          case atStart => exact ⟨0, Nat.zero_le _, rfl, Lib.hid fun j hj => absurd hj (by omega)⟩
          case round =>
            obtain ⟨t, ht, rfl, HT⟩ := hrel
            by_cases hltt : t < P
            · have z0 := HY.out t hltt
              rw [Nat.zero_add] at z0
              have j0 : (0 : Int) ≤ (t : Int) := by omega
              have j1 : (t : Int) < (P : Int) := by omega
              cases htb : timeB (p.rowV m t) with
              | true =>
                have hcall := fun w => refTime_any (p.rowV m t) w
                rw [htb] at hcall
                have HC := Lib.hid hcall; clear hcall
                have HTB := Lib.hid htb; clear htb
                generalize p.rowV m t = rv at z0 HC
                go_wp2_with (go_at_call 25; refine (HC.out _).mono ?_; rintro e w' ⟨rfl, rfl⟩)
                go_round
                case rel => exact ⟨t + 1, by omega, by go_num, Lib.hid fun j hj => by
                  rcases Nat.lt_or_ge j t with h | h
                  · exact HT.out j h
                  · obtain rfl : j = t := by omega
                    exact HTB.out⟩
                case measure => simp [intOf]; omega
              | false =>
                have hcall := fun w => refTime_any (p.rowV m t) w
                rw [htb] at hcall
                have HC := Lib.hid hcall; clear hcall
                have han := HBAD.out m t hltm hltt htb
                subst han
                clear htb HALL HBAD
                generalize p.rowV m t = rv at z0 HC
                go_wp2_with (go_at_call 25; refine (HC.out _).mono ?_; rintro e w' ⟨rfl, rfl⟩)
                go_ret
                exact ⟨rfl, HB0.out.trans (BW.out.mono (by omega))⟩
            · go_wp2_with fail
              go_round
              case rel => exact ⟨m + 1, by omega, by go_num, Lib.hid fun j hj t' ht' => by
                rcases Nat.lt_or_ge j m with h | h
                · exact HM.out j h t' ht'
                · obtain rfl : j = m := by omega
                  exact HT.out t' (by omega)⟩
              case measure => simp [intOf]; omega
        · have han := HALL.out (fun i hi t ht => HM.out i (by omega) t ht)
          subst han
          clear HALL HBAD
          go_wp2_with fail
          go_ret
          exact ⟨rfl, HB0.out.trans (BW.out.mono (by omega))⟩
end Sheet
end Go.Proofs.YtjmhlabgoegeoaaGreatDoor
