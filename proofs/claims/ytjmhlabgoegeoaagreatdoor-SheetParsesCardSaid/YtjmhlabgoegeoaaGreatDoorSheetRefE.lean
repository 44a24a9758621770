/- jitneyref05.Check; over the translated program. -/
import Derived.Test.YtjmhlabgoegeoaaGreatDoorSheetRefD
namespace Go.Proofs.YtjmhlabgoegeoaaGreatDoor
namespace Sheet
open Go Go.RowKit Deci
attribute [local go_sem] store_cx
set_option maxHeartbeats 8000000 in
set_option maxRecDepth 100000 in
theorem refCheck_any (p : IP) (hok : p.Ok) (base : Nat) (v : Value) (w : World) (h : InstAt base p v w) :
    Calls Tryz.prog 13 #[v] w fun e w' => e = .returned (.int .i64 p.chk) ∧ Below w.heap.size w w' := by
  obtain ⟨vc, vs, vr, vm, V, rfl, h⟩ := h
  obtain ⟨a1, c1, rfl, hc⟩ := isCar_of h.cars
  obtain ⟨a2, c2, rfl, hs⟩ := isStop_of h.stops
  obtain ⟨a3, c3, rfl, hr⟩ := isRide_of h.rides
  obtain ⟨a4, c4, rfl, hm⟩ := isRow_of h.rows
  have hd := h.deep
  obtain ⟨hC1, hC2, hP⟩ := hok
  have hPR : p.P = 2 * p.R + 2 := rfl
  have hR : p.R ≤ 2048 := by omega
  clear h
  obtain ⟨X, hX⟩ : ∃ X, X = w.heap.size := ⟨_, rfl⟩
  obtain ⟨W0, hW0⟩ : ∃ W0, W0 = w.alloc (.cells #[.slice a1 p.C c1, .slice a2 p.P c2, .slice a3 p.R c3, .slice a4 p.more c4] 28) := ⟨_, rfl⟩
  have hb0 : Below X w W0 := by rw [hX, hW0]; exact (Below.refl _ _).alloc (Nat.le_refl _) _
  have hx0 : W0.heap[X]? = some (.cells #[.slice a1 p.C c1, .slice a2 p.P c2, .slice a3 p.R c3, .slice a4 p.more c4] 28) := by rw [hX, hW0]; exact World.alloc_heap_new w _
  have hz0 : W0.heap.size = X + 1 := by rw [hX, hW0]; simp
  have hb0' : Below w.heap.size w W0 := by rw [hX] at hb0; exact hb0
  have hc0 := hc.below hb0'
  have hr0 := hr.below hb0'
  have hs0 := hs.below hb0'
  have hxk : ∀ W, Below (X + 1) W0 W → W.cell? ⟨X, 0, none⟩ = some (.slice a1 p.C c1) ∧ W.cell? ⟨X, 1, none⟩ = some (.slice a2 p.P c2) ∧ W.cell? ⟨X, 2, none⟩ = some (.slice a3 p.R c3) ∧ W.cell? ⟨X, 3, none⟩ = some (.slice a4 p.more c4) := fun W hb => by
    have hx := (hb.block X (by omega)).trans hx0
    exact ⟨(own_cell hx).trans rfl, (own_cell hx).trans rfl, (own_cell hx).trans rfl, (own_cell hx).trans rfl⟩
  have hbad : ∀ W, Below (X + 1) W0 W → _ := fun W hb => refBad_any p a1 a2 a3 a4 p.C c1 c2 c3 p.more c4 W hP (hs0.below (hb.mono (by omega)))
  have hmat : p.T = true → ∀ W, Below (X + 1) W0 W → Calls Tryz.prog 27 #[.agg #[.slice a1 p.C c1, .slice a2 p.P c2, .slice a3 p.R c3, .slice a4 p.more c4]] W fun e w' => e = .returned (.int .i64 (if anyTo (fun i => !p.rowOk i) p.more then 23 else 0)) ∧ Below W.heap.size W w' := fun hT W hb => by
    have hmo : p.more = p.P := by unfold IP.more; rw [if_pos hT]
    rw [hmo] at hm hd ⊢
    exact refMatrix_any p base a1 a2 a3 a4 p.C c1 c2 p.R c3 c4 V W hP ((hm.below hb0').below (hb.mono (by omega))) (fun j hj => ((hd j hj).below hb0').below (hb.mono (by omega)))
  have hspot : p.T = false → ∀ j w, ∃ x y, Calls Tryz.prog 28 #[.complex .f64 (p.px j) (p.py j)] w fun e w' => e = .returned (.agg #[.int .i64 x, .int .i64 y, .bool true]) ∧ Below w.heap.size w w' := fun hT j w => by
    obtain ⟨x, y, h1, h2, h3⟩ := spot_ok p hT j
    exact ⟨x, y, refOf_any _ _ x y w h1 h2 h3⟩
  have hchk : p.chk = if p.rangeB then 23 else if p.loadsB = false then 33 else if anyTo (fun i => !p.rowOk i) p.more then 23 else 0 := rfl
  have hrange : ((∃ j, j < p.C ∧ p.carOk j = false) ∨ (∃ j, j < p.R ∧ p.rideOk j = false) ∨ (∃ j, j < p.P ∧ p.timeOk j = false) → p.rangeB = true) ∧
      ((∀ j, j < p.C → p.carOk j = true) → (∀ j, j < p.R → p.rideOk j = true) → (∀ j, j < p.P → p.timeOk j = true) → p.rangeB = false) := by
    unfold IP.rangeB
    constructor
    · rintro (⟨j, h1, h2⟩ | ⟨j, h1, h2⟩ | ⟨j, h1, h2⟩)
      · rw [show anyTo (fun j => !p.carOk j) p.C = true from anyTo_iff.2 ⟨j, h1, by rw [h2]; rfl⟩]; rfl
      · rw [show anyTo (fun j => !p.rideOk j) p.R = true from anyTo_iff.2 ⟨j, h1, by rw [h2]; rfl⟩]; simp
      · rw [show anyTo (fun j => !p.timeOk j) p.P = true from anyTo_iff.2 ⟨j, h1, by rw [h2]; rfl⟩]; simp
    · intro h1 h2 h3
      rw [anyTo_false.2 fun j hj => by rw [h1 j hj]; rfl, anyTo_false.2 fun j hj => by rw [h2 j hj]; rfl, anyTo_false.2 fun j hj => by rw [h3 j hj]; rfl]; rfl
  have hmore : (p.T = true → p.more = p.P) ∧ (p.T = false → p.more = 0) := by unfold IP.more; exact ⟨fun h => if_pos h, fun h => if_neg (by simp [h])⟩
  have hPp : 2 ≤ p.P := by omega
  have HMO := Lib.hid hmore; clear hmore
  have HBAD := Lib.hid hbad; clear hbad
  have HMAT := Lib.hid hmat; clear hmat
  have HSP := Lib.hid hspot; clear hspot
  have HXK := Lib.hid hxk; clear hxk
  have HRG := Lib.hid hrange; clear hrange
  rcases hc0 with h | ⟨gb, go, rfl, hgz, hgc⟩
  · omega
  rcases hs0 with h | ⟨sb, so, rfl, hsz, hsc⟩
  · omega
  have hcar : ∀ W, Below (X + 1) W0 W → ∀ j, j < p.C → W.cell? ⟨gb, go + j * 3, none⟩ = some (.int .i64 (p.ca j)) ∧ W.cell? ⟨gb, go + j * 3 + 1, none⟩ = some (.int .i64 (p.cb j)) ∧ W.cell? ⟨gb, go + j * 3 + 2, none⟩ = some (.int .i64 (p.cm j)) := fun W hb j hj => by
    have hlt : gb < X + 1 := by rw [← hz0]; exact hgz
    obtain ⟨e0, e1, e2⟩ := hgc j hj
    exact ⟨(hb.cell hlt).trans e0, (hb.cell hlt).trans e1, (hb.cell hlt).trans e2⟩
  have hstp : ∀ W, Below (X + 1) W0 W → ∀ j, j < p.P → W.cell? ⟨sb, so + j * 6, none⟩ = some (.int .i64 (p.sa j)) ∧ W.cell? ⟨sb, so + j * 6 + 1, none⟩ = some (.int .i64 (p.sb j)) ∧ W.cell? ⟨sb, so + j * 6 + 2, none⟩ = some (.int .i64 (p.sv j)) ∧ W.cell? ⟨sb, so + j * 6 + 3, none⟩ = some (.int .i64 (p.se j)) ∧ W.cell? ⟨sb, so + j * 6 + 4, none⟩ = some (.int .i64 (p.sl j)) ∧ W.cell? ⟨sb, so + j * 6 + 5, none⟩ = some (.complex .f64 (p.px j) (p.py j)) := fun W hb j hj => by
    have hlt : sb < X + 1 := by rw [← hz0]; exact hsz
    obtain ⟨e0, e1, e2, e3, e4, e5⟩ := hsc j hj
    exact ⟨(hb.cell hlt).trans e0, (hb.cell hlt).trans e1, (hb.cell hlt).trans e2, (hb.cell hlt).trans e3, (hb.cell hlt).trans e4, (hb.cell hlt).trans e5⟩
  have hrid : ∀ W, Below (X + 1) W0 W → ∀ j, j < p.R → ∃ rb ro, a3 = some ⟨rb, ro, none⟩ ∧ W.cell? ⟨rb, ro + j, none⟩ = some (.int .i64 (p.rd j)) := fun W hb j hj => by
    rcases hr0 with h | ⟨rb, ro, h1, h2, h3⟩
    · omega
    · exact ⟨rb, ro, h1, (hb.cell (by rw [← hz0]; exact h2)).trans (h3 j hj)⟩
  have HCAR := Lib.hid hcar; clear hcar hgc hgz
  have HSTP := Lib.hid hstp; clear hstp hsc hsz
  have HRID := Lib.hid hrid; clear hrid
  clear hc hs hr hm hd hx0 hb0' hr0
  rw [← hX]
  have HX := Lib.hid hX; clear hX
  have HW := Lib.hid hW0; clear hW0
  have HB0 := Lib.hid hb0; clear hb0
  have HZ0 := Lib.hid hz0; clear hz0
  have HCK := Lib.hid hchk; clear hchk
  generalize p.chk = ck at *
  generalize p.rangeB = rgb at *
  generalize hlb : p.loadsB = lb at *
  have HLB := Lib.hid hlb; clear hlb
  generalize hx4 : anyTo (fun i => !p.rowOk i) p.more = x4 at *
  have HX4 := Lib.hid hx4; clear hx4
  generalize hmo : p.more = mo at *
  have HMOE := Lib.hid hmo; clear hmo
  have d0 : ((p.C : Int) == 0) = false := by simp; omega
  have d1 : decide ((64 : Int) < (p.C : Int)) = false := by simp; omega
  have d2 : decide (64 < p.C) = false := by simp; omega
  have d3 : decide ((4096 : Int) < (p.P : Int)) = false := by simp; omega
  have d4 : decide (4096 < p.P) = false := by simp; omega
  have d5 : ((p.P : Int) != 2 * (p.R : Int) + 2) = false := by simp; omega
  have d6 : ((p.P : Int) == 2 * (p.R : Int) + 2) = true := by simp; omega
  have HPR := Lib.hid hPR; clear hPR
  obtain ⟨x0, x1, x2, x3⟩ := HXK.out W0 (Below.refl _ _)
  go_enter Tryz.func13, Tryz.ntmps13
  go_wp2_with fail
  rw [← HX.out, ← HW.out]
  clear d0 d1 d2 d3 d4 d5 d6 x0 x1 x2 x3
  have h23 : rgb = true → ck = 23 := fun h => by rw [HCK.out, h]; rfl
  have h33 : rgb = false → lb = false → ck = 33 := fun h h' => by rw [HCK.out, h, h']; rfl
  have h00 : rgb = false → lb = true → ck = if x4 = true then 23 else 0 := fun h h' => by rw [HCK.out, h, h']; rfl
  have H23 := Lib.hid h23; clear h23
  have H33 := Lib.hid h33; clear h33
  have H00 := Lib.hid h00; clear h00 HCK
  go_loopw [4] (fun i wr => ∃ k : Nat, k ≤ p.C ∧ i = .int .i64 k ∧ Hid (Below (X + 1) W0 wr) ∧ Hid (∀ j, j < k → p.carOk j = true)) (fun i _ => p.C - (intOf i).toNat)
  case atStart => exact ⟨0, Nat.zero_le _, rfl, Lib.hid (Below.refl _ _), Lib.hid fun j hj => absurd hj (by omega)⟩
  case round =>
    obtain ⟨k, hk, rfl, BW, OK⟩ := hrel
    obtain ⟨x0, x1, x2, x3⟩ := HXK.out wr BW.out
    have hzr : X + 1 ≤ wr.heap.size := by have := BW.out.size; rw [HZ0.out] at this; exact this
    have HZR := Lib.hid hzr; clear hzr
    by_cases hlt : k < p.C
    · obtain ⟨y0, y1, y2⟩ := HCAR.out wr BW.out k hlt
      have i0 : (0 : Int) ≤ (k : Int) := by omega
      have i1 : (k : Int) < (p.C : Int) := by omega
      have hyk : ∀ W, Below (X + 1) W0 W → W.cell? ⟨gb, go + k * 3 + 2, none⟩ = some (.int .i64 (p.cm k)) ∧ W.cell? ⟨X, 0, none⟩ = some (.slice (some ⟨gb, go, none⟩) p.C c1) := fun W hb => ⟨(HCAR.out W hb k hlt).2.2, (HXK.out W hb).1⟩
      have hok : p.carOk k = (Load.rightL (p.ca k) (p.cb k) && timeB (p.cm k)) := rfl
      have hright := fun w => Load.refRight_any (p.ca k) (p.cb k) w
      have htime := fun w => refTime_any (p.cm k) w
      have h23 : p.carOk k = false → ck = 23 := fun h => H23.out (HRG.out.1 (.inl ⟨k, hlt, h⟩))
      have HYK := Lib.hid hyk; clear hyk
      generalize p.ca k = e1 at *
      generalize p.cb k = e2 at *
      generalize p.cm k = e3 at *
      generalize Load.rightL e1 e2 = rb at *
      generalize timeB e3 = tb at *
      have HK23 := Lib.hid h23; clear h23
      have HOKK := Lib.hid hok; clear hok
      have HRT := Lib.hid hright; clear hright
      have HTM := Lib.hid htime; clear htime
      cases rb with
      | false =>
        have hck := HK23.out (by rw [HOKK.out]; rfl)
        subst hck
        clear HOKK
        go_wp2_with (go_at_call 24; refine (HRT.out _).mono ?_; rintro e w5 ⟨rfl, hb⟩; have HB5 : Hid (Below (X + 1) W0 w5) := Lib.hid (BW.out.trans (hb.mono HZR.out)); clear hb)
        go_ret
        exact ⟨rfl, HB0.out.trans (HB5.out.mono (by omega))⟩
      | true =>
        cases tb with
        | false =>
          have hck := HK23.out (by rw [HOKK.out]; rfl)
          subst hck
          clear HOKK
          go_wp2_with (first | (go_at_call 24; refine (HRT.out _).mono ?_; rintro e w5 ⟨rfl, hb⟩; have HB5 : Hid (Below (X + 1) W0 w5) := Lib.hid (BW.out.trans (hb.mono HZR.out)); clear hb; have s2 := (HYK.out w5 HB5.out).1; have s0 := (HYK.out w5 HB5.out).2) | (go_at_call 25; refine (HTM.out _).mono ?_; rintro e w' ⟨rfl, rfl⟩))
          go_ret
          exact ⟨rfl, HB0.out.trans (HB5.out.mono (by omega))⟩
        | true =>
          have hok := HOKK.out
          have HOK2 := Lib.hid hok; clear hok HOKK
          go_wp2_with (first | (go_at_call 24; refine (HRT.out _).mono ?_; rintro e w5 ⟨rfl, hb⟩; have HB5 : Hid (Below (X + 1) W0 w5) := Lib.hid (BW.out.trans (hb.mono HZR.out)); clear hb; have s2 := (HYK.out w5 HB5.out).1; have s0 := (HYK.out w5 HB5.out).2) | (go_at_call 25; refine (HTM.out _).mono ?_; rintro e w' ⟨rfl, rfl⟩))
          go_roundw
          case rel => exact ⟨k + 1, by omega, by go_num, HB5, Lib.hid fun j hj => by
            rcases Nat.lt_or_ge j k with h | h
            · exact OK.out j h
            · obtain rfl : j = k := by omega
              rw [HOK2.out]; rfl⟩
          case measure => simp [intOf]; omega
    · have hcars : ∀ j, j < p.C → p.carOk j = true := fun j hj => OK.out j (by omega)
      have HCARS := Lib.hid hcars; clear hcars OK
      go_wp2_with fail
      go_loop [5] (fun i => ∃ k : Nat, k ≤ p.R ∧ i = .int .i64 k ∧ Hid (∀ j, j < k → p.rideOk j = true)) (fun i => p.R - (intOf i).toNat)
      case atStart => exact ⟨0, Nat.zero_le _, rfl, Lib.hid fun j hj => absurd hj (by omega)⟩
      case round =>
        obtain ⟨m, hm, rfl, OK⟩ := hrel
        by_cases hltm : m < p.R
        · obtain ⟨rbb, ro, rfl, y0⟩ := HRID.out wr BW.out m hltm
          have i0 : (0 : Int) ≤ (m : Int) := by omega
          have i1 : (m : Int) < (p.R : Int) := by omega
          have htime := fun w => refTime_any (p.rd m) w
          have hok : p.rideOk m = timeB (p.rd m) := rfl
          have h23 : p.rideOk m = false → ck = 23 := fun h => H23.out (HRG.out.1 (.inr (.inl ⟨m, hltm, h⟩)))
          generalize p.rd m = e1 at *
          generalize timeB e1 = tb at *
          have HK23 := Lib.hid h23; clear h23
          have HOKK := Lib.hid hok; clear hok
          have HTM := Lib.hid htime; clear htime
          cases tb with
          | false =>
            have hck := HK23.out HOKK.out
            subst hck
            clear HOKK
            go_wp2_with (go_at_call 25; refine (HTM.out _).mono ?_; rintro e w' ⟨rfl, rfl⟩)
            go_ret
            exact ⟨rfl, HB0.out.trans (BW.out.mono (by omega))⟩
          | true =>
            go_wp2_with (go_at_call 25; refine (HTM.out _).mono ?_; rintro e w' ⟨rfl, rfl⟩)
            go_round
            case rel => exact ⟨m + 1, by omega, by go_num, Lib.hid fun j hj => by
              rcases Nat.lt_or_ge j m with h | h
              · exact OK.out j h
              · obtain rfl : j = m := by omega
                exact HOKK.out⟩
            case measure => simp [intOf]; omega
        · have hrides : ∀ j, j < p.R → p.rideOk j = true := fun j hj => OK.out j (by omega)
          have HRIDES := Lib.hid hrides; clear hrides OK
          go_wp2_with fail
          clear x0 x2
          go_loopw [6] (fun i ws => ∃ k : Nat, k ≤ p.P ∧ i = .int .i64 k ∧ Hid (Below (X + 1) W0 ws) ∧ Hid (∀ j, j < k → p.timeOk j = true)) (fun i _ => p.P - (intOf i).toNat)
          case atStart => exact ⟨0, Nat.zero_le _, rfl, BW, Lib.hid fun j hj => absurd hj (by omega)⟩
          case round =>
            clear x1 x3 BW HZR
            obtain ⟨n, hn, rfl, BS, OK⟩ := hrel
            obtain ⟨x0, x1, x2, x3⟩ := HXK.out _ BS.out
            have hzs : X + 1 ≤ wr.heap.size := by have := BS.out.size; rw [HZ0.out] at this; exact this
            have HZS := Lib.hid hzs; clear hzs
            by_cases hltn : n < p.P
            · obtain ⟨y0, y1, y2, y3, y4, y5⟩ := HSTP.out _ BS.out n hltn
              have i0 : (0 : Int) ≤ (n : Int) := by omega
              have i1 : (n : Int) < (p.P : Int) := by omega
              have ht3 := fun w => refTime_any (p.sv n) w
              have ht4 := fun w => refTime_any (p.se n) w
              have ht5 := fun w => refTime_any (p.sl n) w
              have hok : p.timeOk n = (timeB (p.sv n) && (timeB (p.se n) && (timeB (p.sl n) && decide (p.se n ≤ p.sl n)))) := rfl
              have h23 : p.timeOk n = false → ck = 23 := fun h => H23.out (HRG.out.1 (.inr (.inr ⟨n, hltn, h⟩)))
              generalize p.sa n = e1 at *
              generalize p.sb n = e2 at *
              generalize p.sv n = e3 at *
              generalize p.se n = e4 at *
              generalize p.sl n = e5 at *
              generalize p.px n = e6 at *
              generalize p.py n = e7 at *
              have hle : (¬ e5 < e4 ∧ decide (e4 ≤ e5) = true) ∨ (e5 < e4 ∧ decide (e4 ≤ e5) = false) := by
                by_cases h : e4 ≤ e5
                · exact .inl ⟨by omega, by simp [h]⟩
                · exact .inr ⟨by omega, by simp [h]⟩
              generalize timeB e3 = t3 at *
              generalize timeB e4 = t4 at *
              generalize timeB e5 = t5 at *
              have HK23 := Lib.hid h23; clear h23
              have HOKK := Lib.hid hok; clear hok
              have HT3 := Lib.hid ht3; clear ht3
              have HT4 := Lib.hid ht4; clear ht4
              have HT5 := Lib.hid ht5; clear ht5
              have HBN := Lib.hid (fun o => (Below.refl (X + 1) wr).alloc HZS.out o)
              cases hall : (t3 && (t4 && (t5 && decide (e4 ≤ e5)))) with
              | true =>
                obtain ⟨g3, g4, g5, g6⟩ : t3 = true ∧ t4 = true ∧ t5 = true ∧ e4 ≤ e5 := by simpa [Bool.and_eq_true] using hall
                have hng : ¬ e5 < e4 := by omega
                have HOK2 := Lib.hid (HOKK.out.trans hall); clear hall HOKK hle g6 HK23
                subst g3; subst g4; subst g5
                go_wp2_with (first | (go_at_call_of 25 (Value.int IntKind.i64 e3); refine (HT3.out _).mono ?_; rintro e w' ⟨rfl, rfl⟩) | (go_at_call_of 25 (Value.int IntKind.i64 e4); refine (HT4.out _).mono ?_; rintro e w' ⟨rfl, rfl⟩) | (go_at_call_of 25 (Value.int IntKind.i64 e5); refine (HT5.out _).mono ?_; rintro e w' ⟨rfl, rfl⟩))
                go_roundw
                case rel => exact ⟨n + 1, by omega, by go_num, Lib.hid (BS.out.trans (HBN.out _)), Lib.hid fun j hj => by
                  rcases Nat.lt_or_ge j n with h | h
                  · exact OK.out j h
                  · obtain rfl : j = n := by omega
                    exact HOK2.out⟩
                case measure => simp [intOf]; omega
              | false =>
                have hck := HK23.out (HOKK.out.trans hall)
                subst hck
                clear HOKK HK23
                rcases hle with ⟨hng, hde⟩ | ⟨hng, hde⟩
                all_goals
                  rw [hde] at hall
                  clear hde
                  cases t3 <;> cases t4 <;> cases t5 <;> first
                    | (exact absurd hall (by decide))
                    | (clear hall
                       go_wp2_with (first | (go_at_call_of 25 (Value.int IntKind.i64 e3); refine (HT3.out _).mono ?_; rintro e w' ⟨rfl, rfl⟩) | (go_at_call_of 25 (Value.int IntKind.i64 e4); refine (HT4.out _).mono ?_; rintro e w' ⟨rfl, rfl⟩) | (go_at_call_of 25 (Value.int IntKind.i64 e5); refine (HT5.out _).mono ?_; rintro e w' ⟨rfl, rfl⟩))
                       go_ret
                       exact ⟨rfl, HB0.out.trans ((BS.out.trans (HBN.out _)).mono (by omega))⟩)
            · have htimes : ∀ j, j < p.P → p.timeOk j = true := fun j hj => OK.out j (by omega)
              have hrg := HRG.out.2 HCARS.out HRIDES.out htimes
              clear OK htimes
              subst hrg
              have hbb := HBAD.out _ BS.out
              skip
              have HBB := Lib.hid hbb; clear hbb HBAD
              cases lb with
              | false =>
                have hck := H33.out rfl rfl
                subst hck
                go_wp2_with fail
                refine HBB.out.mono ?_
                rintro e w5 ⟨rfl, hb⟩
                have HB5 := Lib.hid (BS.out.trans (hb.mono HZS.out)); clear hb
                go_wp2_with fail
                go_ret
                exact ⟨rfl, HB0.out.trans (HB5.out.mono (by omega))⟩
              | true =>
                have hck := H00.out rfl rfl
                have HCK := Lib.hid hck; clear hck H00 H33 H23
                go_wp2_with fail
                refine HBB.out.mono ?_
                rintro e w5 ⟨rfl, hb⟩
                have HB5 := Lib.hid (BS.out.trans (hb.mono HZS.out)); clear hb
                clear x0 x1 x2 x3
                obtain ⟨x0, x1, x2, x3⟩ := HXK.out _ HB5.out
                cases hT : p.T with
                | true =>
                  have hmt := HMAT.out hT _ HB5.out
                  rw [← HCK.out] at hmt
                  have hmoP : mo = p.P := HMO.out.1 hT
                  have m0 : decide ((0 : Int) < (mo : Int)) = true := by simp; omega
                  have m1 : decide (0 < mo) = true := by simp; omega
                  have HMT := Lib.hid hmt; clear hmt
                  have HMP := Lib.hid hmoP; clear hmoP
                  have HTT := Lib.hid hT; clear hT
                  have hz5 : X + 1 ≤ w5.heap.size := by have := HB5.out.size; rw [HZ0.out] at this; exact this
                  go_wp2_with fail
                  refine HMT.out.mono ?_
                  rintro e w6 ⟨rfl, hb⟩
                  have HB6 := Lib.hid (HB5.out.trans (hb.mono hz5)); clear hb
                  go_wp2_with fail
                  go_ret
                  exact ⟨rfl, HB0.out.trans (HB6.out.mono (by omega))⟩
                | false =>
                  have hmo0 : mo = 0 := HMO.out.2 hT
                  have hx40 := HX4.out
                  subst hmo0
                  have hx4f : x4 = false := by rw [← hx40]; rfl
                  subst hx4f
                  have hck : ck = 0 := HCK.out
                  subst hck
                  have HSPT := Lib.hid (HSP.out hT)
                  have HTT := Lib.hid hT; clear hT hx40 HMAT HMO HCK HSP
                  have hz5 : X + 1 ≤ w5.heap.size := by have := HB5.out.size; rw [HZ0.out] at this; exact this
                  go_wp2_with fail
                  clear x0 x1 x2 x3
                  go_loopw [8] (fun i wr => ∃ k : Nat, k ≤ p.P ∧ i = .int .i64 k ∧ Hid (Below (X + 1) W0 wr)) (fun i _ => p.P - (intOf i).toNat)
                  case atStart => exact ⟨0, Nat.zero_le _, rfl, HB5⟩
                  case round =>
                    obtain ⟨q, hq, rfl, BQ⟩ := hrel
                    obtain ⟨x0, x1, x2, x3⟩ := HXK.out _ BQ.out
                    have hzq : X + 1 ≤ wr.heap.size := by have := BQ.out.size; rw [HZ0.out] at this; exact this
                    have HZQ := Lib.hid hzq; clear hzq
                    by_cases hltq : q < p.P
                    · obtain ⟨-, -, -, -, -, y5⟩ := HSTP.out _ BQ.out q hltq
                      have i0 : (0 : Int) ≤ (q : Int) := by omega
                      have i1 : (q : Int) < (p.P : Int) := by omega
                      obtain ⟨x, y, hof⟩ := HSPT.out q wr
                      generalize p.px q = e6 at y5 hof
                      generalize p.py q = e7 at y5 hof
                      have HOF := Lib.hid hof; clear hof
                      go_wp2_with fail
                      refine HOF.out.mono ?_
                      rintro e w6 ⟨rfl, hb⟩
                      have HB6 := Lib.hid (BQ.out.trans (hb.mono HZQ.out)); clear hb
                      clear y5 x0 x1 x2 x3
                      go_wp2_with fail
                      change (_ : Act → World → Prop) (Act.put _ _ (Value.bool true)) _
                      go_wp2_with fail
                      go_roundw
                      case rel => exact ⟨q + 1, by omega, by go_num, HB6⟩
                      case measure => simp [intOf]; omega
                    · go_wp2_with fail
                      go_ret
                      exact ⟨rfl, HB0.out.trans (BQ.out.mono (by omega))⟩
end Sheet
end Go.Proofs.YtjmhlabgoegeoaaGreatDoor
