/- Package sheet's reader: instance; over the translated program. (Printed by drafts/gen_inst.py.) -/
import Derived.Test.YtjmhlabgoegeoaaGreatDoorSheetIs
namespace Go.Proofs.YtjmhlabgoegeoaaGreatDoor
namespace Sheet
open Go Go.RowKit Deci
set_option maxHeartbeats 8000000 in
set_option maxRecDepth 100000 in
theorem inst_walk (N B M : Nat) (p : IP) (hok : p.Ok) (w : World) (ck : Int) (hl : ∀ s ∈ p.L, s.size ≤ 1000000) (hn2 : p.L.length ≤ 1000000) (h : St N B M [] p.L 0 [] 0 w)
    (h0 : ∀ w, St N B M [] p.L 0 [] 0 w → Calls Tryz.prog 49 #[.pointer (some ⟨B, 0, none⟩)] w fun e w' => e = .returned (.agg #[.int .i64 p.C, .int .i64 p.R, .bool p.T]) ∧ w.grownBy w' (some B) ∧ St N B M [] p.L (0 + 1 : Nat) [] p.sc w')
    (hck : ∀ v W, InstAt w.heap.size p v W → Calls Tryz.prog 15 #[v] W fun e W' => e = .returned (.int .i64 ck) ∧ Below W.heap.size W W') :
    Calls Tryz.prog 19 #[.pointer (some ⟨B, 0, none⟩)] w fun e w' => w.grownBy w' (some B) ∧ InstOut N B M p ck w e w' := by
  have hlt := h.lt
  have hMw := h.top
  obtain ⟨hC1, hC2, hP⟩ := hok
  have hR : p.R ≤ 4096 := by unfold IP.P at hP; omega
  have HS0 := Lib.hid h; clear h
  have H0 := Lib.hid h0; clear h0
  have HL := Lib.hid hl; clear hl
  have HCK := Lib.hid hck; clear hck
  go_enter Tryz.func19, Tryz.ntmps19
  go_wp2_with fail
  have hb0 : Below w.heap.size w (w.alloc (.cells #[.slice none 0 0, .slice none 0 0, .slice none 0 0, .slice none 0 0] 28)) := (Below.refl _ _).alloc (Nat.le_refl _) _
  have hq0 : (w.alloc (.cells #[.slice none 0 0, .slice none 0 0, .slice none 0 0, .slice none 0 0] 28)).heap[w.heap.size]? = some (.cells #[.slice none 0 0, .slice none 0 0, .slice none 0 0, .slice none 0 0] 28) := World.alloc_heap_new w _
  have hs0 := HS0.out.below hb0
  generalize w.alloc (.cells #[.slice none 0 0, .slice none 0 0, .slice none 0 0, .slice none 0 0] 28) = w0 at *
  refine (H0.out _ hs0).mono ?_
  rintro e w1 ⟨rfl, hg1, hs1⟩
  have hq1 := own_kept hg1 (by omega) hq0
  have hg1' := (grown_of hb0 (some B)).trans hg1
  clear hb0 hq0 hs0 hg1
  have S1 := Lib.hid hs1; clear hs1
  have HQ1 := Lib.hid hq1; clear hq1
  have HG1 := Lib.hid hg1'; clear hg1'
  go_wp2_with fail
  refine (stops_any _ _ (by omega) (by omega)).mono ?_
  rintro e w' ⟨rfl, rfl⟩
  rw [show (2 * (p.R : Int) + 2) = ((p.P : Nat) : Int) from by unfold IP.P; omega]
  go_wp2_with fail
  have hz1 : w.heap.size < w1.heap.size := (Array.getElem?_eq_some_iff.1 HQ1.out).1
  have hi0 : IS w N B M w.heap.size w1.heap.size (w1.heap.size + 1) p (1) (0) (0) (0) (0) (.slice none 0 0) (.slice none 0 0) (.slice none 0 0) (.slice none 0 0) (fun _ => undef) ((w1.alloc (.cells #[.int .i64 p.C, .int .i64 p.R, .bool p.T] 101)).alloc (.cells #[.slice none 0 0, .slice none 0 0, .slice none 0 0, .slice none 0 0] 28)) := by
    have hb : Below w1.heap.size w1 ((w1.alloc (.cells #[.int .i64 p.C, .int .i64 p.R, .bool p.T] 101)).alloc (.cells #[.slice none 0 0, .slice none 0 0, .slice none 0 0, .slice none 0 0] 28)) := ((Below.refl _ _).alloc (Nat.le_refl _) _).alloc (by simp) _
    refine ⟨S1.out.below hb, HG1.out.trans (grown_of hb _), hMw, Nat.le_refl _, by omega, by omega, by omega, (hb.block _ hz1).trans HQ1.out, ?_, ?_, RowsAt.nil _ _ _ _⟩
    · rw [Below.heap_alloc _ _ _ (by simp)]; exact World.alloc_heap_new w1 _
    · rw [← World.size_alloc w1 (.cells #[.int .i64 p.C, .int .i64 p.R, .bool p.T] 101)]; exact World.alloc_heap_new _ _
  have HB1 : Hid (bad p.err 1 0 = none) := Lib.hid rfl
  have HI1 := Lib.hid hi0; clear hi0
  clear S1 HQ1 HG1 HS0 H0
  generalize (w1.alloc (.cells #[.int .i64 p.C, .int .i64 p.R, .bool p.T] 101)).alloc (.cells #[.slice none 0 0, .slice none 0 0, .slice none 0 0, .slice none 0 0] 28) = W1 at *
  obtain ⟨X, hX⟩ : ∃ X, X = w1.heap.size + 1 := ⟨_, rfl⟩
  rw [← hX] at HI1 ⊢
  clear hX hz1
  generalize w1.heap.size = H at *
  clear w1
  have HNE1 := HI1.out.ne
  clear HNE1
  go_loopw [13] (fun i wr => ∃ k : Nat, k ≤ p.C ∧ i = .int .i64 k ∧ Hid (∃ vc , bad p.err 1 (0 + k) = none ∧ IS w N B M w.heap.size H X p (1 + (0 + k)) (k) (0) (0) (0) vc (.slice none 0 0) (.slice none 0 0) (.slice none 0 0) (fun _ => undef) wr)) (fun i _ => p.C - (intOf i).toNat)
  case atStart => exact ⟨0, Nat.zero_le _, rfl, Lib.hid ⟨_, HB1.out, HI1.out⟩⟩
  case round =>
    obtain ⟨k, hk, rfl, HR0⟩ := hrel
    obtain ⟨vc, hr0⟩ := HR0.out
    have HR := Lib.hid hr0
    clear HR0 hr0
    clear HI1 HB1
    by_cases hlt : k < p.C
    · have hc := fun W (h : St N B M [] p.L (1 + (0 + k) : Nat) [] p.sc W) => car_any N B M [] p.L (1 + (0 + k)) p.sc [] W (by omega) HL.out hn2 h
      have he1 : p.err (1 + (0 + k)) = carE p.L (1 + (0 + k)) p.sc := by unfold IP.err; rw [if_pos (by omega)]
      by_cases hce : carE p.L (1 + (0 + k)) p.sc = 0
      · rw [hce] at hc he1
        have H1 := Lib.hid fun W h => (hc W h).mono fun _ _ h => res_yes h
        clear hc
        have hcar : p.car k = [.int .i64 (carA p.L (1 + (0 + k))), .int .i64 (carB p.L (1 + (0 + k))), .int .i64 (carC p.L (1 + (0 + k)) p.sc)] := by rw [Nat.zero_add]; rfl
        generalize carA p.L (1 + (0 + k)) = ca at *
        generalize carB p.L (1 + (0 + k)) = cb at *
        generalize carC p.L (1 + (0 + k)) p.sc = cc at *
        have HCAR := Lib.hid hcar; clear hcar
        have HE1 := Lib.hid (bad_snoc HR.out.1 he1); clear he1
        have k0 := HR.out.2.cell.1
        have h2 := HR.out.2.hcell.2.2
        have z0 := HR.out.2.xlt
        go_wp2_with fail
        go_region_law (first
          | (refine step_read1 (f := 51) (fun _ _ => by rfl) (by first | exact HR.out.2.drew | exact HR.out.2) H1 rfl (.tmp 17) rfl rfl ?_; intro w2 I2; have k2 := I2.out.cell.1; have z2 := I2.out.xlt; have h3 := I2.out.hcell.2.2)
          | (refine step_car (b := w2.heap.size) (l := [.int .i64 ca, .int .i64 cb, .int .i64 cc]) (by exact I2.out.alloc _) (by omega) HCAR.out rfl (.tmp 16) (.tmp 19) rfl rfl rfl (by exact cells_made (l := [_, _, _])) ?_; intro g3 p3 w3 I3 c3 f3))
        all_goals
          clear c3 f3 k0 k2 z0 z2 h2 h3
          go_wp2_with fail
          go_roundw
          case rel => exact ⟨k + 1, by omega, by go_num, Lib.hid ⟨_, HE1.out, I3.out⟩⟩
          case measure => simp [intOf]; omega
      · have hbad := bad_at HR.out.1 (m := p.all) (by rw [he1]; exact hce) (by unfold IP.all; omega)
        have hf : (p.fault ck).1 = 1 + (0 + k) + 1 ∧ (p.fault ck).2 = carE p.L (1 + (0 + k)) p.sc := by unfold IP.fault; rw [hbad]; exact ⟨rfl, he1⟩
        clear hbad he1
        have H1 := Lib.hid fun W h => (hc W h).mono fun _ _ h => res_no h hce
        clear hc
        have HF := Lib.hid hf; clear hf
        have k0 := HR.out.2.cell.1
        have h2 := HR.out.2.hcell.2.2
        go_wp2_with fail
        go_region_dies
        all_goals
          refine (H1.out _ (by first | exact HR.out.2.drew.st | exact HR.out.2.st)).mono ?_
          rintro e w2 ⟨rfl, hg2⟩
          refine ⟨rfl, (by first | exact HR.out.2.drew.gr.trans hg2 | exact HR.out.2.gr.trans hg2), .inr ⟨by rw [HF.out.2]; exact hce, by rw [HF.out.1, HF.out.2]; rfl⟩⟩
    · obtain hkC : k = p.C := by omega
      subst hkC
      have HB2 := Lib.hid HR.out.1
      have HI2 := Lib.hid HR.out.2
      have h2 := HI2.out.hcell
      clear HR hk hlt
      generalize hWr : wr = W2 at *
      clear hWr
      obtain ⟨hh0, hh1, hh2⟩ := h2
      go_wp2_with fail
      clear hh0 hh1
      have HNE2 := HI2.out.ne
      clear HNE2
      go_loopw [24] (fun i wr => ∃ k : Nat, k ≤ p.P ∧ i = .int .i64 k ∧ Hid (∃ vs , bad p.err 1 ((0 + p.C) + k) = none ∧ IS w N B M w.heap.size H X p (1 + (0 + p.C + k)) (p.C) (k) (0) (0) vc vs (.slice none 0 0) (.slice none 0 0) (fun _ => undef) wr)) (fun i _ => p.P - (intOf i).toNat)
      case atStart => exact ⟨0, Nat.zero_le _, rfl, Lib.hid ⟨_, HB2.out, HI2.out⟩⟩
      case round =>
        obtain ⟨k, hk, rfl, HR0⟩ := hrel
        obtain ⟨vs, hr0⟩ := HR0.out
        have HR := Lib.hid hr0
        clear HR0 hr0
        clear HI2 HB2
        by_cases hlt : k < p.P
        · have hc := fun W (h : St N B M [] p.L (1 + (0 + p.C + k) : Nat) [] p.sc W) => stop_any N B M p.L (1 + (0 + p.C + k)) p.sc W (!p.T) (by omega) HL.out hn2 h
          have he1 : p.err (1 + ((0 + p.C) + k)) = stopE p.L (1 + (0 + p.C + k)) p.sc (!p.T) := by unfold IP.err; rw [if_neg (by omega), if_pos (by omega)]
          by_cases hce : stopE p.L (1 + (0 + p.C + k)) p.sc (!p.T) = 0
          · rw [hce] at hc he1
            obtain ⟨sa, sb, sc, sd, se, sx, sy, hst, hsl⟩ := stop_form p k
            rw [show p.C + k = 0 + p.C + k by omega] at hst
            rw [hst] at hc
            have HST := Lib.hid hsl; clear hsl hst
            have H1 := Lib.hid fun W h => (hc W h).mono fun _ _ h => res_yes h
            clear hc
            have HE1 := Lib.hid (bad_snoc HR.out.1 he1); clear he1
            have k0 := HR.out.2.cell.2.1
            have h2 := HR.out.2.hcell.2.2
            have z0 := HR.out.2.xlt
            go_wp2_with fail
            go_region_law (first
              | (refine step_read2 (f := 52) (T2 := 4) (fun _ _ => by rfl) (by first | exact HR.out.2.drew | exact HR.out.2) H1 rfl (.tmp 28) (.tmp 31) rfl rfl rfl ?_; intro w2 I2; have k2 := I2.out.cell.2.1; have z2 := I2.out.xlt; have h3 := I2.out.hcell.2.2)
              | (refine step_stop (b := w2.heap.size) (l := [.int .i64 sa, .int .i64 sb, .int .i64 sc, .int .i64 sd, .int .i64 se, .complex .f64 sx sy]) (by exact I2.out.alloc _) (by omega) HST.out rfl (.tmp 27) (.tmp 33) rfl rfl rfl (by exact cells_made (l := [_, _, _, _, _, _])) ?_; intro g3 p3 w3 I3 c3 f3))
            all_goals
              clear c3 f3 k0 k2 z0 z2 h2 h3
              go_wp2_with fail
              go_roundw
              case rel => exact ⟨k + 1, by omega, by go_num, Lib.hid ⟨_, HE1.out, I3.out⟩⟩
              case measure => simp [intOf]; omega
          · have hbad := bad_at HR.out.1 (m := p.all) (by rw [he1]; exact hce) (by unfold IP.all; omega)
            have hf : (p.fault ck).1 = 1 + ((0 + p.C) + k) + 1 ∧ (p.fault ck).2 = stopE p.L (1 + (0 + p.C + k)) p.sc (!p.T) := by unfold IP.fault; rw [hbad]; exact ⟨rfl, he1⟩
            clear hbad he1
            have H1 := Lib.hid fun W h => (hc W h).mono fun _ _ h => res_no h hce
            clear hc
            have HF := Lib.hid hf; clear hf
            have k0 := HR.out.2.cell.2.1
            have h2 := HR.out.2.hcell.2.2
            go_wp2_with fail
            go_region_dies
            all_goals
              refine (H1.out _ (by first | exact HR.out.2.drew.st | exact HR.out.2.st)).mono ?_
              rintro e w2 ⟨rfl, hg2⟩
              refine ⟨rfl, (by first | exact HR.out.2.drew.gr.trans hg2 | exact HR.out.2.gr.trans hg2), .inr ⟨by rw [HF.out.2]; exact hce, by rw [HF.out.1, HF.out.2]; rfl⟩⟩
        · obtain hkC : k = p.P := by omega
          subst hkC
          have HB3 := Lib.hid HR.out.1
          have HI3 := Lib.hid HR.out.2
          have h3 := HI3.out.hcell
          clear HR hk hlt
          generalize hWr : wr = W3 at *
          clear hWr
          obtain ⟨hh0, hh1, hh2⟩ := h3
          go_wp2_with fail
          clear hh0 hh1
          have HNE3 := HI3.out.ne
          clear HNE3
          go_loopw [39] (fun i wr => ∃ k : Nat, k ≤ p.R ∧ i = .int .i64 k ∧ Hid (∃ vr , bad p.err 1 ((0 + p.C + p.P) + k) = none ∧ IS w N B M w.heap.size H X p (1 + (0 + p.C + p.P + k)) (p.C) (p.P) (k) (0) vc vs vr (.slice none 0 0) (fun _ => undef) wr)) (fun i _ => p.R - (intOf i).toNat)
          case atStart => exact ⟨0, Nat.zero_le _, rfl, Lib.hid ⟨_, HB3.out, HI3.out⟩⟩
          case round =>
            obtain ⟨k, hk, rfl, HR0⟩ := hrel
            obtain ⟨vr, hr0⟩ := HR0.out
            have HR := Lib.hid hr0
            clear HR0 hr0
            clear HI3 HB3
            by_cases hlt : k < p.R
            · have hc := fun W (h : St N B M [] p.L (1 + (0 + p.C + p.P + k) : Nat) [] p.sc W) => ride_any N B M [] p.L (1 + (0 + p.C + p.P + k)) p.sc [] W (by omega) HL.out hn2 h
              have he1 : p.err (1 + ((0 + p.C + p.P) + k)) = rideE p.L (1 + (0 + p.C + p.P + k)) p.sc := by unfold IP.err; rw [if_neg (by omega), if_neg (by omega), if_pos (by omega)]
              by_cases hce : rideE p.L (1 + (0 + p.C + p.P + k)) p.sc = 0
              · rw [hce] at hc he1
                have H1 := Lib.hid fun W h => (hc W h).mono fun _ _ h => res_yes h
                clear hc
                have hri : p.ride k = [.int .i64 (rideV p.L (1 + (0 + p.C + p.P + k)) p.sc)] := by unfold IP.ride; rw [show 1 + p.C + p.P + k = 1 + (0 + p.C + p.P + k) by omega]
                generalize rideV p.L (1 + (0 + p.C + p.P + k)) p.sc = ra at *
                have HRI := Lib.hid hri; clear hri
                have HE1 := Lib.hid (bad_snoc HR.out.1 he1); clear he1
                have k0 := HR.out.2.cell.2.2.1
                have h2 := HR.out.2.hcell.2.2
                have z0 := HR.out.2.xlt
                go_wp2_with fail
                go_region_law (first
                  | (refine step_read1 (f := 53) (fun _ _ => by rfl) (by first | exact HR.out.2.drew | exact HR.out.2) H1 rfl (.tmp 43) rfl rfl ?_; intro w2 I2; have k2 := I2.out.cell.2.2.1; have z2 := I2.out.xlt; have h3 := I2.out.hcell.2.2)
                  | (refine step_ride (b := w2.heap.size) (l := [.int .i64 ra]) (by exact I2.out.alloc _) (by omega) HRI.out rfl (.tmp 42) (.tmp 45) rfl rfl rfl (by exact cells_made (l := [_])) ?_; intro g3 p3 w3 I3 c3 f3))
                all_goals
                  clear c3 f3 k0 k2 z0 z2 h2 h3
                  go_wp2_with fail
                  go_roundw
                  case rel => exact ⟨k + 1, by omega, by go_num, Lib.hid ⟨_, HE1.out, I3.out⟩⟩
                  case measure => simp [intOf]; omega
              · have hbad := bad_at HR.out.1 (m := p.all) (by rw [he1]; exact hce) (by unfold IP.all; omega)
                have hf : (p.fault ck).1 = 1 + ((0 + p.C + p.P) + k) + 1 ∧ (p.fault ck).2 = rideE p.L (1 + (0 + p.C + p.P + k)) p.sc := by unfold IP.fault; rw [hbad]; exact ⟨rfl, he1⟩
                clear hbad he1
                have H1 := Lib.hid fun W h => (hc W h).mono fun _ _ h => res_no h hce
                clear hc
                have HF := Lib.hid hf; clear hf
                have k0 := HR.out.2.cell.2.2.1
                have h2 := HR.out.2.hcell.2.2
                go_wp2_with fail
                go_region_dies
                all_goals
                  refine (H1.out _ (by first | exact HR.out.2.drew.st | exact HR.out.2.st)).mono ?_
                  rintro e w2 ⟨rfl, hg2⟩
                  refine ⟨rfl, (by first | exact HR.out.2.drew.gr.trans hg2 | exact HR.out.2.gr.trans hg2), .inr ⟨by rw [HF.out.2]; exact hce, by rw [HF.out.1, HF.out.2]; rfl⟩⟩
            · obtain hkC : k = p.R := by omega
              subst hkC
              have HB4 := Lib.hid HR.out.1
              have HI4 := Lib.hid HR.out.2
              have h4 := HI4.out.hcell
              clear HR hk hlt
              generalize hWr : wr = W4 at *
              clear hWr
              obtain ⟨hh0, hh1, hh2⟩ := h4
              skip
              by_cases hT : p.T = true
              · rw [hT] at hh2
                have HT := Lib.hid hT; clear hT
                go_wp2_with fail
                clear hh2
                have HNE4 := HI4.out.ne
                clear HNE4
                go_loopw [52] (fun i wr => ∃ k : Nat, k ≤ p.P ∧ i = .int .i64 k ∧ Hid (∃ vm V, bad p.err 1 ((0 + p.C + p.P + p.R) + k) = none ∧ IS w N B M w.heap.size H X p (1 + (0 + p.C + p.P + p.R + k)) (p.C) (p.P) (p.R) (k) vc vs vr vm V wr)) (fun i _ => p.P - (intOf i).toNat)
                case atStart => exact ⟨0, Nat.zero_le _, rfl, Lib.hid ⟨_, _, HB4.out, HI4.out⟩⟩
                case round =>
                  obtain ⟨k, hk, rfl, HR0⟩ := hrel
                  obtain ⟨vm, V, hr0⟩ := HR0.out
                  have HR := Lib.hid hr0
                  clear HR0 hr0
                  clear HI4 HB4
                  by_cases hlt : k < p.P
                  · have hc := fun W (h : St N B M [] p.L (1 + (0 + p.C + p.P + p.R + k) : Nat) [] p.sc W) => row_any N B M [] p.L (1 + (0 + p.C + p.P + p.R + k)) p.P p.sc [] W (by omega) (by omega) HL.out hn2 h
                    have he1 : p.err (1 + ((0 + p.C + p.P + p.R) + k)) = rowE p.L (1 + (0 + p.C + p.P + p.R + k)) p.P p.sc := by unfold IP.err; rw [if_neg (by omega), if_neg (by omega), if_neg (by omega)]
                    by_cases hce : rowE p.L (1 + (0 + p.C + p.P + p.R + k)) p.P p.sc = 0
                    · rw [hce] at hc he1
                      have hc' : ∀ W, St N B M [] p.L (1 + (0 + p.C + p.P + p.R + k) : Nat) [] p.sc W → Calls Tryz.prog 54 #[.pointer (some ⟨B, 0, none⟩), .int .i64 p.P] W fun e w' => W.grownBy w' (some B) ∧ ∃ G, e = .returned (.slice (some ⟨G, 0, none⟩) p.P p.P) ∧ W.heap.size ≤ G ∧ RowAt w' G p.P (nextW p.L (1 + (0 + p.C + p.P + p.R + k))) p.sc p.P ∧ (nextW p.L (1 + (0 + p.C + p.P + p.R + k))).length = p.P ∧ St N B M [] p.L (1 + (0 + p.C + p.P + p.R + k) + 1 : Nat) [] p.sc w' := fun W h => (hc W h).mono (by
                        rintro e w' ⟨hg, ⟨-, ⟨G, h1, h2, h3⟩, h4, h5⟩ | ⟨h, -⟩⟩
                        · exact ⟨hg, G, h1, h2, h3, h4, h5⟩
                        · exact absurd rfl h)
                      have H1 := Lib.hid hc'; clear hc hc'
                      have HE1 := Lib.hid (bad_snoc HR.out.1 he1); clear he1
                      have k0 := HR.out.2.cell.2.2.2
                      have h2 := HR.out.2.hcell.2.2
                      have z0 := HR.out.2.xlt
                      go_wp2_with fail
                      go_region_law (first
                        | (refine step_readrow (fun _ _ => by rfl) (by first | exact HR.out.2.drew | exact HR.out.2) H1 (by omega) rfl (.tmp 56) (.tmp 57) rfl rfl rfl ?_; intro G2 w2 I2 D2; have k2 := I2.out.cell.2.2.2; have z2 := I2.out.xlt; have h3 := I2.out.hcell.2.2)
                        | (refine step_row (b := w2.heap.size) (u := .slice (some ⟨G2, 0, none⟩) p.P p.P) (by exact I2.out.alloc _) (by exact D2.out.alloc _) rfl (by omega) rfl (.tmp 55) (.tmp 59) rfl rfl rfl (by exact cells_made (l := [_])) ?_; intro g3 p3 w3 V3 I3 c3 f3))
                      all_goals
                        clear c3 f3 k0 k2 z0 z2 h2 h3
                        go_wp2_with fail
                        go_roundw
                        case rel => exact ⟨k + 1, by omega, by go_num, Lib.hid ⟨_, _, HE1.out, I3.out⟩⟩
                        case measure => simp [intOf]; omega
                    · have hbad := bad_at HR.out.1 (m := p.all) (by rw [he1]; exact hce) (by unfold IP.all IP.more; rw [if_pos HT.out]; omega)
                      have hf : (p.fault ck).1 = 1 + ((0 + p.C + p.P + p.R) + k) + 1 ∧ (p.fault ck).2 = rowE p.L (1 + (0 + p.C + p.P + p.R + k)) p.P p.sc := by unfold IP.fault; rw [hbad]; exact ⟨rfl, he1⟩
                      clear hbad he1
                      have hc' : ∀ W, St N B M [] p.L (1 + (0 + p.C + p.P + p.R + k) : Nat) [] p.sc W → Calls Tryz.prog 54 #[.pointer (some ⟨B, 0, none⟩), .int .i64 p.P] W fun e w' => Gave ((1 + (0 + p.C + p.P + p.R + k) : Nat) + 1) (rowE p.L (1 + (0 + p.C + p.P + p.R + k)) p.P p.sc) e ∧ W.grownBy w' (some B) := fun W h => (hc W h).mono (by
                        rintro e w' ⟨hg, ⟨h, -⟩ | ⟨-, h⟩⟩
                        · exact absurd h hce
                        · exact ⟨h, hg⟩)
                      have H1 := Lib.hid hc'; clear hc hc'
                      have HF := Lib.hid hf; clear hf
                      have k0 := HR.out.2.cell.2.2.2
                      have h2 := HR.out.2.hcell.2.2
                      go_wp2_with fail
                      go_region_dies
                      all_goals
                        refine (H1.out _ (by first | exact HR.out.2.drew.st | exact HR.out.2.st)).mono ?_
                        rintro e w2 ⟨rfl, hg2⟩
                        refine ⟨rfl, (by first | exact HR.out.2.drew.gr.trans hg2 | exact HR.out.2.gr.trans hg2), .inr ⟨by rw [HF.out.2]; exact hce, by rw [HF.out.1, HF.out.2]; rfl⟩⟩
                  · obtain hkC : k = p.P := by omega
                    subst hkC
                    have hall : 0 + p.C + p.P + p.R + p.P = p.all := by unfold IP.all IP.more; rw [if_pos HT.out]; omega
                    have hmo : p.P = p.more := by unfold IP.more; rw [if_pos HT.out]
                    have hb5 := HR.out.1
                    have hi5 := HR.out.2
                    rw [hall] at hb5 hi5
                    have HB5 := Lib.hid hb5; clear hb5
                    have hi6 : IS w N B M w.heap.size H X p (1 + p.all) (p.C) (p.P) (p.R) (p.more) vc vs vr vm V wr := by rw [← hmo]; exact hi5
                    have HI5 := Lib.hid hi6; clear hi5 hi6
                    clear HR hk hlt hall hmo
                    generalize hWr : wr = W5 at *
                    clear hWr
                    go_wp2_with fail
                    have he := end_any N B M [] p.L (1 + p.all) p.sc [] W5 (by unfold IP.all IP.more; split <;> omega) hn2 HI5.out.st
                    obtain ⟨ac, cc, rfl⟩ := own_slice HI5.out.rows.cars
                    obtain ⟨aS, cS, rfl⟩ := own_slice HI5.out.rows.stops
                    obtain ⟨ar, cr, rfl⟩ := own_slice HI5.out.rows.rides
                    obtain ⟨am, cm, rfl⟩ := own_slice HI5.out.rows.rows
                    have HE := Lib.hid he; clear he
                    by_cases hen : 1 + p.all < p.L.length
                    · have h22 : endE p.L (1 + p.all) = 22 := if_pos hen
                      have hf : p.fault ck = (1 + p.all + 1, 22) := by unfold IP.fault; rw [HB5.out]; exact if_pos hen
                      have HF := Lib.hid hf; clear hf
                      have HEE := Lib.hid h22; clear h22
                      refine HE.out.mono ?_
                      rintro e w2 ⟨hg2, ⟨h, -⟩ | ⟨-, hgv⟩⟩
                      · rw [HEE.out] at h; cases h
                      · rw [HEE.out] at hgv
                        obtain rfl := hgv
                        exact ⟨rfl, HI5.out.gr.trans hg2, .inr ⟨by rw [HF.out]; show (22 : Int) ≠ 0; decide, by rw [HF.out]; rfl⟩⟩
                    · have h22 : endE p.L (1 + p.all) = 0 := if_neg hen
                      have hf : p.fault ck = (0, ck) := by unfold IP.fault; rw [HB5.out]; exact if_neg hen
                      have HF := Lib.hid hf; clear hf
                      have HEE := Lib.hid h22; clear h22
                      refine HE.out.mono ?_
                      rintro e w2 ⟨hg2, ⟨-, rfl, hs2⟩ | ⟨h, -⟩⟩
                      · have I2 := Lib.hid (HI5.out.call (n' := 0) hg2 hs2)
                        clear hg2 hs2 HE HEE
                        obtain ⟨c0, c1, c2, c3⟩ := I2.out.cell
                        go_wp2_with fail
                        refine (HCK.out _ _ ⟨_, _, _, _, _, rfl, I2.out.rows⟩).mono ?_
                        rintro e w3 ⟨rfl, hb3⟩
                        have I3 := Lib.hid (I2.out.below hb3)
                        clear hb3 c0 c1 c2 c3
                        by_cases hck : ck = 0
                        · subst hck
                          obtain ⟨c0, c1, c2, c3⟩ := I3.out.cell
                          have q0 : w3.cell? ⟨w.heap.size, 0, none⟩ = some (.slice none 0 0) := (own_cell I3.out.res).trans rfl
                          have q1 : w3.cell? ⟨w.heap.size, 1, none⟩ = some (.slice none 0 0) := (own_cell I3.out.res).trans rfl
                          have q2 : w3.cell? ⟨w.heap.size, 2, none⟩ = some (.slice none 0 0) := (own_cell I3.out.res).trans rfl
                          have q3 : w3.cell? ⟨w.heap.size, 3, none⟩ = some (.slice none 0 0) := (own_cell I3.out.res).trans rfl
                          have g0 : ∀ j, w3.frozen? ⟨w.heap.size, j, none⟩ = false := fun j => own_free I3.out.res
                          have HD := Lib.hid I3.out.done
                          go_wp2_with (go_at_call 47; refine (must_ok B _).mono ?_; rintro e w' ⟨rfl, rfl⟩)
                          clear q0 q1 q2 q3 g0 c0 c1 c2 c3
                          have hq := HD.out.2.2.2
                          refine bodyPost_ret (v := .agg #[.slice ac p.C cc, .slice aS p.P cS, .slice ar p.R cr, .slice am p.more cm]) (by simp [results, Tryz.results19, go_sem, World.cell?, hq]) rfl ?_
                          exact ⟨HD.out.1, .inl ⟨by rw [HF.out], _, rfl, ⟨_, _, _, _, _, rfl, HD.out.2.1⟩, HD.out.2.2.1⟩⟩
                        · go_wp2_with (go_at_call 47; refine (must_gave B 0 ck _ I3.out.st.c1 hck).mono ?_; rintro e w' ⟨rfl, rfl⟩)
                          exact ⟨rfl, I3.out.gr, .inr ⟨by rw [HF.out]; exact hck, by rw [HF.out]; rfl⟩⟩
                      · rw [HEE.out] at h; exact absurd rfl h
              · have hall : 0 + p.C + p.P + p.R = p.all := by unfold IP.all IP.more; rw [if_neg hT]; omega
                have hmo : 0 = p.more := by unfold IP.more; rw [if_neg hT]
                have hb5 := HB4.out
                have hi5 := HI4.out
                rw [hall] at hb5 hi5
                have HB5 := Lib.hid hb5; clear hb5
                have hi6 : IS w N B M w.heap.size H X p (1 + p.all) (p.C) (p.P) (p.R) (p.more) vc vs vr (.slice none 0 0) (fun _ => undef) W4 := by rw [← hmo]; exact hi5
                have HI5 := Lib.hid hi6; clear hi5 hi6
                clear HB4 HI4 hall hmo
                rw [Bool.eq_false_iff.2 hT] at hh2
                go_wp2_with fail
                clear hh2
                have he := end_any N B M [] p.L (1 + p.all) p.sc [] W4 (by unfold IP.all IP.more; split <;> omega) hn2 HI5.out.st
                obtain ⟨ac, cc, rfl⟩ := own_slice HI5.out.rows.cars
                obtain ⟨aS, cS, rfl⟩ := own_slice HI5.out.rows.stops
                obtain ⟨ar, cr, rfl⟩ := own_slice HI5.out.rows.rides
                have HE := Lib.hid he; clear he
                by_cases hen : 1 + p.all < p.L.length
                · have h22 : endE p.L (1 + p.all) = 22 := if_pos hen
                  have hf : p.fault ck = (1 + p.all + 1, 22) := by unfold IP.fault; rw [HB5.out]; exact if_pos hen
                  have HF := Lib.hid hf; clear hf
                  have HEE := Lib.hid h22; clear h22
                  refine HE.out.mono ?_
                  rintro e w2 ⟨hg2, ⟨h, -⟩ | ⟨-, hgv⟩⟩
                  · rw [HEE.out] at h; cases h
                  · rw [HEE.out] at hgv
                    obtain rfl := hgv
                    exact ⟨rfl, HI5.out.gr.trans hg2, .inr ⟨by rw [HF.out]; show (22 : Int) ≠ 0; decide, by rw [HF.out]; rfl⟩⟩
                · have h22 : endE p.L (1 + p.all) = 0 := if_neg hen
                  have hf : p.fault ck = (0, ck) := by unfold IP.fault; rw [HB5.out]; exact if_neg hen
                  have HF := Lib.hid hf; clear hf
                  have HEE := Lib.hid h22; clear h22
                  refine HE.out.mono ?_
                  rintro e w2 ⟨hg2, ⟨-, rfl, hs2⟩ | ⟨h, -⟩⟩
                  · have I2 := Lib.hid (HI5.out.call (n' := 0) hg2 hs2)
                    clear hg2 hs2 HE HEE
                    obtain ⟨c0, c1, c2, c3⟩ := I2.out.cell
                    go_wp2_with fail
                    refine (HCK.out _ _ ⟨_, _, _, _, _, rfl, I2.out.rows⟩).mono ?_
                    rintro e w3 ⟨rfl, hb3⟩
                    have I3 := Lib.hid (I2.out.below hb3)
                    clear hb3 c0 c1 c2 c3
                    by_cases hck : ck = 0
                    · subst hck
                      obtain ⟨c0, c1, c2, c3⟩ := I3.out.cell
                      have q0 : w3.cell? ⟨w.heap.size, 0, none⟩ = some (.slice none 0 0) := (own_cell I3.out.res).trans rfl
                      have q1 : w3.cell? ⟨w.heap.size, 1, none⟩ = some (.slice none 0 0) := (own_cell I3.out.res).trans rfl
                      have q2 : w3.cell? ⟨w.heap.size, 2, none⟩ = some (.slice none 0 0) := (own_cell I3.out.res).trans rfl
                      have q3 : w3.cell? ⟨w.heap.size, 3, none⟩ = some (.slice none 0 0) := (own_cell I3.out.res).trans rfl
                      have g0 : ∀ j, w3.frozen? ⟨w.heap.size, j, none⟩ = false := fun j => own_free I3.out.res
                      have HD := Lib.hid I3.out.done
                      go_wp2_with (go_at_call 47; refine (must_ok B _).mono ?_; rintro e w' ⟨rfl, rfl⟩)
                      clear q0 q1 q2 q3 g0 c0 c1 c2 c3
                      have hq := HD.out.2.2.2
                      refine bodyPost_ret (v := .agg #[.slice ac p.C cc, .slice aS p.P cS, .slice ar p.R cr, (.slice none 0 0)]) (by simp [results, Tryz.results19, go_sem, World.cell?, hq]) rfl ?_
                      exact ⟨HD.out.1, .inl ⟨by rw [HF.out], _, rfl, ⟨_, _, _, _, _, rfl, HD.out.2.1⟩, HD.out.2.2.1⟩⟩
                    · go_wp2_with (go_at_call 47; refine (must_gave B 0 ck _ I3.out.st.c1 hck).mono ?_; rintro e w' ⟨rfl, rfl⟩)
                      exact ⟨rfl, I3.out.gr, .inr ⟨by rw [HF.out]; exact hck, by rw [HF.out]; rfl⟩⟩
                  · rw [HEE.out] at h; exact absurd rfl h
end Sheet
end Go.Proofs.YtjmhlabgoegeoaaGreatDoor
