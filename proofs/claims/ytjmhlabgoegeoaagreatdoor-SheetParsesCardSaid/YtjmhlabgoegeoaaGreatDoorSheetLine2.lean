/- jitneyref06.line: a car's line; over the translated program. -/
import Derived.Test.YtjmhlabgoegeoaaGreatDoorSheetLine
namespace Go.Proofs.YtjmhlabgoegeoaaGreatDoor
namespace Sheet
open Go Go.RowKit Deci
attribute [local go_sem] store_cx
set_option maxHeartbeats 4000000 in
set_option maxRecDepth 100000 in
theorem line_car (base : Nat) (p : IP) (i : Nat) (hok : p.Ok) (nc : Nat) (hnc : nc + 1 = i) (h2 : i < 1 + p.C) (hlt : i < p.L.length) (hl : ∀ s ∈ p.L, s.size ≤ 1000000) (vc vs vr vm : Value) (V : Nat → Value) (w : World) (hb : base ≤ w.heap.size) (h : RowsAt base p nc 0 0 0 vc vs vr vm V w) :
    Calls Tryz.prog 12 #[.agg #[vc, vs, vr, vm], .string p.L[i], .int .i64 i, .int .i64 p.C, .int .i64 p.R, .int .i64 p.sc, .bool (!p.T)] w (LineOut base p (nc + 1) 0 0 0 (p.err i) w) := by
  obtain ⟨ac, cc, rfl⟩ := own_slice h.cars
  obtain ⟨aS, cS, rfl⟩ := own_slice h.stops
  obtain ⟨ar, cr, rfl⟩ := own_slice h.rides
  obtain ⟨am, cm, rfl⟩ := own_slice h.rows
  obtain ⟨hC1, hC2, hP⟩ := hok
  have hR : p.R ≤ 2048 := by unfold IP.P at hP; omega
  have hsz := hl _ (List.getElem_mem hlt)
  have herr : p.err i = twoE (lineE p.L[i] ⟨#[99, 97, 114]⟩ 3) (numsE (nextW p.L i) [1000, 1000] p.sc 3 0) := by
    unfold IP.err
    rw [if_pos h2]
    unfold carE loadE
    rw [nextE_at hlt, twoE_assoc]
    simp only [numsE, oneE, twoE_end]
    rfl
  have hwz : ∀ q ∈ nextW p.L i, q.size ≤ 1000000 := nextW_size hl
  have hA : carA p.L i = oneV (nextW p.L i) [1000, 1000] p.sc 0 := rfl
  have hB : carB p.L i = oneV (nextW p.L i) [1000, 1000] p.sc 1 := rfl
  have hM : carC p.L i p.sc = oneV (nextW p.L i) [1000, 1000] p.sc 2 := rfl
  have hcar : p.car nc = [.int .i64 (oneV (nextW p.L i) [1000, 1000] p.sc 0), .int .i64 (oneV (nextW p.L i) [1000, 1000] p.sc 1), .int .i64 (oneV (nextW p.L i) [1000, 1000] p.sc 2)] := by
    unfold IP.car; rw [show 1 + nc = i by omega, hA, hB, hM]
  have hlen : lineE p.L[i] ⟨#[99, 97, 114]⟩ 3 = 0 → (nextW p.L i).length = 3 := fun h => by rw [nextW_at hlt]; exact line_words h
  have htail : ∀ w, Calls Tryz.prog 20 #[.string p.L[i], .string ⟨#[99, 97, 114]⟩, .int .i64 4] w (Tail w (nextW p.L i) (lineE p.L[i] ⟨#[99, 97, 114]⟩ 3)) := fun w => by rw [nextW_at hlt]; exact refTail_any p.L[i] ⟨#[99, 97, 114]⟩ 3 w (by omega) (by decide)
  have hnums := fun g o gb cap cb w hg hgb hc hcb (hl3 : (nextW p.L i).length = 3) => nums_any g o gb cap cb (nextW p.L i) [1000, 1000] p.sc w (by omega) (by decide) hwz (by simp) hg hgb hc hcb
  clear hA hB hM
  generalize nextW p.L i = ws at *
  generalize p.L[i] = s at *
  generalize lineE s ⟨#[99, 97, 114]⟩ 3 = le at *
  generalize p.err i = er at *
  have HER := Lib.hid herr; clear herr
  have HLEN := Lib.hid hlen; clear hlen
  have HT := Lib.hid htail; clear htail
  have HN := Lib.hid hnums; clear hnums
  have HCAR := Lib.hid hcar; clear hcar
  have HROWS := Lib.hid h; clear h
  have d1 : decide ((i : Int) < 1 + (p.C : Int)) = true := by simp; omega
  have hncx : nc ≤ 64 := by omega
  have hix : i ≤ 65 := by omega
  have HNC := Lib.hid hnc; clear hnc
  clear hl
  unfold LineOut
  go_enter Tryz.func12, Tryz.ntmps12
  go_wp2_with fail
  obtain ⟨X, hX⟩ : ∃ X, X = w.heap.size := ⟨_, rfl⟩
  obtain ⟨Wa, hWa⟩ : ∃ Wa, Wa = ((w.alloc (.cells #[.slice ac nc cc, .slice aS 0 cS, .slice ar 0 cr, .slice am 0 cm] 28)).alloc (.cells #[.slice none 0 0, .slice none 0 0, .slice none 0 0, .slice none 0 0] 28)).alloc (.cells #[] 2) := ⟨_, rfl⟩
  obtain ⟨Wb, hWb⟩ : ∃ Wb, Wb = Wa.alloc (.cells #[.int .i64 1000, .int .i64 1000] 2) := ⟨_, rfl⟩
  have hza : Wa.heap.size = X + 1 + 1 + 1 := by rw [hWa, hX]; simp
  have hls : LS base X (X + 1) p nc 0 0 0 (.slice ac nc cc) (.slice aS 0 cS) (.slice ar 0 cr) (.slice am 0 cm) V w Wb := by
    have hbw : Below w.heap.size w Wb := by rw [hWb, hWa]; exact ((((Below.refl _ _).alloc (Nat.le_refl _) _).alloc (by simp) _).alloc (by simp <;> omega) _).alloc (by simp <;> omega) _
    refine ⟨HROWS.out.below hbw, ?_, ?_, by omega, by omega, by omega, hb, hbw.mono hb, by omega, by omega, fun k cs hk => (hbw.block k (Array.getElem?_eq_some_iff.1 hk).1).trans hk⟩
    · rw [hWb, hWa, hX, Below.heap_alloc _ _ _ (by simp; omega), Below.heap_alloc _ _ _ (by simp; omega), Below.heap_alloc _ _ _ (by simp)]; exact World.alloc_heap_new w _
    · rw [hWb, hWa, hX, Below.heap_alloc _ _ _ (by simp), Below.heap_alloc _ _ _ (by simp)]
      rw [← World.size_alloc w (.cells #[.slice ac nc cc, .slice aS 0 cS, .slice ar 0 cr, .slice am 0 cm] 28)]; exact World.alloc_heap_new _ _
  have hbs : Wb.heap[X + 1 + 1 + 1]? = some (.cells #[.int .i64 1000, .int .i64 1000] 2) := by rw [hWb, ← hza]; exact World.alloc_heap_new _ _
  rw [← hX, ← hWa, ← hWb]
  have HLS := Lib.hid hls; clear hls
  have HBS := Lib.hid hbs; clear hbs
  clear hWa hWb hza HROWS hX
  refine (HT.out _).mono ?_
  rintro e w1 ⟨v, rfl, hb1, hst⟩
  have L1 := Lib.hid (HLS.out.below hb1)
  have hbs1 := (hb1.block (X + 1 + 1 + 1) (Array.getElem?_eq_some_iff.1 HBS.out).1).trans HBS.out
  have HBS1 := Lib.hid hbs1; clear hbs1 hb1
  clear HLS HBS
  by_cases hle : le = 0
  · subst hle
    have hw3 := HLEN.out rfl
    obtain ⟨av, capv, rfl, hcapv, hv | ⟨g, o, rfl, -, hgl, hgc⟩⟩ := hst rfl
    · rw [hv] at hw3; cases hw3
    · have her := HER.out
      rw [twoE_ok] at her
      have hn := HN.out g o (X + 1 + 1 + 1) capv 2 w1 hgl (Array.getElem?_eq_some_iff.1 HBS1.out).1 hgc (fun j hj => by
        rw [own_cell HBS1.out]
        match j, hj with
        | 0, _ => rfl
        | 1, _ => rfl) hw3
      rw [hw3] at hn
      have HNN := Lib.hid hn; clear hn hgc hcapv hst
      have HER2 := Lib.hid her; clear her HER HN HT HLEN
      rw [hw3]
      go_wp2_with fail
      refine HNN.out.mono ?_
      rintro e w2 ⟨hb2, ⟨hn0, vn, rfl, hown⟩ | ⟨hn0, rfl⟩⟩
      · have her0 := HER2.out
        rw [hn0] at her0
        subst her0
        have L2 := Lib.hid (L1.out.below hb2)
        obtain ⟨gn, capn, rfl, hgn, hcn, hbn, hcell⟩ := nums_cell hown (by decide)
        have c0 := hcell 0 (by decide)
        have c1 := hcell 1 (by decide)
        have c2 := hcell 2 (by decide)
        have hcr := HCAR.out
        generalize oneV ws [1000, 1000] p.sc 0 = e0 at *
        generalize oneV ws [1000, 1000] p.sc 1 = e1 at *
        generalize oneV ws [1000, 1000] p.sc 2 = e2 at *
        have HCR := Lib.hid hcr; clear hcr HCAR HER2
        have hcc : ∀ W, Below w2.heap.size w2 W → W.cell? ⟨gn, 0, none⟩ = some (.int .i64 e0) ∧ W.cell? ⟨gn, 1, none⟩ = some (.int .i64 e1) ∧ W.cell? ⟨gn, 2, none⟩ = some (.int .i64 e2) := fun W hb => ⟨(hb.cell hgn).trans c0, (hb.cell hgn).trans c1, (hb.cell hgn).trans c2⟩
        have k0 := L2.out.cell.1
        have z2 := L2.out.lt
        clear hcell hcc hown hb2 hn0
        go_wp2_with fail
        go_region_law (first
          | (refine lstep_car (b := w2.heap.size) (l := [.int .i64 e0, .int .i64 e1, .int .i64 e2]) (by first | exact L2.out.drew.alloc _ | exact (L2.out.alloc _).drew | exact L2.out.alloc _) (by omega) HCR.out rfl (.tmp 88) (.tmp 100) rfl rfl rfl (by exact cells_made (l := [_, _, _])) ?_; intro g3 p3 w3 L3 c3 f3))
        all_goals
          clear c0 c1 c2 k0 z2 c3 f3
          obtain ⟨x0, x1, x2, x3⟩ := L3.out.cell
          have hq := L3.out.res
          have HD := Lib.hid L3.out.done
          generalize w3.setCell ⟨X, 0, none⟩ (.slice (some ⟨g3, 0, none⟩) (nc + 1) p3) = w4 at *
          have q0 : w4.cell? ⟨X + 1, 0, none⟩ = some (.slice none 0 0) := (own_cell hq).trans rfl
          have q1 : w4.cell? ⟨X + 1, 1, none⟩ = some (.slice none 0 0) := (own_cell hq).trans rfl
          have q2 : w4.cell? ⟨X + 1, 2, none⟩ = some (.slice none 0 0) := (own_cell hq).trans rfl
          have q3 : w4.cell? ⟨X + 1, 3, none⟩ = some (.slice none 0 0) := (own_cell hq).trans rfl
          have f0 : ∀ j, w4.frozen? ⟨X + 1, j, none⟩ = false := fun j => own_free hq
          clear hq
          go_wp2_with fail
          clear x0 x1 x2 x3 q0 q1 q2 q3 f0
          have hq := HD.out.2.2
          refine bodyPost_ret (v := .tuple #[.agg #[.slice (some ⟨g3, 0, none⟩) (nc + 1) p3, .slice aS 0 cS, .slice ar 0 cr, .slice am 0 cm], .int .i64 0]) (by simp [results, Tryz.results12, go_sem, World.cell?, hq]) rfl ?_
          exact ⟨_, _, _, _, rfl, Lib.hid ⟨HD.out.1, V, _, _, _, _, HD.out.2.1, by first | exact ⟨rfl, rfl, rfl, rfl⟩ | exact fun _ => ⟨rfl, rfl, rfl, rfl⟩⟩⟩
      · have her0 := HER2.out
        have L2 := Lib.hid (L1.out.below hb2)
        rw [← her0] at hn0 ⊢
        obtain ⟨x0, x1, x2, x3⟩ := L2.out.cell
        have hq := L2.out.res
        have q0 : w2.cell? ⟨X + 1, 0, none⟩ = some (.slice none 0 0) := (own_cell hq).trans rfl
        have q1 : w2.cell? ⟨X + 1, 1, none⟩ = some (.slice none 0 0) := (own_cell hq).trans rfl
        have q2 : w2.cell? ⟨X + 1, 2, none⟩ = some (.slice none 0 0) := (own_cell hq).trans rfl
        have q3 : w2.cell? ⟨X + 1, 3, none⟩ = some (.slice none 0 0) := (own_cell hq).trans rfl
        have f0 : ∀ j, w2.frozen? ⟨X + 1, j, none⟩ = false := fun j => own_free hq
        have HD := Lib.hid L2.out.done
        clear hq
        have HNE := Lib.hid hn0
        have HER3 := Lib.hid her0; clear her0 HER2
        go_wp2_with fail
        clear x0 x1 x2 x3 q0 q1 q2 q3 f0
        have hq := HD.out.2.2
        refine bodyPost_ret (v := .tuple #[.agg #[.slice ac nc cc, .slice aS 0 cS, .slice ar 0 cr, .slice am 0 cm], .int .i64 er]) (by simp [results, Tryz.results12, go_sem, World.cell?, hq]) rfl ?_
        exact ⟨_, _, _, _, rfl, Lib.hid ⟨HD.out.1, V, _, _, _, _, HD.out.2.1, fun h => absurd h HNE.out⟩⟩
  · have her := HER.out
    rw [twoE_no _ hle] at her
    subst her
    obtain ⟨x0, x1, x2, x3⟩ := L1.out.cell
    have hq := L1.out.res
    have q0 : w1.cell? ⟨X + 1, 0, none⟩ = some (.slice none 0 0) := (own_cell hq).trans rfl
    have q1 : w1.cell? ⟨X + 1, 1, none⟩ = some (.slice none 0 0) := (own_cell hq).trans rfl
    have q2 : w1.cell? ⟨X + 1, 2, none⟩ = some (.slice none 0 0) := (own_cell hq).trans rfl
    have q3 : w1.cell? ⟨X + 1, 3, none⟩ = some (.slice none 0 0) := (own_cell hq).trans rfl
    have f0 : ∀ j, w1.frozen? ⟨X + 1, j, none⟩ = false := fun j => own_free hq
    have HD := Lib.hid L1.out.done
    clear hq
    clear hst
    have HNE := Lib.hid hle
    go_wp2_with fail
    clear x0 x1 x2 x3 q0 q1 q2 q3 f0
    have hq := HD.out.2.2
    refine bodyPost_ret (v := .tuple #[.agg #[.slice ac nc cc, .slice aS 0 cS, .slice ar 0 cr, .slice am 0 cm], .int .i64 er]) (by simp [results, Tryz.results12, go_sem, World.cell?, hq]) rfl ?_
    exact ⟨_, _, _, _, rfl, Lib.hid ⟨HD.out.1, V, _, _, _, _, HD.out.2.1, fun h => absurd h HNE.out⟩⟩
end Sheet
end Go.Proofs.YtjmhlabgoegeoaaGreatDoor
