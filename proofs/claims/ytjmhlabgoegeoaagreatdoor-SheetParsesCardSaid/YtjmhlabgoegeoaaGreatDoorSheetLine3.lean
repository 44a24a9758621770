/- jitneyref06.line: a request's line; over the translated program. jitneyref06.line: a row's line; over the translated program. jitneyref06.line: a stop's line, of an instance with times; over the translated program. jitneyref06.line: a stop's line, of an instance with spots; over the translated program. -/
import Derived.Test.YtjmhlabgoegeoaaGreatDoorSheetLine
namespace Go.Proofs.YtjmhlabgoegeoaaGreatDoor
namespace Sheet
open Go Go.RowKit Deci
attribute [local go_sem] store_cx
set_option maxHeartbeats 4000000 in
set_option maxRecDepth 100000 in
theorem line_ride (base : Nat) (p : IP) (i : Nat) (hok : p.Ok) (nr : Nat) (hnr : 1 + p.C + p.P + nr = i) (h2 : nr < p.R) (hlt : i < p.L.length) (hl : ∀ s ∈ p.L, s.size ≤ 1000000) (vc vs vr vm : Value) (V : Nat → Value) (w : World) (hb : base ≤ w.heap.size) (h : RowsAt base p p.C p.P nr 0 vc vs vr vm V w) :
    Calls Tryz.prog 12 #[.agg #[vc, vs, vr, vm], .string p.L[i], .int .i64 i, .int .i64 p.C, .int .i64 p.R, .int .i64 p.sc, .bool (!p.T)] w (LineOut base p p.C p.P (nr + 1) 0 (p.err i) w) := by
  obtain ⟨ac, cc, rfl⟩ := own_slice h.cars
  obtain ⟨aS, cS, rfl⟩ := own_slice h.stops
  obtain ⟨ar, cr, rfl⟩ := own_slice h.rides
  obtain ⟨am, cm, rfl⟩ := own_slice h.rows
  obtain ⟨hC1, hC2, hP⟩ := hok
  have hR : p.R ≤ 2048 := by unfold IP.P at hP; omega
  have hsz := hl _ (List.getElem_mem hlt)
  have herr : p.err i = twoE (lineE p.L[i] ⟨#[114, 105, 100, 101]⟩ 1) (numsE (nextW p.L i) [] p.sc 1 0) := by
    unfold IP.err
    rw [if_neg (by omega), if_neg (by omega), if_pos (by omega)]
    unfold rideE
    rw [nextE_at hlt]
    simp only [numsE, oneE, twoE_end]
    rfl
  have hwz : ∀ q ∈ nextW p.L i, q.size ≤ 1000000 := nextW_size hl
  have hA : rideV p.L i p.sc = oneV (nextW p.L i) [] p.sc 0 := rfl
  have hcar : p.ride nr = [.int .i64 (oneV (nextW p.L i) [] p.sc 0)] := by
    unfold IP.ride; rw [hnr, hA]
  have hlen : lineE p.L[i] ⟨#[114, 105, 100, 101]⟩ 1 = 0 → (nextW p.L i).length = 1 := fun h => by rw [nextW_at hlt]; exact line_words h
  have htail : ∀ w, Calls Tryz.prog 20 #[.string p.L[i], .string ⟨#[114, 105, 100, 101]⟩, .int .i64 2] w (Tail w (nextW p.L i) (lineE p.L[i] ⟨#[114, 105, 100, 101]⟩ 1)) := fun w => by rw [nextW_at hlt]; exact refTail_any p.L[i] ⟨#[114, 105, 100, 101]⟩ 1 w (by omega) (by decide)
  have hnums := fun g o gb cap cb w hg hgb hc hcb (hl3 : (nextW p.L i).length = 1) => nums_any g o gb cap cb (nextW p.L i) [] p.sc w (by omega) (by decide) hwz (by simp) hg hgb hc hcb
  clear hA
  generalize nextW p.L i = ws at *
  generalize p.L[i] = s at *
  generalize lineE s ⟨#[114, 105, 100, 101]⟩ 1 = le at *
  generalize p.err i = er at *
  have HER := Lib.hid herr; clear herr
  have HLEN := Lib.hid hlen; clear hlen
  have HT := Lib.hid htail; clear htail
  have HN := Lib.hid hnums; clear hnums
  have HCAR := Lib.hid hcar; clear hcar
  have HROWS := Lib.hid h; clear h
  have hPR : p.P = 2 * p.R + 2 := rfl
  have d1 : decide ((i : Int) < 1 + (p.C : Int)) = false := by simp; omega
  have d2 : decide ((i : Int) < 1 + (p.C : Int) + 2 * (p.R : Int) + 2) = false := by simp; omega
  have d3 : decide ((i : Int) < 1 + (p.C : Int) + 2 * (p.R : Int) + 2 + (p.R : Int)) = true := by simp; omega
  have hncx : nr ≤ 2048 := by omega
  have hix : i ≤ 9000 := by omega
  have HNC := Lib.hid hnr; clear hnr
  have HPR := Lib.hid hPR; clear hPR
  clear hl
  unfold LineOut
  go_enter Tryz.func12, Tryz.ntmps12
  go_wp2_with fail
  obtain ⟨X, hX⟩ : ∃ X, X = w.heap.size := ⟨_, rfl⟩
  obtain ⟨Wa, hWa⟩ : ∃ Wa, Wa = ((w.alloc (.cells #[.slice ac p.C cc, .slice aS p.P cS, .slice ar nr cr, .slice am 0 cm] 28)).alloc (.cells #[.slice none 0 0, .slice none 0 0, .slice none 0 0, .slice none 0 0] 28)).alloc (.cells #[] 2) := ⟨_, rfl⟩
  obtain ⟨Wb, hWb⟩ : ∃ Wb, Wb = Wa := ⟨_, rfl⟩
  have hza : Wa.heap.size = X + 1 + 1 + 1 := by rw [hWa, hX]; simp
  have hls : LS base X (X + 1) p p.C p.P nr 0 (.slice ac p.C cc) (.slice aS p.P cS) (.slice ar nr cr) (.slice am 0 cm) V w Wb := by
    have hbw : Below w.heap.size w Wb := by rw [hWb, hWa]; exact (((Below.refl _ _).alloc (Nat.le_refl _) _).alloc (by simp) _).alloc (by simp <;> omega) _
    refine ⟨HROWS.out.below hbw, ?_, ?_, by omega, by omega, by omega, hb, hbw.mono hb, by omega, by omega, fun k cs hk => (hbw.block k (Array.getElem?_eq_some_iff.1 hk).1).trans hk⟩
    · rw [hWb, hWa, hX, Below.heap_alloc _ _ _ (by simp; omega), Below.heap_alloc _ _ _ (by simp)]; exact World.alloc_heap_new w _
    · rw [hWb, hWa, hX, Below.heap_alloc _ _ _ (by simp)]
      rw [← World.size_alloc w (.cells #[.slice ac p.C cc, .slice aS p.P cS, .slice ar nr cr, .slice am 0 cm] 28)]; exact World.alloc_heap_new _ _
  have hbs : Wb.heap[X + 1 + 1]? = some (.cells #[] 2) := by
    rw [hWb, hWa, hX]
    rw [← World.size_alloc w (.cells #[.slice ac p.C cc, .slice aS p.P cS, .slice ar nr cr, .slice am 0 cm] 28), ← World.size_alloc _ (.cells #[.slice none 0 0, .slice none 0 0, .slice none 0 0, .slice none 0 0] 28)]; exact World.alloc_heap_new _ _
  rw [← hX, ← hWa]
  rw [← hWb]
  have HLS := Lib.hid hls; clear hls
  have HBS := Lib.hid hbs; clear hbs
  clear hWa hWb hza HROWS hX
  refine (HT.out _).mono ?_
  rintro e w1 ⟨v, rfl, hb1, hst⟩
  have L1 := Lib.hid (HLS.out.below hb1)
  have hbs1 := (hb1.block (X + 1 + 1) (Array.getElem?_eq_some_iff.1 HBS.out).1).trans HBS.out
  have HBS1 := Lib.hid hbs1; clear hbs1 hb1
  clear HLS HBS
  by_cases hle : le = 0
  · subst hle
    have hw3 := HLEN.out rfl
    obtain ⟨av, capv, rfl, hcapv, hv | ⟨g, o, rfl, -, hgl, hgc⟩⟩ := hst rfl
    · rw [hv] at hw3; cases hw3
    · have her := HER.out
      rw [twoE_ok] at her
      have hn := HN.out g o (X + 1 + 1) capv 0 w1 hgl (Array.getElem?_eq_some_iff.1 HBS1.out).1 hgc (fun j hj => absurd hj (by simp)) hw3
      rw [hw3] at hn
      have HNN := Lib.hid hn; clear hn hgc hcapv hst
      have HER2 := Lib.hid her; clear her HER HN HT HLEN
      rw [hw3]
      go_wp2_with fail
      refine HNN.out.mono ?_
      rintro e w2 ⟨hb2, ⟨hn0, vn, rfl, hown⟩ | ⟨hn0, rfl⟩⟩
      · have her0 := HER2.out
        rw [hn0] at her0
        subst her0
        have L2 := Lib.hid (L1.out.below hb2)
        obtain ⟨gn, capn, rfl, hgn, hcn, hbn, hcell⟩ := nums_cell hown (by decide)
        have c0 := hcell 0 (by decide)
        have hcr := HCAR.out
        generalize oneV ws [] p.sc 0 = e0 at *
        have HCR := Lib.hid hcr; clear hcr HCAR HER2
        have k0 := L2.out.cell.2.2.1
        have z2 := L2.out.lt
        clear hcell hown hb2 hn0
        go_wp2_with fail
        go_region_law (first
          | (refine lstep_ride (b := w2.heap.size) (l := [.int .i64 e0]) (by first | exact L2.out.drew.alloc _ | exact (L2.out.alloc _).drew | exact L2.out.alloc _) (by omega) HCR.out rfl (.tmp 146) (.tmp 150) rfl rfl rfl (by exact cells_made (l := [_])) ?_; intro g3 p3 w3 L3 c3 f3))
        all_goals
          clear c0 k0 z2 c3 f3
          obtain ⟨x0, x1, x2, x3⟩ := L3.out.cell
          have hq := L3.out.res
          have HD := Lib.hid L3.out.done
          generalize w3.setCell ⟨X, 2, none⟩ (.slice (some ⟨g3, 0, none⟩) (nr + 1) p3) = w4 at *
          have q0 : w4.cell? ⟨X + 1, 0, none⟩ = some (.slice none 0 0) := (own_cell hq).trans rfl
          have q1 : w4.cell? ⟨X + 1, 1, none⟩ = some (.slice none 0 0) := (own_cell hq).trans rfl
          have q2 : w4.cell? ⟨X + 1, 2, none⟩ = some (.slice none 0 0) := (own_cell hq).trans rfl
          have q3 : w4.cell? ⟨X + 1, 3, none⟩ = some (.slice none 0 0) := (own_cell hq).trans rfl
          have f0 : ∀ j, w4.frozen? ⟨X + 1, j, none⟩ = false := fun j => own_free hq
          clear hq
          go_wp2_with fail
          clear x0 x1 x2 x3 q0 q1 q2 q3 f0
          have hq := HD.out.2.2
          refine bodyPost_ret (v := .tuple #[.agg #[.slice ac p.C cc, .slice aS p.P cS, .slice (some ⟨g3, 0, none⟩) (nr + 1) p3, .slice am 0 cm], .int .i64 0]) (by simp [results, Tryz.results12, go_sem, World.cell?, hq]) rfl ?_
          exact ⟨_, _, _, _, rfl, Lib.hid ⟨HD.out.1, V, _, _, _, _, HD.out.2.1, by first | exact ⟨rfl, rfl, rfl, rfl⟩ | exact fun _ => ⟨rfl, rfl, rfl, rfl⟩⟩⟩
      · have her0 := HER2.out
        have L2 := Lib.hid (L1.out.below hb2)
        rw [← her0] at hn0 ⊢
        obtain ⟨x0, x1, x2, x3⟩ := L2.out.cell
        have hq := L2.out.res
        have q0 : w2.cell? ⟨X + 1, 0, none⟩ = some (.slice none 0 0) := (own_cell hq).trans rfl
        have q1 : w2.cell? ⟨X + 1, 1, none⟩ = some (.slice none 0 0) := (own_cell hq).trans rfl
        have q2 : w2.cell? ⟨X + 1, 2, none⟩ = some (.slice none 0 0) := (own_cell hq).trans rfl
        have q3 : w2.cell? ⟨X + 1, 3, none⟩ = some (.slice none 0 0) := (own_cell hq).trans rfl
        have f0 : ∀ j, w2.frozen? ⟨X + 1, j, none⟩ = false := fun j => own_free hq
        have HD := Lib.hid L2.out.done
        clear hq
        have HNE := Lib.hid hn0
        have HER3 := Lib.hid her0; clear her0 HER2
        go_wp2_with fail
        clear x0 x1 x2 x3 q0 q1 q2 q3 f0
        have hq := HD.out.2.2
        refine bodyPost_ret (v := .tuple #[.agg #[.slice ac p.C cc, .slice aS p.P cS, .slice ar nr cr, .slice am 0 cm], .int .i64 er]) (by simp [results, Tryz.results12, go_sem, World.cell?, hq]) rfl ?_
        exact ⟨_, _, _, _, rfl, Lib.hid ⟨HD.out.1, V, _, _, _, _, HD.out.2.1, fun h => absurd h HNE.out⟩⟩
  · have her := HER.out
    rw [twoE_no _ hle] at her
    subst her
    obtain ⟨x0, x1, x2, x3⟩ := L1.out.cell
    have hq := L1.out.res
    have q0 : w1.cell? ⟨X + 1, 0, none⟩ = some (.slice none 0 0) := (own_cell hq).trans rfl
    have q1 : w1.cell? ⟨X + 1, 1, none⟩ = some (.slice none 0 0) := (own_cell hq).trans rfl
    have q2 : w1.cell? ⟨X + 1, 2, none⟩ = some (.slice none 0 0) := (own_cell hq).trans rfl
    have q3 : w1.cell? ⟨X + 1, 3, none⟩ = some (.slice none 0 0) := (own_cell hq).trans rfl
    have f0 : ∀ j, w1.frozen? ⟨X + 1, j, none⟩ = false := fun j => own_free hq
    have HD := Lib.hid L1.out.done
    clear hq
    clear hst
    have HNE := Lib.hid hle
    go_wp2_with fail
    clear x0 x1 x2 x3 q0 q1 q2 q3 f0
    have hq := HD.out.2.2
    refine bodyPost_ret (v := .tuple #[.agg #[.slice ac p.C cc, .slice aS p.P cS, .slice ar nr cr, .slice am 0 cm], .int .i64 er]) (by simp [results, Tryz.results12, go_sem, World.cell?, hq]) rfl ?_
    exact ⟨_, _, _, _, rfl, Lib.hid ⟨HD.out.1, V, _, _, _, _, HD.out.2.1, fun h => absurd h HNE.out⟩⟩
end Sheet
end Go.Proofs.YtjmhlabgoegeoaaGreatDoor
namespace Go.Proofs.YtjmhlabgoegeoaaGreatDoor
namespace Sheet
open Go Go.RowKit Deci
attribute [local go_sem] store_cx
theorem decs_from (ws : List ByteArray) (sc : Int) : ∀ m k, k + m = ws.length → decsE (ws.drop k) sc = numsE ws [] sc m k
  | 0, k, h => by rw [List.drop_eq_nil_of_le (by omega)]; rfl
  | m + 1, k, h => by
    rw [decs_drop (k := k) (by omega), numsE, decs_from ws sc m (k + 1) (by omega)]
    congr 1
    unfold oneE
    rw [if_neg (by simp)]
    simp only [List.getD, List.getElem?_eq_getElem (show k < ws.length by omega), Option.getD_some]
theorem decs_nums {ws : List ByteArray} {sc : Int} {m : Nat} (h : ws.length = m) : decsE ws sc = numsE ws [] sc m 0 := by
  have := decs_from ws sc m 0 (by omega)
  rwa [List.drop_zero] at this
theorem deep_nums {base base' j : Nat} {p : IP} {v : Value} {ws : List ByteArray} {w : World} (h : w.ownsRow base 2 1 v p.P (numsV ws [] p.sc p.P)) (hm : 0 < p.P) (hw : p.rowW j = ws) (hb : base' ≤ base) :
    ∃ g cap, v = .slice (some ⟨g, 0, none⟩) p.P cap ∧ DeepAt base' p j v w := by
  obtain ⟨h1, h2⟩ := h
  rcases h2 with ⟨_, h0⟩ | ⟨g, cap, cur, rfl, hb', hh, hcap, hc1, hc2, hc3⟩
  · omega
  · refine ⟨g, cap, rfl, g, cap, cur, rfl, by omega, hcap, hh, fun t ht => ?_⟩
    have e : (numsV ws [] p.sc p.P)[t]? = some (.int .i64 (p.rowV j t)) := by
      unfold numsV
      rw [List.getElem?_map, List.getElem?_range ht]
      unfold IP.rowV oneV
      rw [hw]
      simp
    have := congrArg (·[t]?) hc3
    simp only [Nat.mul_one] at this
    rw [List.getElem?_take, if_pos ht, e] at this
    simpa using this
set_option maxHeartbeats 4000000 in
set_option maxRecDepth 100000 in
theorem line_row (base : Nat) (p : IP) (i : Nat) (hok : p.Ok) (nm : Nat) (hnr : 1 + p.C + p.P + p.R + nm = i) (h2 : nm < p.P) (hlt : i < p.L.length) (hl : ∀ s ∈ p.L, s.size ≤ 1000000) (vc vs vr vm : Value) (V : Nat → Value) (w : World) (hb : base ≤ w.heap.size) (h : RowsAt base p p.C p.P p.R nm vc vs vr vm V w) :
    Calls Tryz.prog 12 #[.agg #[vc, vs, vr, vm], .string p.L[i], .int .i64 i, .int .i64 p.C, .int .i64 p.R, .int .i64 p.sc, .bool (!p.T)] w (LineOut base p p.C p.P p.R (nm + 1) (p.err i) w) := by
  obtain ⟨ac, cc, rfl⟩ := own_slice h.cars
  obtain ⟨aS, cS, rfl⟩ := own_slice h.stops
  obtain ⟨ar, cr, rfl⟩ := own_slice h.rides
  obtain ⟨am, cm, rfl⟩ := own_slice h.rows
  obtain ⟨hC1, hC2, hP⟩ := hok
  have hR : p.R ≤ 2048 := by unfold IP.P at hP; omega
  have hsz := hl _ (List.getElem_mem hlt)
  have herr : p.err i = twoE (lineE p.L[i] ⟨#[114, 111, 119]⟩ p.P) (decsE (nextW p.L i) p.sc) := by
    unfold IP.err
    rw [if_neg (by omega), if_neg (by omega), if_neg (by omega)]
    unfold rowE
    rw [nextE_at hlt]
  have hwz : ∀ q ∈ nextW p.L i, q.size ≤ 1000000 := nextW_size hl
  have hcar : p.rowW nm = nextW p.L i := by unfold IP.rowW; rw [hnr]
  have hlen : lineE p.L[i] ⟨#[114, 111, 119]⟩ p.P = 0 → (nextW p.L i).length = p.P := fun h => by rw [nextW_at hlt]; exact line_words h
  have htail : ∀ w, Calls Tryz.prog 20 #[.string p.L[i], .string ⟨#[114, 111, 119]⟩, .int .i64 (2 * (p.R : Int) + 3)] w (Tail w (nextW p.L i) (lineE p.L[i] ⟨#[114, 111, 119]⟩ p.P)) := fun w => by rw [nextW_at hlt, show 2 * (p.R : Int) + 3 = (p.P : Int) + 1 from by unfold IP.P; omega]; exact refTail_any p.L[i] ⟨#[114, 111, 119]⟩ p.P w (by omega) (by omega)
  have hnums := fun g o gb cap cb w hg hgb hc hcb (hl3 : (nextW p.L i).length = p.P) => nums_any g o gb cap cb (nextW p.L i) [] p.sc w (by omega) (by decide) hwz (by simp) hg hgb hc hcb
  generalize nextW p.L i = ws at *
  generalize p.L[i] = s at *
  generalize lineE s ⟨#[114, 111, 119]⟩ p.P = le at *
  generalize p.err i = er at *
  have HER := Lib.hid herr; clear herr
  have HLEN := Lib.hid hlen; clear hlen
  have HT := Lib.hid htail; clear htail
  have HN := Lib.hid hnums; clear hnums
  have HCAR := Lib.hid hcar; clear hcar
  have HROWS := Lib.hid h; clear h
  have hPR : p.P = 2 * p.R + 2 := rfl
  have d1 : decide ((i : Int) < 1 + (p.C : Int)) = false := by simp; omega
  have d2 : decide ((i : Int) < 1 + (p.C : Int) + 2 * (p.R : Int) + 2) = false := by simp; omega
  have d3 : decide ((i : Int) < 1 + (p.C : Int) + 2 * (p.R : Int) + 2 + (p.R : Int)) = false := by simp; omega
  have hncx : nm ≤ 4096 := by omega
  have hix : i ≤ 19000 := by omega
  have HNC := Lib.hid hnr; clear hnr
  have HPR := Lib.hid hPR; clear hPR
  clear hl
  unfold LineOut
  go_enter Tryz.func12, Tryz.ntmps12
  go_wp2_with fail
  obtain ⟨X, hX⟩ : ∃ X, X = w.heap.size := ⟨_, rfl⟩
  obtain ⟨Wa, hWa⟩ : ∃ Wa, Wa = ((w.alloc (.cells #[.slice ac p.C cc, .slice aS p.P cS, .slice ar p.R cr, .slice am nm cm] 28)).alloc (.cells #[.slice none 0 0, .slice none 0 0, .slice none 0 0, .slice none 0 0] 28)).alloc (.cells #[] 2) := ⟨_, rfl⟩
  obtain ⟨Wb, hWb⟩ : ∃ Wb, Wb = Wa := ⟨_, rfl⟩
  have hza : Wa.heap.size = X + 1 + 1 + 1 := by rw [hWa, hX]; simp
  have hls : LS base X (X + 1) p p.C p.P p.R nm (.slice ac p.C cc) (.slice aS p.P cS) (.slice ar p.R cr) (.slice am nm cm) V w Wb := by
    have hbw : Below w.heap.size w Wb := by rw [hWb, hWa]; exact (((Below.refl _ _).alloc (Nat.le_refl _) _).alloc (by simp) _).alloc (by simp <;> omega) _
    refine ⟨HROWS.out.below hbw, ?_, ?_, by omega, by omega, by omega, hb, hbw.mono hb, by omega, by omega, fun k cs hk => (hbw.block k (Array.getElem?_eq_some_iff.1 hk).1).trans hk⟩
    · rw [hWb, hWa, hX, Below.heap_alloc _ _ _ (by simp; omega), Below.heap_alloc _ _ _ (by simp)]; exact World.alloc_heap_new w _
    · rw [hWb, hWa, hX, Below.heap_alloc _ _ _ (by simp)]
      rw [← World.size_alloc w (.cells #[.slice ac p.C cc, .slice aS p.P cS, .slice ar p.R cr, .slice am nm cm] 28)]; exact World.alloc_heap_new _ _
  have hbs : Wb.heap[X + 1 + 1]? = some (.cells #[] 2) := by
    rw [hWb, hWa, hX]
    rw [← World.size_alloc w (.cells #[.slice ac p.C cc, .slice aS p.P cS, .slice ar p.R cr, .slice am nm cm] 28), ← World.size_alloc _ (.cells #[.slice none 0 0, .slice none 0 0, .slice none 0 0, .slice none 0 0] 28)]; exact World.alloc_heap_new _ _
  rw [← hX, ← hWa]
  rw [← hWb]
  have HLS := Lib.hid hls; clear hls
  have HBS := Lib.hid hbs; clear hbs
  clear hWa hWb hza HROWS hX
  refine (HT.out _).mono ?_
  rintro e w1 ⟨v, rfl, hb1, hst⟩
  have L1 := Lib.hid (HLS.out.below hb1)
  have hbs1 := (hb1.block (X + 1 + 1) (Array.getElem?_eq_some_iff.1 HBS.out).1).trans HBS.out
  have HBS1 := Lib.hid hbs1; clear hbs1 hb1
  clear HLS HBS
  by_cases hle : le = 0
  · subst hle
    have hw3 := HLEN.out rfl
    obtain ⟨av, capv, rfl, hcapv, hv | ⟨g, o, rfl, -, hgl, hgc⟩⟩ := hst rfl
    · rw [hv] at hw3; cases hw3
    · have her := HER.out
      rw [twoE_ok] at her
      have hn := HN.out g o (X + 1 + 1) capv 0 w1 hgl (Array.getElem?_eq_some_iff.1 HBS1.out).1 hgc (fun j hj => absurd hj (by simp)) hw3
      rw [hw3] at hn
      rw [decs_nums hw3] at her
      have HNN := Lib.hid hn; clear hn hgc hcapv hst
      have HER2 := Lib.hid her; clear her HER HN HT HLEN
      rw [hw3]
      go_wp2_with fail
      refine HNN.out.mono ?_
      rintro e w2 ⟨hb2, ⟨hn0, vn, rfl, hown⟩ | ⟨hn0, rfl⟩⟩
      · have her0 := HER2.out
        rw [hn0] at her0
        subst her0
        have L2 := Lib.hid (L1.out.below hb2)
        obtain ⟨gn, capn, rfl, hdeep⟩ := deep_nums (base' := base) (j := nm) hown (by have := HPR.out; omega) HCAR.out L1.out.size
        have HD0 := Lib.hid hdeep; clear hdeep
        have k0 := L2.out.cell.2.2.2
        have z2 := L2.out.lt
        clear hown hb2 hn0 HCAR HER2
        go_wp2_with (first
          | (at_builtin; refine lwp_row (b := w2.heap.size) (u := .slice (some ⟨gn, 0, none⟩) p.P capn) (L2.out.alloc _) (HD0.out.alloc _) rfl (by omega) rfl (.tmp 154) (.tmp 156) rfl rfl rfl (by exact cells_made (l := [_])) ?_; intro g3 p3 w3 V3 L3 c3 f3 HXQ; have y0 : w3.cell? ⟨X, 0, none⟩ = some (.slice ac p.C cc) := (own_cell HXQ.out.1).trans rfl; have y1 : w3.cell? ⟨X, 1, none⟩ = some (.slice aS p.P cS) := (own_cell HXQ.out.1).trans rfl; have y2 : w3.cell? ⟨X, 2, none⟩ = some (.slice ar p.R cr) := (own_cell HXQ.out.1).trans rfl; have q0 : w3.cell? ⟨X + 1, 0, none⟩ = some (.slice none 0 0) := (own_cell HXQ.out.2).trans rfl; have q1 : w3.cell? ⟨X + 1, 1, none⟩ = some (.slice none 0 0) := (own_cell HXQ.out.2).trans rfl; have q2 : w3.cell? ⟨X + 1, 2, none⟩ = some (.slice none 0 0) := (own_cell HXQ.out.2).trans rfl; have q3 : w3.cell? ⟨X + 1, 3, none⟩ = some (.slice none 0 0) := (own_cell HXQ.out.2).trans rfl; have fq : ∀ j, w3.frozen? ⟨X + 1, j, none⟩ = false := fun j => own_free HXQ.out.2))
        clear y0 y1 y2 q0 q1 q2 q3 fq c3 f3 k0 z2
        have HD := Lib.hid L3.out.done
        have hq := HD.out.2.2
        refine bodyPost_ret (v := .tuple #[.agg #[.slice ac p.C cc, .slice aS p.P cS, .slice ar p.R cr, .slice (some ⟨g3, 0, none⟩) (nm + 1) p3], .int .i64 0]) (by simp [results, Tryz.results12, go_sem, World.cell?, hq]) rfl ?_
        exact ⟨_, _, _, _, rfl, Lib.hid ⟨HD.out.1, V3, _, _, _, _, HD.out.2.1, by first | exact ⟨rfl, rfl, rfl, rfl⟩ | exact fun _ => ⟨rfl, rfl, rfl, rfl⟩⟩⟩
      · have her0 := HER2.out
        have L2 := Lib.hid (L1.out.below hb2)
        rw [← her0] at hn0 ⊢
        obtain ⟨x0, x1, x2, x3⟩ := L2.out.cell
        have hq := L2.out.res
        have q0 : w2.cell? ⟨X + 1, 0, none⟩ = some (.slice none 0 0) := (own_cell hq).trans rfl
        have q1 : w2.cell? ⟨X + 1, 1, none⟩ = some (.slice none 0 0) := (own_cell hq).trans rfl
        have q2 : w2.cell? ⟨X + 1, 2, none⟩ = some (.slice none 0 0) := (own_cell hq).trans rfl
        have q3 : w2.cell? ⟨X + 1, 3, none⟩ = some (.slice none 0 0) := (own_cell hq).trans rfl
        have f0 : ∀ j, w2.frozen? ⟨X + 1, j, none⟩ = false := fun j => own_free hq
        have HD := Lib.hid L2.out.done
        clear hq
        have HNE := Lib.hid hn0
        have HER3 := Lib.hid her0; clear her0 HER2
        go_wp2_with fail
        clear x0 x1 x2 x3 q0 q1 q2 q3 f0
        have hq := HD.out.2.2
        refine bodyPost_ret (v := .tuple #[.agg #[.slice ac p.C cc, .slice aS p.P cS, .slice ar p.R cr, .slice am nm cm], .int .i64 er]) (by simp [results, Tryz.results12, go_sem, World.cell?, hq]) rfl ?_
        exact ⟨_, _, _, _, rfl, Lib.hid ⟨HD.out.1, V, _, _, _, _, HD.out.2.1, fun h => absurd h HNE.out⟩⟩
  · have her := HER.out
    rw [twoE_no _ hle] at her
    subst her
    obtain ⟨x0, x1, x2, x3⟩ := L1.out.cell
    have hq := L1.out.res
    have q0 : w1.cell? ⟨X + 1, 0, none⟩ = some (.slice none 0 0) := (own_cell hq).trans rfl
    have q1 : w1.cell? ⟨X + 1, 1, none⟩ = some (.slice none 0 0) := (own_cell hq).trans rfl
    have q2 : w1.cell? ⟨X + 1, 2, none⟩ = some (.slice none 0 0) := (own_cell hq).trans rfl
    have q3 : w1.cell? ⟨X + 1, 3, none⟩ = some (.slice none 0 0) := (own_cell hq).trans rfl
    have f0 : ∀ j, w1.frozen? ⟨X + 1, j, none⟩ = false := fun j => own_free hq
    have HD := Lib.hid L1.out.done
    clear hq
    clear hst
    have HNE := Lib.hid hle
    go_wp2_with fail
    clear x0 x1 x2 x3 q0 q1 q2 q3 f0
    have hq := HD.out.2.2
    refine bodyPost_ret (v := .tuple #[.agg #[.slice ac p.C cc, .slice aS p.P cS, .slice ar p.R cr, .slice am nm cm], .int .i64 er]) (by simp [results, Tryz.results12, go_sem, World.cell?, hq]) rfl ?_
    exact ⟨_, _, _, _, rfl, Lib.hid ⟨HD.out.1, V, _, _, _, _, HD.out.2.1, fun h => absurd h HNE.out⟩⟩
end Sheet
end Go.Proofs.YtjmhlabgoegeoaaGreatDoor
namespace Go.Proofs.YtjmhlabgoegeoaaGreatDoor
namespace Sheet
open Go Go.RowKit Deci
attribute [local go_sem] store_cx
set_option maxHeartbeats 4000000 in
set_option maxRecDepth 100000 in
theorem line_stopT (base : Nat) (p : IP) (hpT : p.T = true) (i : Nat) (hok : p.Ok) (ns : Nat) (hnr : 1 + p.C + ns = i) (h2 : ns < p.P) (hlt : i < p.L.length) (hl : ∀ s ∈ p.L, s.size ≤ 1000000) (vc vs vr vm : Value) (V : Nat → Value) (w : World) (hb : base ≤ w.heap.size) (h : RowsAt base p p.C ns 0 0 vc vs vr vm V w) :
    Calls Tryz.prog 12 #[.agg #[vc, vs, vr, vm], .string p.L[i], .int .i64 i, .int .i64 p.C, .int .i64 p.R, .int .i64 p.sc, .bool false] w (LineOut base p p.C (ns + 1) 0 0 (p.err i) w) := by
  obtain ⟨ac, cc, rfl⟩ := own_slice h.cars
  obtain ⟨aS, cS, rfl⟩ := own_slice h.stops
  obtain ⟨ar, cr, rfl⟩ := own_slice h.rides
  obtain ⟨am, cm, rfl⟩ := own_slice h.rows
  obtain ⟨hC1, hC2, hP⟩ := hok
  have hR : p.R ≤ 2048 := by unfold IP.P at hP; omega
  have hsz := hl _ (List.getElem_mem hlt)
  have herr : p.err i = twoE (lineE p.L[i] ⟨#[115, 116, 111, 112]⟩ 5) (numsE (nextW p.L i) [1000, 1000] p.sc 5 0) := by
    unfold IP.err
    rw [if_neg (by omega), if_pos (by omega), hpT]
    unfold stopE tailE loadE
    rw [if_neg (by decide), nextE_at hlt, twoE_assoc]
    simp only [numsE, oneE, twoE_end]
    rfl
  have hwz : ∀ q ∈ nextW p.L i, q.size ≤ 1000000 := nextW_size hl
  have hA : stopS p.L i 0 1000 = oneV (nextW p.L i) [1000, 1000] p.sc 0 := rfl
  have hB : stopS p.L i 1 1000 = oneV (nextW p.L i) [1000, 1000] p.sc 1 := rfl
  have hM : stopC p.L i 2 p.sc = oneV (nextW p.L i) [1000, 1000] p.sc 2 := rfl
  have hM3 : stopC p.L i 3 p.sc = oneV (nextW p.L i) [1000, 1000] p.sc 3 := rfl
  have hM4 : stopC p.L i 4 p.sc = oneV (nextW p.L i) [1000, 1000] p.sc 4 := rfl
  have hcar : p.stop ns = [.int .i64 (oneV (nextW p.L i) [1000, 1000] p.sc 0), .int .i64 (oneV (nextW p.L i) [1000, 1000] p.sc 1), .int .i64 (oneV (nextW p.L i) [1000, 1000] p.sc 2), .int .i64 (oneV (nextW p.L i) [1000, 1000] p.sc 3), .int .i64 (oneV (nextW p.L i) [1000, 1000] p.sc 4), .complex .f64 0 0] := by
    unfold IP.stop stopL; rw [hpT, if_neg (by decide), hnr, hA, hB, hM, hM3, hM4]
  have hlen : lineE p.L[i] ⟨#[115, 116, 111, 112]⟩ 5 = 0 → (nextW p.L i).length = 5 := fun h => by rw [nextW_at hlt]; exact line_words h
  have htail : ∀ w, Calls Tryz.prog 20 #[.string p.L[i], .string ⟨#[115, 116, 111, 112]⟩, .int .i64 6] w (Tail w (nextW p.L i) (lineE p.L[i] ⟨#[115, 116, 111, 112]⟩ 5)) := fun w => by rw [nextW_at hlt]; exact refTail_any p.L[i] ⟨#[115, 116, 111, 112]⟩ 5 w (by omega) (by decide)
  have hnums := fun g o gb cap cb w hg hgb hc hcb (hl3 : (nextW p.L i).length = 5) => nums_any g o gb cap cb (nextW p.L i) [1000, 1000] p.sc w (by omega) (by decide) hwz (by simp) hg hgb hc hcb
  clear hA hB hM hM3 hM4
  generalize nextW p.L i = ws at *
  generalize p.L[i] = s at *
  generalize lineE s ⟨#[115, 116, 111, 112]⟩ 5 = le at *
  generalize p.err i = er at *
  have HER := Lib.hid herr; clear herr
  have HLEN := Lib.hid hlen; clear hlen
  have HT := Lib.hid htail; clear htail
  have HN := Lib.hid hnums; clear hnums
  have HCAR := Lib.hid hcar; clear hcar
  have HROWS := Lib.hid h; clear h
  have hPR : p.P = 2 * p.R + 2 := rfl
  have d1 : decide ((i : Int) < 1 + (p.C : Int)) = false := by simp; omega
  have d2 : decide ((i : Int) < 1 + (p.C : Int) + 2 * (p.R : Int) + 2) = true := by simp; omega
  have hncx : ns ≤ 4096 := by omega
  have hix : i ≤ 9000 := by omega
  have HNC := Lib.hid hnr; clear hnr
  have HPR := Lib.hid hPR; clear hPR
  have HPT := Lib.hid hpT; clear hpT
  clear hl
  unfold LineOut
  go_enter Tryz.func12, Tryz.ntmps12
  go_wp2_with fail
  obtain ⟨X, hX⟩ : ∃ X, X = w.heap.size := ⟨_, rfl⟩
  obtain ⟨Wa, hWa⟩ : ∃ Wa, Wa = ((w.alloc (.cells #[.slice ac p.C cc, .slice aS ns cS, .slice ar 0 cr, .slice am 0 cm] 28)).alloc (.cells #[.slice none 0 0, .slice none 0 0, .slice none 0 0, .slice none 0 0] 28)).alloc (.cells #[] 2) := ⟨_, rfl⟩
  obtain ⟨Wb, hWb⟩ : ∃ Wb, Wb = Wa.alloc (.cells #[.int .i64 1000, .int .i64 1000] 2) := ⟨_, rfl⟩
  have hza : Wa.heap.size = X + 1 + 1 + 1 := by rw [hWa, hX]; simp
  have hls : LS base X (X + 1) p p.C ns 0 0 (.slice ac p.C cc) (.slice aS ns cS) (.slice ar 0 cr) (.slice am 0 cm) V w Wb := by
    have hbw : Below w.heap.size w Wb := by rw [hWb, hWa]; exact ((((Below.refl _ _).alloc (Nat.le_refl _) _).alloc (by simp) _).alloc (by simp <;> omega) _).alloc (by simp <;> omega) _
    refine ⟨HROWS.out.below hbw, ?_, ?_, by omega, by omega, by omega, hb, hbw.mono hb, by omega, by omega, fun k cs hk => (hbw.block k (Array.getElem?_eq_some_iff.1 hk).1).trans hk⟩
    · rw [hWb, hWa, hX, Below.heap_alloc _ _ _ (by simp; omega), Below.heap_alloc _ _ _ (by simp; omega), Below.heap_alloc _ _ _ (by simp)]; exact World.alloc_heap_new w _
    · rw [hWb, hWa, hX, Below.heap_alloc _ _ _ (by simp), Below.heap_alloc _ _ _ (by simp)]
      rw [← World.size_alloc w (.cells #[.slice ac p.C cc, .slice aS ns cS, .slice ar 0 cr, .slice am 0 cm] 28)]; exact World.alloc_heap_new _ _
  have hbs : Wb.heap[X + 1 + 1 + 1]? = some (.cells #[.int .i64 1000, .int .i64 1000] 2) := by rw [hWb, ← hza]; exact World.alloc_heap_new _ _
  rw [← hX, ← hWa, ← hWb]
  have HLS := Lib.hid hls; clear hls
  have HBS := Lib.hid hbs; clear hbs
  clear hWa hWb hza HROWS hX
  refine (HT.out _).mono ?_
  rintro e w1 ⟨v, rfl, hb1, hst⟩
  have L1 := Lib.hid (HLS.out.below hb1)
  have hbs1 := (hb1.block (X + 1 + 1 + 1) (Array.getElem?_eq_some_iff.1 HBS.out).1).trans HBS.out
  have HBS1 := Lib.hid hbs1; clear hbs1 hb1
  clear HLS HBS
  by_cases hle : le = 0
  · subst hle
    have hw3 := HLEN.out rfl
    obtain ⟨av, capv, rfl, hcapv, hv | ⟨g, o, rfl, -, hgl, hgc⟩⟩ := hst rfl
    · rw [hv] at hw3; cases hw3
    · have her := HER.out
      rw [twoE_ok] at her
      have hn := HN.out g o (X + 1 + 1 + 1) capv 2 w1 hgl (Array.getElem?_eq_some_iff.1 HBS1.out).1 hgc (fun j hj => by
        rw [own_cell HBS1.out]
        match j, hj with
        | 0, _ => rfl
        | 1, _ => rfl) hw3
      rw [hw3] at hn
      have HNN := Lib.hid hn; clear hn hgc hcapv hst
      have HER2 := Lib.hid her; clear her HER HN HT HLEN
      rw [hw3]
      go_wp2_with fail
      refine HNN.out.mono ?_
      rintro e w2 ⟨hb2, ⟨hn0, vn, rfl, hown⟩ | ⟨hn0, rfl⟩⟩
      · have her0 := HER2.out
        rw [hn0] at her0
        subst her0
        have L2 := Lib.hid (L1.out.below hb2)
        obtain ⟨gn, capn, rfl, hgn, hcn, hbn, hcell⟩ := nums_cell hown (by decide)
        have c0 := hcell 0 (by decide)
        have c1 := hcell 1 (by decide)
        have c2 := hcell 2 (by decide)
        have c3 := hcell 3 (by decide)
        have c4 := hcell 4 (by decide)
        have hcr := HCAR.out
        generalize oneV ws [1000, 1000] p.sc 0 = e0 at *
        generalize oneV ws [1000, 1000] p.sc 1 = e1 at *
        generalize oneV ws [1000, 1000] p.sc 2 = e2 at *
        generalize oneV ws [1000, 1000] p.sc 3 = e3 at *
        generalize oneV ws [1000, 1000] p.sc 4 = e4 at *
        have HCR := Lib.hid hcr; clear hcr HCAR HER2
        have k0 := L2.out.cell.2.1
        have z2 := L2.out.lt
        clear hcell hown hb2 hn0
        go_wp2_with fail
        go_region
        all_goals
          go_wp2_with (first
            | (at_builtin; refine lwp_stop (b := w2.heap.size + 1) (l := [.int .i64 e0, .int .i64 e1, .int .i64 e2, .int .i64 e3, .int .i64 e4, .complex .f64 0 0]) (by first | exact ((L2.out.alloc _).alloc _).drew | exact ((L2.out.alloc _).alloc _).drew.drew | exact (L2.out.alloc _).alloc _) (by omega) HCR.out rfl (.tmp 138) (.tmp 140) rfl rfl rfl (by exact cells_made2 (l := [_, _, _, _, _, _]) (by simp)) ?_; intro g3 p3 w3 L3 c3' f3 HXQ; have y0 : w3.cell? ⟨X, 0, none⟩ = some (.slice ac p.C cc) := (own_cell HXQ.out.1).trans rfl; have y2 : w3.cell? ⟨X, 2, none⟩ = some (.slice ar 0 cr) := (own_cell HXQ.out.1).trans rfl; have y3 : w3.cell? ⟨X, 3, none⟩ = some (.slice am 0 cm) := (own_cell HXQ.out.1).trans rfl; have q0 : w3.cell? ⟨X + 1, 0, none⟩ = some (.slice none 0 0) := (own_cell HXQ.out.2).trans rfl; have q1 : w3.cell? ⟨X + 1, 1, none⟩ = some (.slice none 0 0) := (own_cell HXQ.out.2).trans rfl; have q2 : w3.cell? ⟨X + 1, 2, none⟩ = some (.slice none 0 0) := (own_cell HXQ.out.2).trans rfl; have q3 : w3.cell? ⟨X + 1, 3, none⟩ = some (.slice none 0 0) := (own_cell HXQ.out.2).trans rfl; have fq : ∀ j, w3.frozen? ⟨X + 1, j, none⟩ = false := fun j => own_free HXQ.out.2))
          clear y0 y2 y3 q0 q1 q2 q3 fq c3' f3 k0 z2 c0 c1 c2 c3 c4
          have HD := Lib.hid L3.out.done
          have hq := HD.out.2.2
          refine bodyPost_ret (v := .tuple #[.agg #[.slice ac p.C cc, .slice (some ⟨g3, 0, none⟩) (ns + 1) p3, .slice ar 0 cr, .slice am 0 cm], .int .i64 0]) (by simp [results, Tryz.results12, go_sem, World.cell?, hq]) rfl ?_
          exact ⟨_, _, _, _, rfl, Lib.hid ⟨HD.out.1, V, _, _, _, _, HD.out.2.1, by first | exact ⟨rfl, rfl, rfl, rfl⟩ | exact fun _ => ⟨rfl, rfl, rfl, rfl⟩⟩⟩
      · have her0 := HER2.out
        have L2 := Lib.hid (L1.out.below hb2)
        rw [← her0] at hn0 ⊢
        obtain ⟨x0, x1, x2, x3⟩ := L2.out.cell
        have hq := L2.out.res
        have q0 : w2.cell? ⟨X + 1, 0, none⟩ = some (.slice none 0 0) := (own_cell hq).trans rfl
        have q1 : w2.cell? ⟨X + 1, 1, none⟩ = some (.slice none 0 0) := (own_cell hq).trans rfl
        have q2 : w2.cell? ⟨X + 1, 2, none⟩ = some (.slice none 0 0) := (own_cell hq).trans rfl
        have q3 : w2.cell? ⟨X + 1, 3, none⟩ = some (.slice none 0 0) := (own_cell hq).trans rfl
        have f0 : ∀ j, w2.frozen? ⟨X + 1, j, none⟩ = false := fun j => own_free hq
        have HD := Lib.hid L2.out.done
        clear hq
        have HNE := Lib.hid hn0
        have HER3 := Lib.hid her0; clear her0 HER2
        go_wp2_with fail
        clear x0 x1 x2 x3 q0 q1 q2 q3 f0
        have hq := HD.out.2.2
        refine bodyPost_ret (v := .tuple #[.agg #[.slice ac p.C cc, .slice aS ns cS, .slice ar 0 cr, .slice am 0 cm], .int .i64 er]) (by simp [results, Tryz.results12, go_sem, World.cell?, hq]) rfl ?_
        exact ⟨_, _, _, _, rfl, Lib.hid ⟨HD.out.1, V, _, _, _, _, HD.out.2.1, fun h => absurd h HNE.out⟩⟩
  · have her := HER.out
    rw [twoE_no _ hle] at her
    subst her
    obtain ⟨x0, x1, x2, x3⟩ := L1.out.cell
    have hq := L1.out.res
    have q0 : w1.cell? ⟨X + 1, 0, none⟩ = some (.slice none 0 0) := (own_cell hq).trans rfl
    have q1 : w1.cell? ⟨X + 1, 1, none⟩ = some (.slice none 0 0) := (own_cell hq).trans rfl
    have q2 : w1.cell? ⟨X + 1, 2, none⟩ = some (.slice none 0 0) := (own_cell hq).trans rfl
    have q3 : w1.cell? ⟨X + 1, 3, none⟩ = some (.slice none 0 0) := (own_cell hq).trans rfl
    have f0 : ∀ j, w1.frozen? ⟨X + 1, j, none⟩ = false := fun j => own_free hq
    have HD := Lib.hid L1.out.done
    clear hq
    clear hst
    have HNE := Lib.hid hle
    go_wp2_with fail
    clear x0 x1 x2 x3 q0 q1 q2 q3 f0
    have hq := HD.out.2.2
    refine bodyPost_ret (v := .tuple #[.agg #[.slice ac p.C cc, .slice aS ns cS, .slice ar 0 cr, .slice am 0 cm], .int .i64 er]) (by simp [results, Tryz.results12, go_sem, World.cell?, hq]) rfl ?_
    exact ⟨_, _, _, _, rfl, Lib.hid ⟨HD.out.1, V, _, _, _, _, HD.out.2.1, fun h => absurd h HNE.out⟩⟩
end Sheet
end Go.Proofs.YtjmhlabgoegeoaaGreatDoor
namespace Go.Proofs.YtjmhlabgoegeoaaGreatDoor
namespace Sheet
open Go Go.RowKit Deci
attribute [local go_sem] store_cx
set_option maxHeartbeats 4000000 in
set_option maxRecDepth 100000 in
theorem line_stopS (base : Nat) (p : IP) (hpT : p.T = false) (i : Nat) (hok : p.Ok) (ns : Nat) (hnr : 1 + p.C + ns = i) (h2 : ns < p.P) (hlt : i < p.L.length) (hl : ∀ s ∈ p.L, s.size ≤ 1000000) (vc vs vr vm : Value) (V : Nat → Value) (w : World) (hb : base ≤ w.heap.size) (h : RowsAt base p p.C ns 0 0 vc vs vr vm V w) :
    Calls Tryz.prog 12 #[.agg #[vc, vs, vr, vm], .string p.L[i], .int .i64 i, .int .i64 p.C, .int .i64 p.R, .int .i64 p.sc, .bool true] w (LineOut base p p.C (ns + 1) 0 0 (p.err i) w) := by
  obtain ⟨ac, cc, rfl⟩ := own_slice h.cars
  obtain ⟨aS, cS, rfl⟩ := own_slice h.stops
  obtain ⟨ar, cr, rfl⟩ := own_slice h.rides
  obtain ⟨am, cm, rfl⟩ := own_slice h.rows
  obtain ⟨hC1, hC2, hP⟩ := hok
  have hR : p.R ≤ 2048 := by unfold IP.P at hP; omega
  have hsz := hl _ (List.getElem_mem hlt)
  have herr : p.err i = twoE (lineE p.L[i] ⟨#[115, 116, 111, 112]⟩ 7) (numsE (nextW p.L i) [16777216, 16777216, 1000, 1000] p.sc 7 0) := by
    unfold IP.err
    rw [if_neg (by omega), if_pos (by omega), hpT]
    unfold stopE tailE loadE spotE
    rw [if_pos (by decide), nextE_at hlt, twoE_assoc, twoE_assoc]
    simp only [numsE, oneE, twoE_end]
    rfl
  have hwz : ∀ q ∈ nextW p.L i, q.size ≤ 1000000 := nextW_size hl
  have hA0 : stopS p.L i 0 16777216 = oneV (nextW p.L i) [16777216, 16777216, 1000, 1000] p.sc 0 := rfl
  have hA1 : stopS p.L i 1 16777216 = oneV (nextW p.L i) [16777216, 16777216, 1000, 1000] p.sc 1 := rfl
  have hA : stopS p.L i 2 1000 = oneV (nextW p.L i) [16777216, 16777216, 1000, 1000] p.sc 2 := rfl
  have hB : stopS p.L i 3 1000 = oneV (nextW p.L i) [16777216, 16777216, 1000, 1000] p.sc 3 := rfl
  have hM : stopC p.L i 4 p.sc = oneV (nextW p.L i) [16777216, 16777216, 1000, 1000] p.sc 4 := rfl
  have hM3 : stopC p.L i 5 p.sc = oneV (nextW p.L i) [16777216, 16777216, 1000, 1000] p.sc 5 := rfl
  have hM4 : stopC p.L i 6 p.sc = oneV (nextW p.L i) [16777216, 16777216, 1000, 1000] p.sc 6 := rfl
  have hcar : p.stop ns = [.int .i64 (oneV (nextW p.L i) [16777216, 16777216, 1000, 1000] p.sc 2), .int .i64 (oneV (nextW p.L i) [16777216, 16777216, 1000, 1000] p.sc 3), .int .i64 (oneV (nextW p.L i) [16777216, 16777216, 1000, 1000] p.sc 4), .int .i64 (oneV (nextW p.L i) [16777216, 16777216, 1000, 1000] p.sc 5), .int .i64 (oneV (nextW p.L i) [16777216, 16777216, 1000, 1000] p.sc 6), .complex .f64 (Spot.wd (oneV (nextW p.L i) [16777216, 16777216, 1000, 1000] p.sc 0)) (Spot.wd (oneV (nextW p.L i) [16777216, 16777216, 1000, 1000] p.sc 1))] := by
    unfold IP.stop stopL; rw [hpT, if_pos (by decide), hnr, hA, hB, hM, hM3, hM4, hA0, hA1]
  have hlen : lineE p.L[i] ⟨#[115, 116, 111, 112]⟩ 7 = 0 → (nextW p.L i).length = 7 := fun h => by rw [nextW_at hlt]; exact line_words h
  have htail : ∀ w, Calls Tryz.prog 20 #[.string p.L[i], .string ⟨#[115, 116, 111, 112]⟩, .int .i64 8] w (Tail w (nextW p.L i) (lineE p.L[i] ⟨#[115, 116, 111, 112]⟩ 7)) := fun w => by rw [nextW_at hlt]; exact refTail_any p.L[i] ⟨#[115, 116, 111, 112]⟩ 7 w (by omega) (by decide)
  have hnums := fun g o gb cap cb w hg hgb hc hcb (hl3 : (nextW p.L i).length = 7) => nums_any g o gb cap cb (nextW p.L i) [16777216, 16777216, 1000, 1000] p.sc w (by omega) (by decide) hwz (by simp) hg hgb hc hcb
  clear hA0 hA1 hA hB hM hM3 hM4
  generalize nextW p.L i = ws at *
  generalize p.L[i] = s at *
  generalize lineE s ⟨#[115, 116, 111, 112]⟩ 7 = le at *
  generalize p.err i = er at *
  have HER := Lib.hid herr; clear herr
  have HLEN := Lib.hid hlen; clear hlen
  have HT := Lib.hid htail; clear htail
  have HN := Lib.hid hnums; clear hnums
  have HCAR := Lib.hid hcar; clear hcar
  have HROWS := Lib.hid h; clear h
  have hPR : p.P = 2 * p.R + 2 := rfl
  have d1 : decide ((i : Int) < 1 + (p.C : Int)) = false := by simp; omega
  have d2 : decide ((i : Int) < 1 + (p.C : Int) + 2 * (p.R : Int) + 2) = true := by simp; omega
  have hncx : ns ≤ 4096 := by omega
  have hix : i ≤ 9000 := by omega
  have HNC := Lib.hid hnr; clear hnr
  have HPR := Lib.hid hPR; clear hPR
  have HPT := Lib.hid hpT; clear hpT
  clear hl
  unfold LineOut
  go_enter Tryz.func12, Tryz.ntmps12
  go_wp2_with fail
  obtain ⟨X, hX⟩ : ∃ X, X = w.heap.size := ⟨_, rfl⟩
  obtain ⟨Wa, hWa⟩ : ∃ Wa, Wa = ((w.alloc (.cells #[.slice ac p.C cc, .slice aS ns cS, .slice ar 0 cr, .slice am 0 cm] 28)).alloc (.cells #[.slice none 0 0, .slice none 0 0, .slice none 0 0, .slice none 0 0] 28)).alloc (.cells #[] 2) := ⟨_, rfl⟩
  obtain ⟨Wb, hWb⟩ : ∃ Wb, Wb = Wa.alloc (.cells #[.int .i64 16777216, .int .i64 16777216, .int .i64 1000, .int .i64 1000] 2) := ⟨_, rfl⟩
  have hza : Wa.heap.size = X + 1 + 1 + 1 := by rw [hWa, hX]; simp
  have hls : LS base X (X + 1) p p.C ns 0 0 (.slice ac p.C cc) (.slice aS ns cS) (.slice ar 0 cr) (.slice am 0 cm) V w Wb := by
    have hbw : Below w.heap.size w Wb := by rw [hWb, hWa]; exact ((((Below.refl _ _).alloc (Nat.le_refl _) _).alloc (by simp) _).alloc (by simp <;> omega) _).alloc (by simp <;> omega) _
    refine ⟨HROWS.out.below hbw, ?_, ?_, by omega, by omega, by omega, hb, hbw.mono hb, by omega, by omega, fun k cs hk => (hbw.block k (Array.getElem?_eq_some_iff.1 hk).1).trans hk⟩
    · rw [hWb, hWa, hX, Below.heap_alloc _ _ _ (by simp; omega), Below.heap_alloc _ _ _ (by simp; omega), Below.heap_alloc _ _ _ (by simp)]; exact World.alloc_heap_new w _
    · rw [hWb, hWa, hX, Below.heap_alloc _ _ _ (by simp), Below.heap_alloc _ _ _ (by simp)]
      rw [← World.size_alloc w (.cells #[.slice ac p.C cc, .slice aS ns cS, .slice ar 0 cr, .slice am 0 cm] 28)]; exact World.alloc_heap_new _ _
  have hbs : Wb.heap[X + 1 + 1 + 1]? = some (.cells #[.int .i64 16777216, .int .i64 16777216, .int .i64 1000, .int .i64 1000] 2) := by rw [hWb, ← hza]; exact World.alloc_heap_new _ _
  rw [← hX, ← hWa, ← hWb]
  have HLS := Lib.hid hls; clear hls
  have HBS := Lib.hid hbs; clear hbs
  clear hWa hWb hza HROWS hX
  refine (HT.out _).mono ?_
  rintro e w1 ⟨v, rfl, hb1, hst⟩
  have L1 := Lib.hid (HLS.out.below hb1)
  have hbs1 := (hb1.block (X + 1 + 1 + 1) (Array.getElem?_eq_some_iff.1 HBS.out).1).trans HBS.out
  have HBS1 := Lib.hid hbs1; clear hbs1 hb1
  clear HLS HBS
  by_cases hle : le = 0
  · subst hle
    have hw3 := HLEN.out rfl
    obtain ⟨av, capv, rfl, hcapv, hv | ⟨g, o, rfl, -, hgl, hgc⟩⟩ := hst rfl
    · rw [hv] at hw3; cases hw3
    · have her := HER.out
      rw [twoE_ok] at her
      have hn := HN.out g o (X + 1 + 1 + 1) capv 4 w1 hgl (Array.getElem?_eq_some_iff.1 HBS1.out).1 hgc (fun j hj => by
        rw [own_cell HBS1.out]
        match j, hj with
        | 0, _ => rfl
        | 1, _ => rfl
        | 2, _ => rfl
        | 3, _ => rfl) hw3
      rw [hw3] at hn
      have HNN := Lib.hid hn; clear hn hgc hcapv hst
      have HER2 := Lib.hid her; clear her HER HN HT HLEN
      rw [hw3]
      go_wp2_with fail
      refine HNN.out.mono ?_
      rintro e w2 ⟨hb2, ⟨hn0, vn, rfl, hown⟩ | ⟨hn0, rfl⟩⟩
      · have her0 := HER2.out
        rw [hn0] at her0
        subst her0
        have L2 := Lib.hid (L1.out.below hb2)
        obtain ⟨gn, capn, rfl, hgn, hcn, hbn, hcell⟩ := nums_cell hown (by decide)
        have c0 := hcell 0 (by decide)
        have c1 := hcell 1 (by decide)
        have c2 := hcell 2 (by decide)
        have c3 := hcell 3 (by decide)
        have c4 := hcell 4 (by decide)
        have c5 := hcell 5 (by decide)
        have c6 := hcell 6 (by decide)
        have hcr := HCAR.out
        generalize oneV ws [16777216, 16777216, 1000, 1000] p.sc 0 = e0 at *
        generalize oneV ws [16777216, 16777216, 1000, 1000] p.sc 1 = e1 at *
        generalize oneV ws [16777216, 16777216, 1000, 1000] p.sc 2 = e2 at *
        generalize oneV ws [16777216, 16777216, 1000, 1000] p.sc 3 = e3 at *
        generalize oneV ws [16777216, 16777216, 1000, 1000] p.sc 4 = e4 at *
        generalize oneV ws [16777216, 16777216, 1000, 1000] p.sc 5 = e5 at *
        generalize oneV ws [16777216, 16777216, 1000, 1000] p.sc 6 = e6 at *
        generalize hd0 : Spot.wd e0 = d0 at *
        generalize hd1 : Spot.wd e1 = d1' at *
        have HD01 := Lib.hid (And.intro hd0 hd1); clear hd0 hd1
        have HCR := Lib.hid hcr; clear hcr HCAR HER2
        have k0 := L2.out.cell.2.1
        have z2 := L2.out.lt
        have hsp : ∀ w, Calls Tryz.prog 23 #[.int .i64 e0, .int .i64 e1] w fun e w' => e = .returned (.complex .f64 d0 d1') ∧ w = w' := fun w => by rw [← HD01.out.1, ← HD01.out.2]; exact refSpot_any e0 e1 w
        have HSP := Lib.hid hsp; clear hsp
        have hc2 : ¬ capn = 2 := by omega
        clear hcell hown hb2 hn0
        go_wp2_with fail
        go_region_with (go_at_call 23; refine (HSP.out _).mono ?_; rintro e w' ⟨rfl, rfl⟩)
        all_goals
          go_wp2_with fail
          go_region
        all_goals
          go_wp2_with (first
            | (at_builtin; refine lwp_stop (b := w2.heap.size + 1) (l := [.int .i64 e2, .int .i64 e3, .int .i64 e4, .int .i64 e5, .int .i64 e6, .complex .f64 d0 d1']) (by first | exact ((L2.out.alloc _).alloc _).drew | exact ((L2.out.alloc _).alloc _).drew.drew | exact (L2.out.alloc _).alloc _) (by omega) HCR.out rfl (.tmp 138) (.tmp 140) rfl rfl rfl (by exact cells_made2 (l := [_, _, _, _, _, _]) (by simp)) ?_; intro g3 p3 w3 L3 c3' f3 HXQ; have y0 : w3.cell? ⟨X, 0, none⟩ = some (.slice ac p.C cc) := (own_cell HXQ.out.1).trans rfl; have y2 : w3.cell? ⟨X, 2, none⟩ = some (.slice ar 0 cr) := (own_cell HXQ.out.1).trans rfl; have y3 : w3.cell? ⟨X, 3, none⟩ = some (.slice am 0 cm) := (own_cell HXQ.out.1).trans rfl; have q0 : w3.cell? ⟨X + 1, 0, none⟩ = some (.slice none 0 0) := (own_cell HXQ.out.2).trans rfl; have q1 : w3.cell? ⟨X + 1, 1, none⟩ = some (.slice none 0 0) := (own_cell HXQ.out.2).trans rfl; have q2 : w3.cell? ⟨X + 1, 2, none⟩ = some (.slice none 0 0) := (own_cell HXQ.out.2).trans rfl; have q3 : w3.cell? ⟨X + 1, 3, none⟩ = some (.slice none 0 0) := (own_cell HXQ.out.2).trans rfl; have fq : ∀ j, w3.frozen? ⟨X + 1, j, none⟩ = false := fun j => own_free HXQ.out.2))
          clear y0 y2 y3 q0 q1 q2 q3 fq c3' f3 k0 z2 c0 c1 c2 c3 c4 c5 c6
          have HD := Lib.hid L3.out.done
          have hq := HD.out.2.2
          refine bodyPost_ret (v := .tuple #[.agg #[.slice ac p.C cc, .slice (some ⟨g3, 0, none⟩) (ns + 1) p3, .slice ar 0 cr, .slice am 0 cm], .int .i64 0]) (by simp [results, Tryz.results12, go_sem, World.cell?, hq]) rfl ?_
          exact ⟨_, _, _, _, rfl, Lib.hid ⟨HD.out.1, V, _, _, _, _, HD.out.2.1, by first | exact ⟨rfl, rfl, rfl, rfl⟩ | exact fun _ => ⟨rfl, rfl, rfl, rfl⟩⟩⟩
      · have her0 := HER2.out
        have L2 := Lib.hid (L1.out.below hb2)
        rw [← her0] at hn0 ⊢
        obtain ⟨x0, x1, x2, x3⟩ := L2.out.cell
        have hq := L2.out.res
        have q0 : w2.cell? ⟨X + 1, 0, none⟩ = some (.slice none 0 0) := (own_cell hq).trans rfl
        have q1 : w2.cell? ⟨X + 1, 1, none⟩ = some (.slice none 0 0) := (own_cell hq).trans rfl
        have q2 : w2.cell? ⟨X + 1, 2, none⟩ = some (.slice none 0 0) := (own_cell hq).trans rfl
        have q3 : w2.cell? ⟨X + 1, 3, none⟩ = some (.slice none 0 0) := (own_cell hq).trans rfl
        have f0 : ∀ j, w2.frozen? ⟨X + 1, j, none⟩ = false := fun j => own_free hq
        have HD := Lib.hid L2.out.done
        clear hq
        have HNE := Lib.hid hn0
        have HER3 := Lib.hid her0; clear her0 HER2
        go_wp2_with fail
        clear x0 x1 x2 x3 q0 q1 q2 q3 f0
        have hq := HD.out.2.2
        refine bodyPost_ret (v := .tuple #[.agg #[.slice ac p.C cc, .slice aS ns cS, .slice ar 0 cr, .slice am 0 cm], .int .i64 er]) (by simp [results, Tryz.results12, go_sem, World.cell?, hq]) rfl ?_
        exact ⟨_, _, _, _, rfl, Lib.hid ⟨HD.out.1, V, _, _, _, _, HD.out.2.1, fun h => absurd h HNE.out⟩⟩
  · have her := HER.out
    rw [twoE_no _ hle] at her
    subst her
    obtain ⟨x0, x1, x2, x3⟩ := L1.out.cell
    have hq := L1.out.res
    have q0 : w1.cell? ⟨X + 1, 0, none⟩ = some (.slice none 0 0) := (own_cell hq).trans rfl
    have q1 : w1.cell? ⟨X + 1, 1, none⟩ = some (.slice none 0 0) := (own_cell hq).trans rfl
    have q2 : w1.cell? ⟨X + 1, 2, none⟩ = some (.slice none 0 0) := (own_cell hq).trans rfl
    have q3 : w1.cell? ⟨X + 1, 3, none⟩ = some (.slice none 0 0) := (own_cell hq).trans rfl
    have f0 : ∀ j, w1.frozen? ⟨X + 1, j, none⟩ = false := fun j => own_free hq
    have HD := Lib.hid L1.out.done
    clear hq
    clear hst
    have HNE := Lib.hid hle
    go_wp2_with fail
    clear x0 x1 x2 x3 q0 q1 q2 q3 f0
    have hq := HD.out.2.2
    refine bodyPost_ret (v := .tuple #[.agg #[.slice ac p.C cc, .slice aS ns cS, .slice ar 0 cr, .slice am 0 cm], .int .i64 er]) (by simp [results, Tryz.results12, go_sem, World.cell?, hq]) rfl ?_
    exact ⟨_, _, _, _, rfl, Lib.hid ⟨HD.out.1, V, _, _, _, _, HD.out.2.1, fun h => absurd h HNE.out⟩⟩
end Sheet
end Go.Proofs.YtjmhlabgoegeoaaGreatDoor
