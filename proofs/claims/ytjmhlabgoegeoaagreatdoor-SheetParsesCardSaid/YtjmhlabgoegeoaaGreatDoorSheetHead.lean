/- Package sheet's reader: head; over the translated program. -/
import Derived.Test.YtjmhlabgoegeoaaGreatDoorSheetStop
namespace Go.Proofs.YtjmhlabgoegeoaaGreatDoor
namespace Sheet
open Go Go.RowKit Deci
def wJitney : ByteArray := ⟨#[106, 105, 116, 110, 101, 121]⟩
def wSpots : ByteArray := ⟨#[115, 112, 111, 116, 115]⟩
def wTimes : ByteArray := ⟨#[116, 105, 109, 101, 115]⟩
/-- The errors of the first line's words. -/
def lastE (d : ByteArray) (cars rides : Int) : Int :=
  if d ≠ wSpots ∧ d ≠ wTimes then 21 else if cars = 0 then 1 else if 64 < cars ∨ 4096 < 2 * rides + 2 then 3 else 0
def scaleE (v : Int) : Int := if 6 < v then 23 else 0
def headE (L : List ByteArray) : Int :=
  twoE (nextE L 0 wJitney 4) (twoE (wholeE (wAt L 0 0).data.toList) (twoE (scaleE (wholeV (wAt L 0 0).data.toList))
    (twoE (wholeE (wAt L 0 1).data.toList) (twoE (wholeE (wAt L 0 2).data.toList) (lastE (wAt L 0 3) (wholeV (wAt L 0 1).data.toList) (wholeV (wAt L 0 2).data.toList))))))
def headS (L : List ByteArray) : Int := wholeV (wAt L 0 0).data.toList
def headC (L : List ByteArray) : Int := wholeV (wAt L 0 1).data.toList
def headR (L : List ByteArray) : Int := wholeV (wAt L 0 2).data.toList
def headT (L : List ByteArray) : Bool := decide (wAt L 0 3 = wTimes)
theorem readV_bd (l : List UInt8) (s : Int) : -1099511627776 ≤ readV l s ∧ readV l s ≤ 1099511627776 := by
  unfold readV
  split
  · omega
  · split
    · omega
    · split
      · omega
      · split <;> omega
theorem wholeV_bd (l : List UInt8) : -1099511627776 ≤ wholeV l ∧ wholeV l ≤ 1099511627776 := by
  unfold wholeV
  split
  · omega
  · exact readV_bd l 0
theorem len4 {ws : List ByteArray} (h : ws.length = 4) : ∃ a b c d, ws = [a, b, c, d] := by
  match ws, h with
  | [a, b, c, d], _ => exact ⟨a, b, c, d, rfl⟩
theorem ne_list {a b : ByteArray} (h : ¬ a = b) : (a.toList == b.toList) = false := by
  rw [Lib.toList_data, Lib.toList_data, beq_eq_false_iff_ne]
  intro h'
  exact h (by rw [← strOf_data a, h', strOf_data])
section
variable {N B M : Nat} {Av : List Nat} {L ps : List ByteArray} {ln sc : Int} {w : World}
theorem St.scale (h : St N B M Av L ln ps sc w) (z : Int) : St N B M Av L ln ps z (w.setCell ⟨B, 3, none⟩ (.int .i64 z)) ∧ w.grownBy (w.setCell ⟨B, 3, none⟩ (.int .i64 z)) (some B) := by
  have hlt := h.lt
  have hg := grown_set w ⟨B, 3, none⟩ (.int .i64 z)
  obtain ⟨⟨lv, wv, h1, h2, h3⟩, h4, h5, h6, h7, h8⟩ := h
  exact ⟨⟨⟨lv, wv, h1.s3 z, h2.grown (.inl rfl) hg, h3.grown (.inl rfl) hg⟩, h4.below (below_of hg h5 hlt), h5, h6, by rw [World.size_setCell]; exact h7, fun b hb => by rw [World.size_setCell]; exact h8 b hb⟩, hg⟩
end
theorem word_res {N B M : Nat} {Av : List Nat} {L : List ByteArray} {ln sc : Int} {p : ByteArray} {ps : List ByteArray} {w : World} (hl : ps.length ≤ 1000000) (h : St N B M Av L ln (p :: ps) sc w) :
    Calls Tryz.prog 83 #[.pointer (some ⟨B, 0, none⟩)] w fun e w' => e = .returned (.string p) ∧ w.grownBy w' (some B) ∧ St N B M Av L ln ps sc w' :=
  (word_any N B M Av L ln sc p ps w hl h).mono fun _ _ h => ⟨h.1, h.2.2, h.2.1⟩
theorem stops_any (n : Int) (w : World) (h1 : -1099511627776 ≤ n) (h2 : n ≤ 1099511627776) :
    Calls Tryz.prog 50 #[.int .i64 n] w fun e w' => e = .returned (.int .i64 (2 * n + 2)) ∧ w = w' := by
  go_enter Tryz.func50, Tryz.ntmps50
  go_wp2
  go_ret
  exact ⟨rfl, rfl⟩
theorem ne_data {a : ByteArray} {l : List UInt8} (h : ¬ a = ⟨l.toArray⟩) : ¬ a.toList = l := by
  rw [Lib.toList_data]
  intro h'
  exact h (by rw [← strOf_data a, h']; rfl)
set_option maxRecDepth 100000 in
set_option maxHeartbeats 2000000 in
theorem head_any (N B M : Nat) (Av : List Nat) (L : List ByteArray) (sc : Int) (ps : List ByteArray) (w : World) (hl : ∀ s ∈ L, s.size ≤ 1000000) (hn2 : L.length ≤ 1000000) (h : St N B M Av L 0 ps sc w) :
    Calls Tryz.prog 49 #[.pointer (some ⟨B, 0, none⟩)] w (Res N B M Av L 1 [] (headS L) w (headE L) (.agg #[.int .i64 (headC L), .int .i64 (headR L), .bool (headT L)])) := by
  have h0 : ∀ Av w, St N B M Av L 0 ps sc w → Calls Tryz.prog 81 #[.pointer (some ⟨B, 0, none⟩), .string wJitney, .int .i64 4] w (Res N B M Av L 1 (nextW L 0) sc w (nextE L 0 wJitney 4) (.tuple #[])) := fun Av w h => next_any N B M Av L 0 sc ps wJitney 4 w (by decide) hl hn2 (by decide) h
  have HS0 := Lib.hid h; clear h
  have hB : B ≠ w.heap.size := Nat.ne_of_lt HS0.out.lt
  have HB := Lib.hid hB; clear hB
  have hw := nextW_size (n := 0) hl
  unfold headE headS headC headR headT wAt
  by_cases he : nextE L 0 wJitney 4 = 0
  · obtain ⟨a, b, c, d, hp⟩ := len4 (next_words he)
    rw [he] at h0
    rw [he, twoE_ok]
    rw [hp] at h0 hw ⊢
    have hsa : a.size ≤ 1000000 := hw a (by simp)
    have hsb : b.size ≤ 1000000 := hw b (by simp)
    have hsc : c.size ≤ 1000000 := hw c (by simp)
    have h1 : ∀ Av w1, St N B M Av L 1 [a, b, c, d] sc w1 → _ := fun Av w1 h => whole_res (w := w1) (by simp) (by omega) h
    have h2 : ∀ sc Av w1, St N B M Av L 1 [b, c, d] sc w1 → _ := fun sc Av w1 h => whole_res (w := w1) (by simp) (by omega) h
    have h3 : ∀ sc Av w1, St N B M Av L 1 [c, d] sc w1 → _ := fun sc Av w1 h => whole_res (w := w1) (by simp) (by omega) h
    have h4 : ∀ sc Av w1, St N B M Av L 1 [d] sc w1 → _ := fun sc Av w1 h => word_res (w := w1) (by simp) h
    have k1 : (6 < wholeV a.data.toList → scaleE (wholeV a.data.toList) = 23) ∧ (¬ 6 < wholeV a.data.toList → scaleE (wholeV a.data.toList) = 0) := ⟨fun h => if_pos h, fun h => if_neg h⟩
    have b1 := wholeV_bd a.data.toList
    have b2 := wholeV_bd b.data.toList
    have b3 := wholeV_bd c.data.toList
    simp only [List.getD_cons_zero, List.getD_cons_succ] at *
    generalize wholeE a.data.toList = e1 at *
    generalize scaleE (wholeV a.data.toList) = es at *
    generalize wholeV a.data.toList = v1 at *
    have HK1 := Lib.hid k1; clear k1
    generalize wholeE b.data.toList = e2 at *
    generalize wholeV b.data.toList = v2 at *
    generalize wholeE c.data.toList = e3 at *
    generalize wholeV c.data.toList = v3 at *
    have H0 := Lib.hid fun Av w h => ((h0 Av w h).mono fun _ _ h => res_yes h); clear h0
    have H1 := Lib.hid h1; clear h1
    have H2 := Lib.hid h2; clear h2
    have H3 := Lib.hid h3; clear h3
    have H4 := Lib.hid h4; clear h4
    clear hw hl hp hsa hsb hsc
    go_enter Tryz.func49, Tryz.ntmps49
    go_wp2_with fail
    have B0 : Below w.heap.size w (w.alloc (.cells #[.int .i64 0, .int .i64 0, .bool false] 101)) := (Below.refl _ _).alloc (Nat.le_refl _) _
    have n0 : (w.alloc (.cells #[.int .i64 0, .int .i64 0, .bool false] 101)).heap[w.heap.size]? = some (.cells #[.int .i64 0, .int .i64 0, .bool false] 101) := World.alloc_heap_new w _
    have s0 := HS0.out.fresh (.cells #[.int .i64 0, .int .i64 0, .bool false] 101)
    generalize w.alloc (.cells #[.int .i64 0, .int .i64 0, .bool false] 101) = w0 at *
    refine (H0.out _ _ s0).mono ?_
    rintro e w1 ⟨rfl, hg1, hs1⟩
    have NR := Lib.hid (own_kept hg1 HB.out n0); clear n0
    have G := Lib.hid ((grown_of B0 _).trans hg1); clear hg1 B0 s0
    have S := Lib.hid hs1; clear hs1
    go_wp2_with fail
    refine (H1.out _ _ S.out).mono ?_
    rintro e w2 ⟨hg, ho⟩
    rcases ho.symm with ⟨he1, rfl⟩ | ⟨he1, rfl, hs⟩
    · rw [twoE_no _ he1]
      go_wp2_with fail
      exact ⟨rfl, G.out.trans hg, .inr ⟨he1, rfl⟩⟩
    clear ho; subst he1; rw [twoE_ok]
    replace NR := Lib.hid (own_kept hg HB.out NR.out)
    replace G := Lib.hid (G.out.trans hg); clear hg
    replace S := Lib.hid hs; clear hs
    have c3 := S.out.c3
    have f3 := S.out.fz 3
    have hS := S.out.scale v1
    have hNR : (w2.setCell ⟨B, 3, none⟩ (.int .i64 v1)).heap[w.heap.size]? = _ := own_other NR.out (fun e => HB.out e.symm) _
    replace G := Lib.hid (G.out.trans hS.2)
    replace S := Lib.hid hS.1
    replace NR := Lib.hid hNR
    clear hS hNR
    by_cases hv : 6 < v1
    · go_wp2_with (go_at_call 48; refine (giveUp_any B 1 23 _ S.out.c1).mono ?_; rintro e w' ⟨rfl, rfl⟩)
      refine ⟨rfl, G.out, .inr ?_⟩
      rw [HK1.out.1 hv, twoE_ok, twoE_no _ (by decide)]
      exact ⟨by decide, rfl⟩
    have hes := HK1.out.2 (by omega)
    subst hes
    clear HK1
    go_wp2_with fail
    refine (H2.out _ _ _ S.out).mono ?_
    rintro e w3 ⟨hg, ho⟩
    rcases ho.symm with ⟨he2, rfl⟩ | ⟨he2, rfl, hs⟩
    · go_wp2_with fail
      refine ⟨rfl, G.out.trans hg, .inr ?_⟩
      rw [twoE_ok, twoE_ok, twoE_no _ he2]
      exact ⟨he2, rfl⟩
    clear ho; subst he2
    replace NR := Lib.hid (own_kept hg HB.out NR.out)
    replace G := Lib.hid (G.out.trans hg); clear hg
    replace S := Lib.hid hs; clear hs
    go_wp2_with fail
    refine (H3.out _ _ _ S.out).mono ?_
    rintro e w4 ⟨hg, ho⟩
    rcases ho.symm with ⟨he3, rfl⟩ | ⟨he3, rfl, hs⟩
    · go_wp2_with fail
      refine ⟨rfl, G.out.trans hg, .inr ?_⟩
      rw [twoE_ok, twoE_ok, twoE_ok, twoE_no _ he3]
      exact ⟨he3, rfl⟩
    clear ho; subst he3
    replace NR := Lib.hid (own_kept hg HB.out NR.out)
    replace G := Lib.hid (G.out.trans hg); clear hg
    replace S := Lib.hid hs; clear hs
    have hlt4 : w.heap.size < w4.heap.size := (Array.getElem?_eq_some_iff.1 NR.out).1
    have hB4 : B ≠ w4.heap.size := Nat.ne_of_lt S.out.lt
    have HB4 := Lib.hid hB4; clear hB4
    clear c3 f3
    go_wp2_with fail
    have n5 : (w4.alloc (.cells #[.int .i64 v2, .int .i64 v3, .bool false] 101)).heap[w4.heap.size]? = some (.cells #[.int .i64 v2, .int .i64 v3, .bool false] 101) := World.alloc_heap_new w4 _
    have m5 : (w4.alloc (.cells #[.int .i64 v2, .int .i64 v3, .bool false] 101)).heap[w.heap.size]? = _ := (Below.heap_alloc w4 (.cells #[.int .i64 v2, .int .i64 v3, .bool false] 101) _ hlt4).trans NR.out
    have s5 := S.out.fresh (.cells #[.int .i64 v2, .int .i64 v3, .bool false] 101)
    have g5 := G.out.trans (grown_of ((Below.refl _ _).alloc (Nat.le_refl _) (.cells #[.int .i64 v2, .int .i64 v3, .bool false] 101)) (some B))
    generalize w4.alloc (.cells #[.int .i64 v2, .int .i64 v3, .bool false] 101) = w5 at *
    refine (H4.out _ _ _ s5).mono ?_
    rintro e w6 ⟨rfl, hg, hs⟩
    have NS := Lib.hid (own_kept hg HB4.out n5); clear n5
    replace NR := Lib.hid (own_kept hg HB.out m5); clear m5
    replace G := Lib.hid (g5.trans hg); clear g5 hg
    replace S := Lib.hid hs; clear hs s5
    have r0 : w6.cell? ⟨w.heap.size, 0, none⟩ = some (.int .i64 0) := (own_cell NR.out).trans rfl
    have r1 : w6.cell? ⟨w.heap.size, 1, none⟩ = some (.int .i64 0) := (own_cell NR.out).trans rfl
    have r2 : w6.cell? ⟨w.heap.size, 2, none⟩ = some (.bool false) := (own_cell NR.out).trans rfl
    have y0 : w6.frozen? ⟨w.heap.size, 0, none⟩ = false := own_free NR.out
    have y1 : w6.frozen? ⟨w.heap.size, 1, none⟩ = false := own_free NR.out
    have y2 : w6.frozen? ⟨w.heap.size, 2, none⟩ = false := own_free NR.out
    have z0 : w6.cell? ⟨w4.heap.size, 0, none⟩ = some (.int .i64 v2) := (own_cell NS.out).trans rfl
    have z1 : w6.cell? ⟨w4.heap.size, 1, none⟩ = some (.int .i64 v3) := (own_cell NS.out).trans rfl
    have z2 : w6.cell? ⟨w4.heap.size, 2, none⟩ = some (.bool false) := (own_cell NS.out).trans rfl
    have x2 : w6.frozen? ⟨w4.heap.size, 2, none⟩ = false := own_free NS.out
    have q1 : w.heap.size ≠ w4.heap.size := by omega
    have q2 : w4.heap.size ≠ w.heap.size := by omega
    obtain ⟨p1, p2⟩ := b3
    obtain ⟨o1, o2⟩ := b2
    clear H0 H1 H2 H3 H4 he hn2
    by_cases hd1 : d = wSpots
    · have hd : ¬ (d ≠ wSpots ∧ d ≠ wTimes) := by simp [hd1]
      have hdt : decide (d = wTimes) = false := by rw [hd1]; decide
      have HDT := Lib.hid hdt; clear hdt
      have HLE := Lib.hid (show (v2 = 0 → lastE d v2 v3 = 1) ∧ (v2 ≠ 0 → (64 < v2 ∨ 4096 < 2 * v3 + 2) → lastE d v2 v3 = 3) ∧ (v2 ≠ 0 → ¬ (64 < v2 ∨ 4096 < 2 * v3 + 2) → lastE d v2 v3 = 0) from ⟨fun h => (if_neg hd).trans (if_pos h), fun h1 h2 => ((if_neg hd).trans (if_neg h1)).trans (if_pos h2), fun h1 h2 => ((if_neg hd).trans (if_neg h1)).trans (if_neg h2)⟩); clear hd
      unfold wSpots at hd1
      subst hd1
      by_cases hv0 : v2 = 0
      · have hE := HLE.out.1 hv0
        have HE := Lib.hid hE; clear hE
        subst hv0
        go_wp2_with (go_at_call 48; refine (giveUp_any B 1 1 _ S.out.c1).mono ?_; rintro e w' ⟨rfl, rfl⟩)
        refine ⟨rfl, G.out, .inr ?_⟩
        rw [twoE_ok, twoE_ok, twoE_ok, twoE_ok, HE.out]
        exact ⟨by decide, rfl⟩
      by_cases hv1 : 64 < v2 ∨ 4096 < 2 * v3 + 2
      · have hE := HLE.out.2.1 hv0 hv1
        have HE := Lib.hid hE; clear hE
        by_cases hv2 : 64 < v2
        · clear hv1
          go_wp2_with (first | (go_at_call 50; refine (stops_any v3 _ p1 p2).mono ?_; rintro e w' ⟨rfl, rfl⟩) | (go_at_call 48; refine (giveUp_any B 1 3 _ S.out.c1).mono ?_; rintro e w' ⟨rfl, rfl⟩))
          refine ⟨rfl, G.out, .inr ?_⟩
          rw [twoE_ok, twoE_ok, twoE_ok, twoE_ok, HE.out]
          exact ⟨by decide, rfl⟩
        · have hv3 : 4096 < 2 * v3 + 2 := by omega
          clear hv1
          go_wp2_with (first | (go_at_call 50; refine (stops_any v3 _ p1 p2).mono ?_; rintro e w' ⟨rfl, rfl⟩) | (go_at_call 48; refine (giveUp_any B 1 3 _ S.out.c1).mono ?_; rintro e w' ⟨rfl, rfl⟩))
          refine ⟨rfl, G.out, .inr ?_⟩
          rw [twoE_ok, twoE_ok, twoE_ok, twoE_ok, HE.out]
          exact ⟨by decide, rfl⟩
      have hE := HLE.out.2.2 hv0 hv1
      have HE := Lib.hid hE; clear hE
      have hv2 : ¬ 64 < v2 := by omega
      have hv3 : ¬ 4096 < 2 * v3 + 2 := by omega
      clear hv1
      go_wp2_with (go_at_call 50; refine (stops_any v3 _ p1 p2).mono ?_; rintro e w' ⟨rfl, rfl⟩)
      have hN : (((w6.setCell ⟨w.heap.size, 0, none⟩ (.int .i64 v2)).setCell ⟨w.heap.size, 1, none⟩ (.int .i64 v3)).setCell ⟨w.heap.size, 2, none⟩ (.bool false)).heap[w.heap.size]? = some (.cells #[.int .i64 v2, .int .i64 v3, .bool false] 101) := (own_set (own_set (own_set NR.out (.int .i64 v2)) (.int .i64 v3)) (.bool false))
      have hG : w.grownBy (((w6.setCell ⟨w.heap.size, 0, none⟩ (.int .i64 v2)).setCell ⟨w.heap.size, 1, none⟩ (.int .i64 v3)).setCell ⟨w.heap.size, 2, none⟩ (.bool false)) (some B) := (grown_own (grown_own (grown_own G.out (a := ⟨w.heap.size, 0, none⟩) (Nat.le_refl _) _) (a := ⟨w.heap.size, 1, none⟩) (Nat.le_refl _) _) (a := ⟨w.heap.size, 2, none⟩) (Nat.le_refl _) _)
      have hS : St N B M Av L 1 [] v1 (((w6.setCell ⟨w.heap.size, 0, none⟩ (.int .i64 v2)).setCell ⟨w.heap.size, 1, none⟩ (.int .i64 v3)).setCell ⟨w.heap.size, 2, none⟩ (.bool false)) := (((S.out.set (a := ⟨w.heap.size, 0, none⟩) (by simp) _).set (a := ⟨w.heap.size, 1, none⟩) (by simp) _).set (a := ⟨w.heap.size, 2, none⟩) (by simp) _).drop.drop
      clear r0 r1 r2 y0 y1 y2 z0 z1 z2 x2
      generalize (((w6.setCell ⟨w.heap.size, 0, none⟩ (.int .i64 v2)).setCell ⟨w.heap.size, 1, none⟩ (.int .i64 v3)).setCell ⟨w.heap.size, 2, none⟩ (.bool false)) = W at *
      have e0 : W.cell? ⟨w.heap.size, 0, none⟩ = some (.int .i64 v2) := (own_cell hN).trans rfl
      have e1 : W.cell? ⟨w.heap.size, 1, none⟩ = some (.int .i64 v3) := (own_cell hN).trans rfl
      have e2 : W.cell? ⟨w.heap.size, 2, none⟩ = some (.bool false) := (own_cell hN).trans rfl
      refine bodyPost_ret (v := .agg #[.int .i64 v2, .int .i64 v3, .bool false]) (by simp [results, Tryz.results49, go_sem, e0, e1, e2]) rfl ?_
      refine ⟨hG, .inl ⟨?_, ?_, hS⟩⟩
      · rw [twoE_ok, twoE_ok, twoE_ok, twoE_ok, HE.out]
      · rw [HDT.out]
    · by_cases hd2 : d = wTimes
      · have hd : ¬ (d ≠ wSpots ∧ d ≠ wTimes) := by simp [hd2]
        have hdt : decide (d = wTimes) = true := by simp [hd2]
        have HDT := Lib.hid hdt; clear hdt
        have HLE := Lib.hid (show (v2 = 0 → lastE d v2 v3 = 1) ∧ (v2 ≠ 0 → (64 < v2 ∨ 4096 < 2 * v3 + 2) → lastE d v2 v3 = 3) ∧ (v2 ≠ 0 → ¬ (64 < v2 ∨ 4096 < 2 * v3 + 2) → lastE d v2 v3 = 0) from ⟨fun h => (if_neg hd).trans (if_pos h), fun h1 h2 => ((if_neg hd).trans (if_neg h1)).trans (if_pos h2), fun h1 h2 => ((if_neg hd).trans (if_neg h1)).trans (if_neg h2)⟩); clear hd
        unfold wTimes at hd2
        subst hd2
        clear hd1
        have hS6 : St N B M (w4.heap.size :: w.heap.size :: Av) L 1 [] v1 (w6.setCell ⟨w4.heap.size, 2, none⟩ (.bool true)) := S.out.set (a := ⟨w4.heap.size, 2, none⟩) (by simp) _
        have hG6 : w.grownBy (w6.setCell ⟨w4.heap.size, 2, none⟩ (.bool true)) (some B) := grown_own G.out (a := ⟨w4.heap.size, 2, none⟩) (by show w.heap.size ≤ w4.heap.size; omega) _
        have hN6 : (w6.setCell ⟨w4.heap.size, 2, none⟩ (.bool true)).heap[w.heap.size]? = some (.cells #[.int .i64 0, .int .i64 0, .bool false] 101) := own_other NR.out (by omega) _
        replace S := Lib.hid hS6; replace G := Lib.hid hG6; replace NR := Lib.hid hN6; clear hS6 hG6 hN6
        by_cases hv0 : v2 = 0
        · have hE := HLE.out.1 hv0
          have HE := Lib.hid hE; clear hE
          subst hv0
          go_wp2_with (go_at_call 48; refine (giveUp_any B 1 1 _ S.out.c1).mono ?_; rintro e w' ⟨rfl, rfl⟩)
          refine ⟨rfl, G.out, .inr ?_⟩
          rw [twoE_ok, twoE_ok, twoE_ok, twoE_ok, HE.out]
          exact ⟨by decide, rfl⟩
        by_cases hv1 : 64 < v2 ∨ 4096 < 2 * v3 + 2
        · have hE := HLE.out.2.1 hv0 hv1
          have HE := Lib.hid hE; clear hE
          by_cases hv2 : 64 < v2
          · clear hv1
            go_wp2_with (first | (go_at_call 50; refine (stops_any v3 _ p1 p2).mono ?_; rintro e w' ⟨rfl, rfl⟩) | (go_at_call 48; refine (giveUp_any B 1 3 _ S.out.c1).mono ?_; rintro e w' ⟨rfl, rfl⟩))
            refine ⟨rfl, G.out, .inr ?_⟩
            rw [twoE_ok, twoE_ok, twoE_ok, twoE_ok, HE.out]
            exact ⟨by decide, rfl⟩
          · have hv3 : 4096 < 2 * v3 + 2 := by omega
            clear hv1
            go_wp2_with (first | (go_at_call 50; refine (stops_any v3 _ p1 p2).mono ?_; rintro e w' ⟨rfl, rfl⟩) | (go_at_call 48; refine (giveUp_any B 1 3 _ S.out.c1).mono ?_; rintro e w' ⟨rfl, rfl⟩))
            refine ⟨rfl, G.out, .inr ?_⟩
            rw [twoE_ok, twoE_ok, twoE_ok, twoE_ok, HE.out]
            exact ⟨by decide, rfl⟩
        have hE := HLE.out.2.2 hv0 hv1
        have HE := Lib.hid hE; clear hE
        have hv2 : ¬ 64 < v2 := by omega
        have hv3 : ¬ 4096 < 2 * v3 + 2 := by omega
        clear hv1
        go_wp2_with (go_at_call 50; refine (stops_any v3 _ p1 p2).mono ?_; rintro e w' ⟨rfl, rfl⟩)
        have hN : ((((w6.setCell ⟨w4.heap.size, 2, none⟩ (.bool true)).setCell ⟨w.heap.size, 0, none⟩ (.int .i64 v2)).setCell ⟨w.heap.size, 1, none⟩ (.int .i64 v3)).setCell ⟨w.heap.size, 2, none⟩ (.bool true)).heap[w.heap.size]? = some (.cells #[.int .i64 v2, .int .i64 v3, .bool true] 101) := (own_set (own_set (own_set NR.out (.int .i64 v2)) (.int .i64 v3)) (.bool true))
        have hG : w.grownBy ((((w6.setCell ⟨w4.heap.size, 2, none⟩ (.bool true)).setCell ⟨w.heap.size, 0, none⟩ (.int .i64 v2)).setCell ⟨w.heap.size, 1, none⟩ (.int .i64 v3)).setCell ⟨w.heap.size, 2, none⟩ (.bool true)) (some B) := (grown_own (grown_own (grown_own G.out (a := ⟨w.heap.size, 0, none⟩) (Nat.le_refl _) _) (a := ⟨w.heap.size, 1, none⟩) (Nat.le_refl _) _) (a := ⟨w.heap.size, 2, none⟩) (Nat.le_refl _) _)
        have hS : St N B M Av L 1 [] v1 ((((w6.setCell ⟨w4.heap.size, 2, none⟩ (.bool true)).setCell ⟨w.heap.size, 0, none⟩ (.int .i64 v2)).setCell ⟨w.heap.size, 1, none⟩ (.int .i64 v3)).setCell ⟨w.heap.size, 2, none⟩ (.bool true)) := (((S.out.set (a := ⟨w.heap.size, 0, none⟩) (by simp) _).set (a := ⟨w.heap.size, 1, none⟩) (by simp) _).set (a := ⟨w.heap.size, 2, none⟩) (by simp) _).drop.drop
        clear r0 r1 r2 y0 y1 y2 z0 z1 z2 x2
        generalize ((((w6.setCell ⟨w4.heap.size, 2, none⟩ (.bool true)).setCell ⟨w.heap.size, 0, none⟩ (.int .i64 v2)).setCell ⟨w.heap.size, 1, none⟩ (.int .i64 v3)).setCell ⟨w.heap.size, 2, none⟩ (.bool true)) = W at *
        have e0 : W.cell? ⟨w.heap.size, 0, none⟩ = some (.int .i64 v2) := (own_cell hN).trans rfl
        have e1 : W.cell? ⟨w.heap.size, 1, none⟩ = some (.int .i64 v3) := (own_cell hN).trans rfl
        have e2 : W.cell? ⟨w.heap.size, 2, none⟩ = some (.bool true) := (own_cell hN).trans rfl
        refine bodyPost_ret (v := .agg #[.int .i64 v2, .int .i64 v3, .bool true]) (by simp [results, Tryz.results49, go_sem, e0, e1, e2]) rfl ?_
        refine ⟨hG, .inl ⟨?_, ?_, hS⟩⟩
        · rw [twoE_ok, twoE_ok, twoE_ok, twoE_ok, HE.out]
        · rw [HDT.out]
      · have hE : lastE d v2 v3 = 21 := if_pos ⟨hd1, hd2⟩
        have HE := Lib.hid hE; clear hE
        have k1 : ¬ d.toList = [115, 112, 111, 116, 115] := ne_data hd1
        have k2 : ¬ d.toList = [116, 105, 109, 101, 115] := ne_data hd2
        have k3 : (d.toList == [115, 112, 111, 116, 115]) = false := by simpa using k1
        have k4 : (d.toList == [116, 105, 109, 101, 115]) = false := by simpa using k2
        generalize decide (d = wTimes) = dt
        clear hd1 hd2
        go_wp2_with (go_at_call 48; refine (giveUp_any B 1 21 _ S.out.c1).mono ?_; rintro e w' ⟨rfl, rfl⟩)
        refine ⟨rfl, G.out, .inr ?_⟩
        rw [twoE_ok, twoE_ok, twoE_ok, twoE_ok, HE.out]
        exact ⟨by decide, rfl⟩
  · rw [twoE_no _ he]
    have H0 := Lib.hid fun Av w h => ((h0 Av w h).mono fun _ _ h => res_no h he); clear h0
    generalize nextE L 0 wJitney 4 = er at *
    generalize Value.agg _ = v
    clear hw hl
    go_enter Tryz.func49, Tryz.ntmps49
    go_wp2_with fail
    refine (H0.out _ _ (HS0.out.fresh _)).mono ?_
    rintro e w1 ⟨rfl, hg1⟩
    go_wp2_with fail
    exact ⟨rfl, (grown_of ((Below.refl _ _).alloc (Nat.le_refl _) _) _).trans hg1, .inr ⟨he, rfl⟩⟩
end Sheet
end Go.Proofs.YtjmhlabgoegeoaaGreatDoor
