/- The document's example of layer 24: jitneylaw24.alive; over the translated program. -/
import Derived.Test.YtjmingdlfihmaaaDoorTkAlive
namespace Go.Proofs.YtjmingdlfihmaaaDoor
namespace Tk
open Go Go.RowKit Deci
set_option linter.unusedVariables false
/-- The example's plan: R its row, RR the row's row, Q its times, TT those's row, P its own block. -/
structure PS (w : World) (R RR Q TT P : Nat) (W : World) : Prop where
  bel : Below w.heap.size w W
  r : W.heap[R]? = some (.cells #[.int .i64 0, .int .i64 1, .int .i64 2, .int .i64 3] 3)
  rr : W.heap[RR]? = some (.cells #[.slice (some ⟨R, 0, none⟩) 4 4] 32)
  q : W.heap[Q]? = some (.cells #[.int .i64 0, .int .i64 0, .int .i64 6, .int .i64 12] 2)
  tt : W.heap[TT]? = some (.cells #[.slice (some ⟨Q, 0, none⟩) 4 4] 26)
  p : W.heap[P]? = some (.cells #[.slice (some ⟨RR, 0, none⟩) 1 1, .slice (some ⟨TT, 0, none⟩) 1 1, .slice none 0 0, .int .i64 0] 36)
section
variable {w W W' : World} {R RR Q TT P : Nat}
theorem PS.below (h : PS w R RR Q TT P W) (hb : Below W.heap.size W W') : PS w R RR Q TT P W' :=
  ⟨h.bel.trans (hb.mono h.bel.size), (hb.block _ (own_lt h.r)).trans h.r, (hb.block _ (own_lt h.rr)).trans h.rr, (hb.block _ (own_lt h.q)).trans h.q, (hb.block _ (own_lt h.tt)).trans h.tt, (hb.block _ (own_lt h.p)).trans h.p⟩
theorem PS.drew (h : PS w R RR Q TT P W) : PS w R RR Q TT P W.drew := h.below (Below.refl _ _).drew
theorem PS.alloc (h : PS w R RR Q TT P W) (o : Obj) : PS w R RR Q TT P (W.alloc o) := h.below ((Below.refl _ _).alloc (Nat.le_refl _) o)
theorem PS.all (h : PS w R RR Q TT P W) : PS w R RR Q TT P W ∧ W.cell? ⟨P, 0, none⟩ = some (.slice (some ⟨RR, 0, none⟩) 1 1) ∧ W.cell? ⟨P, 1, none⟩ = some (.slice (some ⟨TT, 0, none⟩) 1 1) ∧ W.cell? ⟨P, 2, none⟩ = some (.slice none 0 0) ∧ W.cell? ⟨P, 3, none⟩ = some (.int .i64 0) :=
  ⟨h, (own_cell h.p).trans rfl, (own_cell h.p).trans rfl, (own_cell h.p).trans rfl, (own_cell h.p).trans rfl⟩
/-- Of, at the example. -/
theorem of_yes (h : PS w R RR Q TT P W) {s r K : Nat} (hs : W.cell? ⟨s, 8, none⟩ = some (.int .i64 1)) (h0 : W.cell? ⟨K, 0, none⟩ = some (.int .i64 1)) (h1 : W.cell? ⟨K, 1, none⟩ = some (.int .i64 9)) :
    Calls Tryd.prog 7 #[.agg #[.slice none 0 0, .slice (some ⟨s, 0, none⟩) 4 4, .slice (some ⟨r, 0, none⟩) 1 1, .slice none 0 0], .agg #[.slice (some ⟨RR, 0, none⟩) 1 1, .slice (some ⟨TT, 0, none⟩) 1 1, .slice none 0 0, .int .i64 0], .slice (some ⟨K, 0, none⟩) 2 2] W fun e w' => ∃ G, e = .returned (.slice (some ⟨G, 0, none⟩) 1 1) ∧ LnAt w' G 0 e1 ∧ Below W.heap.size W w' := by
  refine (of_any s r K 2 _ _ 1 1 1 1 line1 0 0 6 5 true rfl W (.inr rfl) (fun k hk => ?_) (fun W' hb => ?_)).mono ?_
  · rcases (show k = 0 ∨ k = 1 by omega) with rfl | rfl
    · exact h0
    · exact h1
  · have h' := h.below hb
    refine ofAll_yes s r RR TT R Q W' ((hb.cell (p := ⟨s, 8, none⟩) (World.block_lt_of_cell? _ _ hs)).trans hs) ((own_cell h'.rr).trans rfl) ((own_cell h'.tt).trans rfl) (fun k hk => ?_) ⟨(own_cell h'.q).trans rfl, (own_cell h'.q).trans rfl⟩
    rcases (show k = 0 ∨ k = 1 ∨ k = 2 ∨ k = 3 by omega) with rfl | rfl | rfl | rfl <;> exact (own_cell h'.r).trans rfl
  · rintro e w' ⟨G, rfl, hG, hb⟩
    exact ⟨G, rfl, LnAt.made (l := e1) hG, hb⟩
theorem of_no {s r K : Nat} (hs : W.cell? ⟨s, 8, none⟩ = some (.int .i64 1)) (h0 : W.cell? ⟨K, 0, none⟩ = some (.int .i64 1)) :
    Calls Tryd.prog 7 #[.agg #[.slice none 0 0, .slice (some ⟨s, 0, none⟩) 4 4, .slice (some ⟨r, 0, none⟩) 1 1, .slice none 0 0], .agg #[.slice none 0 0, .slice none 0 0, .slice none 0 0, .int .i64 0], .slice (some ⟨K, 0, none⟩) 1 1] W fun e w' => ∃ G, e = .returned (.slice (some ⟨G, 0, none⟩) 1 1) ∧ LnAt w' G 0 e0 ∧ Below W.heap.size W w' := by
  refine (of_any s r K 1 _ _ 0 0 0 0 line0 0 0 0 0 false rfl W (.inl rfl) (fun k hk => ?_) (fun W' hb => ?_)).mono ?_
  · obtain rfl : k = 0 := by omega
    exact h0
  · exact ofAll_no s r W' ((hb.cell (p := ⟨s, 8, none⟩) (World.block_lt_of_cell? _ _ hs)).trans hs)
  · rintro e w' ⟨G, rfl, hG, hb⟩
    exact ⟨G, rfl, LnAt.made (l := e0) hG, hb⟩
end
/-- What the last statement of the example speaks of. -/
structure AL (w : World) (G1 G2 g Z : Nat) (W : World) : Prop where
  bel : Below w.heap.size w W
  l1 : LnAt W G1 0 e1
  l2 : LnAt W G2 0 e0
  b1 : LnAt W g 0 e1
  z : W.cell? ⟨Z, 5, none⟩ = some (.bool false)
theorem AL.below {w W W' : World} {G1 G2 g Z : Nat} (h : AL w G1 G2 g Z W) (hb : Below W.heap.size W W') : AL w G1 G2 g Z W' :=
  ⟨h.bel.trans (hb.mono h.bel.size), h.l1.below hb h.l1.lt, h.l2.below hb h.l2.lt, h.b1.below hb h.b1.lt, (hb.cell (p := ⟨Z, 5, none⟩) (World.block_lt_of_cell? _ _ h.z)).trans h.z⟩
theorem AL.all {w W : World} {G1 G2 g Z : Nat} (h : AL w G1 G2 g Z W) : AL w G1 G2 g Z W ∧ W.cell? ⟨G1, 0, none⟩ = some (.int .i64 1) ∧ W.cell? ⟨G1, 1, none⟩ = some (.int .i64 0) ∧ W.cell? ⟨G1, 2, none⟩ = some (.int .i64 0) ∧ W.cell? ⟨G1, 3, none⟩ = some (.int .i64 6) ∧ W.cell? ⟨G1, 4, none⟩ = some (.int .i64 5) ∧ W.cell? ⟨G1, 5, none⟩ = some (.bool true) ∧
    W.cell? ⟨g, 0, none⟩ = some (.int .i64 1) ∧ W.cell? ⟨g, 1, none⟩ = some (.int .i64 0) ∧ W.cell? ⟨g, 2, none⟩ = some (.int .i64 0) ∧ W.cell? ⟨g, 3, none⟩ = some (.int .i64 6) ∧ W.cell? ⟨g, 4, none⟩ = some (.int .i64 5) ∧ W.cell? ⟨g, 5, none⟩ = some (.bool true) ∧ W.cell? ⟨Z, 5, none⟩ = some (.bool false) :=
  ⟨h, h.l1.c0, h.l1.c1, h.l1.c2, h.l1.c3, h.l1.c4, h.l1.c5, h.b1.c0, h.b1.c1, h.b1.c2, h.b1.c3, h.b1.c4, h.b1.c5, h.z⟩
theorem heap5 (w : World) (a b c d e : Obj) : (((((w.alloc a).alloc b).alloc c).alloc d).alloc e).heap[w.heap.size]? = some a ∧ (((((w.alloc a).alloc b).alloc c).alloc d).alloc e).heap[w.heap.size + 1]? = some b ∧
    (((((w.alloc a).alloc b).alloc c).alloc d).alloc e).heap[w.heap.size + 1 + 1]? = some c ∧ (((((w.alloc a).alloc b).alloc c).alloc d).alloc e).heap[w.heap.size + 1 + 1 + 1]? = some d ∧ (((((w.alloc a).alloc b).alloc c).alloc d).alloc e).heap[w.heap.size + 1 + 1 + 1 + 1]? = some e := by
  obtain ⟨h1, h2, h3⟩ := heap3 w a b c
  refine ⟨?_, ?_, ?_, ?_, ?_⟩
  · rw [Below.heap_alloc _ _ _ (by simp <;> omega), Below.heap_alloc _ _ _ (by simp <;> omega)]; exact h1
  · rw [Below.heap_alloc _ _ _ (by simp <;> omega), Below.heap_alloc _ _ _ (by simp)]; exact h2
  · rw [Below.heap_alloc _ _ _ (by simp), Below.heap_alloc _ _ _ (by simp)]; exact h3
  · rw [Below.heap_alloc _ _ _ (by simp), ← World.size_alloc w a, ← World.size_alloc _ b, ← World.size_alloc _ c]; exact World.alloc_heap_new _ _
  · rw [← World.size_alloc w a, ← World.size_alloc _ b, ← World.size_alloc _ c, ← World.size_alloc _ d]; exact World.alloc_heap_new _ _
set_option maxHeartbeats 4000000 in
set_option maxRecDepth 100000 in
theorem alive_any (w : World) (hE : Env w) : Calls Tryd.prog 4 #[] w fun e w' => e = .returned (.bool true) ∧ Below w.heap.size w w' := by
  have HEV := Lib.hid hE; clear hE
  obtain ⟨N, hN⟩ : ∃ N, N = w.heap.size := ⟨_, rfl⟩
  obtain ⟨W0, hW0⟩ : ∃ W0, W0 = ((((w.alloc (.cells #[.int .i64 0, .int .i64 1, .int .i64 2, .int .i64 3] 3)).alloc (.cells #[.slice (some ⟨N, 0, none⟩) 4 4] 32)).alloc (.cells #[.int .i64 0, .int .i64 0, .int .i64 6, .int .i64 12] 2)).alloc (.cells #[.slice (some ⟨N + 1 + 1, 0, none⟩) 4 4] 26)).alloc (.cells #[.slice (some ⟨N + 1, 0, none⟩) 1 1, .slice (some ⟨N + 1 + 1 + 1, 0, none⟩) 1 1, .slice none 0 0, .int .i64 0] 36) := ⟨_, rfl⟩
  have hps : PS w N (N + 1) (N + 1 + 1) (N + 1 + 1 + 1) (N + 1 + 1 + 1 + 1) W0 := by
    rw [hW0]
    refine ⟨?_, ?_, ?_, ?_, ?_, ?_⟩
    · exact ((((((Below.refl _ _).alloc (Nat.le_refl _) _).alloc (by simp) _).alloc (by simp; omega) _).alloc (by simp; omega) _).alloc (by simp; omega) _)
    · rw [hN]; exact (heap5 w _ _ _ _ _).1
    · rw [hN]; exact (heap5 w _ _ _ _ _).2.1
    · rw [hN]; exact (heap5 w _ _ _ _ _).2.2.1
    · rw [hN]; exact (heap5 w _ _ _ _ _).2.2.2.1
    · rw [hN]; exact (heap5 w _ _ _ _ _).2.2.2.2
  have HPS := Lib.hid hps; clear hps
  have HN := Lib.hid hN; clear hN
  have HW0 := Lib.hid hW0; clear hW0
  have HSM := Lib.hid fun W => sample_any W
  go_enter Tryd.func4, Tryd.ntmps4
  go_upto_region 2 with fail
  rw [← HN.out, ← HW0.out]
  go_cut [2] (fun s2 wx => ∃ G, s2 = .slice (some ⟨G, 0, none⟩) 1 1 ∧ Hid (LnAt wx G 0 e1 ∧ Below w.heap.size w wx))
  case first =>
    have HOF := Lib.hid fun W (h : PS w N (N + 1) (N + 1 + 1) (N + 1 + 1 + 1) (N + 1 + 1 + 1 + 1) W) (s r K : Nat) hs h0 h1 => of_yes (r := r) (s := s) (K := K) h hs h0 h1
    have HBW := Lib.hid fun W (h : PS w N (N + 1) (N + 1 + 1) (N + 1 + 1 + 1) (N + 1 + 1 + 1 + 1) W) => h.bel
    have HAL := Lib.hid fun W (h : PS w N (N + 1) (N + 1 + 1) (N + 1 + 1 + 1) (N + 1 + 1 + 1 + 1) W) => h.all
    have HDR := Lib.hid fun W (h : PS w N (N + 1) (N + 1 + 1) (N + 1 + 1 + 1) (N + 1 + 1 + 1 + 1) W) => h.drew
    have HAC := Lib.hid fun W (h : PS w N (N + 1) (N + 1 + 1) (N + 1 + 1 + 1) (N + 1 + 1 + 1 + 1) W) o => h.alloc o
    have HBE := Lib.hid fun W W' (h : PS w N (N + 1) (N + 1 + 1) (N + 1 + 1 + 1) (N + 1 + 1 + 1 + 1) W) (hb : Below W.heap.size W W') => h.below hb
    generalize hP2 : PS w N (N + 1) (N + 1 + 1) (N + 1 + 1 + 1) (N + 1 + 1 + 1 + 1) = P2 at *
    have hp2 := HPS.out
    obtain ⟨-, p0, p1, p2, p3⟩ := HAL.out _ HPS.out
    have HKA : ∀ (W : World), (W.alloc (.cells #[.int .i64 1, .int .i64 9] 3)).cell? ⟨W.heap.size, 0, none⟩ = some (.int .i64 1) ∧ (W.alloc (.cells #[.int .i64 1, .int .i64 9] 3)).cell? ⟨W.heap.size, 1, none⟩ = some (.int .i64 9) := fun W => ⟨(own_cell (World.alloc_heap_new W _)).trans rfl, (own_cell (World.alloc_heap_new W _)).trans rfl⟩
    have HKK := Lib.hid HKA; clear HKA
    go_region_held3 (fun w' => P2 w' ∧ w'.cell? ⟨N + 1 + 1 + 1 + 1, 0, none⟩ = some (.slice (some ⟨N + 1, 0, none⟩) 1 1) ∧ w'.cell? ⟨N + 1 + 1 + 1 + 1, 1, none⟩ = some (.slice (some ⟨N + 1 + 1 + 1, 0, none⟩) 1 1) ∧ w'.cell? ⟨N + 1 + 1 + 1 + 1, 2, none⟩ = some (.slice none 0 0) ∧ w'.cell? ⟨N + 1 + 1 + 1 + 1, 3, none⟩ = some (.int .i64 0))
      (first
        | exact HAL.out _ ‹P2 _›
        | exact HAL.out _ (HDR.out _ (And.left ‹P2 _ ∧ _›))
        | exact HAL.out _ (HDR.out _ ‹P2 _›)
        | exact HAL.out _ (HAC.out _ (And.left ‹P2 _ ∧ _›) _)
        | exact HAL.out _ (HDR.out _ (HAC.out _ hp2 _))
        | exact HAL.out _ (HAC.out _ (HDR.out _ hp2) _))
      (first
        | (go_at_call 8; (with_reducible refine (HSM.out _).mono ?_); rintro e w' ⟨s, r, rfl, hs, hb⟩; have hka := HBE.out _ _ (And.left ‹P2 _ ∧ _›) hb)
        | (go_at_call 7
           (with_reducible refine (HOF.out _ (And.left ‹P2 _ ∧ _›) _ _ _ ?hs ?h0 ?h1).mono ?_)
           case hs => first | exact hs | exact (((Below.refl _ _).alloc (Nat.le_refl _) _).cell (p := ⟨s, 8, none⟩) (World.block_lt_of_cell? _ _ hs)).trans hs
           case h0 => first | exact (HKK.out _).1 | exact (hb.cell (p := ⟨W0.heap.size, 0, none⟩) (by simp)).trans (HKK.out W0).1
           case h1 => first | exact (HKK.out _).2 | exact (hb.cell (p := ⟨W0.heap.size, 1, none⟩) (by simp)).trans (HKK.out W0).2
           rintro e w2 ⟨G, rfl, hG, hb2⟩
           have hka2 := HBE.out _ _ (And.left ‹P2 _ ∧ _›) hb2))
    all_goals
      go_wp2_with fail
      go_meet
      exact ⟨_, rfl, Lib.hid ⟨hG, HBW.out _ (And.left ‹P2 _ ∧ _›)⟩⟩
  case rest =>
    obtain ⟨G1, rfl, HQ⟩ := hcut
    clear HPS HW0
    go_wp2_with fail
    refine (HSM.out _).mono ?_
    rintro e w3 ⟨s, r, rfl, hs, hb⟩
    have HQ3 : Hid (LnAt w3 G1 0 e1 ∧ Below w.heap.size w w3) := Lib.hid ⟨HQ.out.1.below hb HQ.out.1.lt, HQ.out.2.trans (hb.mono HQ.out.2.size)⟩
    obtain ⟨W4, hW4⟩ : ∃ W4, W4 = w3.alloc (.cells #[.int .i64 1] 3) := ⟨_, rfl⟩
    obtain ⟨K, hK⟩ : ∃ K, K = w3.heap.size := ⟨_, rfl⟩
    have hb4 : Below w3.heap.size w3 W4 := by rw [hW4]; exact (Below.refl _ _).alloc (Nat.le_refl _) _
    have hof := of_no (W := W4) (s := s) (r := r) (K := K) ((hb4.cell (p := ⟨s, 8, none⟩) (World.block_lt_of_cell? _ _ hs)).trans hs) (by rw [hW4, hK]; exact (own_cell (World.alloc_heap_new w3 _)).trans rfl)
    have HQ4 : Hid (LnAt W4 G1 0 e1 ∧ Below w.heap.size w W4) := Lib.hid ⟨HQ3.out.1.below hb4 HQ3.out.1.lt, HQ3.out.2.trans (hb4.mono HQ3.out.2.size)⟩
    have HOF := Lib.hid hof; clear hof
    have HK := Lib.hid hK; clear hK
    have HW4 := Lib.hid hW4; clear hW4
    clear hs hb hb4 HQ HQ3
    go_wp2_with fail
    rw [← HK.out, ← HW4.out]
    refine HOF.out.mono ?_
    rintro e w5 ⟨G2, rfl, hG2, hb⟩
    have HQ5 : Hid (LnAt w5 G1 0 e1 ∧ LnAt w5 G2 0 e0 ∧ Below w.heap.size w w5) := Lib.hid ⟨HQ4.out.1.below hb HQ4.out.1.lt, hG2, HQ4.out.2.trans (hb.mono HQ4.out.2.size)⟩
    have HPA := Lib.hid (parse_a w5 (HEV.out.below HQ5.out.2.2))
    clear hG2 hb HQ4 HOF
    go_wp2_with fail
    rw [show (⟨#[49, 32, 48, 32, 48, 32, 54, 32, 53, 10, 50, 32, 117, 110, 115, 101, 114, 118, 101, 100, 10]⟩ : ByteArray) = exA from rfl]
    refine HPA.out.mono ?_
    rintro e w6 ⟨g, cap, rfl, hb1, hb2, hb⟩
    have HQ6 : Hid (LnAt w6 G1 0 e1 ∧ LnAt w6 G2 0 e0 ∧ LnAt w6 g 0 e1 ∧ LnAt w6 g 6 e2 ∧ Below w.heap.size w w6) := Lib.hid ⟨HQ5.out.1.below hb HQ5.out.1.lt, HQ5.out.2.1.below hb HQ5.out.2.1.lt, hb1, hb2, HQ5.out.2.2.trans (hb.mono HQ5.out.2.2.size)⟩
    have HPB := Lib.hid (parse_b w6 (HEV.out.below HQ6.out.2.2.2.2))
    clear hb1 hb2 hb HQ5 HPA
    go_wp2_with fail
    rw [show (⟨#[50, 32, 117, 110, 115, 101, 114, 118, 101, 100, 10, 49, 32, 117, 110, 115, 101, 114, 118, 101, 100, 10]⟩ : ByteArray) = exB from rfl]
    refine HPB.out.mono ?_
    rintro e w7 ⟨rfl, hb⟩
    have HQ7 : Hid (LnAt w7 G1 0 e1 ∧ LnAt w7 G2 0 e0 ∧ LnAt w7 g 0 e1 ∧ LnAt w7 g 6 e2 ∧ Below w.heap.size w w7) := Lib.hid ⟨HQ6.out.1.below hb HQ6.out.1.lt, HQ6.out.2.1.below hb HQ6.out.2.1.lt, HQ6.out.2.2.1.below hb HQ6.out.2.2.1.lt, HQ6.out.2.2.2.1.below hb HQ6.out.2.2.2.1.lt, HQ6.out.2.2.2.2.trans (hb.mono HQ6.out.2.2.2.2.size)⟩
    have HF := Lib.hid (find_any g 0 cap w7 HQ7.out.2.2.1 HQ7.out.2.2.2.1)
    clear hb HQ6 HPB
    go_wp2_with fail
    refine HF.out.mono ?_
    rintro e w8 ⟨rfl, hb⟩
    obtain ⟨Z, hZ⟩ : ∃ Z, Z = w8.heap.size := ⟨_, rfl⟩
    obtain ⟨W9, hW9⟩ : ∃ W9, W9 = w8.alloc (.cells #[.int .i64 2, .int .i64 0, .int .i64 0, .int .i64 0, .int .i64 0, .bool false] 25) := ⟨_, rfl⟩
    have hb9 : Below w7.heap.size w7 W9 := by rw [hW9]; exact hb.alloc hb.size _
    have hal : AL w G1 G2 g Z W9 := ⟨HQ7.out.2.2.2.2.trans (hb9.mono HQ7.out.2.2.2.2.size), HQ7.out.1.below hb9 HQ7.out.1.lt, HQ7.out.2.1.below hb9 HQ7.out.2.1.lt, HQ7.out.2.2.1.below hb9 HQ7.out.2.2.1.lt, by rw [hW9, hZ]; exact (own_cell (World.alloc_heap_new w8 _)).trans rfl⟩
    have HAW := Lib.hid hal; clear hal hb9 hb HQ7 HF
    have HZ := Lib.hid hZ; clear hZ
    have HW9 := Lib.hid hW9; clear hW9
    have HAL := Lib.hid fun W (h : AL w G1 G2 g Z W) => h.all
    have HDR := Lib.hid fun W (h : AL w G1 G2 g Z W) => h.below (Below.refl _ _).drew
    have HBE := Lib.hid fun W W' (h : AL w G1 G2 g Z W) (hb : Below W.heap.size W W') => h.below hb
    have HBW := Lib.hid fun W (h : AL w G1 G2 g Z W) => h.bel
    have HPC : Hid (∀ W, AL w G1 G2 g Z W → Calls Tryd.prog 6 #[.slice (some ⟨G1, 0, none⟩) 1 1] W fun e w' => e = .returned (.string ⟨#[49, 32, 48, 32, 48, 32, 54, 32, 53, 10]⟩) ∧ Below W.heap.size W w') := Lib.hid fun W h => print_c G1 W (HEV.out.below h.bel) h.l1
    have HPD : Hid (∀ W, AL w G1 G2 g Z W → Calls Tryd.prog 6 #[.slice (some ⟨G2, 0, none⟩) 1 1] W fun e w' => e = .returned (.string ⟨#[49, 32, 117, 110, 115, 101, 114, 118, 101, 100, 10]⟩) ∧ Below W.heap.size W w') := Lib.hid fun W h => print_d G2 W (HEV.out.below h.bel) h.l2
    generalize hP2 : AL w G1 G2 g Z = P2 at *
    go_upto_region 7 with fail
    rw [← HZ.out, ← HW9.out]
    have hall := HAL.out _ HAW.out
    obtain ⟨hp2, a0, a1, a2, a3, a4, a5, b0, b1, b2, b3, b4, b5, z5⟩ := hall
    go_region_held3 (fun w' => P2 w' ∧ w'.cell? ⟨G1, 0, none⟩ = some (.int .i64 1) ∧ w'.cell? ⟨G1, 1, none⟩ = some (.int .i64 0) ∧ w'.cell? ⟨G1, 2, none⟩ = some (.int .i64 0) ∧ w'.cell? ⟨G1, 3, none⟩ = some (.int .i64 6) ∧ w'.cell? ⟨G1, 4, none⟩ = some (.int .i64 5) ∧ w'.cell? ⟨G1, 5, none⟩ = some (.bool true) ∧
        w'.cell? ⟨g, 0, none⟩ = some (.int .i64 1) ∧ w'.cell? ⟨g, 1, none⟩ = some (.int .i64 0) ∧ w'.cell? ⟨g, 2, none⟩ = some (.int .i64 0) ∧ w'.cell? ⟨g, 3, none⟩ = some (.int .i64 6) ∧ w'.cell? ⟨g, 4, none⟩ = some (.int .i64 5) ∧ w'.cell? ⟨g, 5, none⟩ = some (.bool true) ∧ w'.cell? ⟨Z, 5, none⟩ = some (.bool false))
      (first
        | exact HAL.out _ ‹P2 _›
        | exact HAL.out _ (HDR.out _ (And.left ‹P2 _ ∧ _›))
        | exact HAL.out _ (HDR.out _ ‹P2 _›))
      (first
        | (go_at_call_of 6 (Value.slice (some ⟨G1, 0, none⟩) 1 1); (with_reducible refine (HPC.out _ (And.left ‹P2 _ ∧ _›)).mono ?_); rintro e w' ⟨rfl, hb⟩; have hka := HBE.out _ _ (And.left ‹P2 _ ∧ _›) hb; clear hb)
        | (go_at_call_of 6 (Value.slice (some ⟨G2, 0, none⟩) 1 1); (with_reducible refine (HPD.out _ (And.left ‹P2 _ ∧ _›)).mono ?_); rintro e w' ⟨rfl, hb⟩; have hka := HBE.out _ _ (And.left ‹P2 _ ∧ _›) hb; clear hb))
    all_goals
      go_wp2_with fail
      go_ret
      exact ⟨rfl, HBW.out _ (And.left ‹P2 _ ∧ _›)⟩
end Tk
end Go.Proofs.YtjmingdlfihmaaaDoor
