/- jitneylaw27.as, jitneyref01.SameInts and jitneyref27.Same of commands that are the same; over the translated program. -/
import Derived.Test.YtmegapelibaanaaDoorVbCheck
import Derived.Lib.OwnBridge
import Derived.Lib.SmallJoins
import Derived.Deep.DeepCutAuto
import Derived.Outline
import Derived.Deep.CutBlock
import Derived.Deep.RegionHeld3
namespace Go.Proofs.YtmegapelibaanaaDoor
namespace Vb
open Go Go.RowKit Deci
set_option linter.unusedVariables false
/-- The document's commands so far. -/
structure JA (B : Nat) (w : World) (v : Value) (L : List (CM × Value)) (W : World) : Prop where
  own : W.ownsRow B 47 6 v L.length (rowC L)
  bel : Below B w W
  ds : ∀ x ∈ L, ∀ W', Below B w W' → IsXs W' x.2 x.1.draws
theorem JA.below {B : Nat} {w W W' : World} {v : Value} {L : List (CM × Value)} (h : JA B w v L W) (hb : Below W.heap.size W W') (hB : B ≤ W.heap.size) : JA B w v L W' :=
  ⟨h.own.kept (grown_of hb none) (own_none h.own), h.bel.trans (hb.mono hB), h.ds⟩
theorem JA.grown {B : Nat} {w W W' : World} {v v' : Value} {L L' : List (CM × Value)} (h : JA B w v L W) (hs : B ≤ W.heap.size) (hown : W'.ownsRow B 47 6 v' L'.length (rowC L')) (hg : W.grownBy W' v.ownBlock) (hd : ∀ x ∈ L', ∀ W', Below B w W' → IsXs W' x.2 x.1.draws) : JA B w v' L' W' :=
  ⟨hown, h.bel.grown hg hs (fun k hk => (h.own.lt k hk).1), hd⟩
set_option maxHeartbeats 4000000 in
set_option maxRecDepth 100000 in
theorem as_any (v : Value) (L : List CM) (w : World) (hI : IsCm w v L) (hn : L.length ≤ 100000) :
    Calls Tryd.prog 9 #[v] w fun e w' => Below w.heap.size w w' ∧ ∃ v', e = .returned v' ∧ IsCm w' v' L := by
  obtain ⟨a, cap, rfl, hrow⟩ := hI
  obtain ⟨B, hB⟩ : ∃ B, B = w.heap.size := ⟨_, rfl⟩
  obtain ⟨W0, hW0⟩ : ∃ W0, W0 = w.alloc (.cells #[] 47) := ⟨_, rfl⟩
  have hb0 : Below B w W0 := by rw [hB, hW0]; exact (Below.refl _ _).alloc (Nat.le_refl _) _
  have hj0 : JA B w (.slice (some ⟨B, 0, none⟩) 0 0) [] W0 := by
    refine ⟨⟨rfl, .inr ⟨B, 0, #[], rfl, Nat.le_refl _, by rw [hW0, hB]; exact World.alloc_heap_new w _, Nat.le_refl _, by unfold maxLen; omega, rfl, rfl⟩⟩, hb0, fun x hx => by cases hx⟩
  have hat : Hid (∀ k (hk : k < L.length) W, Below B w W → ∃ g o da dc, a = some ⟨g, o, none⟩ ∧ CvAt W g (o + k * 6) L[k] (.slice da L[k].draws.length dc) ∧ (∀ W', Below B w W' → IsXs W' (.slice da L[k].draws.length dc) L[k].draws)) := Lib.hid fun k hk W hW => by
    obtain ⟨g, o, e, hg, hc⟩ := hrow.resolve_left (by intro e; rw [e] at hk; simp at hk)
    obtain ⟨dv, h1, h2⟩ := hc k hk
    obtain ⟨da, dc, rfl⟩ := h2.form
    exact ⟨g, o, da, dc, e, h1.below hW (by rw [hB]; exact hg), fun W' hW' => h2.below (by rw [← hB]; exact hW')⟩
  have hst := fun k (hk : k < L.length) => (List.take_succ_eq_append_getElem hk)
  obtain ⟨i9, hi0, hz0, hz1, hz2⟩ := info_parts info_rcmd
  obtain ⟨n, hnn⟩ : ∃ n, n = L.length := ⟨_, rfl⟩
  rw [← hnn] at hn ⊢
  rw [← hB]
  have HB := Lib.hid hB; clear hB
  have HW0 := Lib.hid hW0; clear hW0
  have HJ0 := Lib.hid hj0; clear hj0
  have HST := Lib.hid hst; clear hst
  have HN := Lib.hid hnn; clear hnn
  clear hrow hb0
  go_enter Tryd.func9, Tryd.ntmps9
  go_wp2_with fail
  rw [← HB.out, ← HW0.out]
  go_loopw [3, 9] (fun v i wr => ∃ (k : Nat) (sa : Option Addr) (sc : Nat) (M : List (CM × Value)), k ≤ n ∧ M.length = k ∧ v = .slice sa M.length sc ∧ i = .int .i64 k ∧ Hid (JA B w (.slice sa M.length sc) M wr) ∧ Hid (M.map (·.1) = L.take k)) (fun _ i _ => n - (intOf i).toNat)
  case atStart => exact ⟨0, _, _, [], Nat.zero_le _, rfl, rfl, rfl, HJ0, Lib.hid (by simp)⟩
  case round =>
    obtain ⟨k, sa, sc, M, hk, hMk, rfl, rfl, HJ, HM⟩ := hrel
    rw [hMk] at HJ ⊢
    have hBr : B ≤ wr.heap.size := by have := HJ.out.bel.size; have := HB.out; omega
    by_cases hlt : k < n
    · have hkl : k < L.length := by rw [← HN.out]; exact hlt
      obtain ⟨g, o, da, dc, rfl, ⟨c0, c1, c2, c3, c4, c5⟩, hdv⟩ := hat.out k hkl wr HJ.out.bel
      have hst := HST.out k hkl
      obtain ⟨X, hX⟩ : ∃ X, X = wr.heap.size := ⟨_, rfl⟩
      generalize L[k] = c at *
      obtain ⟨k1, k2, k3, k4, k5, k6⟩ := c
      simp only at c0 c1 c2 c3 c4 c5 hdv
      obtain ⟨W3, hW3⟩ : ∃ W3, W3 = wr.alloc (.cells #[.int .i64 k1, .int .i64 k2, .int .i64 k3, .int .i64 k4, .slice da k5.length dc, .string k6] 37) := ⟨_, rfl⟩
      have hb3 : Below wr.heap.size wr W3 := by rw [hW3]; exact (Below.refl _ _).alloc (Nat.le_refl _) _
      have hx3 : W3.heap[X]? = some (.cells #[.int .i64 k1, .int .i64 k2, .int .i64 k3, .int .i64 k4, .slice da k5.length dc, .string k6] 37) := by rw [hW3, hX]; exact World.alloc_heap_new wr _
      have HJ3 := Lib.hid (HJ.out.below hb3 hBr)
      have HX := Lib.hid hX; clear hX
      have HW3 := Lib.hid hW3; clear hW3
      have hL3 : ∀ x ∈ M ++ [((⟨k1, k2, k3, k4, k5, k6⟩ : CM), (.slice da k5.length dc : Value))], ∀ W', Below B w W' → IsXs W' x.2 x.1.draws := fun x hx => by
        rcases List.mem_append.1 hx with hx | hx
        · exact HJ.out.ds x hx
        · obtain rfl : x = (⟨k1, k2, k3, k4, k5, k6⟩, .slice da k5.length dc) := by simpa using hx
          exact hdv
      have HRS := rowC_snoc M ((⟨k1, k2, k3, k4, k5, k6⟩ : CM), (.slice da k5.length dc : Value))
      have HRO := Lib.hid (show rowC (M ++ [((⟨k1, k2, k3, k4, k5, k6⟩ : CM), (.slice da k5.length dc : Value))]) = rowC M ++ [.int .i64 k1, .int .i64 k2, .int .i64 k3, .int .i64 k4, .slice da k5.length dc, .string k6] from HRS); clear HRS
      have hll : (M ++ [((⟨k1, k2, k3, k4, k5, k6⟩ : CM), (.slice da k5.length dc : Value))]).length = M.length + 1 := by simp
      have hmm : (M ++ [((⟨k1, k2, k3, k4, k5, k6⟩ : CM), (.slice da k5.length dc : Value))]).map (·.1) = L.take (k + 1) := by rw [hst, List.map_append, HM.out]; rfl
      obtain ⟨M', hM'⟩ : ∃ M', M' = M ++ [((⟨k1, k2, k3, k4, k5, k6⟩ : CM), (.slice da k5.length dc : Value))] := ⟨_, rfl⟩
      rw [← hM'] at hL3 HRO hll hmm
      have HL3 := Lib.hid hL3; clear hL3
      have HMM := Lib.hid hmm; clear hmm
      clear hM' hb3 hst hdv
      have i0 : (k : Int) < (n : Int) := by omega
      generalize k5.length = dn at *
      go_upto_region 5 with fail
      rw [← HX.out, ← HW3.out]
      have x0 : W3.cell? ⟨X, 0, none⟩ = some (.int .i64 k1) := (own_cell hx3).trans rfl
      have x1 : W3.cell? ⟨X, 1, none⟩ = some (.int .i64 k2) := (own_cell hx3).trans rfl
      have x2 : W3.cell? ⟨X, 2, none⟩ = some (.int .i64 k3) := (own_cell hx3).trans rfl
      have x3 : W3.cell? ⟨X, 3, none⟩ = some (.int .i64 k4) := (own_cell hx3).trans rfl
      have x4 : W3.cell? ⟨X, 4, none⟩ = some (.slice da dn dc) := (own_cell hx3).trans rfl
      have x5 : W3.cell? ⟨X, 5, none⟩ = some (.string k6) := (own_cell hx3).trans rfl
      clear hx3 c0 c1 c2 c3 c4 c5
      have HNEW : Hid (∀ u ∈ [Value.int .i64 k1, .int .i64 k2, .int .i64 k3, .int .i64 k4, .slice da dn dc, .string k6], u.oneCell' = true) := Lib.hid (by intro u hu; simp at hu; rcases hu with rfl | rfl | rfl | rfl | rfl | rfl <;> rfl)
      go_wp2_with (at_builtin; refine wpList_append_own _ rfl _ _ 30 rfl B 47 i9 (.agg #[.int .i64 0, .int .i64 0, .int .i64 0, .int .i64 0, .slice none 0 0, .string ⟨#[]⟩]) 6 72 Tryd.underlying30 hi0 hz0 hz1 hz2 rfl (by decide) _ _ _ rfl (HJ3.out.own.alloc _) ⟨W3.heap.size, 0, none⟩ 1 1 [.int .i64 k1, .int .i64 k2, .int .i64 k3, .int .i64 k4, .slice da dn dc, .string k6] rfl rfl (cells_made (l := [_, _, _, _, _, _])) HNEW.out ?y0c3 ?y0c4 ?y0c5 ?_)
      case y0c3 => unfold maxLen; omega
      case y0c4 => omega
      case y0c5 => have := HJ3.out.bel.size; have := HB.out; simp; omega
      intro v' w5 hown' hgrow
      try intro _
      obtain ⟨sa', sc', rfl⟩ := own_slice hown'
      have hj5 := (HJ3.out.below ((Below.refl _ _).alloc (Nat.le_refl _) _) (by have := HJ3.out.bel.size; have := HB.out; omega)).grown (by have := HJ3.out.bel.size; have := HB.out; simp; omega) (L' := M') (by rw [hll, hMk, HRO.out]; exact hown') hgrow HL3.out
      have hlk : M'.length = k + 1 := by rw [hll, hMk]
      rw [← hlk] at hj5 ⊢
      have HJ5 := Lib.hid hj5; clear hj5 hown' hgrow
      go_wp2_with fail
      go_roundw
      case rel => exact ⟨k + 1, _, _, M', by omega, by omega, rfl, by go_num, HJ5, HMM⟩
      case measure => simp [intOf]; omega
    · obtain rfl : k = n := by omega
      have hm := HM.out
      rw [HN.out, List.take_length] at hm
      have hic : IsCm wr (.slice sa k sc) L := by
        have ho := HJ.out.own
        rw [← hm]
        rw [← hMk] at ho ⊢
        exact isCm_own ho fun x hx => HJ.out.ds x hx wr HJ.out.bel
      have HIC := Lib.hid hic; clear hic hm
      go_wp2_with fail
      go_ret
      exact ⟨HJ.out.bel, _, rfl, HIC.out⟩
theorem drewN_drewN (w : World) (a b : Nat) : (w.drewN a).drewN b = w.drewN (a + b) := by simp only [World.drewN, Nat.add_assoc]
theorem row_at {w : World} {v : Value} {xs : List Int} (h : IsXs w v xs) : ∃ a cap, v = .slice a xs.length cap ∧ ∀ k, k < xs.length → ∃ g o, a = some ⟨g, o, none⟩ ∧ g < w.heap.size ∧ w.cell? ⟨g, o + k, none⟩ = some (.int .i64 (xs.getD k 0)) := by
  obtain ⟨a, cap, h1, h2, -, h3⟩ := h
  refine ⟨a, cap, h1, fun k hk => ?_⟩
  rcases h3 with rfl | ⟨g, o, h4, h5, h6⟩
  · simp at hk
  · exact ⟨g, o, h4, h5, by rw [h6 k hk]; simp [hk]⟩
set_option maxHeartbeats 1000000 in
theorem sameInts_any (v1 v2 : Value) (xs : List Int) (w : World) (hn : xs.length ≤ 1000000) (h1 : IsXs w v1 xs) (h2 : IsXs w v2 xs) :
    Calls Tryd.prog 22 #[v1, v2] w fun e w' => e = .returned (.bool true) ∧ ∃ m, w' = w.drewN m := by
  obtain ⟨a1, c1, rfl, g1⟩ := row_at h1
  obtain ⟨a2, c2, rfl, g2⟩ := row_at h2
  clear h1 h2
  have H1 := Lib.hid g1; clear g1
  have H2 := Lib.hid g2; clear g2
  generalize hl : xs.length = n at *
  clear hl
  go_enter Tryd.func22, Tryd.ntmps22
  go_wp2_with fail
  go_loopw [5] (fun i wr => ∃ k : Nat, k ≤ n ∧ i = .int .i64 k ∧ Hid (∃ q, wr = w.drewN q)) (fun i _ => n - (intOf i).toNat)
  case atStart => exact ⟨0, Nat.zero_le _, rfl, Lib.hid ⟨0, rfl⟩⟩
  case round =>
    obtain ⟨k, hk, rfl, HD⟩ := hrel
    obtain ⟨qq, rfl⟩ := HD.out; clear HD
    by_cases hlt : k < n
    · obtain ⟨b1, o1, rfl, hb1, d1⟩ := H1.out k hlt
      obtain ⟨b2, o2, rfl, hb2, d2⟩ := H2.out k hlt
      have i0 : (0 : Int) ≤ (k : Int) := by omega
      have i1 : (k : Int) < (n : Int) := by omega
      generalize xs.getD k 0 = xk at *
      go_wp2_with fail
      go_quiet (fail)
      clear i0 i1
      go_wp2_with fail
      go_roundw
      case rel => exact ⟨k + 1, by omega, by go_num, Lib.hid ⟨_, rfl⟩⟩
      case measure => simp [intOf]; omega
    · obtain rfl : k = n := by omega
      go_wp2_with fail
      go_ret
      exact ⟨rfl, qq, rfl⟩
set_option maxHeartbeats 4000000 in
set_option maxRecDepth 100000 in
theorem same_any (v1 v2 : Value) (L : List CM) (w : World) (h1 : IsCm w v1 L) (h2 : IsCm w v2 L) (hn : L.length ≤ 100000) (hd : ∀ c ∈ L, c.draws.length ≤ 1000000) :
    Calls Tryd.prog 12 #[v1, v2] w fun e w' => e = .returned (.bool true) ∧ Below w.heap.size w w' := by
  obtain ⟨B, hB⟩ : ∃ B, B = w.heap.size := ⟨_, rfl⟩
  have key : ∀ v, IsCm w v L → ∃ a cap, v = .slice a L.length cap ∧ ∀ k (hk : k < L.length) W, Below B w W → ∃ g o da dc, a = some ⟨g, o, none⟩ ∧ g < B ∧ CvAt W g (o + k * 6) L[k] (.slice da L[k].draws.length dc) ∧ (∀ W', Below B w W' → IsXs W' (.slice da L[k].draws.length dc) L[k].draws) := fun v hI => by
    obtain ⟨a, cap, rfl, hrow⟩ := hI
    refine ⟨a, cap, rfl, fun k hk W hW => ?_⟩
    obtain ⟨g, o, e, hg, hc⟩ := hrow.resolve_left (by intro e; rw [e] at hk; simp at hk)
    obtain ⟨dv, h1, h2⟩ := hc k hk
    obtain ⟨da, dc, rfl⟩ := h2.form
    exact ⟨g, o, da, dc, e, by rw [hB]; exact hg, h1.below hW (by rw [hB]; exact hg), fun W' hW' => h2.below (by rw [← hB]; exact hW')⟩
  obtain ⟨a1, p1, rfl, k1⟩ := key v1 h1
  obtain ⟨a2, p2, rfl, k2⟩ := key v2 h2
  clear key h1 h2
  have hds := fun k (hk : k < L.length) => hd L[k] (List.getElem_mem hk)
  obtain ⟨n, hnn⟩ : ∃ n, n = L.length := ⟨_, rfl⟩
  rw [← hnn] at hn ⊢
  rw [← hB]
  have HB := Lib.hid hB; clear hB
  have K1 := Lib.hid k1; clear k1
  have K2 := Lib.hid k2; clear k2
  have HDS := Lib.hid hds; clear hds hd
  have HN := Lib.hid hnn; clear hnn
  go_enter Tryd.func12, Tryd.ntmps12
  go_wp2_with fail
  go_loopw [5] (fun i wr => ∃ k : Nat, k ≤ n ∧ i = .int .i64 k ∧ Hid (Below B w wr)) (fun i _ => n - (intOf i).toNat)
  case atStart => exact ⟨0, Nat.zero_le _, rfl, Lib.hid (Below.refl _ _)⟩
  case round =>
    obtain ⟨k, hk, rfl, HW⟩ := hrel
    by_cases hlt : k < n
    · have hkl : k < L.length := by rw [← HN.out]; exact hlt
      obtain ⟨g, o, da, dc, rfl, hg, ⟨c0, c1, c2, c3, c4, c5⟩, hdv⟩ := K1.out k hkl wr HW.out
      obtain ⟨g', o', da', dc', rfl, hg', ⟨c0', c1', c2', c3', c4', c5'⟩, hdv'⟩ := K2.out k hkl wr HW.out
      have hds := HDS.out k hkl
      generalize L[k] = c at *
      obtain ⟨q1, q2, q3, q4, q5, q6⟩ := c
      simp only at c0 c1 c2 c3 c4 c5 hdv c0' c1' c2' c3' c4' c5' hdv' hds
      have HDV := Lib.hid hdv; clear hdv
      have HDV' := Lib.hid hdv'; clear hdv'
      have i0 : (k : Int) < (n : Int) := by omega
      have i1 : (0 : Int) ≤ (k : Int) := by omega
      obtain ⟨P, hP⟩ : ∃ P, P = wr.heap.size := ⟨_, rfl⟩
      have hsz : B ≤ wr.heap.size := by have := HW.out.size; have := HB.out; omega
      have l1 : g < wr.heap.size := by omega
      have l2 : g' < wr.heap.size := by omega
      have n1 : g ≠ wr.heap.size := by omega
      have n2 : g' ≠ wr.heap.size := by omega
      have n3 : g ≠ wr.heap.size + 1 := by omega
      have n4 : g' ≠ wr.heap.size + 1 := by omega
      go_wp2_with fail
      go_region
      · obtain ⟨W3, hW3⟩ : ∃ W3, W3 = ((wr.alloc (.cells #[.int .i64 q1, .int .i64 q2, .int .i64 q3, .int .i64 q4, .slice da q5.length dc, .string q6] 47)).alloc (.cells #[.int .i64 q1, .int .i64 q2, .int .i64 q3, .int .i64 q4, .slice da' q5.length dc', .string q6] 47)).drew := ⟨_, rfl⟩
        have hb3 : Below wr.heap.size wr W3 := by rw [hW3]; exact Below.drew (((Below.refl _ _).alloc (Nat.le_refl _) _).alloc (by simp) _)
        have ha3 : W3.heap[P]? = some (.cells #[.int .i64 q1, .int .i64 q2, .int .i64 q3, .int .i64 q4, .slice da q5.length dc, .string q6] 47) := by rw [hW3, hP]; exact (Lib.alloc_old _ _ _ (by simp)).trans (World.alloc_heap_new wr _)
        have hc3 : W3.heap[P + 1]? = some (.cells #[.int .i64 q1, .int .i64 q2, .int .i64 q3, .int .i64 q4, .slice da' q5.length dc', .string q6] 47) := by
          rw [hW3, hP]
          have := World.alloc_heap_new (wr.alloc (.cells #[.int .i64 q1, .int .i64 q2, .int .i64 q3, .int .i64 q4, .slice da q5.length dc, .string q6] 47)) (.cells #[.int .i64 q1, .int .i64 q2, .int .i64 q3, .int .i64 q4, .slice da' q5.length dc', .string q6] 47)
          rw [World.size_alloc] at this
          exact this
        have x0 : W3.cell? ⟨P, 0, none⟩ = some (.int .i64 q1) := (own_cell ha3).trans rfl
        have x1 : W3.cell? ⟨P, 1, none⟩ = some (.int .i64 q2) := (own_cell ha3).trans rfl
        have x2 : W3.cell? ⟨P, 2, none⟩ = some (.int .i64 q3) := (own_cell ha3).trans rfl
        have x3 : W3.cell? ⟨P, 3, none⟩ = some (.int .i64 q4) := (own_cell ha3).trans rfl
        have x4 : W3.cell? ⟨P, 4, none⟩ = some (.slice da q5.length dc) := (own_cell ha3).trans rfl
        have x5 : W3.cell? ⟨P, 5, none⟩ = some (.string q6) := (own_cell ha3).trans rfl
        have y0 : W3.cell? ⟨P + 1, 0, none⟩ = some (.int .i64 q1) := (own_cell hc3).trans rfl
        have y1 : W3.cell? ⟨P + 1, 1, none⟩ = some (.int .i64 q2) := (own_cell hc3).trans rfl
        have y2 : W3.cell? ⟨P + 1, 2, none⟩ = some (.int .i64 q3) := (own_cell hc3).trans rfl
        have y3 : W3.cell? ⟨P + 1, 3, none⟩ = some (.int .i64 q4) := (own_cell hc3).trans rfl
        have y4 : W3.cell? ⟨P + 1, 4, none⟩ = some (.slice da' q5.length dc') := (own_cell hc3).trans rfl
        have y5 : W3.cell? ⟨P + 1, 5, none⟩ = some (.string q6) := (own_cell hc3).trans rfl
        rw [← hP, ← hW3]
        have hbw := HW.out.trans (hb3.mono hsz)
        have hsi := sameInts_any (.slice da q5.length dc) (.slice da' q5.length dc') q5 W3 hds (HDV.out W3 hbw) (HDV'.out W3 hbw)
        have HBW := Lib.hid hbw; clear hbw hb3
        have HSI := Lib.hid hsi; clear hsi
        clear hP hW3 ha3 hc3 l1 l2 n1 n2 n3 n4 c0 c1 c2 c3 c4 c5 c0' c1' c2' c3' c4' c5'
        go_wp2_with fail
        refine HSI.out.mono ?_
        rintro e w4 ⟨rfl, mm, rfl⟩
        have HB4 := Lib.hid (HBW.out.trans (Joins.below_draws _ W3 mm)); clear x0 x1 x2 x3 x4 x5 y0 y1 y2 y3 y4 y5
        go_wp2_with fail
        go_roundw
        case rel => exact ⟨k + 1, by omega, by go_num, HB4⟩
        case measure => simp [intOf]; omega
      · obtain ⟨W3, hW3⟩ : ∃ W3, W3 = ((wr.alloc (.cells #[.int .i64 q1, .int .i64 q2, .int .i64 q3, .int .i64 q4, .slice da' q5.length dc', .string q6] 47)).alloc (.cells #[.int .i64 q1, .int .i64 q2, .int .i64 q3, .int .i64 q4, .slice da q5.length dc, .string q6] 47)).drew := ⟨_, rfl⟩
        have hb3 : Below wr.heap.size wr W3 := by rw [hW3]; exact Below.drew (((Below.refl _ _).alloc (Nat.le_refl _) _).alloc (by simp) _)
        have ha3 : W3.heap[P]? = some (.cells #[.int .i64 q1, .int .i64 q2, .int .i64 q3, .int .i64 q4, .slice da' q5.length dc', .string q6] 47) := by rw [hW3, hP]; exact (Lib.alloc_old _ _ _ (by simp)).trans (World.alloc_heap_new wr _)
        have hc3 : W3.heap[P + 1]? = some (.cells #[.int .i64 q1, .int .i64 q2, .int .i64 q3, .int .i64 q4, .slice da q5.length dc, .string q6] 47) := by
          rw [hW3, hP]
          have := World.alloc_heap_new (wr.alloc (.cells #[.int .i64 q1, .int .i64 q2, .int .i64 q3, .int .i64 q4, .slice da' q5.length dc', .string q6] 47)) (.cells #[.int .i64 q1, .int .i64 q2, .int .i64 q3, .int .i64 q4, .slice da q5.length dc, .string q6] 47)
          rw [World.size_alloc] at this
          exact this
        have x0 : W3.cell? ⟨P + 1, 0, none⟩ = some (.int .i64 q1) := (own_cell hc3).trans rfl
        have x1 : W3.cell? ⟨P + 1, 1, none⟩ = some (.int .i64 q2) := (own_cell hc3).trans rfl
        have x2 : W3.cell? ⟨P + 1, 2, none⟩ = some (.int .i64 q3) := (own_cell hc3).trans rfl
        have x3 : W3.cell? ⟨P + 1, 3, none⟩ = some (.int .i64 q4) := (own_cell hc3).trans rfl
        have x4 : W3.cell? ⟨P + 1, 4, none⟩ = some (.slice da q5.length dc) := (own_cell hc3).trans rfl
        have x5 : W3.cell? ⟨P + 1, 5, none⟩ = some (.string q6) := (own_cell hc3).trans rfl
        have y0 : W3.cell? ⟨P, 0, none⟩ = some (.int .i64 q1) := (own_cell ha3).trans rfl
        have y1 : W3.cell? ⟨P, 1, none⟩ = some (.int .i64 q2) := (own_cell ha3).trans rfl
        have y2 : W3.cell? ⟨P, 2, none⟩ = some (.int .i64 q3) := (own_cell ha3).trans rfl
        have y3 : W3.cell? ⟨P, 3, none⟩ = some (.int .i64 q4) := (own_cell ha3).trans rfl
        have y4 : W3.cell? ⟨P, 4, none⟩ = some (.slice da' q5.length dc') := (own_cell ha3).trans rfl
        have y5 : W3.cell? ⟨P, 5, none⟩ = some (.string q6) := (own_cell ha3).trans rfl
        rw [← hP, ← hW3]
        have hbw := HW.out.trans (hb3.mono hsz)
        have hsi := sameInts_any (.slice da q5.length dc) (.slice da' q5.length dc') q5 W3 hds (HDV.out W3 hbw) (HDV'.out W3 hbw)
        have HBW := Lib.hid hbw; clear hbw hb3
        have HSI := Lib.hid hsi; clear hsi
        clear hP hW3 ha3 hc3 l1 l2 n1 n2 n3 n4 c0 c1 c2 c3 c4 c5 c0' c1' c2' c3' c4' c5'
        go_wp2_with fail
        refine HSI.out.mono ?_
        rintro e w4 ⟨rfl, mm, rfl⟩
        have HB4 := Lib.hid (HBW.out.trans (Joins.below_draws _ W3 mm)); clear x0 x1 x2 x3 x4 x5 y0 y1 y2 y3 y4 y5
        go_wp2_with fail
        go_roundw
        case rel => exact ⟨k + 1, by omega, by go_num, HB4⟩
        case measure => simp [intOf]; omega
    · obtain rfl : k = n := by omega
      go_wp2_with fail
      go_ret
      exact ⟨rfl, HW.out⟩
end Vb
end Go.Proofs.YtmegapelibaanaaDoor
