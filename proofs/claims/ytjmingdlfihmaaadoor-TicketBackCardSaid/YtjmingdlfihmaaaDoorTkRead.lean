/- Package ticket's readServed and read, of lines that may be; over the translated program. -/
import Derived.Test.YtjmingdlfihmaaaDoorTkA
import Derived.Test.YtjmingdlfihmaaaDoorTkMath
import Derived.Deep.RegionWith
import Derived.StillTailTactics
namespace Go.Proofs.YtjmingdlfihmaaaDoor
namespace Tk
open Go Go.RowKit Deci
set_option linter.unusedVariables false
theorem strs_of {w : World} {base : Nat} {v : Value} {ps : List ByteArray} (h : w.ownsRow base 9 1 v ps.length (ps.map Value.string)) : Strs w v ps := by
  rcases h.2 with ⟨rfl, h0⟩ | ⟨g, cap, cur, rfl, _, hg, h1, _, h2, h3⟩
  · obtain rfl := List.eq_nil_of_length_eq_zero h0
    exact ⟨none, 0, rfl, Nat.le_refl _, .inl rfl⟩
  · refine ⟨_, cap, rfl, h1, .inr ⟨g, 0, rfl, (Array.getElem?_eq_some_iff.1 hg).1, fun j hj => ?_⟩⟩
    have e : cur[j]? = some (.string ps[j]) := by
      have := congrArg (·[j]?) h3
      simp only [Nat.mul_one] at this
      rw [List.getElem?_take, if_pos hj, List.getElem?_map, List.getElem?_eq_getElem hj] at this
      simpa using this
    rw [Nat.zero_add]
    simp only [World.cell?, hg]
    exact e
set_option maxHeartbeats 1000000 in
set_option maxRecDepth 100000 in
theorem or_zero (g : Nat) (w : World) (h : ∀ k, k < 5 → w.cell? ⟨g, k, none⟩ = some (.int .i64 0)) :
    Calls Tryd.prog 38 #[.slice (some ⟨g, 0, none⟩) 5 5] w fun e w' => e = .returned (.int .i64 0) ∧ w' = w := by
  have H := Lib.hid h; clear h
  go_enter Tryd.func38, Tryd.ntmps38
  go_wp2_with fail
  go_loopw [8] (fun i wr => ∃ k : Nat, k ≤ 5 ∧ i = .int .i64 k ∧ Hid (wr = w)) (fun i _ => 5 - (intOf i).toNat)
  case atStart => exact ⟨0, by omega, rfl, Lib.hid rfl⟩
  case round =>
    obtain ⟨k, hk, rfl, HW⟩ := hrel
    obtain rfl := HW.out.symm
    clear HW
    by_cases hlt : k < 5
    · have hc := H.out k hlt
      have i0 : (k : Int) < 5 := by omega
      have i1 : (0 : Int) ≤ k := by omega
      go_wp2_with fail
      go_roundw
      case rel => exact ⟨k + 1, by omega, by go_num, Lib.hid trivial⟩
      case measure => simp [intOf]; omega
    · obtain rfl : k = 5 := by omega
      go_wp2_with fail
      go_ret
      exact ⟨rfl, rfl⟩
/-- WHAT HOLDS WHILE FIVE WORDS ARE READ: block A the answer's, A + 1 the line's, A + 1 + 1 the errors'. -/
structure RS (w : World) (A : Nat) (i c p d r : Int) (W : World) : Prop where
  bel : Below A w W
  res : W.heap[A]? = some (.cells #[.int .i64 0, .int .i64 0, .int .i64 0, .int .i64 0, .int .i64 0, .bool false] 25)
  lin : W.heap[A + 1]? = some (.cells #[.int .i64 i, .int .i64 c, .int .i64 p, .int .i64 d, .int .i64 r, .bool true] 25)
  ers : W.heap[A + 1 + 1]? = some (.cells #[.int .i64 0, .int .i64 0, .int .i64 0, .int .i64 0, .int .i64 0] 94)
section
variable {w W W' : World} {A : Nat} {i c p d r x : Int}
theorem RS.lt (h : RS w A i c p d r W) : A + 1 + 1 < W.heap.size := own_lt h.ers
theorem RS.below (h : RS w A i c p d r W) (hb : Below W.heap.size W W') : RS w A i c p d r W' :=
  ⟨h.bel.trans (hb.mono (by have := h.lt; omega)), (hb.block _ (own_lt h.res)).trans h.res, (hb.block _ (own_lt h.lin)).trans h.lin, (hb.block _ (own_lt h.ers)).trans h.ers⟩
theorem RS.fz (h : RS w A i c p d r W) (j : Nat) : W.frozen? ⟨A + 1, j, none⟩ = false ∧ W.frozen? ⟨A + 1 + 1, j, none⟩ = false ∧ A + 1 < W.heap.size ∧ A + 1 + 1 < W.heap.size := ⟨own_free h.lin, own_free h.ers, own_lt h.lin, own_lt h.ers⟩
theorem RS.put (h : RS w A i c p d r W) {j : Nat} {i' c' p' d' r' : Int} (hj : (#[Value.int .i64 i, .int .i64 c, .int .i64 p, .int .i64 d, .int .i64 r, .bool true] : Array Value).setIfInBounds j (.int .i64 x) = #[.int .i64 i', .int .i64 c', .int .i64 p', .int .i64 d', .int .i64 r', .bool true]) (k : Nat)
    (hk : (#[Value.int .i64 0, .int .i64 0, .int .i64 0, .int .i64 0, .int .i64 0] : Array Value).setIfInBounds k (.int .i64 0) = #[.int .i64 0, .int .i64 0, .int .i64 0, .int .i64 0, .int .i64 0]) :
    RS w A i' c' p' d' r' ((W.setCell ⟨A + 1, j, none⟩ (.int .i64 x)).setCell ⟨A + 1 + 1, k, none⟩ (.int .i64 0)) :=
  ⟨(h.bel.setCell (p := ⟨A + 1, j, none⟩) (by show A ≤ A + 1; omega) _).setCell (p := ⟨A + 1 + 1, k, none⟩) (by show A ≤ A + 1 + 1; omega) _,
    own_other (own_other h.res (by omega) _) (by omega) _,
    own_other (by rw [own_set h.lin, hj]) (by omega) _,
    by rw [own_set (own_other h.ers (by omega) _), hk]⟩
end
set_option maxHeartbeats 4000000 in
set_option maxRecDepth 100000 in
theorem readServed_any (v : Value) (ws : List ByteArray) (i c p d r : Int) (w : World) (hE : EnvAt w.heap.size w) (hS : Strs w v ws)
    (hw : ws = [strOf (writeV i 0), strOf (writeV c 0), strOf (writeV p 0), strOf (writeV d 0), strOf (writeV r 0)]) (hok : (LN.mk i c p d r true).Ok) :
    Calls Tryd.prog 26 #[v] w fun e w' => e = .returned (.tuple #[.agg #[.int .i64 i, .int .i64 c, .int .i64 p, .int .i64 d, .int .i64 r, .bool true], .int .i64 0]) ∧ Below w.heap.size w w' := by
  obtain ⟨a, cap, rfl, hcap, hs⟩ := hS
  obtain ⟨g, o, rfl, hg, hat⟩ := hs.resolve_left (by rw [hw]; simp)
  obtain ⟨A, hA⟩ : ∃ A, A = w.heap.size := ⟨_, rfl⟩
  have hl : ws.length = 5 := by rw [hw]; rfl
  rw [hl] at hcap ⊢
  have whole := fun (x : Int) (hx : Rng x) (h0 : 0 ≤ x) W (hb : Below A w W) => by
    have h := whole_any (strOf (writeV x 0)) W (hE.below (by rw [← hA]; exact hb)).env (by have := (rng_row hx).2; omega)
    rw [data_strOf, (whole_ok hx h0).1, (whole_ok hx h0).2] at h
    exact h
  have read := fun (x : Int) (hx : Rng x) W (hb : Below A w W) => by
    have h := read_any (strOf (writeV x 0)) 0 W (hE.below (by rw [← hA]; exact hb)).env (by have := (rng_row hx).2; omega)
    rw [data_strOf, (read_ok hx).1, (read_ok hx).2] at h
    exact h
  have h0 := whole i hok.rid hok.zid
  have h1 := whole c hok.rcar hok.zcar
  have h2 := read p hok.rpick
  have h3 := read d hok.rdrop
  have h4 := read r hok.rride
  have k0 : ∀ W, Below A w W → W.cell? ⟨g, o, none⟩ = some (.string (strOf (writeV i 0))) := fun W hb => (hb.cell (p := ⟨g, o, none⟩) (by rw [hA]; exact hg)).trans (by have := hat 0 (by omega); simp only [hw] at this; exact this)
  have k1 : ∀ W, Below A w W → W.cell? ⟨g, o + 1, none⟩ = some (.string (strOf (writeV c 0))) := fun W hb => (hb.cell (p := ⟨g, o + 1, none⟩) (by rw [hA]; exact hg)).trans (by have := hat 1 (by omega); simp only [hw] at this; exact this)
  have k2 : ∀ W, Below A w W → W.cell? ⟨g, o + 2, none⟩ = some (.string (strOf (writeV p 0))) := fun W hb => (hb.cell (p := ⟨g, o + 2, none⟩) (by rw [hA]; exact hg)).trans (by have := hat 2 (by omega); simp only [hw] at this; exact this)
  have k3 : ∀ W, Below A w W → W.cell? ⟨g, o + 3, none⟩ = some (.string (strOf (writeV d 0))) := fun W hb => (hb.cell (p := ⟨g, o + 3, none⟩) (by rw [hA]; exact hg)).trans (by have := hat 3 (by omega); simp only [hw] at this; exact this)
  have k4 : ∀ W, Below A w W → W.cell? ⟨g, o + 4, none⟩ = some (.string (strOf (writeV r 0))) := fun W hb => (hb.cell (p := ⟨g, o + 4, none⟩) (by rw [hA]; exact hg)).trans (by have := hat 4 (by omega); simp only [hw] at this; exact this)
  generalize strOf (writeV i 0) = s0 at *
  generalize strOf (writeV c 0) = s1 at *
  generalize strOf (writeV p 0) = s2 at *
  generalize strOf (writeV d 0) = s3 at *
  generalize strOf (writeV r 0) = s4 at *
  have H0 := Lib.hid h0; clear h0
  have H1 := Lib.hid h1; clear h1
  have H2 := Lib.hid h2; clear h2
  have H3 := Lib.hid h3; clear h3
  have H4 := Lib.hid h4; clear h4
  have K0 := Lib.hid k0; clear k0
  have K1 := Lib.hid k1; clear k1
  have K2 := Lib.hid k2; clear k2
  have K3 := Lib.hid k3; clear k3
  have K4 := Lib.hid k4; clear k4
  have HA := Lib.hid hA; clear hA
  clear whole read hat hs hE hw hok hl
  obtain ⟨W0, hW0⟩ : ∃ W0, W0 = ((w.alloc (.cells #[.int .i64 0, .int .i64 0, .int .i64 0, .int .i64 0, .int .i64 0, .bool false] 25)).alloc (.cells #[.int .i64 0, .int .i64 0, .int .i64 0, .int .i64 0, .int .i64 0, .bool true] 25)).alloc (.cells #[.int .i64 0, .int .i64 0, .int .i64 0, .int .i64 0, .int .i64 0] 94) := ⟨_, rfl⟩
  have hs0 : RS w A 0 0 0 0 0 W0 := by
    rw [hW0, HA.out]
    refine ⟨(((Below.refl _ _).alloc (Nat.le_refl _) _).alloc (by simp) _).alloc (by simp; omega) _, ?_, ?_, ?_⟩
    · rw [Below.heap_alloc _ _ _ (by simp; omega), Below.heap_alloc _ _ _ (by simp)]; exact World.alloc_heap_new w _
    · rw [Below.heap_alloc _ _ _ (by simp), ← World.size_alloc w (.cells #[.int .i64 0, .int .i64 0, .int .i64 0, .int .i64 0, .int .i64 0, .bool false] 25)]; exact World.alloc_heap_new _ _
    · rw [← World.size_alloc w (.cells #[.int .i64 0, .int .i64 0, .int .i64 0, .int .i64 0, .int .i64 0, .bool false] 25), ← World.size_alloc _ (.cells #[.int .i64 0, .int .i64 0, .int .i64 0, .int .i64 0, .int .i64 0, .bool true] 25)]; exact World.alloc_heap_new _ _
  have q0 := K0.out _ hs0.bel
  rw [hW0] at q0
  have HS0 := Lib.hid hs0; clear hs0
  have HW0 := Lib.hid hW0; clear hW0
  go_enter Tryd.func26, Tryd.ntmps26
  go_wp2_with fail
  rw [← HA.out, ← HW0.out]
  clear q0
  refine (H0.out _ HS0.out.bel).mono ?_
  rintro e w1 ⟨rfl, hb⟩
  have HS1 := Lib.hid (HS0.out.below hb); clear hb
  have hx : A + 1 + 1 ≠ A + 1 := by omega
  have hx' : A + 1 ≠ A + 1 + 1 := by omega
  obtain ⟨f1, f2, l1, l2⟩ := HS1.out.fz 0
  have z1 : w1.cell? ⟨A + 1, 0, none⟩ = some (.int .i64 0) := (own_cell HS1.out.lin).trans rfl
  have z2 : w1.cell? ⟨A + 1 + 1, 0, none⟩ = some (.int .i64 0) := (own_cell HS1.out.ers).trans rfl
  have n1 := HS1.out.put (j := 0) (x := i) (i' := i) (c' := 0) (p' := 0) (d' := 0) (r' := 0) rfl 0 rfl
  have q1 := K1.out _ n1.bel
  have HN1 := Lib.hid n1; clear n1
  go_wp2_with fail
  clear f1 f2 l1 l2 z1 z2 q1
  refine (H1.out _ HN1.out.bel).mono ?_
  rintro e w2 ⟨rfl, hb⟩
  have HS2 := Lib.hid (HN1.out.below hb); clear hb
  obtain ⟨f1, f2, l1, l2⟩ := HS2.out.fz 1
  have z1 : w2.cell? ⟨A + 1, 1, none⟩ = some (.int .i64 0) := (own_cell HS2.out.lin).trans rfl
  have z2 : w2.cell? ⟨A + 1 + 1, 1, none⟩ = some (.int .i64 0) := (own_cell HS2.out.ers).trans rfl
  have n1 := HS2.out.put (j := 1) (x := c) (i' := i) (c' := c) (p' := 0) (d' := 0) (r' := 0) rfl 1 rfl
  have q1 := K2.out _ n1.bel
  have HN2 := Lib.hid n1; clear n1
  go_wp2_with fail
  clear f1 f2 l1 l2 z1 z2 q1
  refine (H2.out _ HN2.out.bel).mono ?_
  rintro e w3 ⟨rfl, hb⟩
  have HS3 := Lib.hid (HN2.out.below hb); clear hb
  obtain ⟨f1, f2, l1, l2⟩ := HS3.out.fz 2
  have z1 : w3.cell? ⟨A + 1, 2, none⟩ = some (.int .i64 0) := (own_cell HS3.out.lin).trans rfl
  have z2 : w3.cell? ⟨A + 1 + 1, 2, none⟩ = some (.int .i64 0) := (own_cell HS3.out.ers).trans rfl
  have n1 := HS3.out.put (j := 2) (x := p) (i' := i) (c' := c) (p' := p) (d' := 0) (r' := 0) rfl 2 rfl
  have q1 := K3.out _ n1.bel
  have HN3 := Lib.hid n1; clear n1
  go_wp2_with fail
  clear f1 f2 l1 l2 z1 z2 q1
  refine (H3.out _ HN3.out.bel).mono ?_
  rintro e w4 ⟨rfl, hb⟩
  have HS4 := Lib.hid (HN3.out.below hb); clear hb
  obtain ⟨f1, f2, l1, l2⟩ := HS4.out.fz 3
  have z1 : w4.cell? ⟨A + 1, 3, none⟩ = some (.int .i64 0) := (own_cell HS4.out.lin).trans rfl
  have z2 : w4.cell? ⟨A + 1 + 1, 3, none⟩ = some (.int .i64 0) := (own_cell HS4.out.ers).trans rfl
  have n1 := HS4.out.put (j := 3) (x := d) (i' := i) (c' := c) (p' := p) (d' := d) (r' := 0) rfl 3 rfl
  have q1 := K4.out _ n1.bel
  have HN4 := Lib.hid n1; clear n1
  go_wp2_with fail
  clear f1 f2 l1 l2 z1 z2 q1
  refine (H4.out _ HN4.out.bel).mono ?_
  rintro e w5 ⟨rfl, hb⟩
  have HS5 := Lib.hid (HN4.out.below hb); clear hb
  obtain ⟨f1, f2, l1, l2⟩ := HS5.out.fz 4
  have z1 : w5.cell? ⟨A + 1, 4, none⟩ = some (.int .i64 0) := (own_cell HS5.out.lin).trans rfl
  have z2 : w5.cell? ⟨A + 1 + 1, 4, none⟩ = some (.int .i64 0) := (own_cell HS5.out.ers).trans rfl
  have n1 := HS5.out.put (j := 4) (x := r) (i' := i) (c' := c) (p' := p) (d' := d) (r' := r) rfl 4 rfl
  have HN5 := Lib.hid n1; clear n1
  have HO := Lib.hid (fun W (h : RS w A i c p d r W) => or_zero (A + 1 + 1) W (fun k hk => (own_cell h.ers).trans (by
    match k, hk with
    | 0, _ => rfl
    | 1, _ => rfl
    | 2, _ => rfl
    | 3, _ => rfl
    | 4, _ => rfl)))
  go_wp2_with fail
  clear f1 f2 l1 l2 z1 z2
  generalize ((w5.setCell ⟨A + 1, 4, none⟩ (.int .i64 r)).setCell ⟨A + 1 + 1, 4, none⟩ (.int .i64 0)) = W6 at *
  have y0 : W6.cell? ⟨A + 1, 0, none⟩ = some (.int .i64 i) := (own_cell HN5.out.lin).trans rfl
  have y1 : W6.cell? ⟨A + 1, 1, none⟩ = some (.int .i64 c) := (own_cell HN5.out.lin).trans rfl
  have y2 : W6.cell? ⟨A + 1, 2, none⟩ = some (.int .i64 p) := (own_cell HN5.out.lin).trans rfl
  have y3 : W6.cell? ⟨A + 1, 3, none⟩ = some (.int .i64 d) := (own_cell HN5.out.lin).trans rfl
  have y4 : W6.cell? ⟨A + 1, 4, none⟩ = some (.int .i64 r) := (own_cell HN5.out.lin).trans rfl
  have y5 : W6.cell? ⟨A + 1, 5, none⟩ = some (.bool true) := (own_cell HN5.out.lin).trans rfl
  have z0 : W6.cell? ⟨A, 0, none⟩ = some (.int .i64 0) := (own_cell HN5.out.res).trans rfl
  have z1 : W6.cell? ⟨A, 1, none⟩ = some (.int .i64 0) := (own_cell HN5.out.res).trans rfl
  have z2 : W6.cell? ⟨A, 2, none⟩ = some (.int .i64 0) := (own_cell HN5.out.res).trans rfl
  have z3 : W6.cell? ⟨A, 3, none⟩ = some (.int .i64 0) := (own_cell HN5.out.res).trans rfl
  have z4 : W6.cell? ⟨A, 4, none⟩ = some (.int .i64 0) := (own_cell HN5.out.res).trans rfl
  have z5 : W6.cell? ⟨A, 5, none⟩ = some (.bool false) := (own_cell HN5.out.res).trans rfl
  have fz : ∀ j, W6.frozen? ⟨A, j, none⟩ = false := fun j => own_free HN5.out.res
  have hxa : A ≠ A + 1 := by omega
  have HB6 := Lib.hid HN5.out.bel
  have HR6 := Lib.hid HN5.out.res
  have HO' := Lib.hid (HO.out _ HN5.out); clear HO
  have HOD := Lib.hid (show Calls Tryd.prog 38 #[.slice (some ⟨A + 1 + 1, 0, none⟩) 5 5] W6.drew fun e w' => e = .returned (.int .i64 0) ∧ w' = W6.drew from or_zero (A + 1 + 1) W6.drew (fun k hk => (own_cell (w := W6.drew) HN5.out.ers).trans (by
    match k, hk with
    | 0, _ => rfl
    | 1, _ => rfl
    | 2, _ => rfl
    | 3, _ => rfl
    | 4, _ => rfl)))
  clear HN1 HN2 HN3 HN4 HN5 HS0 HS1 HS2 HS3 HS4 HS5 H0 H1 H2 H3 H4 K0 K1 K2 K3 K4 HW0
  go_region_with (go_at_call 38; first | (refine HOD.out.mono ?_; rintro e w' ⟨rfl, rfl⟩) | (refine HO'.out.mono ?_; rintro e w' ⟨rfl, rfl⟩))
  all_goals
    go_wp2_with fail
    clear y0 y1 y2 y3 y4 y5 z0 z1 z2 z3 z4 z5 fz
    obtain ⟨W8, hW8⟩ : ∃ W8, W8 = ((((((W6.setCell ⟨A, 0, none⟩ (.int .i64 i)).setCell ⟨A, 1, none⟩ (.int .i64 c)).setCell ⟨A, 2, none⟩ (.int .i64 p)).setCell ⟨A, 3, none⟩ (.int .i64 d)).setCell ⟨A, 4, none⟩ (.int .i64 r)).setCell ⟨A, 5, none⟩ (.bool true)).drew := ⟨_, rfl⟩
    have hx8 : W8.heap[A]? = some (.cells #[.int .i64 i, .int .i64 c, .int .i64 p, .int .i64 d, .int .i64 r, .bool true] 25) := by
      rw [hW8, drew_heap]; exact own_set (own_set (own_set (own_set (own_set (own_set HR6.out _) _) _) _) _) _
    have hb8 : Below A w W8 := by
      rw [hW8]
      exact ((((((HB6.out.setCell (p := ⟨A, 0, none⟩) (Nat.le_refl _) _).setCell (p := ⟨A, 1, none⟩) (Nat.le_refl _) _).setCell (p := ⟨A, 2, none⟩) (Nat.le_refl _) _).setCell (p := ⟨A, 3, none⟩) (Nat.le_refl _) _).setCell (p := ⟨A, 4, none⟩) (Nat.le_refl _) _).setCell (p := ⟨A, 5, none⟩) (Nat.le_refl _) _).drew
    rw [← hW8]
    clear hW8
    refine bodyPost_ret (v := .tuple #[.agg #[.int .i64 i, .int .i64 c, .int .i64 p, .int .i64 d, .int .i64 r, .bool true], .int .i64 0]) (by simp [results, Tryd.results26, go_sem, World.cell?, hx8]) rfl ?_
    rw [← HA.out]
    exact ⟨rfl, hb8⟩
end Tk
end Go.Proofs.YtjmingdlfihmaaaDoor
