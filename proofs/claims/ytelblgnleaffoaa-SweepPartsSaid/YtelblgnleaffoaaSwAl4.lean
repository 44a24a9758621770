/- jitneylaw17.alive: the document's example comes out as said. -/
import Derived.Test.YtelblgnleaffoaaSwAl1
import Derived.Test.YtelblgnleaffoaaSwAl2
import Derived.Test.YtelblgnleaffoaaSwAl3
namespace Go.Proofs.Ytelblgnleaffoaa
open Go.RowKit
namespace Sw
open Go.Lib Spot
set_option linter.unusedVariables false
theorem lit_cell (W : World) (cs : Array Value) (t : TypeId) (j : Nat) : (W.alloc (.cells cs t)).cell? ⟨W.heap.size, j, none⟩ = cs[j]? := by
  rw [World.cell?_alloc_new]
/-- A literal's numbers. -/
theorem lit_xs (W : World) (l : List Int) (t : TypeId) : IsXs (W.alloc (.cells (l.map (Value.int .i64)).toArray t)) (some ⟨W.heap.size, 0, none⟩) l.length (fun j => l.getD j 0) := by
  refine Or.inr ⟨W.heap.size, 0, rfl, by simp, fun j hj => ?_⟩
  rw [Nat.zero_add, lit_cell]
  simp [List.getD, hj]
/-- A literal of two rows. -/
theorem lit_rows (W : World) (l m : List Int) :
    RowsAt (((W.alloc (.cells (l.map (Value.int .i64)).toArray 3)).alloc (.cells (m.map (Value.int .i64)).toArray 3)).alloc (.cells #[.slice (some ⟨W.heap.size, 0, none⟩) l.length l.length, .slice (some ⟨W.heap.size + 1, 0, none⟩) m.length m.length] 22))
      (W.heap.size + 1 + 1) 2 (fun j => if j = 0 then l.length else m.length) (fun j i => (if j = 0 then l else m).getD i 0) := by
  have s1 : (W.alloc (.cells (l.map (Value.int .i64)).toArray 3)).heap.size = W.heap.size + 1 := by simp
  have s2 : ((W.alloc (.cells (l.map (Value.int .i64)).toArray 3)).alloc (.cells (m.map (Value.int .i64)).toArray 3)).heap.size = W.heap.size + 1 + 1 := by simp
  have x1 := lit_xs W l 3
  have x2 := lit_xs (W.alloc (.cells (l.map (Value.int .i64)).toArray 3)) m 3
  generalize (W.alloc (.cells (l.map (Value.int .i64)).toArray 3)) = W1 at *
  rw [s1] at x2
  have y1 := x1.below ((Below.refl W1.heap.size W1).alloc (Nat.le_refl _) (.cells (m.map (Value.int .i64)).toArray 3))
  generalize W1.alloc (.cells (m.map (Value.int .i64)).toArray 3) = W2 at *
  refine ⟨by simp [s2], fun j hj => ?_⟩
  rw [← s2, lit_cell]
  have h : j = 0 ∨ j = 1 := by omega
  rcases h with rfl | rfl
  · exact ⟨_, _, rfl, Nat.le_refl _, (fun h => by cases h), y1.below ((Below.refl W2.heap.size W2).alloc (Nat.le_refl _) _)⟩
  · exact ⟨_, _, rfl, Nat.le_refl _, (fun h => by cases h), x2.below ((Below.refl W2.heap.size W2).alloc (Nat.le_refl _) _)⟩
theorem RowsAt.congr {w : World} {g M : Nat} {L L' : Nat → Nat} {Z Z' : Nat → Nat → Int} (h : RowsAt w g M L Z) (hL : ∀ j, j < M → L j = L' j) (hZ : ∀ j, j < M → ∀ i, i < L j → Z j i = Z' j i) : RowsAt w g M L' Z' :=
  ⟨h.1, fun j hj => by
    obtain ⟨a, c, h1, h2, h3, h4⟩ := h.2 j hj
    rw [← hL j hj]
    refine ⟨a, c, h1, h2, h3, ?_⟩
    rcases h4 with h4 | ⟨b, off, e1, e2, e3⟩
    · exact .inl h4
    · exact .inr ⟨b, off, e1, e2, fun i hi => by rw [e3 i hi, hZ j hj i hi]⟩⟩
theorem len52 : ∀ j, j < 2 → lenN 5 2 j ≤ 100000 := by decide
theorem len32 : ∀ j, j < 2 → lenN 3 2 j ≤ 100000 := by decide
theorem below_drew {B : Nat} {w0 w w' : World} (h : Below B w0 w) (hd : Drew w w') : Below B w0 w' := by
  obtain ⟨q, rfl⟩ := hd
  exact ⟨h.os, h.tape, h.output, h.size, h.block⟩
set_option maxHeartbeats 4000000 in
set_option maxRecDepth 100000 in
theorem alive_any (w : World) : Calls Try.prog 4 #[] w fun e w' => e = .returned (.bool true) ∧ Below w.heap.size w w' := by
  have hs := fun W => sample_any W
  have ho := fun c s r b cap W (h1 : Smp W s) (h2 : b < W.heap.size) (h3 : ∀ j, j < 6 → W.cell? ⟨b, 0 + j, none⟩ = some (.int .i64 ([1, 2, 3, 4, 4, 9].getD j 0))) =>
    order_any c s r b 0 6 cap 3 [1, 2, 3, 4, 4, 9] [1, 2, 3, 4, 4] W h1 h2 rfl (by decide) (by decide) (by decide) h3 (by decide) (.inr ⟨9, rfl, rfl⟩) rise5 (by decide +kernel) (by decide) (by decide +kernel) (by decide +kernel)
  rw [ordL_three] at ho
  have hcl := clusters_any
  have hsp := spread_any
  have HS := Lib.hid hs; clear hs
  unfold smpV at *
  have HO := Lib.hid ho; clear ho
  have HCL := Lib.hid hcl; clear hcl
  have HSP := Lib.hid hsp; clear hsp
  go_enter Try.func4, Try.ntmps4
  go_wp2_with fail
  refine (HS.out _).mono ?_
  rintro e w1 ⟨c, s, r, rfl, hsm, hb⟩
  have HSM := Lib.hid hsm; have HB1 := Lib.hid hb; clear hsm hb
  unfold smpV at *
  go_wp2_with fail
  -- the instance in its block
  have hst : ∀ W', Below (w1.heap.size + 1) (w1.alloc (boxO c s r)) W' → Box W' w1.heap.size c s r ∧ Smp W' s ∧ w1.heap.size + 1 ≤ W'.heap.size ∧ Below w.heap.size w W' := fun W' h => by
    have b0 : Below w1.heap.size w1 (w1.alloc (boxO c s r)) := (Below.refl _ _).alloc (Nat.le_refl _) _
    have e : s < w1.heap.size + 1 := by have := HSM.out.1; omega
    refine ⟨(box_new w1 c s r).below h (by omega), (HSM.out.below b0 HSM.out.1).below h e, by have := h.size; simpa using this, HB1.out.trans ((b0.mono HB1.out.size).trans (h.mono (by have := HB1.out.size; omega)))⟩
  have HST := Lib.hid hst; clear hst
  obtain ⟨A, hA⟩ : ∃ A, A = w1.alloc (boxO c s r) := ⟨_, rfl⟩
  rw [← hA] at HST
  rw [show w1.alloc (Obj.cells #[Value.slice (some ⟨c, 0, none⟩) 2 2, .slice (some ⟨s, 0, none⟩) 10 10, .slice (some ⟨r, 0, none⟩) 4 4, .slice none 0 0] 34) = A from hA.symm]
  have hAz : A.heap.size = w1.heap.size + 1 := by rw [hA]; simp
  rw [← hAz]
  have HA := Lib.hid (And.intro hA hAz); clear hA hAz
  have HBA : Hid (Below A.heap.size A A) := Lib.hid (Below.refl _ _)
  have hb2 : Below (w1.heap.size + 1) A (A.alloc (.cells #[.int .i64 1, .int .i64 2, .int .i64 3, .int .i64 4, .int .i64 4, .int .i64 9] 3)) := (Below.refl _ _).alloc (by rw [HA.out.2]; omega) _
  have hx := lit_xs A [1, 2, 3, 4, 4, 9] 3
  refine (HO.out _ _ _ _ _ _ (HST.out _ hb2).2.1 (by simp) (fun j hj => ?_)).mono ?_
  · rcases hx with h | ⟨b, off, e1, _, e3⟩
    · cases h
    · cases e1; exact e3 j hj
  rintro e w2 ⟨v, rfl, hown, hb⟩
  obtain ⟨a2, c2, rfl, hc1, hc2, hxs⟩ := own_ord hown rfl
  have HB2 := Lib.hid (hb2.trans (hb.mono (by have := HA.out.2; simp; omega)))
  have HX2 := Lib.hid hxs
  clear hb2 hx hown hb hxs
  go_wp2_with fail
  refine (same_xs (n := 4) (by decide) (HX2.out.below ((Below.refl w2.heap.size w2).alloc (Nat.le_refl _) _)) (lit_xs w2 [2, 4, 3, 1] 3) (fun j _ => rfl)).mono ?_
  rintro e w3 ⟨rfl, hd⟩
  have HB3 := Lib.hid (below_drew (HB2.out.alloc (HST.out _ HB2.out).2.2.1 _) hd); clear hd
  clear hc1 hc2
  go_wp2_with fail
  refine (parts_any _ 5 5 _ 2 2 _ (lit_xs w3 [1, 2, 3, 4, 5] 3) (by decide) (by unfold maxLen; omega) (by decide) (by decide) (by decide)).mono ?_
  rintro e w4 ⟨g4, c4, rfl, hr, hb⟩
  have HB4 := Lib.hid ((HB3.out.alloc (HST.out _ HB3.out).2.2.1 (.cells #[.int .i64 1, .int .i64 2, .int .i64 3, .int .i64 4, .int .i64 5] 3)).trans (hb.mono (by have := (HST.out _ HB3.out).2.2.1; simp; omega)))
  have HR4 := Lib.hid hr; clear hr hb
  go_wp2_with fail
  have hb5 : ∀ X Y Z, Below w4.heap.size w4 (((w4.alloc X).alloc Y).alloc Z) := fun X Y Z => (((Below.refl w4.heap.size w4).alloc (Nat.le_refl _) X).alloc (by simp) Y).alloc (by simp; omega) Z
  refine (same_rows (L := lenN 5 2) (by decide) len52 (HR4.out.below (hb5 _ _ _)) ((lit_rows w4 [1, 2, 3] [4, 5]).congr (by decide) (fun _ _ _ _ => rfl)) (by decide +kernel)).mono ?_
  rintro e w5 ⟨rfl, hd⟩
  have HB5 := Lib.hid (below_drew (HB4.out.trans ((hb5 _ _ _).mono (HST.out _ HB4.out).2.2.1)) hd); clear hd hb5
  obtain ⟨⟨y0, y1, y2, y3, y4⟩, hsm, hz5, _⟩ := HST.out w5 HB5.out
  have HSM5 := Lib.hid hsm; have HZ5 := Lib.hid hz5; clear hsm hz5
  go_wp2_with fail
  refine (HCL.out _ _ _ _ _ _ (HSM5.out.below ((Below.refl w5.heap.size w5).alloc (Nat.le_refl _) _) HSM5.out.1) (by simp) (fun j hj => ?_)).mono ?_
  · rcases lit_xs w5 [1, 2, 3] 3 with h | ⟨b, off, e1, _, e3⟩
    · cases h
    · cases e1
      have := e3 j hj
      rw [Nat.zero_add] at this
      exact this
  rintro e w6 ⟨g6, c6, rfl, hr, hb⟩
  have HB6 := Lib.hid ((HB5.out.alloc HZ5.out (.cells #[.int .i64 1, .int .i64 2, .int .i64 3] 3)).trans (hb.mono (by have := HZ5.out; simp; omega)))
  have HR6 := Lib.hid hr; clear hr hb y0 y1 y2 y3 y4
  go_wp2_with fail
  have hb6 : ∀ X Y Z, Below w6.heap.size w6 (((w6.alloc X).alloc Y).alloc Z) := fun X Y Z => (((Below.refl w6.heap.size w6).alloc (Nat.le_refl _) X).alloc (by simp) Y).alloc (by simp; omega) Z
  refine (same_rows (L := lenN 3 2) (by decide) len32 (HR6.out.below (hb6 _ _ _)) ((lit_rows w6 [2, 3] [1]).congr (by decide) (fun _ _ _ _ => rfl)) (by decide +kernel)).mono ?_
  rintro e w7 ⟨rfl, hd⟩
  have HB7 := Lib.hid (below_drew (HB6.out.trans ((hb6 _ _ _).mono (HST.out _ HB6.out).2.2.1)) hd); clear hd hb6
  obtain ⟨⟨y0, y1, y2, y3, y4⟩, hsm, hz7, _⟩ := HST.out w7 HB7.out
  have HSM7 := Lib.hid hsm; have HZ7 := Lib.hid hz7; clear hsm hz7
  go_wp2_with fail
  have hc7 := lit_cell w7 #[.int .i64 2, .int .i64 3, .int .i64 9] 3
  refine (HSP.out _ _ _ _ _ _ (HSM7.out.below ((Below.refl w7.heap.size w7).alloc (Nat.le_refl _) _) HSM7.out.1) (by simp) (hc7 0) (hc7 1) (hc7 2)).mono ?_
  rintro e w8 ⟨rfl, hb⟩
  have HB8 := Lib.hid ((HB7.out.alloc HZ7.out (.cells #[.int .i64 2, .int .i64 3, .int .i64 9] 3)).trans (hb.mono (by have := HZ7.out; simp; omega)))
  clear hb hc7 y0 y1 y2 y3 y4
  go_wp2_with fail
  go_ret
  exact ⟨rfl, (HST.out _ HB8.out).2.2.2⟩
end Sw
end Go.Proofs.Ytelblgnleaffoaa
