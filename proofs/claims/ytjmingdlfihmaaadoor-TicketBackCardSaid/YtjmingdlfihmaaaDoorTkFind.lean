/- slices.IndexFunc and slices.DeleteFunc of lines, and package ticket's closures and Find, at the example; over the translated program. -/
import Derived.Test.YtjmingdlfihmaaaDoorTkA
import Derived.Test.YtjmingdlfihmaaaDoorTkInst
import Derived.OwnWalk
namespace Go.Proofs.YtjmingdlfihmaaaDoor
namespace Tk
open Go Go.RowKit Deci
set_option linter.unusedVariables false
section
variable (i c p d r : Int) (s : Bool)
/-- Of's closure: a request that is booked isn't taken out. -/
theorem of1_any (D I : Nat) (w : World) (hD : w.heap[D]? = some (.cells #[.slice (some ⟨I, 0, none⟩) 2 2] 56)) (hI : w.cell? ⟨I, 1, none⟩ = some (.bool true)) :
    Calls Tryd.prog 18 #[.agg #[.int .i64 1, .int .i64 c, .int .i64 p, .int .i64 d, .int .i64 r, .bool s], .pointer (some ⟨D, 0, none⟩)] w fun e w' => e = .returned (.bool false) ∧ Below w.heap.size w w' := by
  obtain ⟨W0, hW0⟩ : ∃ W0, W0 = w.alloc (.cells #[.int .i64 1, .int .i64 c, .int .i64 p, .int .i64 d, .int .i64 r, .bool s] 25) := ⟨_, rfl⟩
  have hb : Below w.heap.size w W0 := by rw [hW0]; exact (Below.refl _ _).alloc (Nat.le_refl _) _
  have d0 : W0.cell? ⟨D, 0, none⟩ = some (.slice (some ⟨I, 0, none⟩) 2 2) := (hb.cell (p := ⟨D, 0, none⟩) (own_lt hD)).trans ((own_cell hD).trans rfl)
  have i1 : W0.cell? ⟨I, 1, none⟩ = some (.bool true) := (hb.cell (p := ⟨I, 1, none⟩) (World.block_lt_of_cell? _ _ hI)).trans hI
  rw [hW0] at d0 i1
  have HB : Hid (Below w.heap.size w (w.alloc (.cells #[.int .i64 1, .int .i64 c, .int .i64 p, .int .i64 d, .int .i64 r, .bool s] 25))) := Lib.hid (by rw [← hW0]; exact hb)
  clear hW0 hb hD hI
  go_enter Tryd.func18, Tryd.ntmps18
  go_wp2_with fail
  go_ret
  exact ⟨rfl, HB.out⟩
/-- Find's closure. -/
theorem find1_any (B : Nat) (q : Int) (w : World) (hB : w.cell? ⟨B, 0, none⟩ = some (.int .i64 q)) :
    Calls Tryd.prog 20 #[.agg #[.int .i64 i, .int .i64 c, .int .i64 p, .int .i64 d, .int .i64 r, .bool s], .pointer (some ⟨B, 0, none⟩)] w fun e w' => e = .returned (.bool (i == q)) ∧ Below w.heap.size w w' := by
  obtain ⟨W0, hW0⟩ : ∃ W0, W0 = w.alloc (.cells #[.int .i64 i, .int .i64 c, .int .i64 p, .int .i64 d, .int .i64 r, .bool s] 25) := ⟨_, rfl⟩
  have hb : Below w.heap.size w W0 := by rw [hW0]; exact (Below.refl _ _).alloc (Nat.le_refl _) _
  have d0 : W0.cell? ⟨B, 0, none⟩ = some (.int .i64 q) := (hb.cell (p := ⟨B, 0, none⟩) (World.block_lt_of_cell? _ _ hB)).trans hB
  rw [hW0] at d0
  have HB : Hid (Below w.heap.size w (w.alloc (.cells #[.int .i64 i, .int .i64 c, .int .i64 p, .int .i64 d, .int .i64 r, .bool s] 25))) := Lib.hid (by rw [← hW0]; exact hb)
  clear hW0 hb hB
  go_enter Tryd.func20, Tryd.ntmps20
  go_wp2_with fail
  go_ret
  exact ⟨rfl, HB.out⟩
end
set_option maxHeartbeats 1000000 in
set_option maxRecDepth 100000 in
theorem index_one_line (l : Array Value) (c p d r : Int) (s : Bool) (hl : l = #[.int .i64 1, .int .i64 c, .int .i64 p, .int .i64 d, .int .i64 r, .bool s]) (G D I : Nat) (w : World) (hG : w.heap[G]? = some (.cells l 25)) (hD : w.heap[D]? = some (.cells #[.slice (some ⟨I, 0, none⟩) 2 2] 56)) (hI : w.cell? ⟨I, 1, none⟩ = some (.bool true)) :
    Calls Tryd.prog 19 #[.slice (some ⟨G, 0, none⟩) 1 1, .func (.func 18) #[] #[.pointer (some ⟨D, 0, none⟩)]] w fun e w' => e = .returned (.int .i64 (-1)) ∧ Below w.heap.size w w' := by
  subst hl
  have HC := Lib.hid (of1_any c p d r s D I w hD hI)
  have g0 : w.cell? ⟨G, 0, none⟩ = some (.int .i64 1) := (own_cell hG).trans rfl
  have g1 : w.cell? ⟨G, 1, none⟩ = some (.int .i64 c) := (own_cell hG).trans rfl
  have g2 : w.cell? ⟨G, 2, none⟩ = some (.int .i64 p) := (own_cell hG).trans rfl
  have g3 : w.cell? ⟨G, 3, none⟩ = some (.int .i64 d) := (own_cell hG).trans rfl
  have g4 : w.cell? ⟨G, 4, none⟩ = some (.int .i64 r) := (own_cell hG).trans rfl
  have g5 : w.cell? ⟨G, 5, none⟩ = some (.bool s) := (own_cell hG).trans rfl
  clear hG hD hI
  go_enter Tryd.func19, Tryd.ntmps19
  go_wp2_with fail
  go_loopw [8] (fun i wr => ∃ k : Nat, k ≤ 1 ∧ i = .int .i64 k ∧ Hid ((k = 0 → wr = w) ∧ Below w.heap.size w wr)) (fun i _ => 1 - (intOf i).toNat)
  case atStart => exact ⟨0, by omega, rfl, Lib.hid ⟨fun _ => rfl, Below.refl _ _⟩⟩
  case round =>
    obtain ⟨k, hk, rfl, HK⟩ := hrel
    rcases (show k = 0 ∨ k = 1 by omega) with rfl | rfl
    · obtain rfl := HK.out.1 rfl
      clear HK
      go_wp2_with fail
      refine HC.out.mono ?_
      rintro e w1 ⟨rfl, hb⟩
      have HB := Lib.hid hb; clear hb
      go_wp2_with fail
      go_roundw
      case rel => exact ⟨1, by omega, by go_num, Lib.hid ⟨fun h => absurd h (by omega), HB.out⟩⟩
      case measure => simp [intOf]
    · have HB := Lib.hid HK.out.2
      go_wp2_with fail
      go_ret
      exact ⟨rfl, HB.out⟩
set_option maxHeartbeats 1000000 in
set_option maxRecDepth 100000 in
theorem delete_one (l : Array Value) (c p d r : Int) (s : Bool) (hl : l = #[.int .i64 1, .int .i64 c, .int .i64 p, .int .i64 d, .int .i64 r, .bool s]) (G D I : Nat) (w : World) (hG : w.heap[G]? = some (.cells l 25)) (hD : w.heap[D]? = some (.cells #[.slice (some ⟨I, 0, none⟩) 2 2] 56)) (hI : w.cell? ⟨I, 1, none⟩ = some (.bool true)) :
    Calls Tryd.prog 16 #[.slice (some ⟨G, 0, none⟩) 1 1, .func (.func 18) #[] #[.pointer (some ⟨D, 0, none⟩)]] w fun e w' => e = .returned (.slice (some ⟨G, 0, none⟩) 1 1) ∧ Below w.heap.size w w' := by
  have HC := Lib.hid (index_one_line l c p d r s hl G D I w hG hD hI)
  clear hG hD hI
  go_enter Tryd.func16, Tryd.ntmps16
  go_wp2_with fail
  refine HC.out.mono ?_
  rintro e w1 ⟨rfl, hb⟩
  have HB := Lib.hid hb; clear hb
  go_wp2_with fail
  go_ret
  exact ⟨rfl, HB.out⟩
set_option maxHeartbeats 2000000 in
set_option maxRecDepth 100000 in
theorem index_two (g o B : Nat) (cap : Nat) (w : World) (h1 : LnAt w g o ⟨1, 0, 0, 6, 5, true⟩) (h2 : LnAt w g (o + 6) ⟨2, 0, 0, 0, 0, false⟩) (hB : w.cell? ⟨B, 0, none⟩ = some (.int .i64 2)) :
    Calls Tryd.prog 19 #[.slice (some ⟨g, o, none⟩) 2 cap, .func (.func 20) #[] #[.pointer (some ⟨B, 0, none⟩)]] w fun e w' => e = .returned (.int .i64 1) ∧ Below w.heap.size w w' := by
  have hc1 := find1_any 1 0 0 6 5 true B 2 w hB
  have hc2 := fun W (hb : Below w.heap.size w W) => find1_any 2 0 0 0 0 false B 2 W ((hb.cell (p := ⟨B, 0, none⟩) (World.block_lt_of_cell? _ _ hB)).trans hB)
  rw [show ((1 : Int) == 2) = false from rfl] at hc1
  simp only [show ((2 : Int) == 2) = true from rfl] at hc2
  have HC1 := Lib.hid hc1; clear hc1
  have HC2 := Lib.hid hc2; clear hc2
  have HL2 : Hid (∀ W, Below w.heap.size w W → LnAt W g (o + 6) ⟨2, 0, 0, 0, 0, false⟩) := Lib.hid fun W hb => h2.below hb h2.lt
  obtain ⟨c0, c1, c2, c3, c4, c5⟩ := h1
  simp only at c0 c1 c2 c3 c4 c5
  clear h2 hB
  go_enter Tryd.func19, Tryd.ntmps19
  go_wp2_with fail
  go_loopw [8] (fun i wr => ∃ k : Nat, k ≤ 1 ∧ i = .int .i64 k ∧ Hid ((k = 0 → wr = w) ∧ Below w.heap.size w wr)) (fun i _ => 2 - (intOf i).toNat)
  case atStart => exact ⟨0, by omega, rfl, Lib.hid ⟨fun _ => rfl, Below.refl _ _⟩⟩
  case round =>
    obtain ⟨k, hk, rfl, HK⟩ := hrel
    rcases (show k = 0 ∨ k = 1 by omega) with rfl | rfl
    · obtain rfl := HK.out.1 rfl
      clear HK
      go_wp2_with fail
      refine HC1.out.mono ?_
      rintro e w1 ⟨rfl, hb⟩
      have HB := Lib.hid hb; clear hb
      go_wp2_with fail
      go_roundw
      case rel => exact ⟨1, by omega, by go_num, Lib.hid ⟨fun h => absurd h (by omega), HB.out⟩⟩
      case measure => simp [intOf]
    · have HB := Lib.hid HK.out.2
      clear HK c0 c1 c2 c3 c4 c5
      obtain ⟨c0, c1, c2, c3, c4, c5⟩ := HL2.out wr HB.out
      simp only at c0 c1 c2 c3 c4 c5
      go_wp2_with fail
      refine (HC2.out _ HB.out).mono ?_
      rintro e w1 ⟨rfl, hb⟩
      have HB1 := Lib.hid (HB.out.trans (hb.mono HB.out.size)); clear hb
      go_wp2_with fail
      go_ret
      exact ⟨rfl, HB1.out⟩
set_option maxHeartbeats 2000000 in
set_option maxRecDepth 100000 in
theorem find_any (g o : Nat) (cap : Nat) (w : World) (h1 : LnAt w g o ⟨1, 0, 0, 6, 5, true⟩) (h2 : LnAt w g (o + 6) ⟨2, 0, 0, 0, 0, false⟩) :
    Calls Tryd.prog 9 #[.slice (some ⟨g, o, none⟩) 2 cap, .int .i64 2] w fun e w' => e = .returned (.tuple #[.agg #[.int .i64 2, .int .i64 0, .int .i64 0, .int .i64 0, .int .i64 0, .bool false], .bool true]) ∧ Below w.heap.size w w' := by
  obtain ⟨X, hX⟩ : ∃ X, X = w.heap.size := ⟨_, rfl⟩
  obtain ⟨W0, hW0⟩ : ∃ W0, W0 = (w.alloc (.cells #[.int .i64 2] 3)).alloc (.cells #[.int .i64 0, .int .i64 0, .int .i64 0, .int .i64 0, .int .i64 0, .bool false] 25) := ⟨_, rfl⟩
  have hb0 : Below X w W0 := by rw [hW0, hX]; exact ((Below.refl _ _).alloc (Nat.le_refl _) _).alloc (by simp) _
  have hx0 : W0.heap[X]? = some (.cells #[.int .i64 2] 3) := by rw [hW0, hX]; exact (heap2 w _ _).1
  have hy0 : W0.heap[X + 1]? = some (.cells #[.int .i64 0, .int .i64 0, .int .i64 0, .int .i64 0, .int .i64 0, .bool false] 25) := by rw [hW0, hX]; exact (heap2 w _ _).2
  have hgX : g < X := by rw [hX]; exact h1.lt
  have hi := index_two g o X cap W0 (h1.below hb0 hgX) (h2.below hb0 hgX) ((own_cell hx0).trans rfl)
  have HI := Lib.hid hi; clear hi
  have HL2 : Hid (∀ W, Below X w W → LnAt W g (o + 6) ⟨2, 0, 0, 0, 0, false⟩) := Lib.hid fun W hb => h2.below hb hgX
  have HX := Lib.hid hX; clear hX
  have HW0 := Lib.hid hW0; clear hW0
  have HB0 := Lib.hid hb0; clear hb0
  have HY0 := Lib.hid hy0; clear hy0
  have hXl : X < W0.heap.size := own_lt hx0
  clear hx0 h1 h2
  go_enter Tryd.func9, Tryd.ntmps9
  go_wp2_with fail
  rw [← HX.out, ← HW0.out]
  refine HI.out.mono ?_
  rintro e w1 ⟨rfl, hb⟩
  have hb1 := HB0.out.trans (hb.mono (Nat.le_of_lt hXl))
  have hy1 := (hb.block (X + 1) (own_lt HY0.out)).trans HY0.out
  obtain ⟨c0, c1, c2, c3, c4, c5⟩ := HL2.out w1 hb1
  simp only at c0 c1 c2 c3 c4 c5
  have z0 : w1.cell? ⟨X + 1, 0, none⟩ = some (.int .i64 0) := (own_cell hy1).trans rfl
  have z1 : w1.cell? ⟨X + 1, 1, none⟩ = some (.int .i64 0) := (own_cell hy1).trans rfl
  have z2 : w1.cell? ⟨X + 1, 2, none⟩ = some (.int .i64 0) := (own_cell hy1).trans rfl
  have z3 : w1.cell? ⟨X + 1, 3, none⟩ = some (.int .i64 0) := (own_cell hy1).trans rfl
  have z4 : w1.cell? ⟨X + 1, 4, none⟩ = some (.int .i64 0) := (own_cell hy1).trans rfl
  have z5 : w1.cell? ⟨X + 1, 5, none⟩ = some (.bool false) := (own_cell hy1).trans rfl
  have fz : ∀ j, w1.frozen? ⟨X + 1, j, none⟩ = false := fun j => own_free hy1
  have HY1 := Lib.hid hy1; clear hy1
  have HB1 := Lib.hid hb1; clear hb1 hb
  go_wp2_with fail
  clear c0 c1 c2 c3 c4 c5 z0 z1 z2 z3 z4 z5 fz
  obtain ⟨W8, hW8⟩ : ∃ W8, W8 = (((((w1.setCell ⟨X + 1, 0, none⟩ (.int .i64 2)).setCell ⟨X + 1, 1, none⟩ (.int .i64 0)).setCell ⟨X + 1, 2, none⟩ (.int .i64 0)).setCell ⟨X + 1, 3, none⟩ (.int .i64 0)).setCell ⟨X + 1, 4, none⟩ (.int .i64 0)).setCell ⟨X + 1, 5, none⟩ (.bool false) := ⟨_, rfl⟩
  have hx8 : W8.heap[X + 1]? = some (.cells #[.int .i64 2, .int .i64 0, .int .i64 0, .int .i64 0, .int .i64 0, .bool false] 25) := by
    rw [hW8]; exact own_set (own_set (own_set (own_set (own_set (own_set HY1.out _) _) _) _) _) _
  have hle : X ≤ X + 1 := by omega
  have hb8 : Below X w W8 := by
    rw [hW8]
    exact (((((HB1.out.setCell (p := ⟨X + 1, 0, none⟩) hle _).setCell (p := ⟨X + 1, 1, none⟩) hle _).setCell (p := ⟨X + 1, 2, none⟩) hle _).setCell (p := ⟨X + 1, 3, none⟩) hle _).setCell (p := ⟨X + 1, 4, none⟩) hle _).setCell (p := ⟨X + 1, 5, none⟩) hle _
  rw [← hW8]
  clear hW8
  refine bodyPost_ret (v := .tuple #[.agg #[.int .i64 2, .int .i64 0, .int .i64 0, .int .i64 0, .int .i64 0, .bool false], .bool true]) (by simp [results, Tryd.results9, go_sem, World.cell?, hx8]) rfl ?_
  rw [← HX.out]
  exact ⟨rfl, hb8⟩
end Tk
end Go.Proofs.YtjmingdlfihmaaaDoor
