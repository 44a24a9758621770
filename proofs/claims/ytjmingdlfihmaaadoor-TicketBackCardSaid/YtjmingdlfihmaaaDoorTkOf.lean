/- Package ticket's Of, at the example; over the translated program. -/
import Derived.Test.YtjmingdlfihmaaaDoorTkAllN
import Derived.Test.YtjmingdlfihmaaaDoorTkFind
namespace Go.Proofs.YtjmingdlfihmaaaDoor
namespace Tk
open Go Go.RowKit Deci
set_option linter.unusedVariables false
theorem info_bool : (Tryd.prog.info? 4).map (fun i => (i.zero, i.size, i.bytes)) = some (some (.bool false), 1, 1) := by kernel_rfl
theorem made_bool (W : World) : (Instr.makeSlice 56 (.int .i64 2) (.int .i64 2)).run Tryd.prog W = .ok (.slice (some ⟨W.heap.size, 0, none⟩) 2 2) (W.alloc (.cells #[.bool false, .bool false] 4)) := by
  obtain ⟨i, hi, hz, hs, hb⟩ := info_parts info_bool
  have := run_make (P := Tryd.prog) W 56 4 i _ Tryd.underlying56 hi hz .i64 .i64 2 2 (by omega) (Int.le_refl _) (by rw [hb]; omega) (by omega)
  rw [this, hs, show madeCells (Value.bool false).cells (Int.toNat 2 * 1) = #[.bool false, .bool false] by kernel_rfl]
  rfl
/-- What holds in Of: X its box of the instance, D the row of who has booked, I that row's block. -/
structure OS (w : World) (X D I s r : Nat) (pc bs : Array Value) (W : World) : Prop where
  x : W.heap[X]? = some (.cells #[.slice none 0 0, .slice (some ⟨s, 0, none⟩) 4 4, .slice (some ⟨r, 0, none⟩) 1 1, .slice none 0 0] 41)
  y : W.heap[X + 1]? = some (.cells pc 36)
  d : W.heap[D]? = some (.cells #[.slice (some ⟨I, 0, none⟩) 2 2] 56)
  i : W.heap[I]? = some (.cells bs 4)
  bel : Below X w W
  ne : X ≤ D ∧ X ≤ I ∧ D ≠ I ∧ I ≠ X ∧ I ≠ X + 1
theorem OS.below {w W W' : World} {X D I s r : Nat} {pc bs : Array Value} (h : OS w X D I s r pc bs W) (hb : Below W.heap.size W W') : OS w X D I s r pc bs W' :=
  ⟨(hb.block _ (own_lt h.x)).trans h.x, (hb.block _ (own_lt h.y)).trans h.y, (hb.block _ (own_lt h.d)).trans h.d, (hb.block _ (own_lt h.i)).trans h.i, h.bel.trans (hb.mono (Nat.le_of_lt (own_lt h.x))), h.ne⟩
theorem OS.put {w W : World} {X D I s r : Nat} {pc bs : Array Value} (h : OS w X D I s r pc bs W) (j : Nat) (u : Value) : OS w X D I s r pc (bs.setIfInBounds j u) (W.setCell ⟨I, j, none⟩ u) := by
  obtain ⟨n1, n2, n3, n4, n5⟩ := h.ne
  exact ⟨own_other h.x (Ne.symm n4) _, own_other h.y (Ne.symm n5) _, own_other h.d n3 _, own_set h.i _, h.bel.setCell (p := ⟨I, j, none⟩) n2 _, h.ne⟩
def bookedAt (k : Nat) : Array Value := if k = 0 then #[.bool false, .bool false] else #[.bool false, .bool true]
set_option maxHeartbeats 4000000 in
set_option maxRecDepth 100000 in
theorem of_any (s r K m : Nat) (a1 a2 : Option Addr) (n1 n2 c1 c2 : Nat) (l : Array Value) (c p d q : Int) (sv : Bool) (hl : l = #[.int .i64 1, .int .i64 c, .int .i64 p, .int .i64 d, .int .i64 q, .bool sv]) (w : World) (hm : m = 1 ∨ m = 2)
    (hK : ∀ k, k < m → w.cell? ⟨K, k, none⟩ = some (.int .i64 (if k = 0 then 1 else 9)))
    (hall : ∀ W, Below w.heap.size w W → Calls Tryd.prog 17 #[.agg #[.slice none 0 0, .slice (some ⟨s, 0, none⟩) 4 4, .slice (some ⟨r, 0, none⟩) 1 1, .slice none 0 0], .agg #[.slice a1 n1 c1, .slice a2 n2 c2, .slice none 0 0, .int .i64 0]] W fun e w' => ∃ G, e = .returned (.slice (some ⟨G, 0, none⟩) 1 1) ∧ w'.heap[G]? = some (.cells l 25) ∧ Below W.heap.size W w') :
    Calls Tryd.prog 7 #[.agg #[.slice none 0 0, .slice (some ⟨s, 0, none⟩) 4 4, .slice (some ⟨r, 0, none⟩) 1 1, .slice none 0 0], .agg #[.slice a1 n1 c1, .slice a2 n2 c2, .slice none 0 0, .int .i64 0], .slice (some ⟨K, 0, none⟩) m m] w fun e w' => ∃ G, e = .returned (.slice (some ⟨G, 0, none⟩) 1 1) ∧ w'.heap[G]? = some (.cells l 25) ∧ Below w.heap.size w w' := by
  obtain ⟨X, hX⟩ : ∃ X, X = w.heap.size := ⟨_, rfl⟩
  obtain ⟨W0, hW0⟩ : ∃ W0, W0 = (w.alloc (.cells #[.slice none 0 0, .slice (some ⟨s, 0, none⟩) 4 4, .slice (some ⟨r, 0, none⟩) 1 1, .slice none 0 0] 41)).alloc (.cells #[.slice a1 n1 c1, .slice a2 n2 c2, .slice none 0 0, .int .i64 0] 36) := ⟨_, rfl⟩
  have hb0 : Below X w W0 := by rw [hW0, hX]; exact ((Below.refl _ _).alloc (Nat.le_refl _) _).alloc (by simp) _
  have hx0 : W0.heap[X]? = some (.cells #[.slice none 0 0, .slice (some ⟨s, 0, none⟩) 4 4, .slice (some ⟨r, 0, none⟩) 1 1, .slice none 0 0] 41) := by rw [hW0, hX]; exact (heap2 w _ _).1
  have hy0 : W0.heap[X + 1]? = some (.cells #[.slice a1 n1 c1, .slice a2 n2 c2, .slice none 0 0, .int .i64 0] 36) := by rw [hW0, hX]; exact (heap2 w _ _).2
  have hKl : K < X := by
    have := World.block_lt_of_cell? _ _ (hK 0 (by omega))
    rw [hX]; exact this
  have HKC : Hid (∀ k, k < m → ∀ W, Below X w W → W.cell? ⟨K, k, none⟩ = some (.int .i64 (if k = 0 then 1 else 9))) := Lib.hid fun k hk W hb => (hb.cell (p := ⟨K, k, none⟩) hKl).trans (hK k hk)
  have HC := Lib.hid fun W => count_any s r W
  have HP1 := Lib.hid fun W => pick_one s r W
  have HP9 := Lib.hid fun W => pick_nine s r W
  rw [← hX] at hall
  have HALL := Lib.hid hall; clear hall
  have HX := Lib.hid hX; clear hX
  have HW0 := Lib.hid hW0; clear hW0
  have HB0 := Lib.hid hb0; clear hb0
  have HX0 := Lib.hid hx0; clear hx0
  have HY0 := Lib.hid hy0; clear hy0
  have hm2 : m ≤ 2 := by omega
  have HM := Lib.hid hm; clear hm hK hKl
  have HL := Lib.hid hl; clear hl
  go_enter Tryd.func7, Tryd.ntmps7
  go_wp2_with fail
  rw [← HX.out, ← HW0.out]
  refine (HC.out _).mono ?_
  rintro e w1 ⟨rfl, hb⟩
  have hx1 := (hb.block X (own_lt HX0.out)).trans HX0.out
  have hy1 := (hb.block (X + 1) (own_lt HY0.out)).trans HY0.out
  have hb1 := HB0.out.trans (hb.mono (Nat.le_of_lt (own_lt HX0.out)))
  have hXl : X < w1.heap.size := own_lt hx1
  have hYl : X + 1 < w1.heap.size := own_lt hy1
  obtain ⟨I, hI⟩ : ∃ I, I = w1.heap.size := ⟨_, rfl⟩
  obtain ⟨W2, hW2⟩ : ∃ W2, W2 = (w1.alloc (.cells #[.bool false, .bool false] 4)).alloc (.cells #[.slice (some ⟨I, 0, none⟩) 2 2] 56) := ⟨_, rfl⟩
  have hb2 : Below w1.heap.size w1 W2 := by rw [hW2]; exact ((Below.refl _ _).alloc (Nat.le_refl _) _).alloc (by simp) _
  have hos : OS w X (I + 1) I s r #[.slice a1 n1 c1, .slice a2 n2 c2, .slice none 0 0, .int .i64 0] (bookedAt 0) W2 := by
    refine ⟨(hb2.block X hXl).trans hx1, (hb2.block (X + 1) hYl).trans hy1, ?_, ?_, hb1.trans (hb2.mono (by omega)), by omega, by omega, by omega, by omega, by omega⟩
    · rw [hW2, hI]; exact (heap2 w1 _ _).2
    · rw [hW2, hI]; exact (heap2 w1 _ _).1
  have HOS := Lib.hid hos; clear hos hb2 hb1 hy1 hx1 hb
  have h2 := fun W => made_bool W
  have HI := Lib.hid hI; clear hI
  have HW2 := Lib.hid hW2; clear hW2
  go_wp2_with fail
  rw [← HI.out, ← HW2.out]
  clear h2
  go_loopw [16] (fun i wr => ∃ k : Nat, k ≤ m ∧ i = .int .i64 k ∧ Hid (OS w X (I + 1) I s r #[.slice a1 n1 c1, .slice a2 n2 c2, .slice none 0 0, .int .i64 0] (bookedAt k) wr)) (fun i _ => m - (intOf i).toNat)
  case atStart => exact ⟨0, by omega, rfl, HOS⟩
  case round =>
    clear HOS
    obtain ⟨k, hk, rfl, HO⟩ := hrel
    by_cases hlt : k < m
    · have i0 : (k : Int) < (m : Int) := by omega
      have x0 : wr.cell? ⟨X, 0, none⟩ = some (.slice none 0 0) := (own_cell HO.out.x).trans rfl
      have x1 : wr.cell? ⟨X, 1, none⟩ = some (.slice (some ⟨s, 0, none⟩) 4 4) := (own_cell HO.out.x).trans rfl
      have x2 : wr.cell? ⟨X, 2, none⟩ = some (.slice (some ⟨r, 0, none⟩) 1 1) := (own_cell HO.out.x).trans rfl
      have x3 : wr.cell? ⟨X, 3, none⟩ = some (.slice none 0 0) := (own_cell HO.out.x).trans rfl
      rcases (show k = 0 ∨ k = 1 by omega) with rfl | rfl
      · have hc : wr.cell? ⟨K, 0, none⟩ = some (.int .i64 1) := HKC.out 0 hlt wr HO.out.bel
        go_wp2_with fail
        refine (HP1.out _).mono ?_
        rintro e w3 ⟨rfl, hb⟩
        have ho3 := HO.out.below hb
        have d0 : w3.cell? ⟨I + 1, 0, none⟩ = some (.slice (some ⟨I, 0, none⟩) 2 2) := (own_cell ho3.d).trans rfl
        have b1 : w3.cell? ⟨I, 1, none⟩ = some (.bool false) := (own_cell ho3.i).trans rfl
        have f1 : w3.frozen? ⟨I, 1, none⟩ = false := own_free ho3.i
        have HN : Hid (OS w X (I + 1) I s r #[.slice a1 n1 c1, .slice a2 n2 c2, .slice none 0 0, .int .i64 0] (bookedAt 1) (w3.setCell ⟨I, 1, none⟩ (.bool true))) := Lib.hid (ho3.put 1 (.bool true))
        clear hb ho3 x0 x1 x2 x3 hc
        go_wp2_with fail
        go_roundw
        case rel => exact ⟨1, by omega, by go_num, HN⟩
        case measure => simp [intOf]; omega
      · have hc : wr.cell? ⟨K, 1, none⟩ = some (.int .i64 9) := HKC.out 1 hlt wr HO.out.bel
        go_wp2_with fail
        refine (HP9.out _).mono ?_
        rintro e w3 ⟨rfl, hb⟩
        have HN : Hid (OS w X (I + 1) I s r #[.slice a1 n1 c1, .slice a2 n2 c2, .slice none 0 0, .int .i64 0] (bookedAt 2) w3) := Lib.hid (HO.out.below hb)
        clear hb x0 x1 x2 x3 hc
        go_wp2_with fail
        go_roundw
        case rel => exact ⟨2, by omega, by go_num, HN⟩
        case measure => simp [intOf]; omega
    · obtain rfl : k = m := by omega
      have hbk : bookedAt k = #[.bool false, .bool true] := by
        unfold bookedAt
        rcases HM.out with rfl | rfl <;> rfl
      have ho := HO.out
      rw [hbk] at ho
      have x0 : wr.cell? ⟨X, 0, none⟩ = some (.slice none 0 0) := (own_cell ho.x).trans rfl
      have x1 : wr.cell? ⟨X, 1, none⟩ = some (.slice (some ⟨s, 0, none⟩) 4 4) := (own_cell ho.x).trans rfl
      have x2 : wr.cell? ⟨X, 2, none⟩ = some (.slice (some ⟨r, 0, none⟩) 1 1) := (own_cell ho.x).trans rfl
      have x3 : wr.cell? ⟨X, 3, none⟩ = some (.slice none 0 0) := (own_cell ho.x).trans rfl
      have y0 : wr.cell? ⟨X + 1, 0, none⟩ = some (.slice a1 n1 c1) := (own_cell ho.y).trans rfl
      have y1 : wr.cell? ⟨X + 1, 1, none⟩ = some (.slice a2 n2 c2) := (own_cell ho.y).trans rfl
      have y2 : wr.cell? ⟨X + 1, 2, none⟩ = some (.slice none 0 0) := (own_cell ho.y).trans rfl
      have y3 : wr.cell? ⟨X + 1, 3, none⟩ = some (.int .i64 0) := (own_cell ho.y).trans rfl
      have HO' := Lib.hid ho; clear ho hbk HO
      go_wp2_with fail
      refine (HALL.out _ HO'.out.bel).mono ?_
      rintro e w3 ⟨G, rfl, hG, hb⟩
      have ho3 := HO'.out.below hb
      have hdel := delete_one l c p d q sv HL.out G (I + 1) I w3 hG ho3.d ((own_cell ho3.i).trans rfl)
      have HD := Lib.hid hdel; clear hdel
      have HO3 := Lib.hid ho3; clear ho3 hb
      have HG := Lib.hid hG; clear hG
      clear x0 x1 x2 x3 y0 y1 y2 y3
      go_wp2_with fail
      refine HD.out.mono ?_
      rintro e w4 ⟨rfl, hb⟩
      have HF : Hid (w4.heap[G]? = some (.cells l 25) ∧ Below w.heap.size w w4) := Lib.hid ⟨(hb.block G (own_lt HG.out)).trans HG.out, by rw [← HX.out]; exact HO3.out.bel.trans (hb.mono (Nat.le_of_lt (own_lt HO3.out.x)))⟩
      clear hb
      go_wp2_with fail
      go_ret
      exact ⟨_, rfl, HF.out⟩
end Tk
end Go.Proofs.YtjmingdlfihmaaaDoor
