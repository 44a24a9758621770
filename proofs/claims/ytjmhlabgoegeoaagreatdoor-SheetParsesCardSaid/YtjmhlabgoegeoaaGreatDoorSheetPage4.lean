/- Package sheet's page: the first line; over the translated program. -/
import Derived.Test.YtjmhlabgoegeoaaGreatDoorSheetPage
import Derived.Test.YtjmhlabgoegeoaaGreatDoorSheetChk3
namespace Go.Proofs.YtjmhlabgoegeoaaGreatDoor
namespace Sheet
open Go Go.RowKit Deci
def three (m n k : Int) (j : Nat) : Int := if j = 0 then m else if j = 1 then n else k
theorem three_at {m n k : Int} {j : Nat} (P : Int → Prop) (hm : P m) (hn : P n) (hk : P k) : P (three m n k j) := by
  unfold three
  split
  · exact hm
  · split <;> assumption
theorem three_row {m n k : Int} {T : TypeId} {w : World} : NumsAt w.heap.size 3 T (three m n k) (w.alloc (.cells #[.int .i64 m, .int .i64 n, .int .i64 k] T)) := by
  refine ⟨_, World.alloc_heap_new _ _, fun j hj => ?_⟩
  match j, hj with
  | 0, _ => rfl
  | 1, _ => rfl
  | 2, _ => rfl
def topT (sc m n : Int) : List UInt8 := [106, 105, 116, 110, 101, 121] ++ numsT 0 (three sc m n) 3 ++ 32 :: [115, 112, 111, 116, 115] ++ [10]
set_option maxHeartbeats 2000000 in
set_option maxRecDepth 100000 in
theorem head_page (B b : Nat) (sc : Int) (a1 a2 a3 a4 : Option Addr) (n1 c1 n2 c2 n3 c3 n4 c4 : Nat) (w : World) (h : IsPage B b sc [] w) (hE : EnvAt B w) (hm : 0 ≤ sc ∧ sc ≤ 6) (hn : n1 ≤ 1000) (hk : n3 ≤ 1000) (hs : (writeV sc 0).length ≤ 100) (ht : (writeV n1 0).length ≤ 100) (hu : (writeV n3 0).length ≤ 100)
    (hBw : B ≤ w.heap.size) :
    Calls Tryz.prog 39 #[.pointer (some ⟨b, 0, none⟩), .agg #[.slice a1 n1 c1, .slice a2 n2 c2, .slice a3 n3 c3, .slice a4 n4 c4], .bool true] w fun e w' => e = .returned (.tuple #[]) ∧ Pg B b sc (topT sc n1 n3) w w' := by
  obtain ⟨X, hX⟩ : ∃ X, X = w.heap.size := ⟨_, rfl⟩
  obtain ⟨W0, hW0⟩ : ∃ W0, W0 = w.alloc (.cells #[.slice a1 n1 c1, .slice a2 n2 c2, .slice a3 n3 c3, .slice a4 n4 c4] 28) := ⟨_, rfl⟩
  have hb0 : Below w.heap.size w W0 := by rw [hW0]; exact (Below.refl _ _).alloc (Nat.le_refl _) _
  have hx0 : W0.heap[X]? = some (.cells #[.slice a1 n1 c1, .slice a2 n2 c2, .slice a3 n3 c3, .slice a4 n4 c4] 28) := by rw [hX, hW0]; exact World.alloc_heap_new w _
  have hXb : X ≠ b := by have := h.lt; omega
  have hz0 : W0.heap.size = X + 1 := by rw [hX, hW0]; simp
  have hp0 := Pg.of h hb0 hBw
  have hc := writeString_any B b sc [] ⟨#[106, 105, 116, 110, 101, 121]⟩ W0 hp0.1 (by decide) (by have := hb0.size; omega)
  have HC := Lib.hid hc; clear hc
  have HP0 := Lib.hid hp0; clear hp0 hb0 h
  have hk2 : ∀ (l : List UInt8) (W : World), IsPage B b sc l W → EnvAt B W → l.length ≤ 100000 → B ≤ W.heap.size → Calls Tryz.prog 72 #[.pointer (some ⟨b, 0, none⟩), .slice (some ⟨W.heap.size, 0, none⟩) 3 3] (W.alloc (.cells #[.int .i64 sc, .int .i64 n1, .int .i64 n3] 3)) fun e w' => e = .returned (.tuple #[]) ∧ Pg B b sc (l ++ numsT 0 (three sc n1 n3) 3) W w' := by
    intro l W hP hEW hl hBW
    have hb1 : Below W.heap.size W (W.alloc (.cells #[.int .i64 sc, .int .i64 n1, .int .i64 n3] 3)) := (Below.refl _ _).alloc (Nat.le_refl _) _
    have hp1 := Pg.of hP hb1 hBW
    refine (wholes_page B b W.heap.size 3 3 sc l (three sc n1 n3) _ hp1.1 (hEW.below hp1.2.1) (fun j _ => three_at (fun x => -9223372036854775808 ≤ x ∧ x ≤ 9223372036854775807) ⟨by omega, by omega⟩ ⟨by omega, by omega⟩ ⟨by omega, by omega⟩) (fun j _ => three_at (fun x => (writeV x 0).length ≤ 100) hs ht hu) three_row (by have := hP.lt; omega) (by omega) (by omega) (by simp; omega)).mono ?_
    rintro e w' ⟨rfl, hp2⟩
    exact ⟨rfl, hp1.trans hp2⟩
  have HK2 := Lib.hid hk2; clear hk2
  have HTL : Hid ((numsT 0 (three sc n1 n3) 3).length ≤ 303) := Lib.hid (numsT_len (n := 3) (fun j _ => three_at (fun x => (writeV x 0).length ≤ 100) hs ht hu) 3 (by omega))
  have HE := Lib.hid hE; clear hE
  have HX0 := Lib.hid hx0; clear hx0
  have HX := Lib.hid hX; clear hX
  have HW := Lib.hid hW0; clear hW0
  have hcount := fun W => count_any a1 a2 a3 a4 n1 c1 n2 c2 n3 c3 n4 c4 W (by omega)
  have HCN := Lib.hid hcount; clear hcount
  go_enter Tryz.func39, Tryz.ntmps39
  go_wp2_with fail
  rw [← HX.out, ← HW.out]
  refine HC.out.mono ?_
  rintro e w1 ⟨rfl, hp⟩
  have hp1 := HP0.out.trans hp
  rw [List.nil_append] at hp1
  have hx1 : w1.heap[X]? = _ := hp.2.2 X _ HX0.out (by simpa using hXb) (by rintro c fz e; simp at e)
  have x0 : w1.cell? ⟨X, 0, none⟩ = some (.slice a1 n1 c1) := (own_cell hx1).trans rfl
  have x1 : w1.cell? ⟨X, 1, none⟩ = some (.slice a2 n2 c2) := (own_cell hx1).trans rfl
  have x2 : w1.cell? ⟨X, 2, none⟩ = some (.slice a3 n3 c3) := (own_cell hx1).trans rfl
  have x3 : w1.cell? ⟨X, 3, none⟩ = some (.slice a4 n4 c4) := (own_cell hx1).trans rfl
  have s2 : w1.cell? ⟨b, 2, none⟩ = some (.int .i64 sc) := hp1.1.scale
  have xl : X < w1.heap.size := (Array.getElem?_eq_some_iff.1 hx1).1
  have bl : b < w1.heap.size := hp1.1.lt
  have HX1 := Lib.hid hx1; clear hx1
  have HP1 := Lib.hid hp1; clear hp1 hp
  go_wp2_with fail
  go_region_with (first
    | (go_at_call 29; refine (HCN.out _).mono ?_; rintro e w2 ⟨rfl, hb2⟩; have hB2 : Below w1.heap.size w1 w2 := (Below.refl w1.heap.size w1).drew.trans hb2; have hB1 : B ≤ w1.heap.size := (by have := HP1.out.2.1.size; omega); have P2 := Lib.hid (HP1.out.below hB2 hB1); have y0 : w2.cell? ⟨X, 0, none⟩ = some (.slice a1 n1 c1) := (hB2.cell xl).trans x0; have s3 : w2.cell? ⟨b, 2, none⟩ = some (.int .i64 sc) := (hB2.cell bl).trans s2; clear hB2 hb2 hB1)
    | (go_at_call 72; refine (HK2.out _ _ P2.out.1 (HE.out.below P2.out.2.1) (by decide) (by have := P2.out.2.1.size; omega)).mono ?_; rintro e w3 ⟨rfl, hp3⟩; have P3 := Lib.hid (P2.out.trans hp3); clear hp3))
  all_goals
    have hJ : ([106, 105, 116, 110, 101, 121] ++ numsT 0 (three sc n1 n3) 3).length ≤ 400 := by have := HTL.out; rw [List.length_append]; simp; omega
    have hBr : B ≤ w3.heap.size := by have := P3.out.2.1.size; omega
    have hc := word_page B b sc _ ⟨#[115, 112, 111, 116, 115]⟩ w3 P3.out.1 (by have : (⟨#[115, 112, 111, 116, 115]⟩ : ByteArray).size = 5 := rfl; rw [this]; exact Nat.le_trans (Nat.add_le_add_right hJ 5) (by decide)) hBr
    have HC4 := Lib.hid hc; clear hc hJ hBr x0 x1 x2 x3 s2 xl bl y0 s3
    go_wp2_with fail
    refine HC4.out.mono ?_
    rintro e w4 ⟨rfl, hp4⟩
    have P4 := Lib.hid (P3.out.trans hp4); clear hp4
    have hJ : (([106, 105, 116, 110, 101, 121] ++ numsT 0 (three sc n1 n3) 3) ++ 32 :: (⟨#[115, 112, 111, 116, 115]⟩ : ByteArray).data.toList).length ≤ 410 := by have := HTL.out; rw [List.length_append, List.length_append]; simp; omega
    have hc := end_page B b sc _ w4 P4.out.1 (Nat.le_trans hJ (by decide)) (by have := P4.out.2.1.size; omega)
    have HC5 := Lib.hid hc; clear hc hJ
    go_wp2_with fail
    refine HC5.out.mono ?_
    rintro e w5 ⟨rfl, hp5⟩
    have P5 := Lib.hid (P4.out.trans hp5); clear hp5
    go_wp2_with fail
    go_end0
    exact ⟨rfl, P5.out⟩
end Sheet
end Go.Proofs.YtjmhlabgoegeoaaGreatDoor
