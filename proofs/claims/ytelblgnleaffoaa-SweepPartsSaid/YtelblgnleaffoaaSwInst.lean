/- Package inst and the smaller functions of sweep, at the example's instance: ten stops, of which the first five lie at 0, -i, 1, -1, i; two cars, four requests, no Matrix. -/
import Derived.Test.YtelblgnleaffoaaSwCmp
import Derived.Below
import Derived.Deep.RegionHeld3
import Derived.Deep.DeepCutAuto
namespace Go.Proofs.Ytelblgnleaffoaa
open Go.RowKit
namespace Sw
open Fl Spot Go.Lib
def pP (k : Nat) : Nat := if k = 2 then 4607182418800017408 else if k = 3 then 13830554455654793216 else 0
def pQ (k : Nat) : Nat := if k = 1 then 13830554455654793216 else if k = 4 then 4607182418800017408 else 0
def pX (k : Nat) : Int := if k = 2 then 1 else if k = 3 then -1 else 0
def pY (k : Nat) : Int := if k = 1 then -1 else if k = 4 then 1 else 0
theorem isz1 : Isz 4607182418800017408 1 := by rw [show 4607182418800017408 = wd 1 by decide +kernel]; exact isz_wd ⟨by decide, by decide⟩
theorem iszm1 : Isz 13830554455654793216 (-1) := by rw [show 13830554455654793216 = wd (-1) by decide +kernel]; exact isz_wd ⟨by decide, by decide⟩
theorem near_small {n : Int} (h1 : -4 ≤ n) (h2 : n ≤ 4) : Near n := ⟨by omega, by omega⟩
theorem p_sp (k : Nat) : Sp (pP k) (pQ k) (pX k) (pY k) := by
  constructor
  · unfold pP pX
    split
    · exact isz1
    · split
      · exact iszm1
      · exact isz_zero
  · unfold pQ pY
    split
    · exact iszm1
    · split
      · exact isz1
      · exact isz_zero
theorem p_near (k : Nat) : Near (pX k) ∧ Near (pY k) := by
  unfold pX pY
  constructor <;> (split <;> try split) <;> exact near_small (by decide) (by decide)
/-- The example's instance as a value: where its cars, stops and rides lie. -/
def smpV (c s r : Nat) : Value := .agg #[.slice (some ⟨c, 0, none⟩) 2 2, .slice (some ⟨s, 0, none⟩) 10 10, .slice (some ⟨r, 0, none⟩) 4 4, .slice none 0 0]
/-- Its stops lie there. -/
def Smp (w : World) (s : Nat) : Prop := s < w.heap.size ∧ ∀ k, k < 5 → w.cell? ⟨s, k * 6 + 5, none⟩ = some (.complex .f64 (pP k) (pQ k))
theorem Smp.below {w w' : World} {s B : Nat} (h : Smp w s) (hb : Below B w w') (hs : s < B) : Smp w' s :=
  ⟨Nat.lt_of_lt_of_le h.1 hb.size, fun k hk => (hb.cell (by exact hs)).trans (h.2 k hk)⟩
theorem count_any (c s r : Nat) (w : World) : Calls Try.prog 24 #[smpV c s r] w fun e w' => e = .returned (.int .i64 4) ∧ Below w.heap.size w w' := by
  unfold smpV
  go_enter Try.func24, Try.ntmps24
  go_wp2
  go_ret
  exact ⟨rfl, (Below.refl _ _).alloc (Nat.le_refl _) _⟩
def pickV (q : Int) : Int := if 1 ≤ q ∧ q ≤ 4 then q else 0
theorem pick_any (c s r : Nat) (q : Int) (w : World) : Calls Try.prog 16 #[smpV c s r, .int .i64 q] w fun e w' => e = .returned (.int .i64 (pickV q)) ∧ Below w.heap.size w w' := by
  have hc := fun w => count_any c s r w
  unfold smpV at *
  have HC := Lib.hid hc; clear hc
  have hb0 : ∀ o, Below w.heap.size w (w.alloc o) := fun o => (Below.refl _ _).alloc (Nat.le_refl _) _
  have HB0 := Lib.hid hb0; clear hb0
  by_cases h1 : q < 1
  · have e : pickV q = 0 := by unfold pickV; rw [if_neg (by omega)]
    rw [e]
    go_enter Try.func16, Try.ntmps16
    go_wp2_with fail
    go_ret
    exact ⟨rfl, HB0.out _⟩
  · by_cases h2 : 4 < q
    · have e : pickV q = 0 := by unfold pickV; rw [if_neg (by omega)]
      rw [e]
      go_enter Try.func16, Try.ntmps16
      go_wp2_with fail
      refine (HC.out _).mono ?_
      rintro e w1 ⟨rfl, hb⟩
      have HB1 := Lib.hid ((HB0.out _).trans (hb.mono (by simp))); clear hb
      go_wp2_with fail
      go_ret
      exact ⟨rfl, HB1.out⟩
    · have e : pickV q = q := by unfold pickV; rw [if_pos (by omega)]
      rw [e]
      go_enter Try.func16, Try.ntmps16
      go_wp2_with fail
      refine (HC.out _).mono ?_
      rintro e w1 ⟨rfl, hb⟩
      have HB1 := Lib.hid ((HB0.out _).trans (hb.mono (by simp))); clear hb
      go_wp2_with fail
      go_ret
      exact ⟨rfl, HB1.out⟩
theorem there_yes (c s r k : Nat) (hk : k < 5) (w : World) : Calls Try.prog 43 #[smpV c s r, .int .i64 (k : Int)] w fun e w' => e = .returned (.bool true) ∧ Below w.heap.size w w' := by
  have h0 : decide ((0 : Int) ≤ (k : Int)) = true := by simp
  have h1 : decide ((k : Int) < 10) = true := by simp; omega
  have hb0 : ∀ o, Below w.heap.size w (w.alloc o) := fun o => (Below.refl _ _).alloc (Nat.le_refl _) _
  have HB0 := Lib.hid hb0; clear hb0
  unfold smpV
  go_enter Try.func43, Try.ntmps43
  go_wp2_with fail
  go_ret
  exact ⟨rfl, HB0.out _⟩
theorem lies_yes (c s r k : Nat) (hk : k < 5) (w : World) (h : Smp w s) : Calls Try.prog 15 #[smpV c s r, .int .i64 (k : Int)] w fun e w' => e = .returned (.complex .f64 (pP k) (pQ k)) ∧ Below w.heap.size w w' := by
  have f := h.2 k hk
  have hs := h.1
  have hk' : k < 10 := by omega
  clear h
  have hb0 : ∀ o, Below w.heap.size w (w.alloc o) := fun o => (Below.refl _ _).alloc (Nat.le_refl _) _
  have HB0 := Lib.hid hb0; clear hb0
  unfold smpV
  generalize pP k = p at *
  generalize pQ k = q at *
  go_enter Try.func15, Try.ntmps15
  go_wp2_with fail
  go_ret
  exact ⟨rfl, HB0.out _⟩
/-- Of a struct's block: the example's instance, boxed. -/
def boxO (c s r : Nat) : Obj := .cells #[.slice (some ⟨c, 0, none⟩) 2 2, .slice (some ⟨s, 0, none⟩) 10 10, .slice (some ⟨r, 0, none⟩) 4 4, .slice none 0 0] 34
def Box (w : World) (B c s r : Nat) : Prop := B < w.heap.size ∧ w.cell? ⟨B, 0, none⟩ = some (.slice (some ⟨c, 0, none⟩) 2 2) ∧ w.cell? ⟨B, 1, none⟩ = some (.slice (some ⟨s, 0, none⟩) 10 10) ∧ w.cell? ⟨B, 2, none⟩ = some (.slice (some ⟨r, 0, none⟩) 4 4) ∧ w.cell? ⟨B, 3, none⟩ = some (.slice none 0 0)
theorem box_new (w : World) (c s r : Nat) : Box (w.alloc (boxO c s r)) w.heap.size c s r := by
  refine ⟨by simp, ?_, ?_, ?_, ?_⟩ <;> (unfold boxO; rw [World.cell?_alloc_new]; rfl)
theorem Box.below {w w' : World} {B N c s r : Nat} (h : Box w B c s r) (hb : Below N w w') (hN : B < N) : Box w' B c s r :=
  ⟨Nat.lt_of_lt_of_le h.1 hb.size, (hb.cell (by exact hN)).trans h.2.1, (hb.cell (by exact hN)).trans h.2.2.1, (hb.cell (by exact hN)).trans h.2.2.2.1, (hb.cell (by exact hN)).trans h.2.2.2.2⟩
def travelV (i j : Nat) : Int := dist (pX i) (pY i) (pX j) (pY j)
set_option maxHeartbeats 1000000 in
theorem travel_yes (c s r i j : Nat) (hi : i < 5) (hj : j < 5) (w : World) (h : Smp w s) : Calls Try.prog 32 #[smpV c s r, .int .i64 (i : Int), .int .i64 (j : Int)] w fun e w' => e = .returned (.int .i64 (travelV i j)) ∧ Below w.heap.size w w' := by
  have h1 := fun w => there_yes c s r i hi w
  have h2 := fun w => there_yes c s r j hj w
  have h3 := fun w => dist_yes _ _ _ _ _ _ _ _ w (p_sp i) (p_sp j) (p_near i).1 (p_near i).2 (p_near j).1 (p_near j).2
  have hs := h.1
  have HS := Lib.hid h; clear h
  have bx := box_new w c s r
  have b0 : Below w.heap.size w (w.alloc (boxO c s r)) := (Below.refl _ _).alloc (Nat.le_refl _) _
  have z0 : (w.alloc (boxO c s r)).heap.size = w.heap.size + 1 := by simp
  unfold travelV
  generalize dist (pX i) (pY i) (pX j) (pY j) = D at *
  unfold smpV at *
  have hi' : (i : Int) < 10 := by omega
  have hj' : (j : Int) < 10 := by omega
  have hi0 : (0 : Int) ≤ (i : Int) := by omega
  have hj0 : (0 : Int) ≤ (j : Int) := by omega
  have H1 := Lib.hid h1; clear h1
  have H2 := Lib.hid h2; clear h2
  have H3 := Lib.hid h3; clear h3
  go_enter Try.func32, Try.ntmps32
  go_wp2_with fail
  generalize hW : w.alloc (Obj.cells #[.slice (some ⟨c, 0, none⟩) 2 2, .slice (some ⟨s, 0, none⟩) 10 10, .slice (some ⟨r, 0, none⟩) 4 4, .slice none 0 0] 34) = W
  rw [show w.alloc (boxO c s r) = W from hW] at *
  clear hW
  have Z0 := Lib.hid z0; clear z0
  have BX := Lib.hid bx; clear bx
  have B0 := Lib.hid b0; clear b0
  refine (H1.out _).mono ?_
  rintro e w1 ⟨rfl, hb⟩
  obtain ⟨g0, f0, f1, f2, f3⟩ := BX.out.below hb (by rw [Z0.out]; omega)
  have HB1 := Lib.hid hb; clear hb
  go_wp2_with fail
  refine (H2.out _).mono ?_
  rintro e w2 ⟨rfl, hb⟩
  clear f0 f1 f2 f3
  have HB2 := Lib.hid (HB1.out.trans (hb.mono HB1.out.size)); clear hb
  obtain ⟨g0, f0, f1, f2, f3⟩ := BX.out.below HB2.out (by rw [Z0.out]; omega)
  have hsm := (HS.out.below B0.out hs).below HB2.out (by rw [Z0.out]; omega)
  have q1 := hsm.2 i hi
  have q2 := hsm.2 j hj
  clear hsm
  generalize pP i = p1 at *
  generalize pQ i = p2 at *
  generalize pP j = p3 at *
  generalize pQ j = p4 at *
  clear f0 f2
  go_wp2_with fail
  go_region_held3 (fun w' => w'.cell? ⟨w.heap.size, 1, none⟩ = some (.slice (some ⟨s, 0, none⟩) 10 10) ∧ w'.cell? ⟨s, i * 6 + 5, none⟩ = some (.complex .f64 p1 p2) ∧ w'.cell? ⟨s, j * 6 + 5, none⟩ = some (.complex .f64 p3 p4)) (go_keep)
    (first | (go_at_call 44; refine (H3.out _).mono ?_; rintro e w3 ⟨rfl, rfl⟩))
  go_wp2
  go_ret
  exact ⟨rfl, B0.out.trans ((HB2.out.mono (by rw [Z0.out]; omega)).drew)⟩
theorem plus_any (a b : Int) (ha : 0 ≤ a) (ha' : a ≤ 1000000) (hb : 0 ≤ b) (hb' : b ≤ 1000000) (w : World) : Calls Try.prog 18 #[.int .i64 a, .int .i64 b] w fun e w' => e = .returned (.int .i64 (a + b)) ∧ w = w' := by
  have e1 : IntKind.i64.wrap (9223372036854775807 - b) = 9223372036854775807 - b := IntWalk.i64_in _ (by omega)
  have e2 : min a (9223372036854775807 - b) = a := by omega
  have e3 : IntKind.i64.wrap (a + b) = a + b := IntWalk.i64_in _ (by omega)
  go_enter Try.func18, Try.ntmps18
  go_wp2
  go_ret
  exact ⟨rfl, rfl⟩
theorem time_yes (c s r i j : Nat) (hi : i < 5) (hj : j < 5) (w : World) (h : Smp w s) : Calls Try.prog 19 #[smpV c s r, .int .i64 (i : Int), .int .i64 (j : Int)] w fun e w' => e = .returned (.int .i64 (Num.heldV (travelV i j) 0 1099511627776)) ∧ Below w.heap.size w w' := by
  have h1 := fun w h => travel_yes c s r i j hi hj w h
  have hs := h.1
  have HS := Lib.hid h; clear h
  have b0 : Below w.heap.size w (w.alloc (boxO c s r)) := (Below.refl _ _).alloc (Nat.le_refl _) _
  have z0 : (w.alloc (boxO c s r)).heap.size = w.heap.size + 1 := by simp
  unfold smpV at *
  have H1 := Lib.hid h1; clear h1
  generalize travelV i j = t at *
  go_enter Try.func19, Try.ntmps19
  go_wp2_with fail
  generalize hW : w.alloc (Obj.cells #[.slice (some ⟨c, 0, none⟩) 2 2, .slice (some ⟨s, 0, none⟩) 10 10, .slice (some ⟨r, 0, none⟩) 4 4, .slice none 0 0] 34) = W
  rw [show w.alloc (boxO c s r) = W from hW] at *
  clear hW
  have Z0 := Lib.hid z0; clear z0
  have B0 := Lib.hid b0; clear b0
  refine (H1.out _ (HS.out.below B0.out hs)).mono ?_
  rintro e w1 ⟨rfl, hb⟩
  have HB1 := Lib.hid hb; clear hb
  go_wp2_with fail
  refine (Num.held_any _ _ _ _).mono ?_
  rintro e w2 ⟨rfl, rfl⟩
  go_wp2_with fail
  go_ret
  exact ⟨rfl, B0.out.trans (HB1.out.mono (by rw [Z0.out]; omega))⟩
end Sw
end Go.Proofs.Ytelblgnleaffoaa
