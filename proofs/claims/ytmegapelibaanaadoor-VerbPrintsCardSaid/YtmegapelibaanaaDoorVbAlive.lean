/- jitneylaw27.alive; over the translated program. -/
import Derived.Test.YtmegapelibaanaaDoorVbParse
import Derived.Test.YtmegapelibaanaaDoorVbPrint
import Derived.KernelRfl
namespace Go.Proofs.YtmegapelibaanaaDoor
namespace Vb
open Go Go.RowKit Deci
set_option linter.unusedVariables false
def exT : ByteArray := ⟨#[97, 100, 100, 32, 49, 10, 116, 105, 99, 107, 32, 53, 10, 115, 111, 108, 118, 101, 32, 56, 32, 48, 10, 108, 111, 97, 100, 32, 49, 10, 120, 10]⟩
def exX : ByteArray := ⟨#[120, 10]⟩
def exL : List CM := [⟨2, 1, 0, 0, [], ⟨#[]⟩⟩, ⟨4, 0, 0, 5, [], ⟨#[]⟩⟩, ⟨5, 8, 0, 0, [], ⟨#[]⟩⟩, ⟨1, 1, 0, 0, [], exX⟩]
theorem ex1 : parseR exT.data.toList = (exL, 0, 0) := by kernel_rfl
theorem ex2 : parseR [97, 100, 100, 32, 49, 10, 108, 111, 97, 100, 32, 50, 10, 120, 10] = ([], 2, 20) := by kernel_rfl
theorem ex3 : parseR [115, 105, 110, 103, 10] = ([], 1, 50) := by kernel_rfl
theorem ex4 : parseR [97, 100, 100, 10] = ([], 1, 21) := by kernel_rfl
theorem write_dig {n : Nat} (h : n < 10) : writeV (n : Int) 0 = [UInt8.ofNat (48 + n)] := by
  have h1 : Rng (n : Int) := ⟨by omega, by omega⟩
  rw [(write_sgn h1).1, if_neg (by omega)]
  simp [Lib.decDigits_one h]
theorem ex5 : printE exL = 0 ∧ printT exL = exT.data.toList := by
  have d0 := write_dig (n := 0) (by omega)
  have d1 := write_dig (n := 1) (by omega)
  have d5 := write_dig (n := 5) (by omega)
  have d8 := write_dig (n := 8) (by omega)
  have hx : linesB exX.data.toList 1 = true := by decide +kernel
  have e : printE exL = 0 := by
    simp [printE, exL, checkE, numL, leastV, beyB, nameL, hx]
  refine ⟨e, ?_⟩
  unfold printT
  rw [if_neg (by omega)]
  have e1 : writeV 1 0 = [49] := d1
  have e5 : writeV 5 0 = [53] := d5
  have e8 : writeV 8 0 = [56] := d8
  have e0 : writeV 0 0 = [48] := d0
  simp [exL, cmdT, lineT, numL, numsT, nameL, e0, e1, e5, e8, exT, exX]
theorem ex6 : printE [CM.none] = 50 ∧ printT [CM.none] = [] := by
  have h : printE [CM.none] = 50 := by decide +kernel
  exact ⟨h, by unfold printT; rw [if_pos (by omega)]⟩
set_option maxHeartbeats 4000000 in
set_option maxRecDepth 100000 in
theorem alive_any (w : World) (hE : EnvAt w.heap.size w) :
    Calls Tryd.prog 5 #[] w fun e w' => e = .returned (.bool true) ∧ Below w.heap.size w w' := by
  obtain ⟨B, hB⟩ : ∃ B, B = w.heap.size := ⟨_, rfl⟩
  rw [← hB] at hE ⊢
  have hp := fun (s : ByteArray) W (hW : Below B w W) (hs : s.size ≤ 100000) => parse_any s W ((hE.below hW).mono (by have := hW.size; omega)) hs
  have hq := fun v L W (hW : Below B w W) hI (hn : L.length ≤ 3000) hs => print_any v L W ((hE.below hW).mono (by have := hW.size; omega)) hI hn hs
  have hn := fun (k : Int) W (hW : Below B w W) => name_any k W (hE W hW)
  have p1 := fun W hW => hp ⟨#[97, 100, 100, 32, 49, 10, 116, 105, 99, 107, 32, 53, 10, 115, 111, 108, 118, 101, 32, 56, 32, 48, 10, 108, 111, 97, 100, 32, 49, 10, 120, 10]⟩ W hW (by decide)
  have p2 := fun W hW => hp ⟨#[97, 100, 100, 32, 49, 10, 108, 111, 97, 100, 32, 50, 10, 120, 10]⟩ W hW (by decide)
  have p3 := fun W hW => hp ⟨#[115, 105, 110, 103, 10]⟩ W hW (by decide)
  have p4 := fun W hW => hp ⟨#[97, 100, 100, 10]⟩ W hW (by decide)
  unfold ParseOut at p1 p2 p3 p4
  have e1 : parseR (⟨#[97, 100, 100, 32, 49, 10, 116, 105, 99, 107, 32, 53, 10, 115, 111, 108, 118, 101, 32, 56, 32, 48, 10, 108, 111, 97, 100, 32, 49, 10, 120, 10]⟩ : ByteArray).data.toList = (exL, 0, 0) := ex1
  have e2 : parseR (⟨#[97, 100, 100, 32, 49, 10, 108, 111, 97, 100, 32, 50, 10, 120, 10]⟩ : ByteArray).data.toList = ([], 2, 20) := ex2
  have e3 : parseR (⟨#[115, 105, 110, 103, 10]⟩ : ByteArray).data.toList = ([], 1, 50) := ex3
  have e4 : parseR (⟨#[97, 100, 100, 10]⟩ : ByteArray).data.toList = ([], 1, 21) := ex4
  rw [e1] at p1
  rw [e2] at p2
  rw [e3] at p3
  rw [e4] at p4
  clear e1 e2 e3 e4 hp
  have q1 := fun v W hW hI => hq v exL W hW hI (by decide) (by intro c hc; simp [exL, exX] at hc; rcases hc with rfl | rfl | rfl | rfl <;> decide)
  have q2 := fun v W hW hI => hq v [CM.none] W hW hI (by decide) (by intro c hc; simp at hc; subst hc; decide)
  rw [show strOf (printT exL) = (⟨#[97, 100, 100, 32, 49, 10, 116, 105, 99, 107, 32, 53, 10, 115, 111, 108, 118, 101, 32, 56, 32, 48, 10, 108, 111, 97, 100, 32, 49, 10, 120, 10]⟩ : ByteArray) by rw [ex5.2]; rfl, ex5.1] at q1
  rw [show strOf (printT [CM.none]) = ⟨#[]⟩ by rw [ex6.2]; rfl, ex6.1] at q2
  clear hq
  have n7 := fun W hW => hn 7 W hW
  have n8 := fun W hW => hn 8 W hW
  rw [show nameS (7 : Int).toNat = (⟨#[116, 105, 99, 107, 101, 116, 115]⟩ : ByteArray) from rfl] at n7
  rw [show nameS (8 : Int).toNat = (⟨#[]⟩ : ByteArray) from rfl] at n8
  have HB := Lib.hid hB; clear hB
  have P1 := Lib.hid p1; clear p1
  have P2 := Lib.hid p2; clear p2
  have P3 := Lib.hid p3; clear p3
  have P4 := Lib.hid p4; clear p4
  have Q1 := Lib.hid q1; clear q1
  have Q2 := Lib.hid q2; clear q2
  have N7 := Lib.hid n7; clear n7
  have N8 := Lib.hid n8; clear n8
  clear hE hn
  go_enter Tryd.func5, Tryd.ntmps5
  go_wp2_with fail
  refine (P1.out w (Below.refl _ _)).mono ?_
  rintro e w1 ⟨hb1, v1, rfl, hI1⟩
  have hb1' : Below B w w1 := hb1.mono (by rw [HB.out]; exact Nat.le_refl _)
  obtain ⟨a1, c1, rfl, hat⟩ := hI1
  have hI1 : IsCm w1 (.slice a1 4 c1) exL := ⟨a1, c1, rfl, hat⟩
  have HI1 := Lib.hid hI1; clear hI1 hat
  have HB1 := Lib.hid hb1'; clear hb1' hb1
  rw [show exL.length = 4 from rfl]
  go_wp2_with fail
  refine (P2.out w1 HB1.out).mono ?_
  rintro e w2 ⟨hb2, v2, rfl, -⟩
  have HI2 := Lib.hid (HI1.out.below hb2)
  have HB2 := Lib.hid (HB1.out.trans (hb2.mono (by have := HB1.out.size; rw [HB.out]; exact this))); clear hb2
  go_wp2_with fail
  refine (P3.out w2 HB2.out).mono ?_
  rintro e w3 ⟨hb3, v3, rfl, -⟩
  have HI3 := Lib.hid (HI2.out.below hb3)
  have HB3 := Lib.hid (HB2.out.trans (hb3.mono (by have := HB2.out.size; rw [HB.out]; exact this))); clear hb3
  go_wp2_with fail
  refine (P4.out w3 HB3.out).mono ?_
  rintro e w4 ⟨hb4, v4, rfl, -⟩
  have HI4 := Lib.hid (HI3.out.below hb4)
  have HB4 := Lib.hid (HB3.out.trans (hb4.mono (by have := HB3.out.size; rw [HB.out]; exact this))); clear hb4
  go_wp2_with fail
  refine (Q1.out _ w4 HB4.out HI4.out).mono ?_
  rintro e w5 ⟨rfl, hb5⟩
  have HI5 := Lib.hid (HI4.out.below hb5)
  have HB5 := Lib.hid (HB4.out.trans (hb5.mono (by have := HB4.out.size; rw [HB.out]; exact this))); clear hb5
  go_wp2_with fail
  obtain ⟨X, hX⟩ : ∃ X, X = w5.heap.size := ⟨_, rfl⟩
  obtain ⟨W6, hW6⟩ : ∃ W6, W6 = w5.alloc (.cells #[.int .i64 0, .int .i64 0, .int .i64 0, .int .i64 0, .slice none 0 0, .string ⟨#[]⟩] 37) := ⟨_, rfl⟩
  have hb6 : Below w5.heap.size w5 W6 := by rw [hW6]; exact (Below.refl _ _).alloc (Nat.le_refl _) _
  have hx6 : W6.heap[X]? = some (.cells #[.int .i64 0, .int .i64 0, .int .i64 0, .int .i64 0, .slice none 0 0, .string ⟨#[]⟩] 37) := by rw [hW6, hX]; exact World.alloc_heap_new w5 _
  have hI6 : IsCm W6 (.slice (some ⟨X, 0, none⟩) 1 1) [CM.none] := by
    refine ⟨_, 1, rfl, .inr ⟨X, 0, rfl, own_lt hx6, fun j hj => ?_⟩⟩
    obtain rfl : j = 0 := by simpa using hj
    exact ⟨.slice none 0 0, ⟨(own_cell hx6).trans rfl, (own_cell hx6).trans rfl, (own_cell hx6).trans rfl, (own_cell hx6).trans rfl, (own_cell hx6).trans rfl, (own_cell hx6).trans rfl⟩, isXs_nil _⟩
  have HI6 := Lib.hid (HI5.out.below hb6)
  have HB6 := Lib.hid (HB5.out.trans (hb6.mono (by have := HB5.out.size; rw [HB.out]; exact this))); clear hb6
  have hq2 := Q2.out _ W6 HB6.out hI6
  rw [← hX, ← hW6]
  have HQ2 := Lib.hid hq2; clear hq2 hI6 hx6 hW6 hX
  refine HQ2.out.mono ?_
  rintro e w7 ⟨rfl, hb7⟩
  have hI7 := HI6.out.below hb7
  have HB7 := Lib.hid (HB6.out.trans (hb7.mono (by have := HB6.out.size; rw [HB.out]; exact this))); clear hb7
  obtain ⟨a, c, he, hr⟩ := hI7
  obtain ⟨g, o, e1, hg, hc⟩ := hr.resolve_left (by unfold exL; simp)
  obtain ⟨d2, hd2, -⟩ := hc 2 (by decide)
  obtain ⟨d3, hd3, -⟩ := hc 3 (by decide)
  have ha : a1 = some ⟨g, o, none⟩ := by
    injection he with he _ _
    rw [he, e1]
  subst ha
  have z2 : w7.cell? ⟨g, o + 12 + 1, none⟩ = some (.int .i64 8) := hd2.c1
  have z3 : w7.cell? ⟨g, o + 18 + 5, none⟩ = some (.string ⟨#[120, 10]⟩) := hd3.c5
  have z2' : w7.cell? ⟨g, o + 13, none⟩ = some (.int .i64 8) := hd2.c1
  have z3' : w7.cell? ⟨g, o + 23, none⟩ = some (.string ⟨#[120, 10]⟩) := hd3.c5
  clear hc hd2 hd3 hr he
  go_wp2_with fail
  refine (N7.out _ HB7.out).mono ?_
  rintro e w8 ⟨rfl, rfl⟩
  go_wp2_with fail
  refine (N8.out _ HB7.out).mono ?_
  rintro e w9 ⟨rfl, rfl⟩
  go_wp2_with fail
  go_ret
  exact ⟨rfl, HB7.out⟩
end Vb
end Go.Proofs.YtmegapelibaanaaDoor
