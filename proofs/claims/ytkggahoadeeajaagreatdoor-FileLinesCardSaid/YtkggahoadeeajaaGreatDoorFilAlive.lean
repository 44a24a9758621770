/- The document's example of layer 23: plain answers, and jitneylaw23.alive; over the translated program. -/
import Derived.Test.YtkggahoadeeajaaGreatDoorFilPrint
import Derived.Test.YtkggahoadeeajaaGreatDoorFilParse
namespace Go.Proofs.YtkggahoadeeajaaGreatDoor
namespace Fil
open Go Go.RowKit Deci
set_option linter.unusedVariables false
def exA : ByteArray := ⟨#[112, 108, 97, 110, 32, 49, 32, 48, 10, 114, 111, 117, 116, 101, 32, 48, 32, 51, 10, 116, 105, 109, 101, 115, 32, 48, 32, 48, 10, 108, 101, 102, 116, 32, 49, 10]⟩
def exB : ByteArray := ⟨#[112, 108, 97, 110, 32, 49, 32, 48, 10, 114, 111, 117, 116, 101, 32, 48, 32, 51, 10, 116, 105, 109, 101, 115, 32, 48, 10, 108, 101, 102, 116, 10]⟩
def exP : PL := ⟨[[0, 3]], [[0, 0]], [1], 0⟩
def exQ : PL := ⟨[[]], [], [], 0⟩
theorem ex_a : readF exA.data.toList = (0, 0) := by decide +kernel
theorem ex_b : readF exB.data.toList = (3, 1) := by decide +kernel
theorem ex_c : readF [] = (1, 20) := by decide +kernel
theorem ex_p : parseP exA.data.toList = exP := by
  have h1 : (parseP exA.data.toList).routes = [[0, 3]] := by decide +kernel
  have h2 : (parseP exA.data.toList).times = [[0, 0]] := by decide +kernel
  have h3 : (parseP exA.data.toList).left = [1] := by decide +kernel
  have h4 : (parseP exA.data.toList).cost = 0 := by decide +kernel
  cases h : parseP exA.data.toList with
  | mk a b c d => rw [h] at h1 h2 h3 h4; simp only at h1 h2 h3 h4; rw [h1, h2, h3, h4]; rfl
theorem write_dig {x : Int} (h0 : 0 ≤ x) (h1 : x < 10) : writeV x 0 = [UInt8.ofNat (48 + x.natAbs)] := by
  rw [(write_nat ⟨h0, by omega⟩).1, Lib.decDigits_one (by omega)]
theorem ex_t : planT exP = exA.data.toList := by
  unfold planT exP
  simp only [bodyT, lineT, numsT, List.flatMap_cons, List.flatMap_nil, List.length_cons, List.length_nil]
  simp only [write_dig (x := 0) (by decide) (by decide), write_dig (x := 3) (by decide) (by decide), write_dig (x := 1) (by decide) (by decide), show ((0 + 1 : Nat) : Int) = 1 from rfl, List.getD_cons_zero, List.flatMap_cons, List.flatMap_nil]
  decide +kernel
theorem ex_k : checkE exP = 0 := by decide +kernel
theorem ex_q : checkE exQ = 1 := by decide +kernel
theorem exP_fit : exP.Fit := by unfold PL.Fit exP; simp
theorem exQ_fit : exQ.Fit := by unfold PL.Fit exQ; simp
set_option maxHeartbeats 2000000 in
set_option maxRecDepth 100000 in
theorem alive_any (w : World) (hE : Env w) : Calls Tryz.prog 8 #[] w fun e w' => e = .returned (.bool true) ∧ Below w.heap.size w w' := by
  have ca := fun (W : World) (hb : Below w.heap.size w W) => parse_any exA W (by decide) (env_at (hE.below hb))
  have cb := fun (W : World) (hb : Below w.heap.size w W) => parse_any exB W (by decide) (env_at (hE.below hb))
  have cc := fun (W : World) (hb : Below w.heap.size w W) => parse_any ⟨#[]⟩ W (by decide) (env_at (hE.below hb))
  have cp := fun (W : World) (hb : Below w.heap.size w W) v h => print_any v exP W (env_at (hE.below hb)) exP_fit h
  have cq := fun (W : World) (hb : Below w.heap.size w W) v h => print_any v exQ W (env_at (hE.below hb)) exQ_fit h
  unfold ParseOut at ca cb cc
  unfold PrintOut at cp cq
  rw [ex_k, ex_t] at cp
  rw [ex_q] at cq
  simp only [ex_a, ex_b, ex_c, ex_p] at ca cb cc
  have CA := Lib.hid ca; clear ca
  have CB := Lib.hid cb; clear cb
  have CC := Lib.hid cc; clear cc
  have CP := Lib.hid cp; clear cp
  have CQ := Lib.hid cq; clear cq hE
  go_enter Tryz.func8, Tryz.ntmps8
  go_wp2_with fail
  try simp only [List.append_eq, List.cons_append, List.nil_append]
  rw [show (⟨#[112, 108, 97, 110, 32, 49, 32, 48, 10, 114, 111, 117, 116, 101, 32, 48, 32, 51, 10, 116, 105, 109, 101, 115, 32, 48, 32, 48, 10, 108, 101, 102, 116, 32, 49, 10]⟩ : ByteArray) = exA from rfl]
  refine (CA.out w (Below.refl _ _)).mono ?_
  rintro e w1 ⟨hb1, v, rfl, hr⟩
  have hip := hr.isPlan
  obtain ⟨a1, c1, a2, c2, a3, c3, rfl⟩ : ∃ a1 c1 a2 c2 a3 c3, v = .agg #[.slice a1 1 c1, .slice a2 1 c2, .slice a3 1 c3, .int .i64 0] := by
    obtain ⟨vr, vt, vl, rfl, h1, h2, h3⟩ := hr
    obtain ⟨a1, c1, rfl⟩ := h1.slice
    obtain ⟨a2, c2, rfl⟩ := h2.slice
    obtain ⟨a3, c3, rfl⟩ := h3.form
    exact ⟨_, _, _, _, _, _, rfl⟩
  obtain ⟨X, hX⟩ : ∃ X, X = w1.heap.size := ⟨_, rfl⟩
  obtain ⟨W1, hW1⟩ : ∃ W1, W1 = w1.alloc (.cells #[.slice a1 1 c1, .slice a2 1 c2, .slice a3 1 c3, .int .i64 0] 27) := ⟨_, rfl⟩
  have hba : Below w1.heap.size w1 W1 := by rw [hW1]; exact (Below.refl _ _).alloc (Nat.le_refl _) _
  have hx1 : W1.heap[X]? = some (.cells #[.slice a1 1 c1, .slice a2 1 c2, .slice a3 1 c3, .int .i64 0] 27) := by rw [hX, hW1]; exact World.alloc_heap_new w1 _
  have HI1 := Lib.hid (hip.below hba)
  have HB1 := Lib.hid (hb1.trans (hba.mono hb1.size)); clear hb1 hba hip hr
  have HX1 := Lib.hid hx1; clear hx1
  have HXE := Lib.hid hX; clear hX
  have HWE := Lib.hid hW1; clear hW1
  go_wp2_with fail
  rw [← HXE.out, ← HWE.out]
  refine (CB.out W1 HB1.out).mono ?_
  rintro e w2 ⟨hb2, v2, rfl, hr2⟩
  obtain ⟨b1, m1, d1, b2, m2, d2, b3, m3, d3, rfl⟩ := hr2.form
  generalize (parseP exB.data.toList).cost = cost2
  have HX2 := Lib.hid ((hb2.block X (own_lt HX1.out)).trans HX1.out)
  have HI2 := Lib.hid (HI1.out.below hb2)
  have HB2 := Lib.hid (HB1.out.trans (hb2.mono HB1.out.size)); clear hb2 hr2
  go_wp2_with fail
  obtain ⟨U2, hU2⟩ : ∃ U, U = w2.alloc (.cells #[.slice b1 m1 d1, .slice b2 m2 d2, .slice b3 m3 d3, .int .i64 cost2] 27) := ⟨_, rfl⟩
  have hba2 : Below w2.heap.size w2 U2 := by rw [hU2]; exact (Below.refl _ _).alloc (Nat.le_refl _) _
  rw [← hU2]
  have HX3 := Lib.hid ((hba2.block X (own_lt HX2.out)).trans HX2.out)
  have HI3 := Lib.hid (HI2.out.below hba2)
  have HB3 := Lib.hid (HB2.out.trans (hba2.mono HB2.out.size)); clear hba2 hU2
  refine (CC.out U2 HB3.out).mono ?_
  rintro e w3 ⟨hb3, v3, rfl, hr3⟩
  obtain ⟨f1, p1, g1, f2, p2, g2, f3, p3, g3, rfl⟩ := hr3.form
  generalize (parseP []).cost = cost3
  have hx3 := (hb3.block X (own_lt HX3.out)).trans HX3.out
  have hlt3 := own_lt hx3
  have lx : ∀ o j, (w3.alloc o).cell? ⟨X, j, none⟩ = w3.cell? ⟨X, j, none⟩ := fun o j => ((Below.refl w3.heap.size w3).alloc (Nat.le_refl _) o).cell (p := ⟨X, j, none⟩) hlt3
  have x0 : w3.cell? ⟨X, 0, none⟩ = some (.slice a1 1 c1) := (own_cell hx3).trans rfl
  have x1 : w3.cell? ⟨X, 1, none⟩ = some (.slice a2 1 c2) := (own_cell hx3).trans rfl
  have x2 : w3.cell? ⟨X, 2, none⟩ = some (.slice a3 1 c3) := (own_cell hx3).trans rfl
  have x3 : w3.cell? ⟨X, 3, none⟩ = some (.int .i64 0) := (own_cell hx3).trans rfl
  have HX4 := Lib.hid hx3; clear hx3
  have HI4 := Lib.hid (HI3.out.below hb3)
  have HB4 := Lib.hid (HB3.out.trans (hb3.mono HB3.out.size)); clear hb3 hr3
  go_wp2_with fail
  obtain ⟨U3, hU3⟩ : ∃ U, U = w3.alloc (.cells #[.slice f1 p1 g1, .slice f2 p2 g2, .slice f3 p3 g3, .int .i64 cost3] 27) := ⟨_, rfl⟩
  have hba3 : Below w3.heap.size w3 U3 := by rw [hU3]; exact (Below.refl _ _).alloc (Nat.le_refl _) _
  rw [← hU3]
  have HX5 := Lib.hid ((hba3.block X (own_lt HX4.out)).trans HX4.out)
  have HB5 := Lib.hid (HB4.out.trans (hba3.mono HB4.out.size))
  refine (CP.out U3 HB5.out _ (HI4.out.below hba3)).mono ?_
  clear hba3 hU3 lx x0 x1 x2 x3
  rintro e w4 ⟨rfl, hb4⟩
  rw [show strOf (if True then exA.data.toList else []) = exA by rw [if_pos trivial, strOf_data]]
  have HX6 := Lib.hid ((hb4.block X (own_lt HX5.out)).trans HX5.out)
  have HB6 := Lib.hid (HB5.out.trans (hb4.mono HB5.out.size)); clear hb4
  go_wp2_with fail
  obtain ⟨U4, hU4⟩ : ∃ U, U = (w4.alloc (.cells #[] 3)).alloc (.cells #[.slice (some ⟨w4.heap.size, 0, none⟩) 0 0] 25) := ⟨_, rfl⟩
  have hba4 : Below w4.heap.size w4 U4 := by rw [hU4]; exact ((Below.refl _ _).alloc (Nat.le_refl _) _).alloc (by simp) _
  have hr4 : U4.heap[w4.heap.size + 1]? = some (.cells #[.slice (some ⟨w4.heap.size, 0, none⟩) 0 0] 25) := by
    rw [hU4, ← World.size_alloc w4 (.cells #[] 3)]; exact World.alloc_heap_new _ _
  rw [← hU4]
  have hq : IsPlan U4 (.agg #[.slice (some ⟨w4.heap.size + 1, 0, none⟩) 1 1, .slice none 0 0, .slice none 0 0, .int .i64 0]) exQ := by
    refine ⟨_, _, _, rfl, ⟨_, 1, rfl, Nat.le_refl _, .inr ⟨_, 0, rfl, own_lt hr4, fun j hj => ?_⟩⟩, isRows_nil _, isRow_nil _⟩
    obtain rfl : j = 0 := by simp [exQ] at hj; omega
    exact ⟨_, (own_cell hr4).trans rfl, ⟨_, 0, rfl, Nat.le_refl _, .inl rfl⟩⟩
  have HX7 := Lib.hid ((hba4.block X (own_lt HX6.out)).trans HX6.out)
  have HB7 := Lib.hid (HB6.out.trans (hba4.mono HB6.out.size))
  refine (CQ.out U4 HB7.out _ hq).mono ?_
  clear hba4 hU4 hq hr4
  rintro e w5 ⟨rfl, hb5⟩
  rw [show strOf (if (1 : Int) = 0 then planT exQ else []) = ⟨#[]⟩ by rw [if_neg (by decide)]; rfl]
  have hx8 := (hb5.block X (own_lt HX7.out)).trans HX7.out
  have HB8 := Lib.hid (HB7.out.trans (hb5.mono HB7.out.size)); clear hb5
  have x0 : w5.cell? ⟨X, 0, none⟩ = some (.slice a1 1 c1) := (own_cell hx8).trans rfl
  have x1 : w5.cell? ⟨X, 1, none⟩ = some (.slice a2 1 c2) := (own_cell hx8).trans rfl
  have x2 : w5.cell? ⟨X, 2, none⟩ = some (.slice a3 1 c3) := (own_cell hx8).trans rfl
  have x3 : w5.cell? ⟨X, 3, none⟩ = some (.int .i64 0) := (own_cell hx8).trans rfl
  clear hx8
  have hee : (exA.toList == exA.toList) = true := by simp
  go_wp2_with fail
  go_ret
  exact ⟨rfl, HB8.out⟩
end Fil
end Go.Proofs.YtkggahoadeeajaaGreatDoor
