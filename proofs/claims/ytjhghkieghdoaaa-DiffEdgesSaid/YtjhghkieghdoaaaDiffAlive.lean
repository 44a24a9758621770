/- The document's example (alive of layer 7), over the translated program. -/
import Derived.Test.YtjhghkieghdoaaaDiffEx
import Derived.Test.YtjhghkieghdoaaaDiffHold
import Derived.Test.YtjhghkieghdoaaaDiffSame
import Derived.Deep.RegionWith
import Derived.Deep.DeepCutAuto
import Derived.Outline
namespace Go.Proofs.Ytjhghkieghdoaaa
open Go.RowKit Go.Lib
namespace Diff
set_option linter.unusedVariables false
def exCells : Array Value := #[.int .i64 0, .int .i64 1, .int .i64 5, .int .i64 1, .int .i64 0, .int .i64 (-6), .int .i64 0, .int .i64 2, .int .i64 9, .int .i64 1, .int .i64 2, .int .i64 3]
theorem ex_es1 {W : World} {E : Nat} {t : TypeId} (h : W.heap[E]? = some (.cells exCells t)) : IsEs W (some ⟨E, 0, none⟩) 2 (fun i => S1.F i) (fun i => S1.T i) S1.W := by
  refine isEs2 (f0 := 0) (f1 := 1) (t0 := 1) (t1 := 0) (Array.getElem?_eq_some_iff.1 h).1 ?_ ?_ ?_ ?_ ?_ ?_ <;> simp [World.cell?, h, exCells]
theorem ex_es2 {W : World} {E : Nat} {t : TypeId} (h : W.heap[E]? = some (.cells exCells t)) : IsEs W (some ⟨E, 6, none⟩) 2 (fun i => S2.F i) (fun i => S2.T i) S2.W := by
  refine isEs2 (f0 := 0) (f1 := 1) (t0 := 2) (t1 := 2) (Array.getElem?_eq_some_iff.1 h).1 ?_ ?_ ?_ ?_ ?_ ?_ <;> simp [World.cell?, h, exCells]
theorem ex_cell {W : World} {E : Nat} {t : TypeId} (h : W.heap[E]? = some (.cells exCells t)) (j : Nat) : W.cell? ⟨E, j, none⟩ = exCells[j]? := by simp [World.cell?, h]
theorem ex_es3 {W : World} {B : Nat} {t : TypeId} (h : W.heap[B]? = some (.cells #[.int .i64 0, .int .i64 1, .int .i64 5, .int .i64 0, .int .i64 2, .int .i64 9, .int .i64 1, .int .i64 2, .int .i64 3] t)) : IsEs W (some ⟨B, 0, none⟩) 3 (fun i => S3.F i) (fun i => S3.T i) S3.W := by
  refine .inr ⟨B, 0, rfl, (Array.getElem?_eq_some_iff.1 h).1, by unfold maxLen; omega, fun j hj => ?_⟩
  have hc : ∀ o, W.cell? ⟨B, o, none⟩ = (#[.int .i64 0, .int .i64 1, .int .i64 5, .int .i64 0, .int .i64 2, .int .i64 9, .int .i64 1, .int .i64 2, .int .i64 3] : Array Value)[o]? := fun o => by simp [World.cell?, h]
  rcases three hj with rfl | rfl | rfl <;> simp only [hc] <;> exact ⟨rfl, rfl, rfl⟩
theorem ex_es0 {W : World} {E : Nat} {t : TypeId} (h : W.heap[E]? = some (.cells exCells t)) : IsEs W (some ⟨E, 0, none⟩) 1 (fun _ => 0) (fun _ => 1) (fun _ => 5) := by
  refine .inr ⟨E, 0, rfl, (Array.getElem?_eq_some_iff.1 h).1, by unfold maxLen; omega, fun j hj => ?_⟩
  obtain rfl : j = 0 := by omega
  refine ⟨?_, ?_, ?_⟩ <;> simp [World.cell?, h, exCells]
def f4 (i : Nat) : Int := if i = 1 then 1 else if i = 3 then 1 else 0
def t4 (i : Nat) : Int := if i = 0 then 1 else if i = 1 then 0 else 2
def h4 (i : Nat) : Int := if i = 0 then 5 else if i = 1 then -6 else if i = 2 then 9 else 3
theorem ex_es4 {W : World} {E : Nat} {t : TypeId} (h : W.heap[E]? = some (.cells exCells t)) : IsEs W (some ⟨E, 0, none⟩) 4 f4 t4 h4 := by
  refine .inr ⟨E, 0, rfl, (Array.getElem?_eq_some_iff.1 h).1, by unfold maxLen; omega, fun j hj => ?_⟩
  have hj' : j = 0 ∨ j = 1 ∨ j = 2 ∨ j = 3 := by omega
  rcases hj' with rfl | rfl | rfl | rfl <;> refine ⟨?_, ?_, ?_⟩ <;> simp [World.cell?, h, exCells, f4, t4, h4]
theorem isB_lit {W : World} {B n : Nat} {t : TypeId} {a : Array Value} {f : Nat → Int} (h : W.heap[B]? = some (.cells a t)) (hf : ∀ j, j < n → a[j]? = some (.int .i64 (f j))) : IsB W B n f := ⟨a, t, h, hf⟩
theorem isXs_of {W : World} {B n : Nat} {f : Nat → Int} (h : IsB W B n f) (hn : n ≤ maxLen) : IsXs W (some ⟨B, 0, none⟩) n f := .inr ⟨B, 0, rfl, h.lt, hn, fun j hj => h.at0 hj⟩
theorem four {i : Nat} (h : i < 4) : i = 0 ∨ i = 1 ∨ i = 2 ∨ i = 3 := by omega
theorem lit_d2 (w : World) (t : TypeId) : IsB (w.alloc (.cells #[.int .i64 0, .int .i64 1152921504606846976, .int .i64 9, .int .i64 1152921504606846976] t)) w.heap.size 4 D2 :=
  isB_lit (heap_alloc_new _ _) fun j hj => by rcases four hj with rfl | rfl | rfl | rfl <;> rfl
theorem lit_two (w : World) (t : TypeId) (x y : Int) : IsB (w.alloc (.cells #[.int .i64 x, .int .i64 y] t)) w.heap.size 2 (wt2 x y) :=
  isB_lit (heap_alloc_new _ _) fun j hj => by rcases two hj with rfl | rfl <;> rfl
/-- behind the third call -/
def ExP (w3 : World) (s8 s9 : Value) (wx : World) : Prop := ∃ g cc q, s8 = .slice (some ⟨g, 0, none⟩) 2 cc ∧ s9 = .int .i64 0 ∧ Hid (IsB wx g 2 q) ∧ Hid (q 0 = 0) ∧ Hid (q 1 = 2) ∧ Hid (Below w3.heap.size w3 wx)
set_option maxHeartbeats 4000000 in
set_option maxRecDepth 100000 in
theorem alive_any (w : World) : Calls Try.prog 8 #[] w fun e w' => e = .returned (.bool true) ∧ Below w.heap.size w w' := by
  obtain ⟨E, hE⟩ : ∃ E, E = w.heap.size := ⟨_, rfl⟩
  obtain ⟨W1, hW1⟩ : ∃ W1, W1 = w.alloc (.cells exCells 42) := ⟨_, rfl⟩
  have hz : W1.heap[E]? = some (.cells exCells 42) := by rw [hW1, hE]; exact heap_alloc_new _ _
  have hba : Below w.heap.size w W1 := by rw [hW1]; exact (Below.refl _ _).alloc (Nat.le_refl _) _
  have HZ := Lib.hid hz; clear hz
  have HBA := Lib.hid hba; clear hba
  have HE := Lib.hid hE; clear hE
  unfold exCells at hW1
  have HW1 := Lib.hid hW1; clear hW1
  go_enter Try.func8, Try.ntmps8
  go_wp2_with fail
  rw [← HE.out, ← HW1.out]
  refine (call1 E 0 _ _ (ex_es1 HZ.out)).mono ?_
  rintro e w2 ⟨g1, cc1, rfl, hb⟩
  have HZ2 := Lib.hid ((hb.block E (Array.getElem?_eq_some_iff.1 HZ.out).1).trans HZ.out)
  have HB2 := Lib.hid (HBA.out.trans (hb.mono HBA.out.size)); clear hb
  go_wp2_with fail
  refine (call2 E 6 _ _ (ex_es2 HZ2.out)).mono ?_
  rintro e w3 ⟨d2, rfl, hD2, hb⟩
  have HZ3 := Lib.hid ((hb.block E (Array.getElem?_eq_some_iff.1 HZ2.out).1).trans HZ2.out)
  have HB3 := Lib.hid (HB2.out.trans (hb.mono HB2.out.size)); clear hb
  have HD3 := Lib.hid hD2; clear hD2
  have e0 := ex_cell HZ3.out 0
  have e1 := ex_cell HZ3.out 1
  have e2 := ex_cell HZ3.out 2
  have e6 := ex_cell HZ3.out 6
  have e7 := ex_cell HZ3.out 7
  have e8 := ex_cell HZ3.out 8
  have e9 := ex_cell HZ3.out 9
  have e10 := ex_cell HZ3.out 10
  have e11 := ex_cell HZ3.out 11
  simp [exCells] at e0 e1 e2 e6 e7 e8 e9 e10 e11
  go_upto_region 4 with fail
  go_cut [8, 9] (fun s8 s9 wx => ExP w3 s8 s9 wx)
  case first =>
    go_region_with (go_at_call 15; (refine (call3 _ _ _ (ex_es3 (by first | exact heap_alloc_new _ _ | (rw [heap_drew]; exact heap_alloc_new _ _)))).mono ?_); rintro e w4 ⟨g4, cc4, q4, rfl, hB4, q0, q1, hb⟩; have HB4 := Lib.hid (((((Below.refl w3.heap.size w3).alloc (Nat.le_refl _) _).drew).trans (hb.mono (by simp))) : Below w3.heap.size w3 w4); clear hb; have HQ0 := Lib.hid q0; clear q0; have HQ1 := Lib.hid q1; clear q1; have HBB4 := Lib.hid hB4; clear hB4)
    all_goals
      go_wp2_with fail
      go_meet
      exact ⟨_, _, _, rfl, rfl, HBB4, HQ0, HQ1, HB4⟩
  case rest =>
    obtain ⟨g4, cc4, q4, rfl, rfl, HBB4, HQ0, HQ1, HB4⟩ := hcut
    have hb := HB4.out
    have HZ4 := Lib.hid ((hb.block E (Array.getElem?_eq_some_iff.1 HZ3.out).1).trans HZ3.out)
    have HB5 := Lib.hid (HB3.out.trans (hb.mono HB3.out.size))
    clear hb
    go_wp2_with fail
    refine (call4 E 0 _ _ (ex_es1 HZ4.out)).mono ?_
    rintro e w5 ⟨rfl, hb⟩
    have HZ5 := Lib.hid ((hb.block E (Array.getElem?_eq_some_iff.1 HZ4.out).1).trans HZ4.out)
    have HB6 := Lib.hid (HB5.out.trans (hb.mono HB5.out.size))
    have HD5 := Lib.hid ((HD3.out.below HB4.out).below hb)
    have HQ5 := Lib.hid (HBB4.out.below hb); clear hb
    go_wp2_with fail
    refine (call5 E 6 _ _ (ex_es2 HZ5.out)).mono ?_
    rintro e w6 ⟨rfl, hb⟩
    have HZ6 := Lib.hid ((hb.block E (Array.getElem?_eq_some_iff.1 HZ5.out).1).trans HZ5.out)
    have HB7 := Lib.hid (HB6.out.trans (hb.mono HB6.out.size))
    have HD6 := Lib.hid (HD5.out.below hb)
    have HQ6 := Lib.hid (HQ5.out.below hb); clear hb
    go_wp2_with fail
    refine (solve_no 0 0 none 0 0 (fun _ => 0) (fun _ => 0) (fun _ => 0) w6 (.inl rfl) (by omega) (by omega) (by omega) rfl).mono ?_
    rintro e w7 ⟨rfl, hb⟩
    have HZ7 := Lib.hid ((hb.block E (Array.getElem?_eq_some_iff.1 HZ6.out).1).trans HZ6.out)
    have HB8 := Lib.hid (HB7.out.trans (hb.mono HB7.out.size))
    have HD7 := Lib.hid (HD6.out.below hb)
    have HQ7 := Lib.hid (HQ6.out.below hb); clear hb
    go_wp2_with fail
    have hA1 : Below w7.heap.size w7 (w7.alloc (.cells #[.int .i64 0, .int .i64 1152921504606846976, .int .i64 9, .int .i64 1152921504606846976] 2)) := (Below.refl _ _).alloc (Nat.le_refl _) _
    refine (same_any d2 4 w7.heap.size 4 4 D2 D2 _ (by omega) (HD7.out.below hA1) (lit_d2 _ _) (fun _ _ => rfl)).mono ?_
    rintro e w8 ⟨rfl, hb⟩
    have hb' := hA1.trans (hb.mono hA1.size)
    have HZ8 := Lib.hid ((hb'.block E (Array.getElem?_eq_some_iff.1 HZ7.out).1).trans HZ7.out)
    have HB9 := Lib.hid (HB8.out.trans (hb'.mono HB8.out.size))
    have HQ8 := Lib.hid (HQ7.out.below hb'); clear hb hb' hA1
    go_wp2_with fail
    have hA2 : Below w8.heap.size w8 (w8.alloc (.cells #[.int .i64 0, .int .i64 2] 3)) := (Below.refl _ _).alloc (Nat.le_refl _) _
    refine (ints_any g4 cc4 w8.heap.size 2 2 q4 (wt2 0 2) _ (by omega) (HQ8.out.below hA2) (lit_two _ _ _ _) (fun j hj => by
      rcases two hj with rfl | rfl
      · exact HQ0.out
      · exact HQ1.out)).mono ?_
    rintro e w9 ⟨rfl, hb⟩
    have hb' := hA2.trans (hb.mono hA2.size)
    have HZ9 := Lib.hid ((hb'.block E (Array.getElem?_eq_some_iff.1 HZ8.out).1).trans HZ8.out)
    have HB10 := Lib.hid (HB9.out.trans (hb'.mono HB9.out.size)); clear hb hb' hA2
    go_wp2_with fail
    have hA3 : Below w9.heap.size w9 (w9.alloc (.cells #[.int .i64 0, .int .i64 5] 2)) := (Below.refl _ _).alloc (Nat.le_refl _) _
    have hz3 := (hA3.block E (Array.getElem?_eq_some_iff.1 HZ9.out).1).trans HZ9.out
    refine (holds_any (some ⟨E, 0, none⟩) (some ⟨w9.heap.size, 0, none⟩) 1 4 2 2 (fun _ => 0) (fun _ => 1) (fun _ => 5) (wt2 0 5) _ (ex_es0 hz3) (isXs_of (lit_two _ _ _ _) (by unfold maxLen; omega)) (by omega) (by omega)).mono ?_
    rintro e wa ⟨rfl, hb⟩
    have hb' := hA3.trans (hb.mono hA3.size)
    have HZa := Lib.hid ((hb'.block E (Array.getElem?_eq_some_iff.1 HZ9.out).1).trans HZ9.out)
    have HBa := Lib.hid (HB10.out.trans (hb'.mono HB10.out.size)); clear hb hb' hA3 hz3
    rw [show holdsB 1 (fun _ => 0) (fun _ => 1) (fun _ => 5) 2 (wt2 0 5) = true from by decide]
    go_wp2_with fail
    have hA4 : Below wa.heap.size wa (wa.alloc (.cells #[.int .i64 0, .int .i64 6] 2)) := (Below.refl _ _).alloc (Nat.le_refl _) _
    have hz4 := (hA4.block E (Array.getElem?_eq_some_iff.1 HZa.out).1).trans HZa.out
    refine (holds_any (some ⟨E, 0, none⟩) (some ⟨wa.heap.size, 0, none⟩) 1 4 2 2 (fun _ => 0) (fun _ => 1) (fun _ => 5) (wt2 0 6) _ (ex_es0 hz4) (isXs_of (lit_two _ _ _ _) (by unfold maxLen; omega)) (by omega) (by omega)).mono ?_
    rintro e wb ⟨rfl, hb⟩
    have hb' := hA4.trans (hb.mono hA4.size)
    have HZb := Lib.hid ((hb'.block E (Array.getElem?_eq_some_iff.1 HZa.out).1).trans HZa.out)
    have HBb := Lib.hid (HBa.out.trans (hb'.mono HBa.out.size)); clear hb hb' hA4 hz4
    rw [show holdsB 1 (fun _ => 0) (fun _ => 1) (fun _ => 5) 2 (wt2 0 6) = false from by decide]
    go_wp2_with fail
    refine (right_any 2 (some ⟨E, 0, none⟩) 2 4 (fun i => S1.F i) (fun i => S1.T i) S1.W wb (ex_es1 HZb.out) (by omega) (by omega) (by omega)).mono ?_
    rintro e wc ⟨rfl, hb⟩
    have HZc := Lib.hid ((hb.block E (Array.getElem?_eq_some_iff.1 HZb.out).1).trans HZb.out)
    have HBc := Lib.hid (HBb.out.trans (hb.mono HBb.out.size)); clear hb
    rw [show rightB 2 2 (fun i => S1.F i) (fun i => S1.T i) S1.W = true from by decide]
    go_wp2_with fail
    refine (right_any 1 (some ⟨E, 0, none⟩) 4 4 f4 t4 h4 wc (ex_es4 HZc.out) (by omega) (by omega) (by omega)).mono ?_
    rintro e wd ⟨rfl, hb⟩
    have HBd := Lib.hid (HBc.out.trans (hb.mono HBc.out.size)); clear hb
    rw [show rightB 1 4 f4 t4 h4 = false from by decide]
    go_wp2_with fail
    go_ret
    exact ⟨rfl, HBd.out⟩
end Diff
end Go.Proofs.Ytjhghkieghdoaaa
