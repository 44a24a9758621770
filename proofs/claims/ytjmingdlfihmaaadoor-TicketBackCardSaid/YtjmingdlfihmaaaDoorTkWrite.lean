/- Package ticket's write and Print; over the translated program. -/
import Derived.Test.YtjmingdlfihmaaaDoorTkBld
import Derived.Test.YtjmingdlfihmaaaDoorTkMath
namespace Go.Proofs.YtjmingdlfihmaaaDoor
namespace Tk
open Go Go.RowKit Deci
set_option linter.unusedVariables false
theorem Pg.refl {B b : Nat} {l : List UInt8} {w : World} (h : IsPage B b l w) : Pg B b l w w := ⟨h, Below.refl _ _, Lib.OthersKept.refl _ _ _⟩
theorem kept_below {b : Nat} {w w' : World} (h : Below w.heap.size w w') : Lib.OthersKept 5 (some b) w w' := fun k _ hk _ _ => (h.block k (Array.getElem?_eq_some_iff.1 hk).1).trans hk
theorem Pg.below {B b : Nat} {l : List UInt8} {w w1 w2 : World} (h : Pg B b l w w1) (hb : Below w1.heap.size w1 w2) (hB : B ≤ w1.heap.size) : Pg B b l w w2 :=
  ⟨h.1.below hb, h.2.1.trans (hb.mono hB), h.2.2.trans (kept_below hb)⟩
theorem Pg.alloc {B b : Nat} {l : List UInt8} {w w1 : World} (h : Pg B b l w w1) (hB : B ≤ w1.heap.size) (o : Obj) : Pg B b l w (w1.alloc o) := h.below ((Below.refl _ _).alloc (Nat.le_refl _) o) hB
/-- A block of another kind stands. -/
theorem Pg.kept {B b : Nat} {l : List UInt8} {w w1 : World} (h : Pg B b l w w1) {X : Nat} {cs : Array Value} {T : TypeId} (hx : w.heap[X]? = some (.cells cs T)) (hb : X ≠ b) (hT : T ≠ 5) : w1.heap[X]? = some (.cells cs T) :=
  h.2.2 X _ hx (by intro e; injection e with e; exact hb e) (fun c fz e => by injection e with _ e; exact hT e)
/-- A builder of no text. -/
theorem page_new (w : World) : IsPage w.heap.size w.heap.size [] (w.alloc (.cells #[.pointer none, .slice none 0 0] 53)) :=
  .inl ⟨Nat.le_refl _, _, World.alloc_heap_new w _, World.ownsRow_nil _ _ _ _⟩
set_option maxHeartbeats 1000000 in
set_option maxRecDepth 100000 in
theorem string_nil (b : Nat) (w : World) (hbk : w.heap[b]? = some (.cells #[.pointer none, .slice none 0 0] 53)) :
    Calls Tryd.prog 13 #[.pointer (some ⟨b, 0, none⟩)] w fun e w' => e = .returned (.string ⟨#[]⟩) ∧ Below w.heap.size w w' := by
  have c1 : w.drew.cell? ⟨b, 1, none⟩ = some (.slice none 0 0) := (own_cell (w := w.drew) hbk).trans rfl
  have c0 : w.cell? ⟨b, 1, none⟩ = some (.slice none 0 0) := c1
  have hSD : (Builtin.unsafeSliceData_ #[51] 81 #[.slice none 0 0]).run Tryd.prog w.drew = .ok (.pointer none) w.drew :=
    Lib.run_unsafeSliceData_nil _ _ _ _ _
  have hUS : (Builtin.unsafeString_ #[81, 3] 9 #[.pointer none, .int .i64 0]).run Tryd.prog w.drew = .ok (.string ⟨#[]⟩) w.drew :=
    Lib.run_unsafeString_none w.drew _ _ _ none
  clear hbk
  go_enter Tryd.func13, Tryd.ntmps13
  go_wp2_with fail
  go_region
  all_goals (go_wp2; go_ret; exact ⟨rfl, Below.drew (Below.refl _ w)⟩)
def numsT (xs : List Int) : List UInt8 := xs.flatMap fun x => 32 :: writeV x 0
theorem numsT_snoc (xs : List Int) (x : Int) : numsT (xs ++ [x]) = numsT xs ++ 32 :: writeV x 0 := by unfold numsT; simp
theorem numsT_len {xs : List Int} (h : ∀ x ∈ xs, (writeV x 0).length ≤ 20) : (numsT xs).length ≤ xs.length * 21 := by
  unfold numsT
  induction xs with
  | nil => simp
  | cons x xs ih =>
    have h1 := ih fun y hy => h y (List.mem_cons_of_mem _ hy)
    have h2 := h x (List.mem_cons_self ..)
    simp only [List.flatMap_cons, List.length_append, List.length_cons] at *
    omega
def uns9 : ByteArray := ⟨#[32, 117, 110, 115, 101, 114, 118, 101, 100]⟩
set_option maxHeartbeats 2000000 in
set_option maxRecDepth 100000 in
theorem write_no_ (B b : Nat) (t : List UInt8) (i c p d r : Int) (w : World) (h : IsPage B b t w) (hE : EnvAt B w) (hBw : B ≤ w.heap.size) (hi : Rng i) (hlen : t.length ≤ 800000000) :
    Calls Tryd.prog 12 #[.pointer (some ⟨b, 0, none⟩), .agg #[.int .i64 i, .int .i64 c, .int .i64 p, .int .i64 d, .int .i64 r, .bool false]] w fun e w' => e = .returned (.tuple #[]) ∧ Pg B b (t ++ (writeV i 0 ++ 32 :: unsL ++ [10])) w w' := by
  obtain ⟨W0, hW0⟩ : ∃ W0, W0 = w.alloc (.cells #[.int .i64 i, .int .i64 c, .int .i64 p, .int .i64 d, .int .i64 r, .bool false] 25) := ⟨_, rfl⟩
  obtain ⟨X, hX⟩ : ∃ X, X = w.heap.size := ⟨_, rfl⟩
  have hp0 : Pg B b t w W0 := by rw [hW0]; exact (Pg.refl h).alloc hBw _
  have hx0 : W0.heap[X]? = some (.cells #[.int .i64 i, .int .i64 c, .int .i64 p, .int .i64 d, .int .i64 r, .bool false] 25) := by rw [hW0, hX]; exact World.alloc_heap_new w _
  have hXb : X ≠ b := by have := h.lt; omega
  obtain ⟨⟨m1, m2⟩, hz⟩ := rng_row hi
  have hw := fun W (hW : Below B w W) => write_any i 0 W (hE.below hW).env m1 m2
  obtain ⟨S, hS⟩ : ∃ S, S = strOf (writeV i 0) := ⟨_, rfl⟩
  have hSd : S.data.toList = writeV i 0 := by rw [hS]; rfl
  rw [← hS] at hw hz
  have hsz : S.data.toList.length = S.size := by simp
  rw [← hSd]
  have HX := Lib.hid hX; clear hX
  have HW0 := Lib.hid hW0; clear hW0
  have HP0 := Lib.hid hp0; clear hp0
  have HX0 := Lib.hid hx0; clear hx0
  have HW := Lib.hid hw; clear hw
  have HSZ := Lib.hid hsz; clear hsz
  clear hS hSd hE h
  go_enter Tryd.func12, Tryd.ntmps12
  go_wp2_with fail
  rw [← HX.out, ← HW0.out]
  refine (HW.out _ HP0.out.2.1).mono ?_
  rintro e w1 ⟨rfl, hb1⟩
  have hp1 := HP0.out.below hb1 (by have := HP0.out.2.1.size; omega)
  have hc1 := writeString_any B b t S w1 hp1.1 (by omega) (by have := hp1.2.1.size; omega)
  have hx1 := (hb1.block X (own_lt HX0.out)).trans HX0.out
  have HP1 := Lib.hid hp1; clear hp1 hb1
  have HC1 := Lib.hid hc1; clear hc1
  go_wp2_with fail
  refine HC1.out.mono ?_
  rintro e w2 ⟨rfl, hp2⟩
  have x2 := hp2.kept hx1 hXb (by decide)
  have x5 : w2.cell? ⟨X, 5, none⟩ = some (.bool false) := (own_cell x2).trans rfl
  have hp2' := HP1.out.trans hp2
  have hc2 := writeString_any B b (t ++ S.data.toList) uns9 w2 hp2'.1 (by rw [List.length_append, HSZ.out, show uns9.size = 9 from rfl]; omega) (by have := hp2'.2.1.size; omega)
  rw [show uns9 = (⟨#[32, 117, 110, 115, 101, 114, 118, 101, 100]⟩ : ByteArray) from rfl] at hc2
  have HP2 := Lib.hid hp2'; clear hp2' hp2 x2 hx1
  have HC2 := Lib.hid hc2; clear hc2
  go_wp2_with fail
  refine HC2.out.mono ?_
  rintro e w3 ⟨rfl, hp3⟩
  have hp3' := HP2.out.trans hp3
  have hc3 := writeByte_any B b _ 10 w3 hp3'.1 (by rw [List.length_append, List.length_append, HSZ.out]; show t.length + S.size + 9 + 1 ≤ _; omega) (by have := hp3'.2.1.size; omega)
  have HP3 := Lib.hid hp3'; clear hp3' hp3
  have HC3 := Lib.hid hc3; clear hc3
  go_wp2_with fail
  refine HC3.out.mono ?_
  rintro e w4 ⟨rfl, hp4⟩
  have hp4' := HP3.out.trans hp4
  have HP4 := Lib.hid hp4'; clear hp4' hp4
  go_wp2_with fail
  go_end0
  refine ⟨rfl, ?_⟩
  have := HP4.out
  have e1 : t ++ S.data.toList ++ (⟨#[32, 117, 110, 115, 101, 114, 118, 101, 100]⟩ : ByteArray).data.toList ++ [10] = t ++ (S.data.toList ++ 32 :: unsL ++ [10]) := by
    rw [List.append_assoc, List.append_assoc, List.append_assoc]; rfl
  rw [e1] at this
  exact this
set_option maxHeartbeats 2000000 in
set_option maxRecDepth 100000 in
theorem write_yes_ (B b : Nat) (t : List UInt8) (i c p d r : Int) (w : World) (h : IsPage B b t w) (hE : EnvAt B w) (hBw : B ≤ w.heap.size) (hi : Rng i) (hc : Rng c) (hp : Rng p) (hd : Rng d) (hr : Rng r) (hlen : t.length ≤ 800000000) :
    Calls Tryd.prog 12 #[.pointer (some ⟨b, 0, none⟩), .agg #[.int .i64 i, .int .i64 c, .int .i64 p, .int .i64 d, .int .i64 r, .bool true]] w fun e w' => e = .returned (.tuple #[]) ∧ Pg B b (t ++ (writeV i 0 ++ numsT [c, p, d, r] ++ [10])) w w' := by
  obtain ⟨W0, hW0⟩ : ∃ W0, W0 = w.alloc (.cells #[.int .i64 i, .int .i64 c, .int .i64 p, .int .i64 d, .int .i64 r, .bool true] 25) := ⟨_, rfl⟩
  obtain ⟨X, hX⟩ : ∃ X, X = w.heap.size := ⟨_, rfl⟩
  have hp0 : Pg B b t w W0 := by rw [hW0]; exact (Pg.refl h).alloc hBw _
  have hx0 : W0.heap[X]? = some (.cells #[.int .i64 i, .int .i64 c, .int .i64 p, .int .i64 d, .int .i64 r, .bool true] 25) := by rw [hW0, hX]; exact World.alloc_heap_new w _
  have hXb : X ≠ b := by have := h.lt; omega
  obtain ⟨⟨m1, m2⟩, hz⟩ := rng_row hi
  have hw := fun W (hW : Below B w W) => write_any i 0 W (hE.below hW).env m1 m2
  obtain ⟨S, hS⟩ : ∃ S, S = strOf (writeV i 0) := ⟨_, rfl⟩
  have hSd : S.data.toList = writeV i 0 := by rw [hS]; rfl
  rw [← hS] at hw hz
  have hsz : S.data.toList.length = S.size := by simp
  rw [← hSd]
  obtain ⟨xs, hxs⟩ : ∃ xs, xs = [c, p, d, r] := ⟨_, rfl⟩
  have hrow : ∀ k, k < 4 → Rng (xs.getD k 0) := fun k hk => by
    subst hxs
    match k, hk with
    | 0, _ => exact hc
    | 1, _ => exact hp
    | 2, _ => exact hd
    | 3, _ => exact hr
  have hwx := fun k (hk : k < 4) W (hW : Below B w W) => write_any (xs.getD k 0) 0 W (hE.below hW).env (rng_row (hrow k hk)).1.1 (rng_row (hrow k hk)).1.2
  have hlx : xs.length = 4 := by rw [hxs]; rfl
  have hst : ∀ k, k < 4 → numsT (xs.take (k + 1)) = numsT (xs.take k) ++ 32 :: writeV (xs.getD k 0) 0 := fun k hk => by
    have hk' : k < xs.length := by omega
    rw [List.take_succ_eq_append_getElem hk', numsT_snoc, show xs.getD k 0 = xs[k] by simp [hk']]
  have hln : ∀ k, k ≤ 4 → (numsT (xs.take k)).length ≤ 84 := fun k hk => by
    have := numsT_len (xs := xs.take k) (fun x hm => by
      obtain ⟨j, hj, rfl⟩ := List.getElem_of_mem (List.mem_of_mem_take hm)
      have := (rng_row (hrow j (by omega))).2
      rw [show xs.getD j 0 = xs[j] by simp [hj]] at this
      exact this)
    rw [List.length_take] at this; omega
  have hfin : numsT (xs.take 4) = numsT xs := by rw [List.take_of_length_le (by omega)]
  have hcell : ∀ k, k < 4 → (#[Value.int .i64 c, .int .i64 p, .int .i64 d, .int .i64 r] : Array Value)[k]? = some (.int .i64 (xs.getD k 0)) := fun k hk => by
    subst hxs
    match k, hk with
    | 0, _ => rfl
    | 1, _ => rfl
    | 2, _ => rfl
    | 3, _ => rfl
  rw [← hxs]
  have HX := Lib.hid hX; clear hX
  have HW0 := Lib.hid hW0; clear hW0
  have HP0 := Lib.hid hp0; clear hp0
  have HX0 := Lib.hid hx0; clear hx0
  have HW := Lib.hid hw; clear hw
  have HSZ := Lib.hid hsz; clear hsz
  have HST := Lib.hid hst; clear hst
  have HLN := Lib.hid hln; clear hln
  have HFIN := Lib.hid hfin; clear hfin
  have HWX := Lib.hid hwx; clear hwx
  have HROW := Lib.hid hrow; clear hrow
  have HCELL := Lib.hid hcell; clear hcell
  clear hS hSd hE h hxs hlx hi hc hp hd hr
  go_enter Tryd.func12, Tryd.ntmps12
  go_wp2_with fail
  rw [← HX.out, ← HW0.out]
  refine (HW.out _ HP0.out.2.1).mono ?_
  rintro e w1 ⟨rfl, hb1⟩
  have hp1 := HP0.out.below hb1 (by have := HP0.out.2.1.size; omega)
  have hc1 := writeString_any B b t S w1 hp1.1 (by omega) (by have := hp1.2.1.size; omega)
  have hx1 := (hb1.block X (own_lt HX0.out)).trans HX0.out
  have HP1 := Lib.hid hp1; clear hp1 hb1
  have HC1 := Lib.hid hc1; clear hc1
  go_wp2_with fail
  refine HC1.out.mono ?_
  rintro e w2 ⟨rfl, hp2⟩
  have x2 := hp2.kept hx1 hXb (by decide)
  have y1 : w2.cell? ⟨X, 1, none⟩ = some (.int .i64 c) := (own_cell x2).trans rfl
  have y2 : w2.cell? ⟨X, 2, none⟩ = some (.int .i64 p) := (own_cell x2).trans rfl
  have y3 : w2.cell? ⟨X, 3, none⟩ = some (.int .i64 d) := (own_cell x2).trans rfl
  have y4 : w2.cell? ⟨X, 4, none⟩ = some (.int .i64 r) := (own_cell x2).trans rfl
  have y5 : w2.cell? ⟨X, 5, none⟩ = some (.bool true) := (own_cell x2).trans rfl
  have hp2' := HP1.out.trans hp2
  obtain ⟨Z, hZ⟩ : ∃ Z, Z = w2.heap.size := ⟨_, rfl⟩
  obtain ⟨W3, hW3⟩ : ∃ W3, W3 = w2.alloc (.cells #[.int .i64 c, .int .i64 p, .int .i64 d, .int .i64 r] 2) := ⟨_, rfl⟩
  have hp3 : Pg B b (t ++ S.data.toList) w W3 := by rw [hW3]; exact hp2'.alloc (by have := hp2'.2.1.size; omega) _
  have hz3 : W3.heap[Z]? = some (.cells #[.int .i64 c, .int .i64 p, .int .i64 d, .int .i64 r] 2) := by rw [hW3, hZ]; exact World.alloc_heap_new w2 _
  have hZb : Z ≠ b := by have := hp2'.1.lt; omega
  have hk3 : Pg B b (t ++ S.data.toList) W3 W3 := Pg.refl hp3.1
  have HP3 := Lib.hid hp3; clear hp3 hp2' hp2 x2 hx1
  have HZ3 := Lib.hid hz3; clear hz3
  have HK3 := Lib.hid hk3; clear hk3
  have HZ := Lib.hid hZ; clear hZ
  have HW3 := Lib.hid hW3; clear hW3
  go_wp2_with fail
  rw [← HZ.out, ← HW3.out]
  clear y1 y2 y3 y4 y5
  obtain ⟨T, hT⟩ : ∃ T, T = t ++ S.data.toList := ⟨_, rfl⟩
  have hTl : T.length = t.length + S.size := by rw [hT, List.length_append, HSZ.out]
  have HTT : Hid (t ++ (S.data.toList ++ numsT xs ++ [10]) = T ++ numsT xs ++ [10]) := Lib.hid (by rw [hT]; simp)
  rw [← hT] at HP3
  clear hT HSZ HP0 HX0 HW HC1 HP1 HW0 HK3
  go_loopw [23] (fun i wr => ∃ k : Nat, k ≤ 4 ∧ i = .int .i64 k ∧ Hid (Pg B b (T ++ numsT (xs.take k)) w wr ∧ Lib.OthersKept 5 (some b) W3 wr)) (fun i _ => 4 - (intOf i).toNat)
  case atStart =>
    refine ⟨0, by omega, rfl, Lib.hid ⟨?_, Lib.OthersKept.refl _ _ _⟩⟩
    have := HP3.out
    simpa [numsT] using this
  case round =>
    obtain ⟨k, hk, rfl, HP⟩ := hrel
    have hBr : B ≤ wr.heap.size := by have := HP.out.1.2.1.size; omega
    have hz := HP.out.2 Z _ HZ3.out (by intro e; injection e with e; exact hZb e) (fun c fz e => by injection e with _ e; exact absurd e (by decide))
    by_cases hlt : k < 4
    · have hcell : wr.cell? ⟨Z, k, none⟩ = some (.int .i64 (xs.getD k 0)) := (own_cell hz).trans (HCELL.out k hlt)
      have hpl := HLN.out k hk
      have hst := HST.out k hlt
      have hw := HWX.out k hlt
      have hz : (strOf (writeV (xs.getD k 0) 0)).size ≤ 20 := (rng_row (HROW.out k hlt)).2
      have hcc := writeByte_any B b (T ++ numsT (xs.take k)) 32 wr HP.out.1.1 (by rw [List.length_append]; omega) hBr
      rw [show writeV (xs.getD k 0) 0 = (strOf (writeV (xs.getD k 0) 0)).data.toList from rfl] at hst
      generalize strOf (writeV (xs.getD k 0) 0) = u at *
      generalize xs.getD k 0 = z at *
      have HW := Lib.hid hw; clear hw
      have HCC := Lib.hid hcc; clear hcc
      have HS := Lib.hid hst; clear hst
      have i0 : (k : Int) < 4 := by omega
      have i1 : (0 : Int) ≤ k := by omega
      clear HST HWX HROW HLN
      go_wp2_with fail
      refine HCC.out.mono ?_
      rintro e w2' ⟨rfl, hp2⟩
      have HP2 := Lib.hid (show Pg B b _ w w2' ∧ Lib.OthersKept 5 (some b) W3 w2' from ⟨HP.out.1.trans hp2, HP.out.2.trans hp2.2.2⟩); clear hp2 hcell HCC
      go_wp2_with fail
      refine (HW.out _ HP2.out.1.2.1).mono ?_
      rintro e w3 ⟨rfl, hb3⟩
      have hp3 := HP2.out.1.below hb3 (by have := HP2.out.1.2.1.size; omega)
      have hc3 := writeString_any B b _ u w3 hp3.1 (by rw [List.length_append, List.length_append, show ([32] : List UInt8).length = 1 from rfl]; omega) (by have := hp3.2.1.size; omega)
      rw [List.append_assoc, List.append_assoc, List.singleton_append, ← HS.out] at hc3
      have HC3 := Lib.hid hc3; clear hc3
      have HP3 := Lib.hid (show Pg B b _ w w3 ∧ Lib.OthersKept 5 (some b) W3 w3 from ⟨hp3, HP2.out.2.trans (kept_below hb3)⟩); clear hp3 hb3
      go_wp2_with fail
      refine HC3.out.mono ?_
      rintro e w4 ⟨rfl, hp4⟩
      have HP4 := Lib.hid (show Pg B b (T ++ numsT (xs.take (k + 1))) w w4 ∧ Lib.OthersKept 5 (some b) W3 w4 from ⟨HP3.out.1.trans hp4, HP3.out.2.trans hp4.2.2⟩); clear hp4
      go_wp2_with fail
      go_roundw
      case rel => exact ⟨k + 1, by omega, by go_num, HP4⟩
      case measure => simp [intOf]; omega
    · obtain rfl : k = 4 := by omega
      have hcc := writeByte_any B b (T ++ numsT (xs.take 4)) 10 wr HP.out.1.1 (by have := HLN.out 4 (by omega); rw [List.length_append]; omega) hBr
      rw [HFIN.out] at hcc
      have HCC := Lib.hid hcc; clear hcc
      go_wp2_with fail
      refine HCC.out.mono ?_
      rintro e w2' ⟨rfl, hp2⟩
      have HP2 := Lib.hid (HP.out.1.trans hp2); clear hp2
      go_wp2_with fail
      go_end0
      rw [HTT.out]
      exact ⟨rfl, HP2.out⟩
theorem lineB_yes (i c p d r : Int) : lineB ⟨i, c, p, d, r, true⟩ = writeV i 0 ++ numsT [c, p, d, r] := by unfold lineB numsT; simp
theorem lineB_no (i c p d r : Int) : lineB ⟨i, c, p, d, r, false⟩ = writeV i 0 ++ 32 :: unsL := by unfold lineB; simp
theorem write_line (B b : Nat) (t : List UInt8) (i c p d r : Int) (s : Bool) (w : World) (h : IsPage B b t w) (hE : EnvAt B w) (hBw : B ≤ w.heap.size) (hok : (LN.mk i c p d r s).Ok) (hlen : t.length ≤ 800000000) :
    Calls Tryd.prog 12 #[.pointer (some ⟨b, 0, none⟩), .agg #[.int .i64 i, .int .i64 c, .int .i64 p, .int .i64 d, .int .i64 r, .bool s]] w fun e w' => e = .returned (.tuple #[]) ∧ Pg B b (t ++ (lineB ⟨i, c, p, d, r, s⟩ ++ [10])) w w' := by
  cases s with
  | false => rw [lineB_no]; exact write_no_ B b t i c p d r w h hE hBw hok.rid hlen
  | true => rw [lineB_yes]; exact write_yes_ B b t i c p d r w h hE hBw hok.rid hok.rcar hok.rpick hok.rdrop hok.rride hlen
theorem textT_take {L : List LN} {k : Nat} (hk : k < L.length) : textT (L.take (k + 1)) = textT (L.take k) ++ (lineB L[k] ++ [10]) := by
  rw [List.take_succ_eq_append_getElem hk, textT_snoc]
theorem textT_ne {L : List LN} (h : L ≠ []) : textT L ≠ [] := by
  cases L with
  | nil => exact absurd rfl h
  | cons l L => rw [textT_cons]; simp
set_option maxHeartbeats 2000000 in
set_option maxRecDepth 100000 in
theorem print_any (v : Value) (L : List LN) (w : World) (hE : EnvAt w.heap.size w) (hI : IsLn w v L) (hok : ∀ l ∈ L, l.Ok) (hn : L.length ≤ 1000) :
    Calls Tryd.prog 6 #[v] w fun e w' => e = .returned (.string (strOf (textT L))) ∧ Below w.heap.size w w' := by
  obtain ⟨B, hB⟩ : ∃ B, B = w.heap.size := ⟨_, rfl⟩
  obtain ⟨W0, hW0⟩ : ∃ W0, W0 = w.alloc (.cells #[.pointer none, .slice none 0 0] 53) := ⟨_, rfl⟩
  have hp0 : IsPage B B [] W0 := by rw [hB, hW0]; exact page_new w
  have hb0 : Below B w W0 := by rw [hB, hW0]; exact (Below.refl _ _).alloc (Nat.le_refl _) _
  have hx0 : W0.heap[B]? = some (.cells #[.pointer none, .slice none 0 0] 53) := by rw [hW0, hB]; exact World.alloc_heap_new w _
  have hz0 : W0.heap.size = B + 1 := by rw [hW0, hB]; simp
  rw [← hB] at hE ⊢
  have hE0 := hE.below hb0
  obtain ⟨a, cap, rfl, hrow⟩ := hI
  have HB := Lib.hid hB; clear hB
  have HW0 := Lib.hid hW0; clear hW0
  have HP0 := Lib.hid hp0; clear hp0
  have HB0 := Lib.hid hb0; clear hb0
  have HE0 := Lib.hid hE0; clear hE0 hE
  by_cases hL : L = []
  · subst hL
    clear hrow
    have hsn := string_nil B W0 hx0
    have HSN := Lib.hid hsn; clear hsn
    rw [show strOf (textT []) = ⟨#[]⟩ from rfl]
    go_enter Tryd.func6, Tryd.ntmps6
    go_wp2_with fail
    rw [← HB.out, ← HW0.out]
    go_loopw [8] (fun i wr => i = .int .i64 0 ∧ Hid (wr = W0)) (fun i _ => 0)
    case atStart => exact ⟨rfl, Lib.hid rfl⟩
    case round =>
      obtain ⟨rfl, HW⟩ := hrel
      obtain rfl := HW.out.symm
      clear HW
      go_wp2_with fail
      refine HSN.out.mono ?_
      rintro e w1 ⟨rfl, hb1⟩
      have HB1 := Lib.hid (HB0.out.trans (hb1.mono (by rw [hz0]; omega))); clear hb1
      go_wp2_with fail
      go_ret
      exact ⟨rfl, HB1.out⟩
  · obtain ⟨g, o, rfl, hg, hat⟩ := hrow.resolve_left hL
    have hlg : g < B := by rw [HB.out]; exact hg
    have hsv := fun b (l : List UInt8) W h => string_any B b l W h
    have hat' : ∀ k (hk : k < L.length) W, Below B w W → LnAt W g (o + k * 6) L[k] := fun k hk W hb => (hat k hk).below hb hlg
    have hfl : ∀ k (hk : k ≤ L.length), (textT (L.take k)).length ≤ 75000 := fun k hk => by
      have := textT_len (L := L.take k) fun l hl => hok l (List.mem_of_mem_take hl)
      rw [List.length_take] at this; omega
    have hstep : ∀ k (hk : k < L.length), textT (L.take (k + 1)) = textT (L.take k) ++ (lineB L[k] ++ [10]) := fun k hk => textT_take hk
    have hall : textT (L.take L.length) = textT L := by rw [List.take_length]
    have hne := textT_ne hL
    have hwl := fun k (hk : k < L.length) => hok L[k] (List.getElem_mem hk)
    have hp1 : Pg B B (textT (L.take 0)) W0 W0 := Pg.refl HP0.out
    obtain ⟨m, hm⟩ : ∃ m, m = L.length := ⟨_, rfl⟩
    rw [← hm] at hall hn ⊢
    have HM := Lib.hid hm; clear hm
    have HAT := Lib.hid hat'; clear hat' hat
    have HFL := Lib.hid hfl; clear hfl
    have HST := Lib.hid hstep; clear hstep
    have HALL := Lib.hid hall; clear hall
    have HNE := Lib.hid hne; clear hne
    have HWL := Lib.hid hwl; clear hwl
    have HSV := Lib.hid hsv; clear hsv
    have HP1 := Lib.hid hp1; clear hp1
    clear hok hrow hL hx0
    go_enter Tryd.func6, Tryd.ntmps6
    go_wp2_with fail
    rw [← HB.out, ← HW0.out]
    go_loopw [8] (fun i wr => ∃ k : Nat, k ≤ m ∧ i = .int .i64 k ∧ Hid (Pg B B (textT (L.take k)) W0 wr)) (fun i _ => m - (intOf i).toNat)
    case atStart => exact ⟨0, Nat.zero_le _, rfl, HP1⟩
    case round =>
      obtain ⟨k, hk, rfl, HP⟩ := hrel
      have hBr : B ≤ wr.heap.size := by have := HP.out.2.1.size; omega
      by_cases hlt : k < m
      · have hkl : k < L.length := by rw [← HM.out]; exact hlt
        obtain ⟨c0, c1, c2, c3, c4, c5⟩ := HAT.out k hkl wr (HB0.out.trans HP.out.2.1)
        have hst := HST.out k hkl
        have hwl := HWL.out k hkl
        have hfl := HFL.out k (by omega)
        generalize L[k] = ln at *
        obtain ⟨i, c, p, d, r, s⟩ := ln
        simp only at c0 c1 c2 c3 c4 c5
        obtain ⟨W1, hW1⟩ : ∃ W1, W1 = wr.alloc (.cells #[.int .i64 i, .int .i64 c, .int .i64 p, .int .i64 d, .int .i64 r, .bool s] 25) := ⟨_, rfl⟩
        have hp1 : Pg B B (textT (L.take k)) W0 W1 := by rw [hW1]; exact HP.out.alloc hBr _
        have hcc := write_line B B (textT (L.take k)) i c p d r s W1 hp1.1 (HE0.out.below hp1.2.1) (by have := hp1.2.1.size; omega) hwl (by omega)
        rw [← hst] at hcc
        have HC := Lib.hid hcc; clear hcc
        have HP1 := Lib.hid hp1; clear hp1
        have HW1 := Lib.hid hW1; clear hW1
        clear hst hwl hfl
        have i0 : (k : Int) < (m : Int) := by omega
        go_wp2_with fail
        rw [← HW1.out]
        refine HC.out.mono ?_
        rintro e w2 ⟨rfl, hp2⟩
        have HP2 := Lib.hid (HP1.out.trans hp2); clear hp2
        go_wp2_with fail
        go_roundw
        case rel => exact ⟨k + 1, by omega, by go_num, HP2⟩
        case measure => simp [intOf]; omega
      · obtain rfl : k = m := by omega
        have hsv := HSV.out B (textT (L.take k)) wr HP.out.1 (by rw [HALL.out]; exact HNE.out)
        rw [HALL.out] at hsv
        have HS := Lib.hid hsv; clear hsv
        go_wp2_with fail
        refine HS.out.mono ?_
        rintro e w2 ⟨rfl, hb2⟩
        have HB2 := Lib.hid ((HB0.out.trans HP.out.2.1).trans hb2); clear hb2
        go_wp2_with fail
        go_ret
        exact ⟨rfl, HB2.out⟩
end Tk
end Go.Proofs.YtjmingdlfihmaaaDoor
