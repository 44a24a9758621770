/- Package verb's write and Print; over the translated program. -/
import Derived.Test.YtmegapelibaanaaDoorVbBld
import Derived.Test.YtmegapelibaanaaDoorVbCheck
namespace Go.Proofs.YtmegapelibaanaaDoor
namespace Vb
open Go Go.RowKit Deci
set_option linter.unusedVariables false
theorem Pg.refl {B b : Nat} {l : List UInt8} {w : World} (h : IsPage B b l w) : Pg B b l w w := ⟨h, Below.refl _ _, Lib.OthersKept.refl _ _ _⟩
theorem kept_below {b : Nat} {w w' : World} (h : Below w.heap.size w w') : Lib.OthersKept 5 (some b) w w' := fun k _ hk _ _ => (h.block k (Array.getElem?_eq_some_iff.1 hk).1).trans hk
theorem Pg.below {B b : Nat} {l : List UInt8} {w w1 w2 : World} (h : Pg B b l w w1) (hb : Below w1.heap.size w1 w2) (hB : B ≤ w1.heap.size) : Pg B b l w w2 :=
  ⟨h.1.below hb, h.2.1.trans (hb.mono hB), h.2.2.trans (kept_below hb)⟩
theorem Pg.alloc {B b : Nat} {l : List UInt8} {w w1 : World} (h : Pg B b l w w1) (hB : B ≤ w1.heap.size) (o : Obj) : Pg B b l w (w1.alloc o) := h.below ((Below.refl _ _).alloc (Nat.le_refl _) o) hB
/-- A block of another kind stands. -/
theorem Pg.kept {B b : Nat} {l : List UInt8} {w w1 : World} (h : Pg B b l w w1) {X : Nat} {cs : Array Value} {T : TypeId} (hx : w.heap[X]? = some (.cells cs T)) (hb : X ≠ b) (hT : T ≠ 5) : w1.heap[X]? = some (.cells cs T) :=
  h.2.2 X _ hx (by intro e; injection e with e; exact hb e) (fun c fz e => by injection e with _ e; exact hT e)
/-- A builder of no text. -/
theorem page_new (w : World) : IsPage w.heap.size w.heap.size [] (w.alloc (.cells #[.pointer none, .slice none 0 0] 43)) :=
  .inl ⟨Nat.le_refl _, _, World.alloc_heap_new w _, World.ownsRow_nil _ _ _ _⟩
set_option maxHeartbeats 1000000 in
set_option maxRecDepth 100000 in
theorem string_nil (b : Nat) (w : World) (hbk : w.heap[b]? = some (.cells #[.pointer none, .slice none 0 0] 43)) :
    Calls Tryd.prog 15 #[.pointer (some ⟨b, 0, none⟩)] w fun e w' => e = .returned (.string ⟨#[]⟩) ∧ Below w.heap.size w w' := by
  have c1 : w.drew.cell? ⟨b, 1, none⟩ = some (.slice none 0 0) := (own_cell (w := w.drew) hbk).trans rfl
  have c0 : w.cell? ⟨b, 1, none⟩ = some (.slice none 0 0) := c1
  have hSD : (Builtin.unsafeSliceData_ #[41] 66 #[.slice none 0 0]).run Tryd.prog w.drew = .ok (.pointer none) w.drew :=
    Lib.run_unsafeSliceData_nil _ _ _ _ _
  have hUS : (Builtin.unsafeString_ #[66, 3] 9 #[.pointer none, .int .i64 0]).run Tryd.prog w.drew = .ok (.string ⟨#[]⟩) w.drew :=
    Lib.run_unsafeString_none w.drew _ _ _ none
  clear hbk
  go_enter Tryd.func15, Tryd.ntmps15
  go_wp2_with fail
  go_region
  all_goals (go_wp2; go_ret; exact ⟨rfl, Below.drew (Below.refl _ w)⟩)

theorem numL_len (c : CM) : (numL c).length ≤ c.draws.length + 2 := by
  unfold numL
  repeat' split
  all_goals simp
set_option maxHeartbeats 4000000 in
set_option maxRecDepth 100000 in
theorem write_any (B b : Nat) (t : List UInt8) (c : CM) (dv : Value) (w : World) (h : IsPage B b t w) (hE : EnvAt B w) (hBw : B ≤ w.heap.size) (hd : ∀ W, Below B w W → IsXs W dv c.draws) (hr : ∀ x ∈ numL c, Rng x) (hl : c.draws.length ≤ 5000) (ht : c.text.size ≤ 3000) (hlen : t.length ≤ 800000000) :
    Calls Tryd.prog 14 #[.pointer (some ⟨b, 0, none⟩), c.v dv] w fun e w' => e = .returned (.tuple #[]) ∧ Pg B b (t ++ cmdT c) w w' := by
  obtain ⟨nums, hnums⟩ : ∃ nums, nums = numL c := ⟨_, rfl⟩
  have hnl : nums.length ≤ 5002 := by have := numL_len c; rw [hnums]; omega
  have hcmd : t ++ cmdT c = (t ++ nameL c.kind.toNat ++ numsT nums ++ [10]) ++ (if c.kind = 1 then c.text.data.toList else []) := by
    unfold cmdT lineT; rw [← hnums]; simp
  have hnm := fun W (hW : Below B w W) => name_any c.kind W (hE W hW)
  have hnu := fun W (hW : Below B w W) => numbers_any c dv W (hd W hW) (by omega)
  rw [← hnums] at hr hnu
  have hsz : (nameS c.kind.toNat).size ≤ 7 := by
    show (nameL c.kind.toNat).length ≤ 7
    unfold nameL; split <;> simp
  have hnd : (nameS c.kind.toNat).data.toList = nameL c.kind.toNat := rfl
  rw [hcmd]
  clear hcmd hd
  obtain ⟨kind, n, steps, clock, draws, text⟩ := c
  unfold CM.v at *
  simp only at hnm hnu hsz hnd ht ⊢
  generalize nameS kind.toNat = nm at *
  rw [← hnd]
  have htx : text.data.toList.length = text.size := by simp
  have hnz : nm.data.toList.length = nm.size := by simp
  obtain ⟨X, hX⟩ : ∃ X, X = w.heap.size := ⟨_, rfl⟩
  obtain ⟨W0, hW0⟩ : ∃ W0, W0 = w.alloc (.cells #[.int .i64 kind, .int .i64 n, .int .i64 steps, .int .i64 clock, dv, .string text] 37) := ⟨_, rfl⟩
  have hp0 : Pg B b t w W0 := by rw [hW0]; exact (Pg.refl h).alloc hBw _
  have hx0 : W0.heap[X]? = some (.cells #[.int .i64 kind, .int .i64 n, .int .i64 steps, .int .i64 clock, dv, .string text] 37) := by rw [hW0, hX]; exact World.alloc_heap_new w _
  have hXb : X ≠ b := by have := h.lt; omega
  have x0 : W0.cell? ⟨X, 0, none⟩ = some (.int .i64 kind) := (own_cell hx0).trans rfl
  have hc1 := writeString_any B b t nm W0 hp0.1 (by omega) (by have := hp0.2.1.size; omega)
  have hwr := fun x W (hW : Below B w W) (hx : x ∈ nums) => Deci.write_any x 0 W (hE W hW).base (rng_row (hr x hx)).1.1 (rng_row (hr x hx)).1.2
  have hst := fun k (hk : k < nums.length) => (show numsT (nums.take (k + 1)) = numsT (nums.take k) ++ 32 :: writeV nums[k] 0 by rw [List.take_succ_eq_append_getElem hk, numsT_snoc])
  have hln : ∀ k, (numsT (nums.take k)).length ≤ 110000 := fun k => by
    have := numsT_len (xs := nums.take k) fun x hx => by have := (rng_row (hr x (List.mem_of_mem_take hx))).2; exact this
    rw [List.length_take] at this; omega
  have hus : ∀ x ∈ nums, (strOf (writeV x 0)).size ≤ 20 := fun x hx => (rng_row (hr x hx)).2
  obtain ⟨m, hm⟩ : ∃ m, m = nums.length := ⟨_, rfl⟩
  have HM := Lib.hid hm; clear hm
  have HX := Lib.hid hX; clear hX
  have HW0 := Lib.hid hW0; clear hW0
  have HP0 := Lib.hid hp0; clear hp0
  have HX0 := Lib.hid hx0; clear hx0
  have HNM := Lib.hid hnm; clear hnm
  have HNU := Lib.hid hnu; clear hnu
  have HC1 := Lib.hid hc1; clear hc1
  have HWR := Lib.hid hwr; clear hwr
  have HST := Lib.hid hst; clear hst
  have HLN := Lib.hid hln; clear hln
  have HUS := Lib.hid hus; clear hus
  clear h hE hr hnums hnd
  go_enter Tryd.func14, Tryd.ntmps14
  go_wp2_with fail
  rw [← HX.out, ← HW0.out]
  go_wp2_with fail
  refine (HNM.out _ HP0.out.2.1).mono ?_
  rintro e w1 ⟨rfl, rfl⟩
  clear x0
  go_wp2_with fail
  refine HC1.out.mono ?_
  rintro e w2 ⟨rfl, hp2⟩
  have hx2 := hp2.kept HX0.out hXb (by decide)
  have y0 : w2.cell? ⟨X, 0, none⟩ = some (.int .i64 kind) := (own_cell hx2).trans rfl
  have y1 : w2.cell? ⟨X, 1, none⟩ = some (.int .i64 n) := (own_cell hx2).trans rfl
  have y2 : w2.cell? ⟨X, 2, none⟩ = some (.int .i64 steps) := (own_cell hx2).trans rfl
  have y3 : w2.cell? ⟨X, 3, none⟩ = some (.int .i64 clock) := (own_cell hx2).trans rfl
  have y4 : w2.cell? ⟨X, 4, none⟩ = some dv := (own_cell hx2).trans rfl
  have y5 : w2.cell? ⟨X, 5, none⟩ = some (.string text) := (own_cell hx2).trans rfl
  have hp2' := HP0.out.trans hp2
  have hn2 := HNU.out w2 hp2'.2.1
  have HN2 := Lib.hid hn2; clear hn2
  have HP2 := Lib.hid hp2'; clear hp2' hp2
  have HX2 := Lib.hid hx2; clear hx2
  clear HC1 HNM HNU HX0 HW0 HP0
  go_wp2_with fail
  refine HN2.out.mono ?_
  rintro e w3 ⟨v, rfl, ho3, hb3⟩
  have hp3 := HP2.out.below hb3 (by have := HP2.out.2.1.size; omega)
  have hx3 := (hb3.block X (own_lt HX2.out)).trans HX2.out
  have hgb : ∀ g, w2.heap.size ≤ g → g ≠ b := fun g hg e => by have := HP2.out.1.lt; omega
  obtain ⟨a, cap, rfl, hcap, -, hat⟩ := ho3
  rw [← HM.out] at hcap ⊢
  have HAT := Lib.hid hat; clear hat
  have HGB := Lib.hid hgb; clear hgb
  have HP3 := Lib.hid hp3; clear hp3 hb3
  have HX3 := Lib.hid hx3; clear hx3
  clear HN2 HP2 HX2 y0 y1 y2 y3 y4 y5
  obtain ⟨T, hT⟩ : ∃ T, T = t ++ nm.data.toList := ⟨_, rfl⟩
  have hTl : T.length ≤ t.length + 7 := by rw [hT, List.length_append, hnz]; omega
  rw [← hT] at HP3
  have HT := Lib.hid hT; clear hT
  go_wp2_with fail
  go_loopw [14] (fun i wr => ∃ k : Nat, k ≤ m ∧ i = .int .i64 k ∧ Hid (Pg B b (T ++ numsT (nums.take k)) w wr ∧ Lib.OthersKept 5 (some b) w3 wr)) (fun i _ => m - (intOf i).toNat)
  case atStart =>
    refine ⟨0, by omega, rfl, Lib.hid ⟨?_, Lib.OthersKept.refl _ _ _⟩⟩
    have := HP3.out
    simpa [numsT] using this
  case round =>
    obtain ⟨k, hk, rfl, HP⟩ := hrel
    have hBr : B ≤ wr.heap.size := by have := HP.out.1.2.1.size; omega
    by_cases hlt : k < m
    · have hkl : k < nums.length := by rw [← HM.out]; exact hlt
      obtain ⟨g, o, cur, rfl, hg, hgc, hgat⟩ := HAT.out.resolve_left (by intro e; rw [e] at hkl; simp at hkl)
      have hz := HP.out.2 g _ hgc (by intro e; injection e with e; exact HGB.out g hg e) (fun c fz e => by injection e with _ e; exact absurd e (by decide))
      have hcell : wr.cell? ⟨g, o + k, none⟩ = some (.int .i64 nums[k]) := (own_cell hz).trans (hgat k hkl)
      have hmem : nums[k] ∈ nums := List.getElem_mem hkl
      have hpl := HLN.out k
      have hst := HST.out k hkl
      have hw := fun W hW => HWR.out nums[k] W hW hmem
      have hz : (strOf (writeV nums[k] 0)).size ≤ 20 := HUS.out _ hmem
      have hcc := writeByte_any B b (T ++ numsT (nums.take k)) 32 wr HP.out.1.1 (by rw [List.length_append]; omega) hBr
      rw [show writeV nums[k] 0 = (strOf (writeV nums[k] 0)).data.toList from rfl] at hst
      generalize strOf (writeV nums[k] 0) = u at *
      generalize nums[k] = z at *
      have HW := Lib.hid hw; clear hw
      have HCC := Lib.hid hcc; clear hcc
      have HS := Lib.hid hst; clear hst
      have i0 : (k : Int) < (m : Int) := by omega
      have i1 : (0 : Int) ≤ k := by omega
      clear HST HWR HLN HUS HAT hgat hgc
      go_wp2_with fail
      refine HCC.out.mono ?_
      rintro e w2' ⟨rfl, hp2⟩
      have HP2 := Lib.hid (show Pg B b _ w w2' ∧ Lib.OthersKept 5 (some b) w3 w2' from ⟨HP.out.1.trans hp2, HP.out.2.trans hp2.2.2⟩); clear hp2 hcell HCC
      go_wp2_with fail
      refine (HW.out _ HP2.out.1.2.1).mono ?_
      rintro e w4 ⟨rfl, hb3⟩
      have hp3 := HP2.out.1.below hb3 (by have := HP2.out.1.2.1.size; omega)
      have hc3 := writeString_any B b _ u w4 hp3.1 (by rw [List.length_append, List.length_append, show ([32] : List UInt8).length = 1 from rfl]; omega) (by have := hp3.2.1.size; omega)
      rw [List.append_assoc, List.append_assoc, List.singleton_append, ← HS.out] at hc3
      have HC3 := Lib.hid hc3; clear hc3
      have HP4 := Lib.hid (show Pg B b _ w w4 ∧ Lib.OthersKept 5 (some b) w3 w4 from ⟨hp3, HP2.out.2.trans (kept_below hb3)⟩); clear hp3 hb3
      go_wp2_with fail
      refine HC3.out.mono ?_
      rintro e w5 ⟨rfl, hp4⟩
      have HP5 := Lib.hid (show Pg B b (T ++ numsT (nums.take (k + 1))) w w5 ∧ Lib.OthersKept 5 (some b) w3 w5 from ⟨HP4.out.1.trans hp4, HP4.out.2.trans hp4.2.2⟩); clear hp4
      go_wp2_with fail
      go_roundw
      case rel => exact ⟨k + 1, by omega, by go_num, HP5⟩
      case measure => simp [intOf]; omega
    · obtain rfl : k = m := by omega
      have hz := HP.out.2 X _ HX3.out (by intro e; injection e with e; exact hXb e) (fun c fz e => by injection e with _ e; exact absurd e (by decide))
      have hcc := writeByte_any B b (T ++ numsT (nums.take k)) 10 wr HP.out.1.1 (by have := HLN.out k; rw [List.length_append]; omega) hBr
      have hpl := HLN.out k
      rw [show nums.take k = nums by rw [HM.out, List.take_length]] at hcc hpl
      have HCC := Lib.hid hcc; clear hcc
      have HZ := Lib.hid hz; clear hz
      have hpp := HP.out.1
      rw [show nums.take k = nums by rw [HM.out, List.take_length]] at hpp
      have HPP := Lib.hid hpp; clear hpp
      clear HST HWR HLN HUS HAT HP
      go_wp2_with fail
      refine HCC.out.mono ?_
      rintro e w2' ⟨rfl, hp2⟩
      have hx5 := hp2.kept HZ.out hXb (by decide)
      have y0 : w2'.cell? ⟨X, 0, none⟩ = some (.int .i64 kind) := (own_cell hx5).trans rfl
      have y5 : w2'.cell? ⟨X, 5, none⟩ = some (.string text) := (own_cell hx5).trans rfl
      have HP2 := Lib.hid (HPP.out.trans hp2); clear hp2 hx5 HCC HZ
      by_cases h1 : kind = 1
      · subst h1
        have hcc := writeString_any B b _ text w2' HP2.out.1 (by rw [List.length_append, List.length_append, show ([10] : List UInt8).length = 1 from rfl]; omega) (by have := HP2.out.2.1.size; omega)
        have HCC := Lib.hid hcc; clear hcc
        go_wp2_with fail
        refine HCC.out.mono ?_
        rintro e w6 ⟨rfl, hp6⟩
        have HP6 := Lib.hid (HP2.out.trans hp6); clear hp6
        go_wp2_with fail
        go_end0
        refine ⟨rfl, ?_⟩
        have h := HP6.out
        rw [HT.out] at h
        simpa using h
      · go_wp2_with fail
        go_end0
        refine ⟨rfl, ?_⟩
        have h := HP2.out
        rw [HT.out] at h
        simpa [h1] using h
end Vb
end Go.Proofs.YtmegapelibaanaaDoor
