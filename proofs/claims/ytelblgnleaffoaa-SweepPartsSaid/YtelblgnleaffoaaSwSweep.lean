/- Sweep of a list of spots round a spot: a row of places, in order; the library's sort is met by its contract (SortSaid). -/
import Derived.Test.YtelblgnleaffoaaSwOrd
import Derived.Lib.OwnBridge
import Derived.Laws.AppendOwnNone
import Derived.OwnWalk
import Derived.Shelf.SlSortCmp.Kit1
namespace Go.Proofs.Ytelblgnleaffoaa
open Go.RowKit
namespace Spot
open Fl Go.Sort Go.Lib
variable {m : Nat}
/-- Places of a list as values. -/
def encP (i : Fin (m + 1)) : Value := .int .i64 (i.val : Int)
/-- How two places stand to each other. -/
def cfP (X Y : Nat → Int) (ox oy : Int) (i j : Fin (m + 1)) : Int := cmpAt X Y ox oy i.val j.val
/-- The places in a sweep's order. -/
def sweepP (m : Nat) (X Y : Nat → Int) (ox oy : Int) : List (Fin (m + 1)) := (List.finRange (m + 1)).mergeSort fun x y => !ltOf (cfP X Y ox oy) y x
/-- What the library's sort does of the places of a list of spots. -/
def SortSaid : Prop := ∀ (m : Nat) (X Y : Nat → Int) (ox oy : Int) (P Q : Nat → Nat) (o1 o2 lb lo cap B1 B2 blk c2 : Nat) (w : World),
  blk < w.heap.size → lb < w.heap.size → B1 < w.heap.size → B2 < w.heap.size → lb ≠ blk → B1 ≠ blk → B2 ≠ blk → m ≤ 1048576 →
  Holds encP w blk 0 (List.finRange (m + 1)).toArray →
  w.cell? ⟨B1, 0, none⟩ = some (.slice (some ⟨lb, lo, none⟩) (m + 1) cap) → w.cell? ⟨B2, 0, none⟩ = some (.complex .f64 o1 o2) →
  (∀ j, j < m + 1 → w.cell? ⟨lb, lo + j, none⟩ = some (.complex .f64 (P j) (Q j))) → (∀ k, k < m + 1 → Sp (P k) (Q k) (X k) (Y k)) → (∀ k, k < m + 1 → Near (X k) ∧ Near (Y k)) → Sp o1 o2 ox oy → Near ox ∧ Near oy →
  Calls Try.prog 26 #[.slice (some ⟨blk, 0, none⟩) (m + 1) c2, .func (.func 27) #[] #[.pointer (some ⟨B1, 0, none⟩), .pointer (some ⟨B2, 0, none⟩)]] w fun e w' =>
    e = .returned (.tuple #[]) ∧ ∃ n os, w' = Proofs.sortWorld encP w blk 0 n (sweepP m X Y ox oy).toArray os
theorem range_vals (k : Nat) : ((List.range (k + 1)).map fun i : Nat => Value.int .i64 (i : Int)) = ((List.range k).map fun i : Nat => Value.int .i64 (i : Int)) ++ [.int .i64 (k : Int)] := by
  rw [List.range_succ, List.map_append]; rfl
theorem finRange_vals (m : Nat) : ((List.range (m + 1)).map fun i : Nat => Value.int .i64 (i : Int)) = (List.finRange (m + 1)).map encP := by
  apply List.ext_getElem?
  intro j
  by_cases hj : j < m + 1
  · simp [hj, encP]
  · simp [hj]
theorem info_int : (Try.prog.info? 3).map (fun i => (i.zero, i.size, i.bytes)) = some (some (.int .i64 0), 1, 8) := by kernel_rfl
set_option maxHeartbeats 4000000 in
set_option maxRecDepth 100000 in
theorem sweep_loop (m : Nat) (X Y : Nat → Int) (ox oy : Int) (P Q : Nat → Nat) (o1 o2 lb lo cap : Nat) (w : World) (hm : m ≤ 1048576) (hlb : lb < w.heap.size)
    (hc : ∀ j, j < m + 1 → w.cell? ⟨lb, lo + j, none⟩ = some (.complex .f64 (P j) (Q j))) (hs : ∀ k, k < m + 1 → Sp (P k) (Q k) (X k) (Y k)) (hn : ∀ k, k < m + 1 → Near (X k) ∧ Near (Y k)) (hso : Sp o1 o2 ox oy) (hno : Near ox ∧ Near oy)
    (hsort : SortSaid) :
    Calls Try.prog 17 #[.complex .f64 o1 o2, .slice (some ⟨lb, lo, none⟩) (m + 1) cap] w fun e w' =>
      ∃ g c, e = .returned (.slice (some ⟨g, 0, none⟩) (m + 1) c) ∧ w.heap.size + 2 ≤ g ∧ w'.ownsRow (w.heap.size + 2) 3 1 (.slice (some ⟨g, 0, none⟩) (m + 1) c) (m + 1) ((sweepP m X Y ox oy).map encP) ∧ Below w.heap.size w w' := by
  obtain ⟨i0, hi, hz0, hz1, hz2⟩ := info_parts info_int
  have hmf : ∀ (fn : Fn) (first cap : Array Value) (w : World), (Instr.makeFunc fn first cap).run Try.prog w = .ok (.func fn first cap) w := fun _ _ _ _ => rfl
  obtain ⟨n, hn'⟩ : ∃ n, n = m + 1 := ⟨_, rfl⟩
  have hgo := fun w => good_yes o1 o2 ox oy w hso hno.1 hno.2
  have hgc := fun k (hk : k < n) w => good_yes (P k) (Q k) (X k) (Y k) w (hs k (by omega)) (hn k (by omega)).1 (hn k (by omega)).2
  have HGO := Lib.hid hgo; clear hgo
  have HGC := Lib.hid hgc; clear hgc
  have HC := Lib.hid hc
  have hn1 : n ≤ 1048577 := by omega
  have hn2 : ((n : Nat) : Int) = ((m + 1 : Nat) : Int) := by omega
  rw [show Value.slice (some ⟨lb, lo, none⟩) (m + 1) cap = Value.slice (some ⟨lb, lo, none⟩) n cap from by rw [hn']]
  have HN := Lib.hid hn'; clear hn' hn2
  have HS := Lib.hid hs; clear hs
  have HNN := Lib.hid hn; clear hn
  clear hc
  go_enter Try.func17, Try.ntmps17
  go_wp2_with fail
  obtain ⟨W2, hW2⟩ : ∃ W2, W2 = (w.alloc (.cells #[.complex .f64 o1 o2] 40)).alloc (.cells #[.slice (some ⟨lb, lo, none⟩) n cap] 41) := ⟨_, rfl⟩
  have z2 : W2.heap.size = w.heap.size + 2 := by rw [hW2]; simp
  have b0 : Below w.heap.size w W2 := by rw [hW2]; exact ((Below.refl _ _).alloc (Nat.le_refl _) _).alloc (by simp) _
  have d1 : W2.cell? ⟨w.heap.size, 0, none⟩ = some (.complex .f64 o1 o2) := by rw [hW2, World.cell?_alloc_past _ _ _ (by simp), World.cell?_alloc_at _ _ _ _ rfl]; rfl
  have d2 : W2.cell? ⟨w.heap.size + 1, 0, none⟩ = some (.slice (some ⟨lb, lo, none⟩) n cap) := by rw [hW2, World.cell?_alloc_at _ _ _ _ (by simp)]; rfl
  have d3 : ∀ j, j < m + 1 → W2.cell? ⟨lb, lo + j, none⟩ = some (.complex .f64 (P j) (Q j)) := fun j hj => (b0.cell (by exact hlb)).trans (HC.out j hj)
  rw [← hW2]
  have HW2 := Lib.hid hW2; clear hW2
  have D3 := Lib.hid d3; clear d3
  have Z2 := Lib.hid z2; clear z2
  go_loopw [5, 6, 11] (fun v u i wr => ∃ k : Nat, k ≤ n ∧ i = .int .i64 k ∧ u = .slice none 0 0 ∧ wr.ownsRow (w.heap.size + 2) 3 1 v k ((List.range k).map fun i : Nat => Value.int .i64 (i : Int)) ∧ Below (w.heap.size + 2) W2 wr)
    (fun _ _ i _ => n - (intOf i).toNat)
  case atStart => exact ⟨0, Nat.zero_le _, rfl, rfl, World.ownsRow_nil _ _ _ _, Below.refl _ _⟩
  case round =>
    obtain ⟨k, hk, rfl, rfl, hown, hb⟩ := hrel
    have f1 : wr.cell? ⟨w.heap.size, 0, none⟩ = some (.complex .f64 o1 o2) := (hb.cell (by show w.heap.size < w.heap.size + 2; omega)).trans d1
    have f2 : wr.cell? ⟨w.heap.size + 1, 0, none⟩ = some (.slice (some ⟨lb, lo, none⟩) n cap) := (hb.cell (by show w.heap.size + 1 < w.heap.size + 2; omega)).trans d2
    have hsz := hb.size
    rw [Z2.out] at hsz
    by_cases hlt : k < n
    · have hcx : wr.cell? ⟨lb, lo + k, none⟩ = some (.complex .f64 (P k) (Q k)) := (hb.cell (by show lb < w.heap.size + 2; omega)).trans (D3.out k (by rw [← HN.out]; exact hlt))
      have hgk := HGC.out k hlt
      generalize P k = pk at *
      generalize Q k = qk at *
      have HGK := Lib.hid hgk; clear hgk
      go_wp2_with fail
      refine (HGO.out _).mono ?_
      rintro e w' ⟨rfl, rfl⟩
      go_wp2_with fail
      refine (HGK.out _).mono ?_
      rintro e w' ⟨rfl, rfl⟩
      go_wp2_with ((at_builtin; refine wpList_append_own _ rfl _ _ 22 rfl (w.heap.size + 2) 3 i0 (.int .i64 0) 1 8 Try.underlying22 hi hz0 hz1 hz2 rfl (by decide) _ _ _ rfl (hown.alloc _) ⟨wr.heap.size, 0, none⟩ 1 1 [.int .i64 (k : Int)] rfl rfl ?c1 ?c2 ?c3 ?c4 ?c5 ?_))
      case c1 =>
        intro j u hj
        match j, hj with
        | 0, hj => simp at hj; subst hj; simp [Addr.add]
      case c2 => intro u hu; simp at hu; subst hu; rfl
      case c3 => unfold maxLen; omega
      case c4 => omega
      case c5 => simp; omega
      intro v' w1 hown' hgrow _
      rw [← range_vals] at hown'
      have hb1 : Below (w.heap.size + 2) W2 w1 := (hb.alloc (by omega) _).grown hgrow (by simp; omega) (fun g hg => (hown.lt g hg).1)
      clear hown hgrow hb f1 f2 hcx
      go_wp2
      go_roundw
      case rel => exact ⟨k + 1, by omega, by go_num, rfl, hown', hb1⟩
      case measure => simp [intOf]; omega
    · have hkn : k = n := by omega
      subst hkn
      have hkm := HN.out
      subst hkm
      rw [finRange_vals] at hown
      obtain ⟨g, c, rfl, hg1, hg2, hg3, hg4, hg5, hH⟩ := holds_of_ownsRow hown (by
        intro h
        subst h
        rcases hown.2 with ⟨_, h0⟩ | ⟨g, cp, cr, h0, _⟩
        · omega
        · cases h0)
      have hcall := hsort m X Y ox oy P Q o1 o2 lb lo cap (w.heap.size + 1) w.heap.size g c wr hg2 (by omega) (by omega) (by omega) (by omega) (by omega) (by omega) (by omega) hH f2 f1
        (fun j hj => (hb.cell (by show lb < w.heap.size + 2; omega)).trans (D3.out j hj)) HS.out HNN.out hso hno
      have HCA := Lib.hid hcall; clear hcall hH
      have HOWN := Lib.hid hown; clear hown
      go_wp2_with fail
      refine HCA.out.mono ?_
      rintro e w1 ⟨rfl, q, os, hw1⟩
      have hl : (sweepP m X Y ox oy).length = m + 1 := by unfold sweepP; rw [List.length_mergeSort]; exact hg5
      have hy := ownsRow_putRow (q := q) (k := m + 1) HOWN.out hl (Nat.le_refl _)
      rw [List.take_of_length_le (by rw [hl]; exact Nat.le_refl _)] at hy
      have hbp : Below (w.heap.size + 2) W2 (putRow encP (Sort.ahead wr q) g 0 (sweepP m X Y ox oy).toArray) := below_putRow hb hg1
      have hbg : ∀ (A : World) (os : Array Obj), Below A.heap.size A (grow A os) := fun A os =>
        ⟨rfl, rfl, rfl, by simp, fun k hk => heap_grow_old A os hk⟩
      have hg := hbg (putRow encP (Sort.ahead wr q) g 0 (sweepP m X Y ox oy).toArray) os
      have ho1 : w1.ownsRow (w.heap.size + 2) 3 1 (.slice (some ⟨g, 0, none⟩) (m + 1) c) (m + 1) ((sweepP m X Y ox oy).map encP) := by
        rw [hw1]; exact hy.kept (row := none) ⟨hg.os, hg.tape, hg.output, hg.size, fun k hk _ => hg.block k hk⟩ (Or.inr (by simp [Value.ownBlock]))
      have hb1 : Below w.heap.size w w1 := by
        rw [hw1]; exact b0.trans ((hbp.mono (by omega)).trans (hg.mono (by have := hbp.size; rw [Z2.out] at this; omega)))
      clear hw1 hy hbp hbg hg hb f1 f2 d1 d2 b0 hmf
      go_wp2_with ((at_builtin; refine wpList_append_own_none rfl _ _ 22 rfl (w.heap.size + 2) 3 i0 1 Try.underlying22 hi _ _ _ rfl ho1 rfl ?_))
      go_ret
      exact ⟨g, c, rfl, hg1, ho1, hb1⟩
end Spot
end Go.Proofs.Ytelblgnleaffoaa
