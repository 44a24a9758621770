/- Rows of whole numbers in a block; what the library's slices.IndexFunc, DeleteFunc, Sort and Compact do of the example's. -/
import Derived.Test.YtelblgnleaffoaaSwInst
import Derived.Test.YtelblgnleaffoaaSwShelf
import Derived.Lib.OwnBridge
import Derived.Lib.SliceRun
namespace Go.Proofs.Ytelblgnleaffoaa
open Go.RowKit
namespace Sw
open Go.Lib
/-- Block g holds the numbers z. -/
def Row (w : World) (g : Nat) (z : List Int) : Prop := g < w.heap.size ∧ ∀ j, j < z.length → w.cell? ⟨g, j, none⟩ = some (.int .i64 (z.getD j 0)) ∧ w.frozen? ⟨g, j, none⟩ = false
theorem Row.below {w w' : World} {g N : Nat} {z : List Int} (h : Row w g z) (hb : Below N w w') (hN : g < N) : Row w' g z :=
  ⟨Nat.lt_of_lt_of_le h.1 hb.size, fun j hj => ⟨(hb.cell (by exact hN)).trans (h.2 j hj).1, (hb.frozen (by exact hN)).trans (h.2 j hj).2⟩⟩
theorem row_cut {w w' : World} {g m : Nat} {z : List Int} {v : Value} (h : Row w g z) (hb : Below w.heap.size w w') (hm : m ≤ z.length) : Row (w'.setCell ⟨g, m, none⟩ v) g (z.take m) := by
  have h' := h.below hb h.1
  refine ⟨by have := h'.1; simpa using this, fun j hj => ?_⟩
  have hj' : j < m := by simp at hj; omega
  have hne : (⟨g, m, none⟩ : Addr) ≠ ⟨g, j, none⟩ := by intro e; injection e with _ e; omega
  rw [World.cell?_setCell_other _ _ _ _ hne, World.frozen?_setCell]
  have := h'.2 j (by omega)
  rw [show (z.take m).getD j 0 = z.getD j 0 by simp [List.getD, hj']]
  exact this
theorem rising1_any (c s r B : Nat) (q : Int) (w : World) (hx : Box w B c s r) : Calls Try.prog 21 #[.int .i64 q, .pointer (some ⟨B, 0, none⟩)] w fun e w' => e = .returned (.bool (pickV q == 0)) ∧ Below w.heap.size w w' := by
  have h1 := fun w => pick_any c s r q w
  unfold smpV at *
  have H1 := Lib.hid h1; clear h1
  obtain ⟨_, f0, f1, f2, f3⟩ := hx
  generalize pickV q = p at *
  go_enter Try.func21, Try.ntmps21
  go_wp2_with fail
  refine (H1.out _).mono ?_
  rintro e w1 ⟨rfl, hb⟩
  have HB1 := Lib.hid hb; clear hb f0 f1 f2 f3
  go_wp2_with fail
  go_ret
  exact ⟨rfl, HB1.out⟩
theorem eg_rising1 : ∀ args w, (callFunc 21 args).run Try.prog w = .ok (.enter 21 args) w := enters_of Try.func21 (by kernel_rfl) rfl
set_option maxHeartbeats 1000000 in
/-- The library finds no such one, if all are requests. -/
theorem idx_none (c s r B g n cap : Nat) (z : List Int) (w : World) (hx : Box w B c s r) (hn : n = z.length) (hn1 : n ≤ 100) (hz : Row w g z) (hk : ∀ j, j < n → (pickV (z.getD j 0) == 0) = false) :
    Calls Try.prog 33 #[.slice (some ⟨g, 0, none⟩) n cap, .func (.func 21) #[] #[.pointer (some ⟨B, 0, none⟩)]] w fun e w' => e = .returned (.int .i64 (-1)) ∧ Below w.heap.size w w' := by
  have hb1 := hx.1
  have hg1 := hz.1
  have HX := Lib.hid hx; clear hx
  have HZ := Lib.hid hz; clear hz
  have HK := Lib.hid hk; clear hk
  have HN := Lib.hid hn; clear hn
  go_enter Try.func33, Try.ntmps33
  go_wp2_with fail
  go_loopg [5, 8] n (fun gg _ s8 wr => ∃ k : Nat, k ≤ n ∧ n - k ≤ gg ∧ s8 = .int .i64 k ∧ Hid (Below w.heap.size w wr))
  case atStart => exact ⟨0, Nat.zero_le _, by omega, rfl, Lib.hid (Below.refl _ _)⟩
  case round =>
    obtain ⟨k, hk, hg, rfl, BW⟩ := hrel
    by_cases hlt : k < n
    · have d0 := ((HZ.out.below BW.out hg1).2 k (by rw [← HN.out]; exact hlt)).1
      have hcall := rising1_any c s r B (z.getD k 0) wr (HX.out.below BW.out hb1)
      rw [HK.out k hlt] at hcall
      generalize z.getD k 0 = q at *
      have HC := Lib.hid hcall; clear hcall
      have eg := eg_rising1
      go_wp2_with fail
      refine HC.out.mono ?_
      rintro e w' ⟨rfl, hb⟩
      have HB := Lib.hid (BW.out.trans (hb.mono BW.out.size))
      clear hb eg d0
      go_wp2_with fail
      go_roundg (n - (k + 1))
      case measure => omega
      case rel => exact ⟨k + 1, by omega, by omega, by go_num, HB⟩
    · obtain rfl : k = n := by omega
      go_wp2_with fail
      go_ret
      exact ⟨rfl, BW.out⟩
set_option maxHeartbeats 1000000 in
/-- The library finds the first that is none. -/
theorem idx_at (c s r B g n cap m : Nat) (z : List Int) (w : World) (hx : Box w B c s r) (hn : n = z.length) (hn1 : n ≤ 100) (hm : m < n) (hz : Row w g z) (hk : ∀ j, j < m → (pickV (z.getD j 0) == 0) = false) (hkm : (pickV (z.getD m 0) == 0) = true) :
    Calls Try.prog 33 #[.slice (some ⟨g, 0, none⟩) n cap, .func (.func 21) #[] #[.pointer (some ⟨B, 0, none⟩)]] w fun e w' => e = .returned (.int .i64 (m : Int)) ∧ Below w.heap.size w w' := by
  have hb1 := hx.1
  have hg1 := hz.1
  have HX := Lib.hid hx; clear hx
  have HZ := Lib.hid hz; clear hz
  have HK := Lib.hid hk; clear hk
  have HN := Lib.hid hn; clear hn
  have HKM := Lib.hid hkm; clear hkm
  go_enter Try.func33, Try.ntmps33
  go_wp2_with fail
  go_loopg [5, 8] n (fun gg _ s8 wr => ∃ k : Nat, k ≤ m ∧ n - k ≤ gg ∧ s8 = .int .i64 k ∧ Hid (Below w.heap.size w wr))
  case atStart => exact ⟨0, Nat.zero_le _, by omega, rfl, Lib.hid (Below.refl _ _)⟩
  case round =>
    obtain ⟨k, hk, hg, rfl, BW⟩ := hrel
    have hlt' : (k : Int) < (n : Int) := by omega
    have d0 := ((HZ.out.below BW.out hg1).2 k (by rw [← HN.out]; omega)).1
    have hcall := rising1_any c s r B (z.getD k 0) wr (HX.out.below BW.out hb1)
    by_cases hlt : k < m
    · rw [HK.out k hlt] at hcall
      generalize z.getD k 0 = q at *
      have HC := Lib.hid hcall; clear hcall
      have eg := eg_rising1
      go_wp2_with fail
      refine HC.out.mono ?_
      rintro e w' ⟨rfl, hb⟩
      have HB := Lib.hid (BW.out.trans (hb.mono BW.out.size))
      clear hb eg d0
      go_wp2_with fail
      go_roundg (n - (k + 1))
      case measure => omega
      case rel => exact ⟨k + 1, by omega, by omega, by go_num, HB⟩
    · obtain rfl : k = m := by omega
      rw [HKM.out] at hcall
      generalize z.getD k 0 = q at *
      have HC := Lib.hid hcall; clear hcall
      have eg := eg_rising1
      go_wp2_with fail
      refine HC.out.mono ?_
      rintro e w' ⟨rfl, hb⟩
      have HB := Lib.hid (BW.out.trans (hb.mono BW.out.size))
      clear hb eg d0
      go_wp2_with fail
      go_ret
      exact ⟨rfl, HB.out⟩
theorem del_none (c s r B g n cap : Nat) (z : List Int) (w : World) (hx : Box w B c s r) (hn : n = z.length) (hn1 : n ≤ 100) (hz : Row w g z) (hk : ∀ j, j < n → (pickV (z.getD j 0) == 0) = false) :
    Calls Try.prog 20 #[.slice (some ⟨g, 0, none⟩) n cap, .func (.func 21) #[] #[.pointer (some ⟨B, 0, none⟩)]] w fun e w' => e = .returned (.slice (some ⟨g, 0, none⟩) n cap) ∧ Below w.heap.size w w' := by
  have h1 := idx_none c s r B g n cap z w hx hn hn1 hz hk
  have H1 := Lib.hid h1; clear h1 hx hn hz hk
  go_enter Try.func20, Try.ntmps20
  go_wp2_with fail
  refine H1.out.mono ?_
  rintro e w1 ⟨rfl, hb⟩
  have HB := Lib.hid hb; clear hb
  go_wp2_with fail
  go_ret
  exact ⟨rfl, HB.out⟩
set_option maxHeartbeats 1000000 in
set_option maxRecDepth 100000 in
/-- The last one is struck. -/
theorem del_last (c s r B g m cap : Nat) (z : List Int) (w : World) (hx : Box w B c s r) (hn : m + 1 = z.length) (hn1 : m ≤ 99) (hcap : m + 1 ≤ cap) (hz : Row w g z) (hk : ∀ j, j < m → (pickV (z.getD j 0) == 0) = false) (hkm : (pickV (z.getD m 0) == 0) = true) :
    Calls Try.prog 20 #[.slice (some ⟨g, 0, none⟩) (m + 1) cap, .func (.func 21) #[] #[.pointer (some ⟨B, 0, none⟩)]] w fun e w' => e = .returned (.slice (some ⟨g, 0, none⟩) m cap) ∧ Row w' g (z.take m) ∧ Below g w w' := by
  have h1 := idx_at c s r B g (m + 1) cap m z w hx hn (by omega) (by omega) hz hk hkm
  have H1 := Lib.hid h1; clear h1 hx hk hkm
  have HZ := Lib.hid hz; clear hz
  have HN := Lib.hid hn; clear hn
  go_enter Try.func20, Try.ntmps20
  go_wp2_with fail
  refine H1.out.mono ?_
  rintro e w1 ⟨rfl, hb⟩
  have HB := Lib.hid hb; clear hb
  go_wp2_with fail
  have hlt : ¬ ((m : Int) + 1 < ((m + 1 : Nat) : Int)) := by omega
  go_loopg [5, 6, 7] (m + 1) (fun gg s5 s6 _ wr => s5 = .int .i64 (m : Int) ∧ s6 = .int .i64 ((m : Int) + 1) ∧ wr = w1)
  case atStart => exact ⟨rfl, by go_num, rfl⟩
  case round =>
    obtain ⟨rfl, rfl, rfl⟩ := hrel
    have hg1 := HZ.out.1
    have hm := (HZ.out.below HB.out hg1).2 m (by have := HN.out; omega)
    have hcl : ∀ ty, (Builtin.clear_ #[22] ty #[.slice (some ⟨g, m, none⟩) 1 (cap - m)]).run Try.prog wr = .ok (.tuple #[]) (wr.setCells g m (List.replicate 1 (.int .i64 0))) := fun ty =>
      Lib.run_clear_slice wr _ 3 ty (.int .i64 0) Try.underlying22 Try.zeroValue3 rfl rfl g m 1 _ (by omega)
        (fun j hj => by rw [show m + j = m by omega, hm.1]; rfl) (fun j hj => by rw [show m + j = m by omega]; exact hm.2)
    clear hm
    go_wp2_with fail
    go_ret
    exact ⟨rfl, row_cut HZ.out HB.out (by have := HN.out; omega), (HB.out.mono (Nat.le_of_lt hg1)).setCell (Nat.le_refl _) _⟩
end Sw
end Go.Proofs.Ytelblgnleaffoaa
