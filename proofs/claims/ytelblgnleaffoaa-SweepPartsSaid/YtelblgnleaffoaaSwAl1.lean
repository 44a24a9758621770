/- jitneylaw17.sample: the example's instance. -/
import Derived.Test.YtelblgnleaffoaaSwInst
import Derived.OwnWalk
namespace Go.Proofs.Ytelblgnleaffoaa
open Go.RowKit
namespace Sw
open Go.Lib
set_option linter.unusedVariables false
/-- The walk's rule for a complex number that is stored. -/
theorem store_cx (P : Program) (w : World) (a : Addr) (k : FloatKind) (m : Mode) (re im : Nat) : (store a (.complex k re im) m).run P w = stored P w a (.complex k re im) m := run_store P w a _ m rfl
attribute [local go_sem] store_cx
theorem info_any {P : Program} {e : TypeId} {z : Value} {s b : Nat} (h : (P.info? e).map (fun i => (i.zero, i.size, i.bytes)) = some (some z, s, b)) : ∃ i, P.info? e = some i ∧ i.zero = some z ∧ i.size = s ∧ i.bytes = b := by
  cases hi : P.info? e with
  | none => rw [hi] at h; cases h
  | some i => rw [hi] at h; simp at h; exact ⟨i, rfl, h.1, h.2.1, h.2.2⟩
theorem made (t e : TypeId) (z : Value) (s b n : Nat) (ht : Try.prog.underlying t = some (.slice e)) (h : (Try.prog.info? e).map (fun i => (i.zero, i.size, i.bytes)) = some (some z, s, b)) (hn : n ≤ 100) (hb : b ≤ 100) :
    ∃ C : Array Value, C.size = n * s ∧ ∀ W : World, (Instr.makeSlice t (.int .i64 n) (.int .i64 n)).run Try.prog W = .ok (.slice (some ⟨W.heap.size, 0, none⟩) n n) (W.alloc (.cells C e)) := by
  obtain ⟨i, hi, hz, hs, hbb⟩ := info_any h
  refine ⟨madeCells z.cells (n * s), size_madeCells _ _, fun W => ?_⟩
  have h2 : b * n ≤ 100 * 100 := Nat.mul_le_mul hb hn
  have := run_make (P := Try.prog) W t e i z ht hi hz .i64 .i64 n n (by omega) (Int.le_refl _) (by rw [hbb]; omega) (by omega)
  rw [this, hs]
  simp
theorem heap5 (w : World) (a b c d e : Obj) : (((((w.alloc a).alloc b).alloc c).alloc d).alloc e).drew.heap[w.heap.size]? = some a ∧ (((((w.alloc a).alloc b).alloc c).alloc d).alloc e).drew.heap[w.heap.size + 1]? = some b ∧
    (((((w.alloc a).alloc b).alloc c).alloc d).alloc e).drew.heap[w.heap.size + 1 + 1]? = some c ∧ (((((w.alloc a).alloc b).alloc c).alloc d).alloc e).drew.heap[w.heap.size + 1 + 1 + 1]? = some d ∧ (((((w.alloc a).alloc b).alloc c).alloc d).alloc e).drew.heap[w.heap.size + 1 + 1 + 1 + 1]? = some e := by
  have e : ∀ W : World, W.drew.heap = W.heap := fun _ => rfl
  simp only [e]
  refine ⟨?_, ?_, ?_, ?_, ?_⟩
  · rw [Below.heap_alloc _ _ _ (by simp <;> omega), Below.heap_alloc _ _ _ (by simp <;> omega), Below.heap_alloc _ _ _ (by simp <;> omega), Below.heap_alloc _ _ _ (by simp)]; exact heap_alloc_new _ _
  · rw [Below.heap_alloc _ _ _ (by simp), Below.heap_alloc _ _ _ (by simp), Below.heap_alloc _ _ _ (by simp), ← World.size_alloc w a]; exact heap_alloc_new _ _
  · rw [Below.heap_alloc _ _ _ (by simp), Below.heap_alloc _ _ _ (by simp), ← World.size_alloc w a, ← World.size_alloc _ b]; exact heap_alloc_new _ _
  · rw [Below.heap_alloc _ _ _ (by simp), ← World.size_alloc w a, ← World.size_alloc _ b, ← World.size_alloc _ c]; exact heap_alloc_new _ _
  · rw [← World.size_alloc w a, ← World.size_alloc _ b, ← World.size_alloc _ c, ← World.size_alloc _ d]; exact heap_alloc_new _ _
/-- Where the making of it ends: Z holds the answer's block, B the instance, s its stops. -/
def SmpQ (w : World) (s1 : Value) (wx : World) : Prop := ∃ B c s r S, s1 = .pointer (some ⟨B, 0, none⟩) ∧ wx.heap[B]? = some (boxO c s r) ∧ wx.heap[s]? = some (.cells S 45) ∧ S.size = 60 ∧ B ≠ s ∧ w.heap.size < B ∧ w.heap.size < s ∧
  wx.heap[w.heap.size]? = some (.cells #[.slice none 0 0, .slice none 0 0, .slice none 0 0, .slice none 0 0] 34) ∧ Below w.heap.size w wx
theorem smpQ_mk {w wx : World} {B c s r : Nat} {S : Array Value} (h1 : wx.heap[B]? = some (boxO c s r)) (h2 : wx.heap[s]? = some (.cells S 45)) (h3 : wx.heap[w.heap.size]? = some (.cells #[.slice none 0 0, .slice none 0 0, .slice none 0 0, .slice none 0 0] 34)) (h4 : Below w.heap.size w wx) (h5 : S.size = 60) (h6 : B ≠ s ∧ w.heap.size < B ∧ w.heap.size < s) :
    SmpQ w (.pointer (some ⟨B, 0, none⟩)) wx := ⟨B, c, s, r, S, rfl, h1, h2, h5, h6.1, h6.2.1, h6.2.2, h3, h4⟩
theorem info_car : (Try.prog.info? 127).map (fun i => (i.zero, i.size, i.bytes)) = some (some (.agg #[.int .i64 0, .int .i64 0, .int .i64 0]), 3, 24) := by kernel_rfl
theorem info_stop : (Try.prog.info? 45).map (fun i => (i.zero, i.size, i.bytes)) = some (some (.agg #[.int .i64 0, .int .i64 0, .int .i64 0, .int .i64 0, .int .i64 0, .complex .f64 0 0]), 6, 56) := by kernel_rfl
theorem info_long : (Try.prog.info? 2).map (fun i => (i.zero, i.size, i.bytes)) = some (some (.int .i64 0), 1, 8) := by kernel_rfl
set_option maxHeartbeats 4000000 in
set_option maxRecDepth 100000 in
theorem sample_any (w : World) : Calls Try.prog 9 #[] w fun e w' => ∃ c s r, e = .returned (smpV c s r) ∧ Smp w' s ∧ Below w.heap.size w w' := by
  have e1 := info_car
  have e2 := info_stop
  have e3 := info_long
  obtain ⟨C, hC, h1⟩ := made 29 _ _ _ _ 2 Try.underlying29 e1 (by decide) (by decide)
  obtain ⟨S, hS, h2⟩ := made 30 _ _ _ _ 10 Try.underlying30 e2 (by decide) (by decide)
  obtain ⟨R, hR, h3⟩ := made 31 _ _ _ _ 4 Try.underlying31 e3 (by decide) (by decide)
  replace h1 : ∀ W : World, (Instr.makeSlice 29 (.int .i64 2) (.int .i64 2)).run Try.prog W = .ok (.slice (some ⟨W.heap.size, 0, none⟩) 2 2) (W.alloc (.cells C 127)) := h1
  replace h2 : ∀ W : World, (Instr.makeSlice 30 (.int .i64 10) (.int .i64 10)).run Try.prog W = .ok (.slice (some ⟨W.heap.size, 0, none⟩) 10 10) (W.alloc (.cells S 45)) := h2
  replace h3 : ∀ W : World, (Instr.makeSlice 31 (.int .i64 4) (.int .i64 4)).run Try.prog W = .ok (.slice (some ⟨W.heap.size, 0, none⟩) 4 4) (W.alloc (.cells R 2)) := h3
  clear e1 e2 e3
  go_enter Try.func9, Try.ntmps9
  go_upto_region 1 with fail
  go_cut [1] from 1 to 8 (fun s1 wx => SmpQ w s1 wx)
  case first =>
    have hsc : ∀ X1 X2 X3 X4 X5, Below w.heap.size w (((((w.alloc X1).alloc X2).alloc X3).alloc X4).alloc X5).drew := fun X1 X2 X3 X4 X5 => ((((((Below.refl _ _).alloc (Nat.le_refl _) _).alloc (by simp) _).alloc (by simp <;> omega) _).alloc (by simp <;> omega) _).alloc (by simp <;> omega) _).drew
    have HSC := Lib.hid hsc; clear hsc
    go_region
    all_goals
      go_wp2_with fail
      go_meet
      apply smpQ_mk
      · first | exact (heap5 _ _ _ _ _ _).2.1 | exact (heap5 _ _ _ _ _ _).2.2.1 | exact (heap5 _ _ _ _ _ _).2.2.2.1 | exact (heap5 _ _ _ _ _ _).2.2.2.2
      · first | exact (heap5 _ _ _ _ _ _).2.1 | exact (heap5 _ _ _ _ _ _).2.2.1 | exact (heap5 _ _ _ _ _ _).2.2.2.1 | exact (heap5 _ _ _ _ _ _).2.2.2.2
      · exact (heap5 _ _ _ _ _ _).1
      · exact HSC.out _ _ _ _ _
      · exact hS
      · omega
  case rest =>
    obtain ⟨B, c, s, r, S0, rfl, hB, hS0, hsz, hne, hlB, hls, hZ, hb⟩ := hcut
    clear h1 h2 h3
    have hZl : w.heap.size < wc.heap.size := (Array.getElem?_eq_some_iff.1 hZ).1
    have hBl : B < wc.heap.size := (Array.getElem?_eq_some_iff.1 hB).1
    have hsl : s < wc.heap.size := (Array.getElem?_eq_some_iff.1 hS0).1
    obtain ⟨G, hG⟩ : ∃ G, G = wc.heap.size := ⟨_, rfl⟩
    obtain ⟨X, hX⟩ : ∃ X, X = w.heap.size := ⟨_, rfl⟩
    have HB := Lib.hid hB; have HS0 := Lib.hid hS0; have HZ := Lib.hid hZ; have HBE := Lib.hid hb
    clear hB hS0 hZ hb hC hS hR
    rw [← hX] at HZ HBE hlB hls hZl
    have HX := Lib.hid hX; clear hX
    go_wp2_with fail
    rw [← hG]
    have HG := Lib.hid hG; clear hG
    go_loopw [2, 3, 10] (fun _ _ i wr => ∃ (k : Nat) (S : Array Value), k ≤ 5 ∧ i = .int .i64 k ∧ Hid (wr.heap[B]? = some (boxO c s r)) ∧ Hid (wr.heap[s]? = some (.cells S 45)) ∧ Hid (S.size = 60) ∧ Hid (∀ j, j < k → S[j * 6 + 5]? = some (.complex .f64 (pP j) (pQ j))) ∧
        Hid (wr.heap[X]? = some (.cells #[.slice none 0 0, .slice none 0 0, .slice none 0 0, .slice none 0 0] 34)) ∧ Hid (wr.heap[G]? = some (.cells #[.complex .f64 0 0, .complex .f64 0 13830554455654793216, .complex .f64 4607182418800017408 0, .complex .f64 13830554455654793216 0, .complex .f64 0 4607182418800017408] 40)) ∧ Hid (Below X w wr)) (fun _ _ i _ => 5 - (intOf i).toNat)
    case atStart =>
      refine ⟨0, S0, by omega, rfl, Lib.hid ?_, Lib.hid ?_, Lib.hid hsz, Lib.hid (fun j hj => absurd hj (by omega)), Lib.hid ?_, Lib.hid ?_, Lib.hid ?_⟩
      · rw [Below.heap_alloc _ _ _ (by omega)]; exact HB.out
      · rw [Below.heap_alloc _ _ _ (by omega)]; exact HS0.out
      · rw [Below.heap_alloc _ _ _ (by omega)]; exact HZ.out
      · rw [HG.out]; exact heap_alloc_new _ _
      · exact HBE.out.alloc (by omega) _
    case round =>
      obtain ⟨k, S, hk, rfl, HB1, HS1, HSZ, HV, HZ1, HG1, HE1⟩ := hrel
      have hXl : X < wr.heap.size := (Array.getElem?_eq_some_iff.1 HZ1.out).1
      have hBl' : B < wr.heap.size := (Array.getElem?_eq_some_iff.1 HB1.out).1
      have hsl' : s < wr.heap.size := (Array.getElem?_eq_some_iff.1 HS1.out).1
      have b1 : wr.cell? ⟨B, 1, none⟩ = some (.slice (some ⟨s, 0, none⟩) 10 10) := by simp [World.cell?, HB1.out, boxO]
      by_cases hlt : k < 5
      · have g1 : wr.cell? ⟨G, k, none⟩ = some (.complex .f64 (pP k) (pQ k)) := by
          match k, hlt with
          | 0, _ => simp [World.cell?, HG1.out]; exact ⟨rfl, rfl⟩
          | 1, _ => simp [World.cell?, HG1.out]; exact ⟨rfl, rfl⟩
          | 2, _ => simp [World.cell?, HG1.out]; exact ⟨rfl, rfl⟩
          | 3, _ => simp [World.cell?, HG1.out]; exact ⟨rfl, rfl⟩
          | 4, _ => simp [World.cell?, HG1.out]; exact ⟨rfl, rfl⟩
        obtain ⟨s0, s1⟩ : ∃ v, wr.cell? ⟨s, k * 6 + 5, none⟩ = some v := by
          refine ⟨S[k * 6 + 5]'(by have := HSZ.out; omega), ?_⟩
          simp [World.cell?, HS1.out]
        have s2 : wr.frozen? ⟨s, k * 6 + 5, none⟩ = false := frozen_of_row wr s _ S _ HS1.out
        have hk' : k < 10 := by omega
        obtain ⟨p, hp⟩ : ∃ p, p = pP k := ⟨_, rfl⟩
        obtain ⟨q, hq⟩ : ∃ q, q = pQ k := ⟨_, rfl⟩
        rw [← hp, ← hq] at g1
        have HPQ := Lib.hid (And.intro hp hq); clear hp hq
        go_wp2_with fail
        go_roundw
        case rel =>
          refine ⟨k + 1, S.setIfInBounds (k * 6 + 5) (.complex .f64 p q), by omega, by go_num, Lib.hid ?_, Lib.hid ?_, Lib.hid ?_, Lib.hid ?_, Lib.hid ?_, Lib.hid ?_, Lib.hid ?_⟩
          · rw [heap_setCell_other _ _ _ _ hne]; exact HB1.out
          · exact heap_setCell_same _ _ _ _ _ _ HS1.out
          · rw [Array.size_setIfInBounds]; exact HSZ.out
          · intro j hj
            by_cases e : j = k
            · subst e
              rw [Array.getElem?_setIfInBounds_self_of_lt (by have := HSZ.out; omega), HPQ.out.1, HPQ.out.2]
            · rw [Array.getElem?_setIfInBounds_ne (by omega)]; exact HV.out j (by omega)
          · rw [heap_setCell_other _ _ _ _ (by show X ≠ s; omega)]; exact HZ1.out
          · rw [heap_setCell_other _ _ _ _ (by show G ≠ s; have := HG.out; omega)]; exact HG1.out
          · exact HE1.out.setCell (by show X ≤ s; omega) _
        case measure => simp [intOf]; omega
      · obtain rfl : k = 5 := by omega
        have b0 : wr.cell? ⟨B, 0, none⟩ = some (.slice (some ⟨c, 0, none⟩) 2 2) := by simp [World.cell?, HB1.out, boxO]
        have b2 : wr.cell? ⟨B, 2, none⟩ = some (.slice (some ⟨r, 0, none⟩) 4 4) := by simp [World.cell?, HB1.out, boxO]
        have b3 : wr.cell? ⟨B, 3, none⟩ = some (.slice none 0 0) := by simp [World.cell?, HB1.out, boxO]
        have z0 : wr.cell? ⟨X, 0, none⟩ = some (.slice none 0 0) := by simp [World.cell?, HZ1.out]
        have z1 : wr.cell? ⟨X, 1, none⟩ = some (.slice none 0 0) := by simp [World.cell?, HZ1.out]
        have z2 : wr.cell? ⟨X, 2, none⟩ = some (.slice none 0 0) := by simp [World.cell?, HZ1.out]
        have z3 : wr.cell? ⟨X, 3, none⟩ = some (.slice none 0 0) := by simp [World.cell?, HZ1.out]
        have fz : ∀ j, wr.frozen? ⟨X, j, none⟩ = false := fun j => frozen_of_row wr X _ _ _ HZ1.out
        rw [HX.out] at z0 z1 z2 z3 fz hXl hlB hls HE1
        go_wp2_with fail
        refine bodyPost_ret (v := smpV c s r) (by simp [smpV, results, Try.results9, go_sem, z0, z1, z2, z3]) rfl ?_
        refine ⟨c, s, r, rfl, ⟨?_, fun k hk5 => ?_⟩, (((HE1.out.setCell (Nat.le_refl _) _).setCell (Nat.le_refl _) _).setCell (Nat.le_refl _) _).setCell (Nat.le_refl _) _⟩
        · simpa using hsl'
        · rw [World.cell?_setCell_far _ _ _ _ (by show w.heap.size ≠ s; omega), World.cell?_setCell_far _ _ _ _ (by show w.heap.size ≠ s; omega), World.cell?_setCell_far _ _ _ _ (by show w.heap.size ≠ s; omega), World.cell?_setCell_far _ _ _ _ (by show w.heap.size ≠ s; omega)]
          rw [World.cell?, HS1.out]
          exact HV.out k hk5
end Sw
end Go.Proofs.Ytelblgnleaffoaa
