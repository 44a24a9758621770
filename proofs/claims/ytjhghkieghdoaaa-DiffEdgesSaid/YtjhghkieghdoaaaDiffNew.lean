/- The search's beginning (newReach), over the translated program. -/
import Derived.Test.YtjhghkieghdoaaaDiffTrail
import Derived.BigRegion
import Derived.Deep.DeepCutAuto
import Derived.Outline
import Derived.OwnWalk
import Derived.RegionTactic
import Derived.Laws.MakeOwn
namespace Go.Proofs.Ytjhghkieghdoaaa
open Go.RowKit Go.Lib
namespace Diff
set_option linter.unusedVariables false
theorem info_i64 : (Try.prog.info? 2).map (fun i => (i.zero, i.size, i.bytes)) = some (some (.int .i64 0), 1, 8) := by kernel_rfl
/-- a row of n noughts -/
def Zs (n : Nat) : Array Value := madeCells #[.int .i64 0] n
theorem zs_at (n j : Nat) (h : j < n) : (Zs n)[j]? = some (.int .i64 0) := by
  unfold Zs madeCells
  rw [Array.getElem?_map, Array.getElem?_range]
  simp [h, Nat.mod_one]
theorem make_i64 (n : Nat) (hn : n ≤ 1000) (W : World) : (Instr.makeSlice 24 (.int .i64 n) (.int .i64 n)).run Try.prog W = .ok (.slice (some ⟨W.heap.size, 0, none⟩) n n) (W.alloc (.cells (Zs n) 2)) := by
  obtain ⟨i, h1, h2, h3, h4⟩ := info_parts info_i64
  have := run_make (P := Try.prog) W 24 2 i (.int .i64 0) Try.underlying24 h1 h2 .i64 .i64 n n (by omega) (Int.le_refl _) (by rw [h4]; omega) (by omega)
  rw [h3, Int.toNat_natCast, Nat.mul_one] at this
  exact this
theorem make_int (n : Nat) (hn : n ≤ 1000) (W : World) : (Instr.makeSlice 25 (.int .i64 n) (.int .i64 n)).run Try.prog W = .ok (.slice (some ⟨W.heap.size, 0, none⟩) n n) (W.alloc (.cells (Zs n) 3)) := by
  obtain ⟨i, h1, h2, h3, h4⟩ := info_parts info_int
  have := run_make (P := Try.prog) W 25 3 i (.int .i64 0) Try.underlying25 h1 h2 .i64 .i64 n n (by omega) (Int.le_refl _) (by rw [h4]; omega) (by omega)
  rw [h3, Int.toNat_natCast, Nat.mul_one] at this
  exact this
theorem heap4 (w : World) (a b c d : Obj) : ((((w.alloc a).alloc b).alloc c).alloc d).drew.heap[w.heap.size]? = some a ∧ ((((w.alloc a).alloc b).alloc c).alloc d).drew.heap[w.heap.size + 1]? = some b ∧
    ((((w.alloc a).alloc b).alloc c).alloc d).drew.heap[w.heap.size + 1 + 1]? = some c ∧ ((((w.alloc a).alloc b).alloc c).alloc d).drew.heap[w.heap.size + 1 + 1 + 1]? = some d := by
  have e : ∀ W : World, W.drew.heap = W.heap := fun _ => rfl
  simp only [e]
  refine ⟨?_, ?_, ?_, ?_⟩
  · rw [Below.heap_alloc _ _ _ (by simp; omega), Below.heap_alloc _ _ _ (by simp; omega), Below.heap_alloc _ _ _ (by simp)]; exact heap_alloc_new _ _
  · rw [Below.heap_alloc _ _ _ (by simp), Below.heap_alloc _ _ _ (by simp), ← World.size_alloc w a]; exact heap_alloc_new _ _
  · rw [Below.heap_alloc _ _ _ (by simp), ← World.size_alloc w a, ← World.size_alloc _ b]; exact heap_alloc_new _ _
  · rw [← World.size_alloc w a, ← World.size_alloc _ b, ← World.size_alloc _ c]; exact heap_alloc_new _ _
theorem isB_zs {w : World} {B n : Nat} {t : TypeId} (h : w.heap[B]? = some (.cells (Zs n) t)) : IsB w B n (fun _ => 0) := ⟨Zs n, t, h, fun j hj => zs_at n j hj⟩
/-- behind the rows' making -/
def NewQ (a : Option Addr) (m c n : Nat) (w : World) (s7 : Value) (W : World) : Prop :=
  ∃ B d l, s7 = .pointer (some ⟨B, 0, none⟩) ∧ W.heap[B]? = some (.cells #[.slice a m c, .slice (some ⟨d, 0, none⟩) n n, .slice (some ⟨l, 0, none⟩) n n] 48) ∧ IsB W d n (fun _ => 0) ∧ IsB W l n (fun _ => 0) ∧
    d ≠ l ∧ B ≠ d ∧ B ≠ l ∧ w.heap.size < B ∧ w.heap.size < d ∧ w.heap.size < l ∧ W.heap[w.heap.size]? = some (.cells #[.slice none 0 0, .slice none 0 0, .slice none 0 0] 48) ∧ Below w.heap.size w W
theorem newQ_mk {a : Option Addr} {m c n B d l : Nat} {w W : World} (hB : W.heap[B]? = some (.cells #[.slice a m c, .slice (some ⟨d, 0, none⟩) n n, .slice (some ⟨l, 0, none⟩) n n] 48)) (hd : W.heap[d]? = some (.cells (Zs n) 2)) (hl : W.heap[l]? = some (.cells (Zs n) 3))
    (hZ : W.heap[w.heap.size]? = some (.cells #[.slice none 0 0, .slice none 0 0, .slice none 0 0] 48)) (hb : Below w.heap.size w W) (hx : d ≠ l ∧ B ≠ d ∧ B ≠ l ∧ w.heap.size < B ∧ w.heap.size < d ∧ w.heap.size < l) : NewQ a m c n w (.pointer (some ⟨B, 0, none⟩)) W :=
  ⟨B, d, l, rfl, hB, isB_zs hd, isB_zs hl, hx.1, hx.2.1, hx.2.2.1, hx.2.2.2.1, hx.2.2.2.2.1, hx.2.2.2.2.2, hZ, hb⟩
/-- how far all numbers are at the beginning -/
def D00 (s : Nat) : Nat → Int := fun v => if v = s then 0 else Far
def L00 : Nat → Int := fun _ => -1
/-- what newReach leaves -/
def NewP (a : Option Addr) (m c n s : Nat) (w : World) (e : Ending) (w' : World) : Prop :=
  ∃ d l, e = .returned (.agg #[.slice a m c, .slice (some ⟨d, 0, none⟩) n n, .slice (some ⟨l, 0, none⟩) n n]) ∧ IsB w' d n (D00 s) ∧ IsB w' l n L00 ∧ d ≠ l ∧ w.heap.size ≤ d ∧ w.heap.size ≤ l ∧ Below w.heap.size w w'
theorem d00_at {n s : Nat} : ∀ v, v < n → put (fun v => if v < n then Far else 0) s 0 v = D00 s v := by
  intro v hv
  unfold put D00
  by_cases e : v = s
  · simp [e]
  · simp [e, hv]
theorem fill_next {n k : Nat} {x : Int} : ∀ v, v < n → put (fun v => if v < k then x else 0) k x v = (fun v => if v < k + 1 then x else 0) v := by
  intro v hv
  unfold put
  by_cases e : v = k
  · simp [e]
  · simp only [e, if_false]
    by_cases h : v < k
    · rw [if_pos h, if_pos (by omega)]
    · rw [if_neg h, if_neg (by omega)]
set_option maxHeartbeats 4000000 in
set_option maxRecDepth 100000 in
theorem new_any (a : Option Addr) (m c n : Nat) (s : Nat) (w : World) (hn : n ≤ 60) (hs : s < n) :
    Calls Try.prog 29 #[.int .i64 n, .slice a m c, .int .i64 s] w (NewP a m c n s w) := by
  have mk1 := make_i64 n (by omega)
  have mk2 := make_int n (by omega)
  go_enter Try.func29, Try.ntmps29
  go_upto_region 1 with fail
  go_cut [7, 9, 10, 11, 12, 13, 14] (fun s7 s9 s10 s11 s12 s13 s14 wx => NewQ a m c n w s7 wx)
  case first =>
    have hsc : ∀ X1 X2 X3 X4, Below w.heap.size w ((((w.alloc X1).alloc X2).alloc X3).alloc X4).drew := fun X1 X2 X3 X4 => (((((Below.refl _ _).alloc (Nat.le_refl _) _).alloc (by simp) _).alloc (by simp; omega) _).alloc (by simp; omega) _).drew
    have HSC := Lib.hid hsc; clear hsc
    go_region
    all_goals
      go_wp2_with fail
      go_meet
      apply newQ_mk
      · first | exact (heap4 _ _ _ _ _).2.1 | exact (heap4 _ _ _ _ _).2.2.1 | exact (heap4 _ _ _ _ _).2.2.2
      · first | exact (heap4 _ _ _ _ _).2.1 | exact (heap4 _ _ _ _ _).2.2.1 | exact (heap4 _ _ _ _ _).2.2.2
      · first | exact (heap4 _ _ _ _ _).2.1 | exact (heap4 _ _ _ _ _).2.2.1 | exact (heap4 _ _ _ _ _).2.2.2
      · exact (heap4 _ _ _ _ _).1
      · exact HSC.out _ _ _ _
      · omega
  case rest =>
    obtain ⟨B, d, l, rfl, hB, hd, hl, n1, n2, n3, g1, g2, g3, hZ, hb⟩ := hcut
    have hsz := hb.size
    have hB0 : wc.cell? ⟨B, 0, none⟩ = some (.slice a m c) := by simp [World.cell?, hB]
    have hB1 : wc.cell? ⟨B, 1, none⟩ = some (.slice (some ⟨d, 0, none⟩) n n) := by simp [World.cell?, hB]
    have hB2 : wc.cell? ⟨B, 2, none⟩ = some (.slice (some ⟨l, 0, none⟩) n n) := by simp [World.cell?, hB]
    have hlB : B < wc.heap.size := (Array.getElem?_eq_some_iff.1 hB).1
    have hlZ : w.heap.size < wc.heap.size := (Array.getElem?_eq_some_iff.1 hZ).1
    have Z0 : wc.cell? ⟨w.heap.size, 0, none⟩ = some (.slice none 0 0) := by simp [World.cell?, hZ]
    have Z1 : wc.cell? ⟨w.heap.size, 1, none⟩ = some (.slice none 0 0) := by simp [World.cell?, hZ]
    have Z2 : wc.cell? ⟨w.heap.size, 2, none⟩ = some (.slice none 0 0) := by simp [World.cell?, hZ]
    have ZF : ∀ j, wc.frozen? ⟨w.heap.size, j, none⟩ = false := fun j => by simp [World.frozen?, hZ]
    have HD := Lib.hid (hd.congr (g := fun v => if v < 0 then Far else 0) fun v _ => by simp)
    have HL := Lib.hid (hl.congr (g := fun v => if v < 0 then (-1 : Int) else 0) fun v _ => by simp)
    have HBW := Lib.hid hb
    have HF := Lib.hid ZF
    clear hB hZ hd hl hb ZF mk1 mk2
    obtain ⟨Z, hZ⟩ : ∃ Z, Z = w.heap.size := ⟨_, rfl⟩
    rw [← hZ] at g1 g2 g3 hsz hlZ Z0 Z1 Z2 HF ⊢
    have HZ := Lib.hid hZ; clear hZ
    go_wp2_with fail
    go_loopg [8, 16] n (fun gg _ s16 wr => ∃ i : Nat, i ≤ n ∧ n - i ≤ gg ∧ s16 = .int .i64 i ∧ Hid (IsB wr d n (fun v => if v < i then Far else 0)) ∧ Hid (IsB wr l n (fun v => if v < i then -1 else 0)) ∧ Hid (Turned [d, l] wc wr))
    case atStart => exact ⟨0, Nat.zero_le _, by omega, rfl, HD, HL, Lib.hid (Turned.refl _ _)⟩
    case round =>
      obtain ⟨i, hi, hg, rfl, HD1, HL1, HT⟩ := hrel
      have b0 := (HT.out.cell (a := ⟨B, 0, none⟩) hlB (by simp [n2, n3])).trans hB0
      have b1 := (HT.out.cell (a := ⟨B, 1, none⟩) hlB (by simp [n2, n3])).trans hB1
      have b2 := (HT.out.cell (a := ⟨B, 2, none⟩) hlB (by simp [n2, n3])).trans hB2
      by_cases hlt : i < n
      · have cd := HD1.out.at hlt
        have cl := HL1.out.at hlt
        have fd := HD1.out.fz i
        have fl := HL1.out.fz i
        have HD2 := Lib.hid (((HD1.out.set i Far).congr fill_next).other (a := ⟨l, i, none⟩) (by exact n1) (.int .i64 (-1)))
        have HL2 := Lib.hid (((HL1.out.other (a := ⟨d, i, none⟩) (by exact Ne.symm n1) (.int .i64 Far)).set i (-1)).congr fill_next)
        have HT2 := Lib.hid ((HT.out.set (a := ⟨d, i, none⟩) (.inl (by simp)) (.int .i64 Far)).set (a := ⟨l, i, none⟩) (.inl (by simp)) (.int .i64 (-1)))
        unfold Far at HD2 HL2 HT2
        go_wp2_with fail
        go_roundg (n - (i + 1))
        case measure => omega
        case rel => exact ⟨i + 1, by omega, by omega, by go_num, HD2, HL2, HT2⟩
      · obtain rfl : i = n := by omega
        have cs := HD1.out.at hs
        rw [if_pos hs] at cs
        have fs := HD1.out.fz s
        have hlz := HZ.out
        have z0 := (HT.out.cell (a := ⟨Z, 0, none⟩) hlZ (by simp; omega)).trans Z0
        have z1 := (HT.out.cell (a := ⟨Z, 1, none⟩) hlZ (by simp; omega)).trans Z1
        have z2 := (HT.out.cell (a := ⟨Z, 2, none⟩) hlZ (by simp; omega)).trans Z2
        have zf0 := (HT.out.frozen (a := ⟨Z, 0, none⟩) hlZ (by simp; omega)).trans (HF.out 0)
        have zf1 := (HT.out.frozen (a := ⟨Z, 1, none⟩) hlZ (by simp; omega)).trans (HF.out 1)
        have zf2 := (HT.out.frozen (a := ⟨Z, 2, none⟩) hlZ (by simp; omega)).trans (HF.out 2)
        have nZB : Z ≠ B := by omega
        have nZd : Z ≠ d := by omega
        have nZl : Z ≠ l := by omega
        clear hlz
        go_wp2_with fail
        refine bodyPost_ret (v := .agg #[.slice a m c, .slice (some ⟨d, 0, none⟩) i i, .slice (some ⟨l, 0, none⟩) i i]) (by simp [results, Try.results29, go_sem, z0, z1, z2]) rfl ?_
        have hzz := HZ.out
        refine ⟨d, l, rfl, ?_, ?_, n1, by omega, by omega, ?_⟩
        · exact ((((HD1.out.set s 0).congr d00_at).other (a := ⟨Z, 0, none⟩) (by exact Ne.symm nZd) _).other (a := ⟨Z, 1, none⟩) (by exact Ne.symm nZd) _).other (a := ⟨Z, 2, none⟩) (by exact Ne.symm nZd) _
        · refine (((((HL1.out.congr (g := L00) fun v hv => by rw [if_pos hv]; rfl).other (a := ⟨d, s, none⟩) (by exact Ne.symm n1) _).other (a := ⟨Z, 0, none⟩) (by exact Ne.symm nZl) _).other (a := ⟨Z, 1, none⟩) (by exact Ne.symm nZl) _).other (a := ⟨Z, 2, none⟩) (by exact Ne.symm nZl) _)
        · have hT2 : Turned [d, l, Z] wc wr := HT.out.mono (by simp)
          have hT3 := (((hT2.set (a := ⟨d, s, none⟩) (.inl (by simp)) (.int .i64 0)).set (a := ⟨Z, 0, none⟩) (.inl (by simp)) (.slice a m c)).set (a := ⟨Z, 1, none⟩) (.inl (by simp)) (.slice (some ⟨d, 0, none⟩) i i)).set (a := ⟨Z, 2, none⟩) (.inl (by simp)) (.slice (some ⟨l, 0, none⟩) i i)
          exact HBW.out.trans (hT3.below (by rw [← hzz]; omega) (fun k hk => by simp at hk; omega))
end Diff
end Go.Proofs.Ytjhghkieghdoaaa
