/- A strings.Builder that the call makes: copyCheck, WriteString, WriteByte, String; over the translated program. -/
import Derived.Lib.Builder
import Derived.Lib.AppendStr
import Derived.Lib.UnsafeStr
import Derived.Lib.Walk
import Derived.Lib.OthersKept
import Derived.Laws.Externs
import Derived.Laws.IdiomCopy
import Derived.Deep.QuietTactic
import Derived.Test.YtmegapelibaanaaDoorVbA
import Derived.Test.YtmegapelibaanaaDoorDeciWrite
namespace Go.Proofs.YtmegapelibaanaaDoor
namespace Vb
open Go Go.RowKit Deci
set_option linter.unusedVariables false
/-- A page in block b, one of the call's own: what its 'addr' holds, the bytes of its text. -/
def PageAt (B b : Nat) (p : Value) (l : List UInt8) (w : World) : Prop :=
  B ≤ b ∧ ∃ v, w.heap[b]? = some (.cells #[p, v] 43) ∧ w.ownsRow B 5 1 v l.length (Lib.byteCells l)
def selfP (b : Nat) : Value := .pointer (some ⟨b, 0, none⟩)
def IsPage (B b : Nat) (l : List UInt8) (w : World) : Prop := PageAt B b (.pointer none) l w ∨ PageAt B b (selfP b) l w
section
variable {B b : Nat} {p q v v' : Value} {l l' : List UInt8} {w w' : World}
theorem PageAt.lt (h : PageAt B b p l w) : b < w.heap.size := by
  obtain ⟨-, v, hb, -⟩ := h
  exact (Array.getElem?_eq_some_iff.1 hb).1
theorem PageAt.ne (hb : w.heap[b]? = some (.cells #[p, v] 43)) {n : Nat} {xs : List Value} (h : w.ownsRow B 5 1 v' n xs) : v'.ownBlock ≠ some b := own_ne h hb (by decide)
theorem PageAt.used (h : PageAt B b p l w) (q : Value) : PageAt B b q l (w.setCell ⟨b, 0, none⟩ q) := by
  obtain ⟨hB, v, hb, hown⟩ := h
  exact ⟨hB, v, own_set hb q, ownsRow_setCell_other hown (PageAt.ne hb hown) q⟩
theorem PageAt.put (hB : B ≤ b) (hb : w.heap[b]? = some (.cells #[p, v] 43)) (hown : w.ownsRow B 5 1 v' l.length (Lib.byteCells l)) : PageAt B b p l (w.setCell ⟨b, 1, none⟩ v') :=
  ⟨hB, v', own_set hb v', ownsRow_setCell_other hown (PageAt.ne hb hown) v'⟩
theorem PageAt.below (h : PageAt B b p l w) (hb : Below w.heap.size w w') : PageAt B b p l w' := by
  obtain ⟨hB, v, h1, h2⟩ := h
  exact ⟨hB, v, (hb.block b (PageAt.lt ⟨hB, v, h1, h2⟩)).trans h1, h2.kept (grown_of hb none) (own_none h2)⟩
theorem IsPage.below (h : IsPage B b l w) (hb : Below w.heap.size w w') : IsPage B b l w' := h.imp (·.below hb) (·.below hb)
theorem IsPage.lt (h : IsPage B b l w) : b < w.heap.size := h.elim (·.lt) (·.lt)
theorem IsPage.le (h : IsPage B b l w) : B ≤ b := h.elim (·.1) (·.1)
end
/-- What a call leaves: the page, with its text; what lay ahead of B; all blocks but the page's and rows of bytes. -/
def Pg (B b : Nat) (l : List UInt8) (w w' : World) : Prop := IsPage B b l w' ∧ Below B w w' ∧ Lib.OthersKept 5 (some b) w w'
theorem Pg.trans {B b : Nat} {l l' : List UInt8} {w w1 w2 : World} (h : Pg B b l w w1) (k : Pg B b l' w1 w2) : Pg B b l' w w2 := ⟨k.1, h.2.1.trans k.2.1, h.2.2.trans k.2.2⟩
theorem info_page : (Tryd.prog.info? 43).map (·.size) = some 2 := by kernel_rfl
theorem lies_page : liesAt Tryd.prog Tryd.prog.depth 43 (2 / Tryd.prog.cellsOf 43) 0 43 1 = true := by kernel_rfl
theorem info_byte : (Tryd.prog.info? 5).map (fun i => (i.zero, i.size, i.bytes)) = some (some (.int .u8 0), 1, 1) := by kernel_rfl
theorem cells_byte : Tryd.prog.cellsOf 5 = 1 := by kernel_rfl
set_option maxHeartbeats 1000000 in
set_option maxRecDepth 100000 in
theorem copyCheck_used (b : Nat) (w : World) (h0 : w.cell? ⟨b, 0, none⟩ = some (.pointer (some ⟨b, 0, none⟩))) :
    Calls Tryd.prog 40 #[.pointer (some ⟨b, 0, none⟩)] w fun e w' => e = .returned (.tuple #[]) ∧ w' = w := by
  obtain ⟨j, hj, _⟩ := Option.map_eq_some_iff.1 info_page
  go_enter Tryd.func40, Tryd.ntmps40
  go_wp2_with fail
  rw [Lib.run_neq_ptr_same w _ Tryd.underlying40 hj]
  go_wp2_with fail
  go_end0
  exact ⟨rfl, rfl⟩
set_option maxHeartbeats 1000000 in
set_option maxRecDepth 100000 in
theorem copyCheck_fresh (b : Nat) (w : World) (h0 : w.cell? ⟨b, 0, none⟩ = some (.pointer none)) (hsh : w.shape? b = some (43, 2)) (hfz : w.frozen? ⟨b, 0, none⟩ = false) :
    Calls Tryd.prog 40 #[.pointer (some ⟨b, 0, none⟩)] w fun e w' => e = .returned (.tuple #[]) ∧ w' = w.setCell ⟨b, 0, none⟩ (.pointer (some ⟨b, 0, none⟩)) := by
  obtain ⟨j, hj, hjs⟩ := Option.map_eq_some_iff.1 info_page
  go_enter Tryd.func40, Tryd.ntmps40
  go_wp2_with fail
  rw [Lib.run_to_unsafe w ⟨b, 0, none⟩ Tryd.underlying40 Tryd.underlying89 hj (by rw [hjs]; decide) hsh (Nat.zero_lt_succ 1)]
  simp only [Result.andThen]
  rw [Oper.upon_value]
  go_wp2_with fail
  rw [run_callFunc_extern Tryd.func55 (by kernel_rfl) (by kernel_rfl) (by kernel_rfl) (e := Extern.AbiNoEscape.same) (by kernel_rfl)]
  rw [Lib.run_noEscape]
  simp only [Result.andThen]
  rw [Oper.upon_value]
  go_wp2_with fail
  rw [Lib.run_from_unsafe w ⟨b, 0, none⟩ Tryd.underlying89 Tryd.underlying40 hj hsh lies_page]
  simp only [Result.andThen]
  rw [Oper.upon_value]
  go_wp2_with fail
  go_end0
  exact ⟨rfl, rfl⟩
theorem copyCheck_any (B b : Nat) (l : List UInt8) (w : World) (h : IsPage B b l w) :
    Calls Tryd.prog 40 #[.pointer (some ⟨b, 0, none⟩)] w fun e w' => e = .returned (.tuple #[]) ∧ PageAt B b (selfP b) l w' ∧ Below B w w' ∧ Lib.OthersKept 5 (some b) w w' := by
  rcases h with h | h
  · have h' := h
    obtain ⟨hB, v, hb, hown⟩ := h'
    refine (copyCheck_fresh b w ((own_cell hb).trans rfl) (by simp [World.shape?, hb]) (own_free hb)).mono ?_
    rintro e w' ⟨rfl, rfl⟩
    exact ⟨rfl, h.used _, (Below.refl B w).setCell (p := ⟨b, 0, none⟩) hB _, Lib.OthersKept.setCell (b := b) (Lib.OthersKept.refl _ _ w) ⟨b, 0, none⟩ rfl _⟩
  · have h' := h
    obtain ⟨hB, v, hb, hown⟩ := h'
    refine (copyCheck_used b w ((own_cell hb).trans rfl)).mono ?_
    rintro e w' ⟨rfl, rfl⟩
    exact ⟨rfl, h, Below.refl B _, Lib.OthersKept.refl _ _ _⟩
set_option maxHeartbeats 2000000 in
set_option maxRecDepth 100000 in
theorem writeString_any (B b : Nat) (l : List UInt8) (s : ByteArray) (w : World) (h : IsPage B b l w) (hlen : l.length + s.size ≤ 1000000000) (hBw : B ≤ w.heap.size) :
    Calls Tryd.prog 27 #[.pointer (some ⟨b, 0, none⟩), .string s] w fun e w' => e = .returned (.tuple #[.int .i64 s.size, .nilIface]) ∧ Pg B b (l ++ s.data.toList) w w' := by
  obtain ⟨i0, hi, hz0, hz1, hz2⟩ := info_parts info_byte
  have hc := copyCheck_any B b l w h
  have HC := Lib.hid hc; clear hc h
  go_enter Tryd.func27, Tryd.ntmps27
  go_wp2_with fail
  refine HC.out.mono ?_
  rintro e w1 ⟨rfl, ⟨hB, v, hbk, hown⟩, hb1, ho1⟩
  have c1 : w1.cell? ⟨b, 1, none⟩ = some v := (own_cell hbk).trans rfl
  go_wp2_with (at_builtin; refine Lib.wpList_append_own_string _ rfl _ _ 41 9 rfl B 5 i0 Tryd.underlying41 Tryd.underlying9 hi hz0 hz1 hz2 _ _ _ rfl hown s rfl ?c3 ?c4 ?c5 ?_)
  case c3 => unfold maxLen; omega
  case c4 => omega
  case c5 => have := hb1.size; omega
  intro v' w2 hown' hgrow
  try intro _
  have hlt : b < w1.heap.size := (Array.getElem?_eq_some_iff.1 hbk).1
  have hb2 : w2.heap[b]? = some (.cells #[selfP b, v] 43) := (hgrow.block b hlt (fun e => PageAt.ne hbk hown e.symm)).trans hbk
  have f1 : w2.frozen? ⟨b, 1, none⟩ = false := own_free hb2
  have d1 : w2.cell? ⟨b, 1, none⟩ = some v := (own_cell hb2).trans rfl
  obtain ⟨ao, n', cap, rfl⟩ : ∃ ao n' cap, v' = .slice ao n' cap := by
    rcases hown'.2 with ⟨hv, _⟩ | ⟨g, cap, cur, hv, _⟩
    · exact ⟨_, _, _, hv⟩
    · exact ⟨_, _, _, hv⟩
  have HO1 := Lib.hid (ho1.grown hgrow (Go.Lib.ownsRow_kind hown)); clear ho1
  have HB1 := Lib.hid hb1; clear hb1
  have HG := Lib.hid hgrow; clear hgrow
  have HO := Lib.hid hown; clear hown
  have hown'' : w2.ownsRow B 5 1 (.slice ao n' cap) (l ++ s.data.toList).length (Lib.byteCells (l ++ s.data.toList)) := by
    have e1 : (l ++ s.data.toList).length = l.length + s.size := by rw [List.length_append, Array.length_toList]; rfl
    rw [e1, Lib.byteCells_append, ← Lib.strCells_eq]
    exact hown'
  have HO' := Lib.hid hown''; clear hown'' hown'
  have HB2 := Lib.hid hb2; clear hb2 hbk
  go_wp2_with fail
  go_ret2
  refine ⟨rfl, .inr (PageAt.put hB HB2.out HO'.out), ?_⟩
  exact ⟨(HB1.out.grown HG.out (by have := HB1.out.size; omega) (fun k hk => (HO.out.lt k hk).1)).setCell (p := ⟨b, 1, none⟩) hB _, Lib.OthersKept.setCell (b := b) HO1.out ⟨b, 1, none⟩ rfl _⟩
set_option maxHeartbeats 2000000 in
set_option maxRecDepth 100000 in
theorem writeByte_any (B b : Nat) (l : List UInt8) (c : UInt8) (w : World) (h : IsPage B b l w) (hlen : l.length + 1 ≤ 1000000000) (hBw : B ≤ w.heap.size) :
    Calls Tryd.prog 28 #[.pointer (some ⟨b, 0, none⟩), .int .u8 c.toNat] w fun e w' => e = .returned .nilIface ∧ Pg B b (l ++ [c]) w w' := by
  obtain ⟨i0, hi, hz0, hz1, hz2⟩ := info_parts info_byte
  have hc := copyCheck_any B b l w h
  have HC := Lib.hid hc; clear hc h
  generalize hcc : (c.toNat : Int) = n
  have HCC := Lib.hid hcc; clear hcc
  go_enter Tryd.func28, Tryd.ntmps28
  go_wp2_with fail
  refine HC.out.mono ?_
  rintro e w1 ⟨rfl, ⟨hB, v, hbk, hown⟩, hb1, ho1⟩
  have c1 : w1.cell? ⟨b, 1, none⟩ = some v := (own_cell hbk).trans rfl
  go_wp2_with (at_builtin; refine wpList_append_own _ rfl _ _ 41 rfl B 5 i0 (.int .u8 0) 1 1 Tryd.underlying41 hi hz0 hz1 hz2 rfl (by decide) _ _ _ rfl (hown.alloc _) ⟨w1.heap.size, 0, none⟩ 1 1 [.int .u8 n] rfl rfl ?c1 ?c2 ?c3 ?c4 ?c5 ?_)
  case c1 =>
    intro j u hj
    match j, hj with
    | 0, hj => simp at hj; subst hj; simp [Addr.add]
  case c2 => intro u hu; simp at hu; subst hu; rfl
  case c3 => unfold maxLen; omega
  case c4 => omega
  case c5 => have := hb1.size; simp; omega
  intro v' w2 hown' hgrow
  try intro _
  have hlt : b < w1.heap.size := (Array.getElem?_eq_some_iff.1 hbk).1
  have hb2 : w2.heap[b]? = some (.cells #[selfP b, v] 43) := (hgrow.block b (by simp; omega) (fun e => PageAt.ne hbk hown e.symm)).trans ((Lib.alloc_old w1 _ b hlt).trans hbk)
  have f1 : w2.frozen? ⟨b, 1, none⟩ = false := own_free hb2
  have d1 : w2.cell? ⟨b, 1, none⟩ = some v := (own_cell hb2).trans rfl
  obtain ⟨ao, n', cap, rfl⟩ : ∃ ao n' cap, v' = .slice ao n' cap := by
    rcases hown'.2 with ⟨hv, _⟩ | ⟨g, cap, cur, hv, _⟩
    · exact ⟨_, _, _, hv⟩
    · exact ⟨_, _, _, hv⟩
  have HO1 := Lib.hid ((ho1.alloc _).grown hgrow (Go.Lib.ownsRow_kind (hown.alloc _))); clear ho1
  have HB1 := Lib.hid ((hb1.alloc (by have := hb1.size; omega) _).grown hgrow (by have := hb1.size; simp; omega) (fun k hk => (hown.lt k hk).1)); clear hb1 hgrow hown
  have hown'' : w2.ownsRow B 5 1 (.slice ao n' cap) (l ++ [c]).length (Lib.byteCells (l ++ [c])) := by
    rw [List.length_append, Lib.byteCells_append]
    have e1 : Lib.byteCells [c] = [.int .u8 n] := by rw [← HCC.out]; rfl
    rw [e1]
    exact hown'
  have HO' := Lib.hid hown''; clear hown'' hown'
  have HB2 := Lib.hid hb2; clear hb2 hbk
  go_wp2_with fail
  go_ret
  refine ⟨rfl, .inr (PageAt.put hB HB2.out HO'.out), ?_⟩
  exact ⟨HB1.out.setCell (p := ⟨b, 1, none⟩) hB _, Lib.OthersKept.setCell (b := b) HO1.out ⟨b, 1, none⟩ rfl _⟩
end Vb
end Go.Proofs.YtmegapelibaanaaDoor
namespace Go.Proofs.YtmegapelibaanaaDoor
namespace Vb
open Go Go.RowKit Deci
set_option maxHeartbeats 1000000 in
set_option maxRecDepth 100000 in
theorem string_any (B b : Nat) (l : List UInt8) (w : World) (h : IsPage B b l w) (h0 : l ≠ []) :
    Calls Tryd.prog 15 #[.pointer (some ⟨b, 0, none⟩)] w fun e w' => e = .returned (.string ⟨l.toArray⟩) ∧ Below B w w' := by
  obtain ⟨p, hB, v, hbk, hown⟩ : ∃ p, PageAt B b p l w := by
    rcases h with h | h
    · exact ⟨_, h⟩
    · exact ⟨_, h⟩
  have hl0 : l.length ≠ 0 := by simpa using h0
  obtain ⟨g, cap, cur, rfl, hbg, hg, hnc, hcm, hcs, htake⟩ : ∃ g cap cur, v = .slice (some ⟨g, 0, none⟩) l.length cap ∧ B ≤ g ∧ w.heap[g]? = some (.cells cur 5) ∧ l.length ≤ cap ∧ cap ≤ maxLen ∧ cur.size = cap * 1 ∧ cur.toList.take (l.length * 1) = Lib.byteCells l := by
    rcases hown.2 with ⟨_, hz⟩ | ⟨g, cap, cur, hv, r⟩
    · exact absurd hz hl0
    · exact ⟨g, cap, cur, hv, r⟩
  have c1 : w.drew.cell? ⟨b, 1, none⟩ = some (.slice (some ⟨g, 0, none⟩) l.length cap) := (own_cell (w := w.drew) hbk).trans rfl
  have c0 : w.cell? ⟨b, 1, none⟩ = some (.slice (some ⟨g, 0, none⟩) l.length cap) := c1
  have hSD : (Builtin.unsafeSliceData_ #[41] 66 #[.slice (some ⟨g, 0, none⟩) l.length cap]).run Tryd.prog w.drew = .ok (.pointer (some ⟨g, 0, none⟩)) w.drew :=
    Lib.run_unsafeSliceData_row _ _ _ _ _ _ (by omega)
  have hUS : (Builtin.unsafeString_ #[66, 3] 9 #[.pointer (some ⟨g, 0, none⟩), .int .i64 l.length]).run Tryd.prog w.drew = .ok (.string ⟨l.toArray⟩) (w.drew.freeze ⟨g, 0, none⟩ l.length) := by
    refine Lib.run_unsafeString_row w.drew 66 3 9 5 Tryd.underlying66 cells_byte g cur.size (by have hg' : w.drew.heap[g]? = some (.cells cur 5) := hg; simp [World.shape?, hg']) l h0 (by omega) (by unfold maxLen at hcm; omega) ?_
    intro j x hx
    have := hown.cells (g := g) rfl j (.int .u8 x.toNat) (by simp [Lib.byteCells, hx])
    exact this
  clear hbk hg hcs htake hown h
  go_enter Tryd.func15, Tryd.ntmps15
  go_wp2_with fail
  go_region
  all_goals (go_wp2; go_ret; exact ⟨rfl, Lib.below_freeze (Below.drew (Below.refl B w)) (p := ⟨g, 0, none⟩) hbg _⟩)
end Vb
end Go.Proofs.YtmegapelibaanaaDoor
