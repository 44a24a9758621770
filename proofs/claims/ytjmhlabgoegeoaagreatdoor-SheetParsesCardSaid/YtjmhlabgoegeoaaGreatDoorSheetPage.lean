/- Package sheet's page (a text that grows, in a struct): copyCheck, WriteByte, WriteString, String; over the translated program. Package sheet's page: String; a word, an end of line; over the translated program. Package sheet's page: rows of numbers; over the translated program. -/
import Derived.Lib.Builder
import Derived.Lib.AppendStr
import Derived.Lib.UnsafeStr
import Derived.Lib.Walk
import Derived.Lib.OthersKept
import Derived.Laws.Externs
import Derived.Laws.IdiomCopy
import Derived.Deep.QuietTactic
import Derived.Test.YtjmhlabgoegeoaaGreatDoorSheetIs
import Derived.Test.YtjmhlabgoegeoaaGreatDoorDeciWrite
namespace Go.Proofs.YtjmhlabgoegeoaaGreatDoor
namespace Sheet
open Go Go.RowKit Deci
/-- A page in block b, one of the call's own: what its 'addr' holds, its scale, the bytes of its text. -/
def PageAt (B b : Nat) (p : Value) (sc : Int) (l : List UInt8) (w : World) : Prop :=
  B ≤ b ∧ ∃ v, w.heap[b]? = some (.cells #[p, v, .int .i64 sc] 86) ∧ w.ownsRow B 5 1 v l.length (Lib.byteCells l)
def selfP (b : Nat) : Value := .pointer (some ⟨b, 0, none⟩)
def IsPage (B b : Nat) (sc : Int) (l : List UInt8) (w : World) : Prop := PageAt B b (.pointer none) sc l w ∨ PageAt B b (selfP b) sc l w
section
variable {B b : Nat} {p q v v' : Value} {sc : Int} {l l' : List UInt8} {w w' : World}
theorem PageAt.lt (h : PageAt B b p sc l w) : b < w.heap.size := by
  obtain ⟨-, v, hb, -⟩ := h
  exact (Array.getElem?_eq_some_iff.1 hb).1
theorem PageAt.ne (hb : w.heap[b]? = some (.cells #[p, v, .int .i64 sc] 86)) {n : Nat} {xs : List Value} (h : w.ownsRow B 5 1 v' n xs) : v'.ownBlock ≠ some b := own_ne h hb (by decide)
theorem PageAt.used (h : PageAt B b p sc l w) (q : Value) : PageAt B b q sc l (w.setCell ⟨b, 0, none⟩ q) := by
  obtain ⟨hB, v, hb, hown⟩ := h
  exact ⟨hB, v, own_set hb q, ownsRow_setCell_other hown (PageAt.ne hb hown) q⟩
theorem PageAt.put (hB : B ≤ b) (hb : w.heap[b]? = some (.cells #[p, v, .int .i64 sc] 86)) (hown : w.ownsRow B 5 1 v' l.length (Lib.byteCells l)) : PageAt B b p sc l (w.setCell ⟨b, 1, none⟩ v') :=
  ⟨hB, v', own_set hb v', ownsRow_setCell_other hown (PageAt.ne hb hown) v'⟩
theorem PageAt.below (h : PageAt B b p sc l w) (hb : Below w.heap.size w w') : PageAt B b p sc l w' := by
  obtain ⟨hB, v, h1, h2⟩ := h
  exact ⟨hB, v, (hb.block b (PageAt.lt ⟨hB, v, h1, h2⟩)).trans h1, h2.kept (grown_of hb none) (own_none h2)⟩
theorem IsPage.below (h : IsPage B b sc l w) (hb : Below w.heap.size w w') : IsPage B b sc l w' := h.imp (·.below hb) (·.below hb)
theorem IsPage.lt (h : IsPage B b sc l w) : b < w.heap.size := h.elim (·.lt) (·.lt)
theorem IsPage.le (h : IsPage B b sc l w) : B ≤ b := h.elim (·.1) (·.1)
theorem IsPage.scale (h : IsPage B b sc l w) : w.cell? ⟨b, 2, none⟩ = some (.int .i64 sc) := by
  rcases h with ⟨-, v, hb, -⟩ | ⟨-, v, hb, -⟩ <;> exact (own_cell hb).trans rfl
end
/-- What a call leaves: the page, with its text; what lay ahead of B; all blocks but the page's and rows of bytes. -/
def Pg (B b : Nat) (sc : Int) (l : List UInt8) (w w' : World) : Prop := IsPage B b sc l w' ∧ Below B w w' ∧ Lib.OthersKept 5 (some b) w w'
theorem Pg.trans {B b : Nat} {sc : Int} {l l' : List UInt8} {w w1 w2 : World} (h : Pg B b sc l w w1) (k : Pg B b sc l' w1 w2) : Pg B b sc l' w w2 := ⟨k.1, h.2.1.trans k.2.1, h.2.2.trans k.2.2⟩
theorem info_page : (Tryz.prog.info? 84).map (·.size) = some 2 := by kernel_rfl
theorem lies_page : liesAt Tryz.prog Tryz.prog.depth 86 (3 / Tryz.prog.cellsOf 86) 0 84 1 = true := by kernel_rfl
theorem info_byte : (Tryz.prog.info? 5).map (fun i => (i.zero, i.size, i.bytes)) = some (some (.int .u8 0), 1, 1) := by kernel_rfl
theorem cells_byte : Tryz.prog.cellsOf 5 = 1 := by kernel_rfl
set_option maxHeartbeats 1000000 in
set_option maxRecDepth 100000 in
theorem copyCheck_used (b : Nat) (w : World) (h0 : w.cell? ⟨b, 0, none⟩ = some (.pointer (some ⟨b, 0, none⟩))) :
    Calls Tryz.prog 74 #[.pointer (some ⟨b, 0, none⟩)] w fun e w' => e = .returned (.tuple #[]) ∧ w' = w := by
  obtain ⟨j, hj, _⟩ := Option.map_eq_some_iff.1 info_page
  go_enter Tryz.func74, Tryz.ntmps74
  go_wp2_with fail
  rw [Lib.run_neq_ptr_same w _ Tryz.underlying81 hj]
  go_wp2_with fail
  go_end0
  exact ⟨rfl, rfl⟩
set_option maxHeartbeats 1000000 in
set_option maxRecDepth 100000 in
theorem copyCheck_fresh (b : Nat) (w : World) (h0 : w.cell? ⟨b, 0, none⟩ = some (.pointer none)) (hsh : w.shape? b = some (86, 3)) (hfz : w.frozen? ⟨b, 0, none⟩ = false) :
    Calls Tryz.prog 74 #[.pointer (some ⟨b, 0, none⟩)] w fun e w' => e = .returned (.tuple #[]) ∧ w' = w.setCell ⟨b, 0, none⟩ (.pointer (some ⟨b, 0, none⟩)) := by
  obtain ⟨j, hj, hjs⟩ := Option.map_eq_some_iff.1 info_page
  go_enter Tryz.func74, Tryz.ntmps74
  go_wp2_with fail
  rw [Lib.run_to_unsafe w ⟨b, 0, none⟩ Tryz.underlying81 Tryz.underlying141 hj (by rw [hjs]; decide) hsh (Nat.zero_lt_succ 2)]
  simp only [Result.andThen]
  rw [Oper.upon_value]
  go_wp2_with fail
  rw [run_callFunc_extern Tryz.func91 (by kernel_rfl) (by kernel_rfl) (by kernel_rfl) (e := Extern.AbiNoEscape.same) (by kernel_rfl)]
  rw [Lib.run_noEscape]
  simp only [Result.andThen]
  rw [Oper.upon_value]
  go_wp2_with fail
  rw [Lib.run_from_unsafe w ⟨b, 0, none⟩ Tryz.underlying141 Tryz.underlying81 hj hsh lies_page]
  simp only [Result.andThen]
  rw [Oper.upon_value]
  go_wp2_with fail
  go_end0
  exact ⟨rfl, rfl⟩
theorem copyCheck_any (B b : Nat) (sc : Int) (l : List UInt8) (w : World) (h : IsPage B b sc l w) :
    Calls Tryz.prog 74 #[.pointer (some ⟨b, 0, none⟩)] w fun e w' => e = .returned (.tuple #[]) ∧ PageAt B b (selfP b) sc l w' ∧ Below B w w' ∧ Lib.OthersKept 5 (some b) w w' := by
  rcases h with h | h
  · have h' := h
    obtain ⟨hB, v, hb, hown⟩ := h'
    refine (copyCheck_fresh b w ((own_cell hb).trans rfl) (by simp [World.shape?, hb]) (own_free hb)).mono ?_
    rintro e w' ⟨rfl, rfl⟩
    exact ⟨rfl, h.used _, (Below.refl B w).setCell (p := ⟨b, 0, none⟩) hB _, Lib.OthersKept.setCell (b := b) (Lib.OthersKept.refl _ _ w) ⟨b, 0, none⟩ rfl _⟩
  · have h' := h
    obtain ⟨hB, v, hb, hown⟩ := h'
    refine (copyCheck_used b w ((own_cell hb).trans rfl)).mono ?_
    rintro e w' ⟨rfl, rfl⟩
    exact ⟨rfl, h, Below.refl B _, Lib.OthersKept.refl _ _ _⟩
set_option maxHeartbeats 2000000 in
set_option maxRecDepth 100000 in
theorem writeString_any (B b : Nat) (sc : Int) (l : List UInt8) (s : ByteArray) (w : World) (h : IsPage B b sc l w) (hlen : l.length + s.size ≤ 1000000000) (hBw : B ≤ w.heap.size) :
    Calls Tryz.prog 40 #[.pointer (some ⟨b, 0, none⟩), .string s] w fun e w' => e = .returned (.tuple #[.int .i64 s.size, .nilIface]) ∧ Pg B b sc (l ++ s.data.toList) w w' := by
  obtain ⟨i0, hi, hz0, hz1, hz2⟩ := info_parts info_byte
  have hc := copyCheck_any B b sc l w h
  have HC := Lib.hid hc; clear hc h
  go_enter Tryz.func40, Tryz.ntmps40
  go_wp2_with fail
  refine HC.out.mono ?_
  rintro e w1 ⟨rfl, ⟨hB, v, hbk, hown⟩, hb1, ho1⟩
  have c1 : w1.cell? ⟨b, 1, none⟩ = some v := (own_cell hbk).trans rfl
  go_wp2_with (at_builtin; refine Lib.wpList_append_own_string _ rfl _ _ 82 9 rfl B 5 i0 Tryz.underlying82 Tryz.underlying9 hi hz0 hz1 hz2 _ _ _ rfl hown s rfl ?c3 ?c4 ?c5 ?_)
  case c3 => unfold maxLen; omega
  case c4 => omega
  case c5 => have := hb1.size; omega
  intro v' w2 hown' hgrow
  try intro _
  have hlt : b < w1.heap.size := (Array.getElem?_eq_some_iff.1 hbk).1
  have hb2 : w2.heap[b]? = some (.cells #[selfP b, v, .int .i64 sc] 86) := (hgrow.block b hlt (fun e => PageAt.ne hbk hown e.symm)).trans hbk
  have f1 : w2.frozen? ⟨b, 1, none⟩ = false := own_free hb2
  have d1 : w2.cell? ⟨b, 1, none⟩ = some v := (own_cell hb2).trans rfl
  obtain ⟨ao, n', cap, rfl⟩ : ∃ ao n' cap, v' = .slice ao n' cap := by
    rcases hown'.2 with ⟨hv, _⟩ | ⟨g, cap, cur, hv, _⟩
    · exact ⟨_, _, _, hv⟩
    · exact ⟨_, _, _, hv⟩
  have HO1 := Lib.hid (ho1.grown hgrow (Go.Lib.ownsRow_kind hown)); clear ho1
  have HB1 := Lib.hid hb1; clear hb1
  have HG := Lib.hid hgrow; clear hgrow
  have HO := Lib.hid hown; clear hown
  have hown'' : w2.ownsRow B 5 1 (.slice ao n' cap) (l ++ s.data.toList).length (Lib.byteCells (l ++ s.data.toList)) := by
    have e1 : (l ++ s.data.toList).length = l.length + s.size := by rw [List.length_append, Array.length_toList]; rfl
    rw [e1, Lib.byteCells_append, ← Lib.strCells_eq]
    exact hown'
  have HO' := Lib.hid hown''; clear hown'' hown'
  have HB2 := Lib.hid hb2; clear hb2 hbk
  go_wp2_with fail
  go_ret2
  refine ⟨rfl, .inr (PageAt.put hB HB2.out HO'.out), ?_⟩
  exact ⟨(HB1.out.grown HG.out (by have := HB1.out.size; omega) (fun k hk => (HO.out.lt k hk).1)).setCell (p := ⟨b, 1, none⟩) hB _, Lib.OthersKept.setCell (b := b) HO1.out ⟨b, 1, none⟩ rfl _⟩
set_option maxHeartbeats 2000000 in
set_option maxRecDepth 100000 in
theorem writeByte_any (B b : Nat) (sc : Int) (l : List UInt8) (c : UInt8) (w : World) (h : IsPage B b sc l w) (hlen : l.length + 1 ≤ 1000000000) (hBw : B ≤ w.heap.size) :
    Calls Tryz.prog 76 #[.pointer (some ⟨b, 0, none⟩), .int .u8 c.toNat] w fun e w' => e = .returned .nilIface ∧ Pg B b sc (l ++ [c]) w w' := by
  obtain ⟨i0, hi, hz0, hz1, hz2⟩ := info_parts info_byte
  have hc := copyCheck_any B b sc l w h
  have HC := Lib.hid hc; clear hc h
  generalize hcc : (c.toNat : Int) = n
  have HCC := Lib.hid hcc; clear hcc
  go_enter Tryz.func76, Tryz.ntmps76
  go_wp2_with fail
  refine HC.out.mono ?_
  rintro e w1 ⟨rfl, ⟨hB, v, hbk, hown⟩, hb1, ho1⟩
  have c1 : w1.cell? ⟨b, 1, none⟩ = some v := (own_cell hbk).trans rfl
  go_wp2_with (at_builtin; refine wpList_append_own _ rfl _ _ 82 rfl B 5 i0 (.int .u8 0) 1 1 Tryz.underlying82 hi hz0 hz1 hz2 rfl (by decide) _ _ _ rfl (hown.alloc _) ⟨w1.heap.size, 0, none⟩ 1 1 [.int .u8 n] rfl rfl ?c1 ?c2 ?c3 ?c4 ?c5 ?_)
  case c1 =>
    intro j u hj
    match j, hj with
    | 0, hj => simp at hj; subst hj; simp [Addr.add]
  case c2 => intro u hu; simp at hu; subst hu; rfl
  case c3 => unfold maxLen; omega
  case c4 => omega
  case c5 => have := hb1.size; simp; omega
  intro v' w2 hown' hgrow
  try intro _
  have hlt : b < w1.heap.size := (Array.getElem?_eq_some_iff.1 hbk).1
  have hb2 : w2.heap[b]? = some (.cells #[selfP b, v, .int .i64 sc] 86) := (hgrow.block b (by simp; omega) (fun e => PageAt.ne hbk hown e.symm)).trans ((Lib.alloc_old w1 _ b hlt).trans hbk)
  have f1 : w2.frozen? ⟨b, 1, none⟩ = false := own_free hb2
  have d1 : w2.cell? ⟨b, 1, none⟩ = some v := (own_cell hb2).trans rfl
  obtain ⟨ao, n', cap, rfl⟩ : ∃ ao n' cap, v' = .slice ao n' cap := by
    rcases hown'.2 with ⟨hv, _⟩ | ⟨g, cap, cur, hv, _⟩
    · exact ⟨_, _, _, hv⟩
    · exact ⟨_, _, _, hv⟩
  have HO1 := Lib.hid ((ho1.alloc _).grown hgrow (Go.Lib.ownsRow_kind (hown.alloc _))); clear ho1
  have HB1 := Lib.hid ((hb1.alloc (by have := hb1.size; omega) _).grown hgrow (by have := hb1.size; simp; omega) (fun k hk => (hown.lt k hk).1)); clear hb1 hgrow hown
  have hown'' : w2.ownsRow B 5 1 (.slice ao n' cap) (l ++ [c]).length (Lib.byteCells (l ++ [c])) := by
    rw [List.length_append, Lib.byteCells_append]
    have e1 : Lib.byteCells [c] = [.int .u8 n] := by rw [← HCC.out]; rfl
    rw [e1]
    exact hown'
  have HO' := Lib.hid hown''; clear hown'' hown'
  have HB2 := Lib.hid hb2; clear hb2 hbk
  go_wp2_with fail
  go_ret
  refine ⟨rfl, .inr (PageAt.put hB HB2.out HO'.out), ?_⟩
  exact ⟨HB1.out.setCell (p := ⟨b, 1, none⟩) hB _, Lib.OthersKept.setCell (b := b) HO1.out ⟨b, 1, none⟩ rfl _⟩
end Sheet
end Go.Proofs.YtjmhlabgoegeoaaGreatDoor
namespace Go.Proofs.YtjmhlabgoegeoaaGreatDoor
namespace Sheet
open Go Go.RowKit Deci
set_option maxHeartbeats 1000000 in
set_option maxRecDepth 100000 in
theorem string_any (B b : Nat) (sc : Int) (l : List UInt8) (w : World) (h : IsPage B b sc l w) (h0 : l ≠ []) :
    Calls Tryz.prog 45 #[.pointer (some ⟨b, 0, none⟩)] w fun e w' => e = .returned (.string ⟨l.toArray⟩) ∧ Below B w w' := by
  obtain ⟨p, hB, v, hbk, hown⟩ : ∃ p, PageAt B b p sc l w := by
    rcases h with h | h
    · exact ⟨_, h⟩
    · exact ⟨_, h⟩
  have hl0 : l.length ≠ 0 := by simpa using h0
  obtain ⟨g, cap, cur, rfl, hbg, hg, hnc, hcm, hcs, htake⟩ : ∃ g cap cur, v = .slice (some ⟨g, 0, none⟩) l.length cap ∧ B ≤ g ∧ w.heap[g]? = some (.cells cur 5) ∧ l.length ≤ cap ∧ cap ≤ maxLen ∧ cur.size = cap * 1 ∧ cur.toList.take (l.length * 1) = Lib.byteCells l := by
    rcases hown.2 with ⟨_, hz⟩ | ⟨g, cap, cur, hv, r⟩
    · exact absurd hz hl0
    · exact ⟨g, cap, cur, hv, r⟩
  have c1 : w.drew.cell? ⟨b, 1, none⟩ = some (.slice (some ⟨g, 0, none⟩) l.length cap) := (own_cell (w := w.drew) hbk).trans rfl
  have c0 : w.cell? ⟨b, 1, none⟩ = some (.slice (some ⟨g, 0, none⟩) l.length cap) := c1
  have hSD : (Builtin.unsafeSliceData_ #[82] 127 #[.slice (some ⟨g, 0, none⟩) l.length cap]).run Tryz.prog w.drew = .ok (.pointer (some ⟨g, 0, none⟩)) w.drew :=
    Lib.run_unsafeSliceData_row _ _ _ _ _ _ (by omega)
  have hUS : (Builtin.unsafeString_ #[127, 3] 9 #[.pointer (some ⟨g, 0, none⟩), .int .i64 l.length]).run Tryz.prog w.drew = .ok (.string ⟨l.toArray⟩) (w.drew.freeze ⟨g, 0, none⟩ l.length) := by
    refine Lib.run_unsafeString_row w.drew 127 3 9 5 Tryz.underlying127 cells_byte g cur.size (by have hg' : w.drew.heap[g]? = some (.cells cur 5) := hg; simp [World.shape?, hg']) l h0 (by omega) (by unfold maxLen at hcm; omega) ?_
    intro j x hx
    have := hown.cells (g := g) rfl j (.int .u8 x.toNat) (by simp [Lib.byteCells, hx])
    exact this
  clear hbk hg hcs htake hown h
  go_enter Tryz.func45, Tryz.ntmps45
  go_wp2_with fail
  go_region
  all_goals (go_wp2; go_ret; exact ⟨rfl, Lib.below_freeze (Below.drew (Below.refl B w)) (p := ⟨g, 0, none⟩) hbg _⟩)
set_option maxHeartbeats 1000000 in
set_option maxRecDepth 100000 in
theorem end_page (B b : Nat) (sc : Int) (l : List UInt8) (w : World) (h : IsPage B b sc l w) (hlen : l.length ≤ 900000000) (hBw : B ≤ w.heap.size) :
    Calls Tryz.prog 43 #[.pointer (some ⟨b, 0, none⟩)] w fun e w' => e = .returned (.tuple #[]) ∧ Pg B b sc (l ++ [10]) w w' := by
  have hc := writeByte_any B b sc l 10 w h (by omega) hBw
  have HC := Lib.hid hc; clear hc h
  go_enter Tryz.func43, Tryz.ntmps43
  go_wp2_with fail
  refine HC.out.mono ?_
  rintro e w1 ⟨rfl, hp⟩
  have HP := Lib.hid hp; clear hp
  go_wp2_with fail
  go_end0
  exact ⟨rfl, HP.out⟩
set_option maxHeartbeats 1000000 in
set_option maxRecDepth 100000 in
theorem word_page (B b : Nat) (sc : Int) (l : List UInt8) (s : ByteArray) (w : World) (h : IsPage B b sc l w) (hlen : l.length + s.size ≤ 900000000) (hBw : B ≤ w.heap.size) :
    Calls Tryz.prog 73 #[.pointer (some ⟨b, 0, none⟩), .string s] w fun e w' => e = .returned (.tuple #[]) ∧ Pg B b sc (l ++ 32 :: s.data.toList) w w' := by
  have hc := writeByte_any B b sc l 32 w h (by omega) hBw
  have HC := Lib.hid hc; clear hc h
  go_enter Tryz.func73, Tryz.ntmps73
  go_wp2_with fail
  refine HC.out.mono ?_
  rintro e w1 ⟨rfl, hp⟩
  have hc := writeString_any B b sc (l ++ [32]) s w1 hp.1 (by simp; omega) (by have := hp.2.1.size; omega)
  have HC2 := Lib.hid hc; clear hc
  have HP := Lib.hid hp; clear hp
  go_wp2_with fail
  refine HC2.out.mono ?_
  rintro e w2 ⟨rfl, hp2⟩
  have HP2 := Lib.hid hp2; clear hp2
  go_wp2_with fail
  go_end0
  refine ⟨rfl, ?_⟩
  have := HP.out.trans HP2.out
  rwa [List.append_assoc] at this
end Sheet
end Go.Proofs.YtjmhlabgoegeoaaGreatDoor
namespace Go.Proofs.YtjmhlabgoegeoaaGreatDoor
namespace Sheet
open Go Go.RowKit Deci
/-- A blank and a number each. -/
def numsT (sc : Int) (x : Nat → Int) : Nat → List UInt8
  | 0 => []
  | k + 1 => numsT sc x k ++ 32 :: writeV (x k) sc
theorem numsT_len {sc : Int} {x : Nat → Int} {n : Nat} (h : ∀ j, j < n → (writeV (x j) sc).length ≤ 100) : ∀ k, k ≤ n → (numsT sc x k).length ≤ k * 101
  | 0, _ => by simp [numsT]
  | k + 1, hk => by
    have := numsT_len h k (by omega)
    have := h k (by omega)
    simp [numsT]; omega
/-- A row of numbers in a block. -/
def NumsAt (g n : Nat) (T : TypeId) (x : Nat → Int) (w : World) : Prop := ∃ cs, w.heap[g]? = some (.cells cs T) ∧ ∀ j, j < n → cs[j]? = some (.int .i64 (x j))
theorem NumsAt.cell {g n : Nat} {T : TypeId} {x : Nat → Int} {w : World} (h : NumsAt g n T x w) {j : Nat} (hj : j < n) : w.cell? ⟨g, j, none⟩ = some (.int .i64 (x j)) := by
  obtain ⟨cs, h1, h2⟩ := h
  exact (own_cell h1).trans (h2 j hj)
theorem NumsAt.kept {g n b : Nat} {T : TypeId} {x : Nat → Int} {w w' : World} (h : NumsAt g n T x w) (hk : Lib.OthersKept 5 (some b) w w') (hb : g ≠ b) (hT : T ≠ 5) : NumsAt g n T x w' := by
  obtain ⟨cs, h1, h2⟩ := h
  exact ⟨cs, hk g _ h1 (by simpa using hb) (by rintro c fz e; simp at e; exact hT e.2.1), h2⟩
theorem kept_below {b : Nat} {w w' : World} (h : Below w.heap.size w w') : Lib.OthersKept 5 (some b) w w' := fun k _ hk _ _ => (h.block k (Array.getElem?_eq_some_iff.1 hk).1).trans hk
theorem Pg.below {B b : Nat} {sc : Int} {l : List UInt8} {w w1 w2 : World} (h : Pg B b sc l w w1) (hb : Below w1.heap.size w1 w2) (hB : B ≤ w1.heap.size) : Pg B b sc l w w2 :=
  ⟨h.1.below hb, h.2.1.trans (hb.mono hB), h.2.2.trans (kept_below hb)⟩
set_option maxHeartbeats 2000000 in
set_option maxRecDepth 100000 in
theorem wholes_page (B b g n cap : Nat) (sc : Int) (l : List UInt8) (x : Nat → Int) (w : World) (h : IsPage B b sc l w) (hE : EnvAt B w) (hx : ∀ j, j < n → -9223372036854775808 ≤ x j ∧ x j ≤ 9223372036854775807) (hs : ∀ j, j < n → (writeV (x j) 0).length ≤ 100)
    (hr : NumsAt g n 3 x w) (hgb : g ≠ b) (hn : n ≤ 10000) (hlen : l.length ≤ 800000000) (hBw : B ≤ w.heap.size) :
    Calls Tryz.prog 72 #[.pointer (some ⟨b, 0, none⟩), .slice (some ⟨g, 0, none⟩) n cap] w fun e w' => e = .returned (.tuple #[]) ∧ Pg B b sc (l ++ numsT 0 x n) w w' := by
  have HH := Lib.hid h; clear h
  have HE := Lib.hid hE; clear hE
  have HX := Lib.hid hx; clear hx
  have HS := Lib.hid hs; clear hs
  have HR := Lib.hid hr; clear hr
  have hp0 : Hid (Pg B b sc (l ++ numsT 0 x 0) w w) := Lib.hid ⟨by simpa [numsT] using HH.out, Below.refl _ _, Lib.OthersKept.refl _ _ _⟩
  go_enter Tryz.func72, Tryz.ntmps72
  go_wp2_with fail
  go_loopw [8] (fun i wr => ∃ k : Nat, k ≤ n ∧ i = .int .i64 k ∧ Hid (Pg B b sc (l ++ numsT 0 x k) w wr)) (fun i _ => n - (intOf i).toNat)
  case atStart => exact ⟨0, Nat.zero_le _, rfl, hp0⟩
  case round =>
    obtain ⟨k, hk, rfl, HP⟩ := hrel
    by_cases hlt : k < n
    · have hcell : wr.cell? ⟨g, k, none⟩ = some (.int .i64 (x k)) := (HR.out.kept HP.out.2.2 hgb (by decide)).cell hlt
      obtain ⟨m1, m2⟩ := HX.out k hlt
      have ht := HS.out k hlt
      have hnl := numsT_len HS.out k hk
      have hw := write_any (x k) 0 wr (HE.out.below HP.out.2.1).env m1 m2
      have hst : l ++ numsT 0 x k ++ 32 :: (strOf (writeV (x k) 0)).data.toList = l ++ numsT 0 x (k + 1) := by rw [List.append_assoc]; rfl
      have hz : (strOf (writeV (x k) 0)).size ≤ 100 := ht
      have HST := Lib.hid hst; clear hst
      generalize x k = z at *
      generalize strOf (writeV z 0) = t at *
      have HW := Lib.hid hw; clear hw
      have hi0 : (k : Int) < (n : Int) := by omega
      go_wp2_with fail
      refine HW.out.mono ?_
      rintro e w1 ⟨rfl, hb1⟩
      have hBr : B ≤ wr.heap.size := by have := HP.out.2.1.size; omega
      have hp1 := HP.out.below hb1 hBr
      have hc := word_page B b sc (l ++ numsT 0 x k) t w1 hp1.1 (by rw [List.length_append]; omega) (by have := hb1.size; omega)
      rw [HST.out] at hc
      have HC := Lib.hid hc; clear hc hb1
      have HP1 := Lib.hid hp1; clear hp1
      go_wp2_with fail
      refine HC.out.mono ?_
      rintro e w2 ⟨rfl, hp2⟩
      have HP2 := Lib.hid (HP1.out.trans hp2); clear hp2
      go_wp2_with fail
      go_roundw
      case rel => exact ⟨k + 1, by omega, by go_num, HP2⟩
      case measure => simp [intOf]; omega
    · obtain rfl : k = n := by omega
      go_wp2_with fail
      go_end0
      exact ⟨rfl, HP.out⟩
set_option maxHeartbeats 2000000 in
set_option maxRecDepth 100000 in
theorem times_page (B b g n cap : Nat) (sc : Int) (l : List UInt8) (x : Nat → Int) (w : World) (h : IsPage B b sc l w) (hE : EnvAt B w) (hx : ∀ j, j < n → -9223372036854775808 ≤ x j ∧ x j ≤ 9223372036854775807) (hs : ∀ j, j < n → (writeV (x j) sc).length ≤ 100)
    (hr : NumsAt g n 2 x w) (hgb : g ≠ b) (hn : n ≤ 10000) (hlen : l.length ≤ 800000000) (hBw : B ≤ w.heap.size) :
    Calls Tryz.prog 42 #[.pointer (some ⟨b, 0, none⟩), .slice (some ⟨g, 0, none⟩) n cap] w fun e w' => e = .returned (.tuple #[]) ∧ Pg B b sc (l ++ numsT sc x n) w w' := by
  have HH := Lib.hid h; clear h
  have HE := Lib.hid hE; clear hE
  have HX := Lib.hid hx; clear hx
  have HS := Lib.hid hs; clear hs
  have HR := Lib.hid hr; clear hr
  have hp0 : Hid (Pg B b sc (l ++ numsT sc x 0) w w) := Lib.hid ⟨by simpa [numsT] using HH.out, Below.refl _ _, Lib.OthersKept.refl _ _ _⟩
  go_enter Tryz.func42, Tryz.ntmps42
  go_wp2_with fail
  go_loopw [8] (fun i wr => ∃ k : Nat, k ≤ n ∧ i = .int .i64 k ∧ Hid (Pg B b sc (l ++ numsT sc x k) w wr)) (fun i _ => n - (intOf i).toNat)
  case atStart => exact ⟨0, Nat.zero_le _, rfl, hp0⟩
  case round =>
    obtain ⟨k, hk, rfl, HP⟩ := hrel
    by_cases hlt : k < n
    · have hcell : wr.cell? ⟨g, k, none⟩ = some (.int .i64 (x k)) := (HR.out.kept HP.out.2.2 hgb (by decide)).cell hlt
      obtain ⟨m1, m2⟩ := HX.out k hlt
      have ht := HS.out k hlt
      have hnl := numsT_len HS.out k hk
      have hw := write_any (x k) sc wr (HE.out.below HP.out.2.1).env m1 m2
      have hst : l ++ numsT sc x k ++ 32 :: (strOf (writeV (x k) sc)).data.toList = l ++ numsT sc x (k + 1) := by rw [List.append_assoc]; rfl
      have hz : (strOf (writeV (x k) sc)).size ≤ 100 := ht
      have HST := Lib.hid hst; clear hst
      generalize x k = z at *
      generalize strOf (writeV z sc) = t at *
      have HW := Lib.hid hw; clear hw
      have hsc : wr.cell? ⟨b, 2, none⟩ = some (.int .i64 sc) := HP.out.1.scale
      have hi0 : (k : Int) < (n : Int) := by omega
      go_wp2_with fail
      refine HW.out.mono ?_
      rintro e w1 ⟨rfl, hb1⟩
      have hBr : B ≤ wr.heap.size := by have := HP.out.2.1.size; omega
      have hp1 := HP.out.below hb1 hBr
      have hc := word_page B b sc (l ++ numsT sc x k) t w1 hp1.1 (by rw [List.length_append]; omega) (by have := hb1.size; omega)
      rw [HST.out] at hc
      have HC := Lib.hid hc; clear hc hb1
      have HP1 := Lib.hid hp1; clear hp1
      go_wp2_with fail
      refine HC.out.mono ?_
      rintro e w2 ⟨rfl, hp2⟩
      have HP2 := Lib.hid (HP1.out.trans hp2); clear hp2
      go_wp2_with fail
      go_roundw
      case rel => exact ⟨k + 1, by omega, by go_num, HP2⟩
      case measure => simp [intOf]; omega
    · obtain rfl : k = n := by omega
      go_wp2_with fail
      go_end0
      exact ⟨rfl, HP.out⟩
/-- Two, three numbers. -/
def two (m n : Int) (j : Nat) : Int := if j = 0 then m else n
theorem two_at {m n : Int} {j : Nat} (P : Int → Prop) (hm : P m) (hn : P n) : P (two m n j) := by unfold two; split <;> assumption
theorem two_text {sc m n : Int} : numsT sc (two m n) 2 = 32 :: writeV m sc ++ 32 :: writeV n sc := by simp [numsT, two]
theorem two_row {m n : Int} {T : TypeId} {w : World} : NumsAt w.heap.size 2 T (two m n) (w.alloc (.cells #[.int .i64 m, .int .i64 n] T)) := by
  refine ⟨_, World.alloc_heap_new _ _, fun j hj => ?_⟩
  match j, hj with
  | 0, _ => rfl
  | 1, _ => rfl
theorem Pg.of {B b : Nat} {sc : Int} {l : List UInt8} {w w' : World} (h : IsPage B b sc l w) (hb : Below w.heap.size w w') (hB : B ≤ w.heap.size) : Pg B b sc l w w' :=
  ⟨h.below hb, hb.mono hB, kept_below hb⟩
set_option maxHeartbeats 2000000 in
set_option maxRecDepth 100000 in
theorem load_page (B b : Nat) (sc m n : Int) (l : List UInt8) (w : World) (h : IsPage B b sc l w) (hE : EnvAt B w) (hm : -9223372036854775808 ≤ m ∧ m ≤ 9223372036854775807) (hn : -9223372036854775808 ≤ n ∧ n ≤ 9223372036854775807) (hs : (writeV m 0).length ≤ 100) (ht : (writeV n 0).length ≤ 100)
    (hlen : l.length ≤ 800000000) (hBw : B ≤ w.heap.size) :
    Calls Tryz.prog 41 #[.pointer (some ⟨b, 0, none⟩), .agg #[.int .i64 m, .int .i64 n]] w fun e w' => e = .returned (.tuple #[]) ∧ Pg B b sc (l ++ (32 :: writeV m 0 ++ 32 :: writeV n 0)) w w' := by
  have hb1 : Below w.heap.size w ((w.alloc (.cells #[.int .i64 m, .int .i64 n] 52)).alloc (.cells #[.int .i64 m, .int .i64 n] 3)) := ((Below.refl _ _).alloc (Nat.le_refl _) _).alloc (by simp) _
  have hp1 := Pg.of h hb1 hBw
  have hc := wholes_page B b (w.alloc (.cells #[.int .i64 m, .int .i64 n] 52)).heap.size 2 2 sc l (two m n) _ hp1.1 (hE.below hp1.2.1) (fun j _ => two_at (fun x => -9223372036854775808 ≤ x ∧ x ≤ 9223372036854775807) hm hn) (fun j _ => two_at (fun x => (writeV x 0).length ≤ 100) hs ht) two_row (by have := h.lt; simp; omega) (by omega) hlen (by simp; omega)
  rw [two_text] at hc
  rw [show (w.alloc (.cells #[.int .i64 m, .int .i64 n] 52)).heap.size = w.heap.size + 1 by simp] at hc
  have HC := Lib.hid hc; clear hc
  have HP1 := Lib.hid hp1; clear hp1 hb1 h hE
  go_enter Tryz.func41, Tryz.ntmps41
  go_wp2_with fail
  refine HC.out.mono ?_
  rintro e w2 ⟨rfl, hp2⟩
  have HP2 := Lib.hid (HP1.out.trans hp2); clear hp2
  go_wp2_with fail
  go_end0
  exact ⟨rfl, HP2.out⟩
set_option maxHeartbeats 2000000 in
set_option maxRecDepth 100000 in
theorem spot_page (B b : Nat) (sc : Int) (l : List UInt8) (u v : Nat) (m n : Int) (w : World) (h : IsPage B b sc l w) (hE : EnvAt B w) (hxy : ∀ W, Calls Tryz.prog 77 #[.complex .f64 u v] W fun e w' => e = .returned (.tuple #[.int .i64 m, .int .i64 n]) ∧ W = w')
    (hm : -9223372036854775808 ≤ m ∧ m ≤ 9223372036854775807) (hn : -9223372036854775808 ≤ n ∧ n ≤ 9223372036854775807) (hs : (writeV m 0).length ≤ 100) (ht : (writeV n 0).length ≤ 100)
    (hlen : l.length ≤ 800000000) (hBw : B ≤ w.heap.size) :
    Calls Tryz.prog 44 #[.pointer (some ⟨b, 0, none⟩), .complex .f64 u v] w fun e w' => e = .returned (.tuple #[]) ∧ Pg B b sc (l ++ (32 :: writeV m 0 ++ 32 :: writeV n 0)) w w' := by
  have hb1 : Below w.heap.size w (w.alloc (.cells #[.int .i64 m, .int .i64 n] 3)) := (Below.refl _ _).alloc (Nat.le_refl _) _
  have hp1 := Pg.of h hb1 hBw
  have hc := wholes_page B b w.heap.size 2 2 sc l (two m n) _ hp1.1 (hE.below hp1.2.1) (fun j _ => two_at (fun x => -9223372036854775808 ≤ x ∧ x ≤ 9223372036854775807) hm hn) (fun j _ => two_at (fun x => (writeV x 0).length ≤ 100) hs ht) two_row (by have := h.lt; omega) (by omega) hlen (by simp; omega)
  rw [two_text] at hc
  have HC := Lib.hid hc; clear hc
  have HXY := Lib.hid hxy; clear hxy
  have HP1 := Lib.hid hp1; clear hp1 hb1 h hE
  go_enter Tryz.func44, Tryz.ntmps44
  go_wp2_with fail
  refine (HXY.out _).mono ?_
  rintro e w1 ⟨rfl, rfl⟩
  go_wp2_with fail
  refine HC.out.mono ?_
  rintro e w2 ⟨rfl, hp2⟩
  have HP2 := Lib.hid (HP1.out.trans hp2); clear hp2
  go_wp2_with fail
  go_end0
  exact ⟨rfl, HP2.out⟩
end Sheet
end Go.Proofs.YtjmhlabgoegeoaaGreatDoor
