/- What a row of layer 27 lists, opened; a world for the witness, in which the library's and package verb's tables lie. -/
import Derived.Test.YtmegapelibaanaaDoorRows
import Derived.Test.YtmegapelibaanaaDoorVbA
import Derived.Shelf.Vars
import Derived.Stop.LaidErr
import Derived.Lib.LaidTab
import Derived.Deep.DeepHandedRow
import Derived.ProofKit
namespace Go.Proofs.YtmegapelibaanaaDoor
namespace Vb
open Go Go.RowKit Deci
theorem gPowType : (Tryd.prog.globals[1]?).map (·.type) = some 100 := by kernel_rfl
theorem cellsPow : Tryd.prog.cellsOf 100 = 20 := by kernel_rfl
theorem cellsU64 : Tryd.prog.cellsOf 80 = 1 := by kernel_rfl
theorem dataPow : (Rows.laid_internal_strconv_uint64pow10 : DataW Unit) = Lib.tabData .u64 Lib.pow10Tab := by kernel_rfl
def cntZ : List Int := [0, 1, 1, 1, 1, 2, 0, 0]
def namZ : List (List UInt8) := [nameL 0, nameL 1, nameL 2, nameL 3, nameL 4, nameL 5, nameL 6, nameL 7]
theorem gCnt : Tryd.prog.globalNamed "jitney/verb.counts" = some 2 := by kernel_rfl
theorem gCntType : (Tryd.prog.globals[2]?).map (·.type) = some 112 := by kernel_rfl
theorem cellsCnt : Tryd.prog.cellsOf 112 = 8 := by kernel_rfl
theorem cellsI : Tryd.prog.cellsOf 3 = 1 := by kernel_rfl
theorem dataCnt : (Rows.laid_jitney_verb_counts : DataW Unit) = Lib.tabData .i64 cntZ := by kernel_rfl
theorem gNam : Tryd.prog.globalNamed "jitney/verb.names" = some 0 := by kernel_rfl
theorem gNamType : (Tryd.prog.globals[0]?).map (·.type) = some 50 := by kernel_rfl
theorem cellsNam : Tryd.prog.cellsOf 50 = 8 := by kernel_rfl
theorem cellsS : Tryd.prog.cellsOf 9 = 1 := by kernel_rfl
def strData {H : Type} (ss : List (List UInt8)) : DataW H := .agg (ss.map fun s => .lit (.string s))
theorem dataNam : (Rows.laid_jitney_verb_names : DataW Unit) = strData namZ := by kernel_rfl
/-- An array of texts that reads as the table holds the table's texts. -/
theorem cells_of_strs {H : Type} {enc : TypeId × Value → H} {P : Program} {w : World} {base : Nat} {sp : Nat → Bool} {held : Bool} {fuel : Nat} {t e : TypeId} {n : Nat} {cs : List Value} {ss : List (List UInt8)} {p : List MemPlace}
    (ht : P.underlying t = some (.array n e)) (he : P.underlying e = some .string) (hce : P.cellsOf e = 1) (hct : P.cellsOf t = n)
    (h : DataW.trod enc P w base sp held fuel t cs = some (strData ss, p)) : cs = ss.map fun s => Value.string (strOf s) := by
  cases fuel with
  | zero => simp [DataW.trod] at h
  | succ fuel =>
    simp only [DataW.trod, ht, hce, hct, Nat.mul_one] at h
    split at h
    · rename_i hl
      obtain ⟨xs, hm, hx⟩ := Option.map_eq_some_iff.1 h
      have hxs : xs.map (·.1) = ss.map fun s => (DataW.lit (.string s) : DataW H) := by
        have := congrArg Prod.fst hx
        simpa [strData] using this
      have hxl : xs.length = n := by simpa using Lib.mapM_length hm
      have hzl : ss.length = n := by
        have := congrArg List.length hxs
        simp at this
        omega
      apply List.ext_getElem?
      intro i
      by_cases hi : i < n
      · obtain ⟨b, hb, hf⟩ := Lib.mapM_at hm i i (by simp [hi])
        obtain ⟨z, hc, hz, _⟩ := DataW.trod_string he hf
        have h1 : cs[i]? = some (.string z) := by
          have := congrArg (·[0]?) hc
          simpa [List.getElem?_take, List.getElem?_drop] using this
        have h2 : (xs.map (·.1))[i]? = some (DataW.lit (.string z.data.toList) : DataW H) := by simp [hb, hz]
        rw [hxs] at h2
        simp only [List.getElem?_map, Option.map_eq_some_iff, DataW.lit.injEq, Lit.string.injEq] at h2
        obtain ⟨z', hz', e'⟩ := h2
        subst e'
        simp [h1, hz', strOf_data]
      · rw [List.getElem?_eq_none (by omega), List.getElem?_eq_none (by simp; omega)]
    · cases h
theorem strs_of_head {P : Program} {W : World} {name : String} {ss : List (List UInt8)} {rest : List (String × DataW Unit)} {g : Nat} {t e : TypeId} {n : Nat}
    (hg : P.globalNamed name = some g) (hty : (P.globals[g]?).map (·.type) = some t) (ht : P.underlying t = some (.array n e)) (he : P.underlying e = some .string) (hce : P.cellsOf e = 1) (hct : P.cellsOf t = n)
    (h : laidMet P ((name, strData ss) :: rest) W) (i : Nat) (hi : i < ss.length) : W.cell? ⟨g, i, none⟩ = some (.string (strOf ss[i])) := by
  obtain ⟨ps, ⟨g', t', cs, fuel, p, q, hg', ht', hvar, hd, _, _⟩, _⟩ := h
  obtain rfl := Option.some.inj (hg.symm.trans hg')
  obtain rfl := Option.some.inj (hty.symm.trans ht')
  have hc := cells_of_strs ht he hce hct hd
  have := World.var?_cell hg hvar i
  rw [this, ← Array.getElem?_toList, hc]
  simp [hi]
/-- The row's list. -/
def list7 : List (String × DataW Unit) := [("math/bits.deBruijn32tab", Rows.laid_math_bits_deBruijn32tab), ("math/bits.deBruijn64tab", Rows.laid_math_bits_deBruijn64tab), ("internal/strconv.uint64pow10", Rows.laid_internal_strconv_uint64pow10), ("unicode/utf8.acceptRanges", Rows.laid_unicode_utf8_acceptRanges), ("jitney/verb.counts", Rows.laid_jitney_verb_counts), ("jitney/verb.names", Rows.laid_jitney_verb_names), ("unicode/utf8.first", Rows.laid_unicode_utf8_first)]
theorem env_of {W : World} (hL : laidMet Tryd.prog list7 W) (hS : W.ShapedOpen Tryd.prog) : EnvV W := by
  have h := hL.tail.tail
  rw [dataPow] at h
  have h2 := hL.tail.tail.tail.tail
  rw [dataCnt] at h2
  have h3 := hL.tail.tail.tail.tail.tail
  rw [dataNam] at h3
  have ht := Lib.tabIs_of_head gCnt gCntType Tryd.underlying112 Tryd.underlying3 cellsI cellsCnt h2
  refine ⟨⟨cell_of_shapedOpen_int (zero := #[.int .i64 0]) (t := 3) hS (of_decide_eq_true (by kernel_rfl)) (by kernel_rfl) rfl (by kernel_rfl) (by kernel_rfl) Tryd.underlying3,
    Lib.tabIs_of_head gPow gPowType Tryd.underlying100 Tryd.underlying80 cellsU64 cellsPow h⟩, fun j hj => ?_, fun j hj => ?_⟩
  · have := strs_of_head gNam gNamType Tryd.underlying50 Tryd.underlying9 cellsS cellsNam h3 j hj
    rw [this]
    rcases (show j = 0 ∨ j = 1 ∨ j = 2 ∨ j = 3 ∨ j = 4 ∨ j = 5 ∨ j = 6 ∨ j = 7 by omega) with rfl | rfl | rfl | rfl | rfl | rfl | rfl | rfl <;> rfl
  · rw [ht.cell gCnt j hj]
    rcases (show j = 0 ∨ j = 1 ∨ j = 2 ∨ j = 3 ∨ j = 4 ∨ j = 5 ∨ j = 6 ∨ j = 7 by omega) with rfl | rfl | rfl | rfl | rfl | rfl | rfl | rfl <;> rfl
/-- The cells of a datum that is made of numbers and texts. -/
def cellsOf : DataW Unit → List Value
  | .agg ps => ps.flatMap fun d => match d with
    | .lit (.int k z) => [Value.int k z]
    | .lit (.string s) => [Value.string ⟨s.toArray⟩]
    | .agg qs => qs.flatMap fun e => match e with
      | .lit (.int k z) => [Value.int k z]
      | _ => []
    | _ => []
  | _ => []
noncomputable def put (h : Array Obj) (g : Nat) (d : DataW Unit) : Array Obj := h.modify g fun
  | .cells _ t frozen => .cells (cellsOf d).toArray t frozen
  | o => o
/-- A WORLD FOR THE WITNESS: the settled one, each listed variable holding what its initialiser lays. -/
noncomputable def laidWorld (os : Os) : World :=
  { World.holding Tryd.prog os ⟨#[], #[], []⟩ with heap := put (put (put (put (put (put (put (World.holding Tryd.prog os ⟨#[], #[], []⟩).heap 3 Rows.laid_math_bits_deBruijn32tab) 4 Rows.laid_math_bits_deBruijn64tab) 1 Rows.laid_internal_strconv_uint64pow10) 7 Rows.laid_unicode_utf8_acceptRanges) 2 Rows.laid_jitney_verb_counts) 0 Rows.laid_jitney_verb_names) 6 Rows.laid_unicode_utf8_first }
set_option maxRecDepth 100000 in
theorem laid_met (os : Os) (args : Array Value) : laidMet Tryd.prog list7 ((laidWorld os).forCall (fun _ _ => 0) ⟨#[], args, []⟩).memory :=
  laidMet_of_run' 8 (by kernel_rfl) (by kernel_rfl)
end Vb
end Go.Proofs.YtmegapelibaanaaDoor
