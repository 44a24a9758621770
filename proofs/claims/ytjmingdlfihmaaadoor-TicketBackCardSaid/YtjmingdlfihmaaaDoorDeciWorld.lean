/- What a row of layer 3 lists, opened; a world for the witness, in which the library's tables lie. -/
import Derived.Test.YtjmingdlfihmaaaDoorRows
import Derived.Test.YtjmingdlfihmaaaDoorDeciLines
import Derived.Shelf.Vars
import Derived.Stop.LaidErr
import Derived.Lib.LaidTab
import Derived.Deep.DeepHandedRow
import Derived.ProofKit
namespace Go.Proofs.YtjmingdlfihmaaaDoor
namespace Deci
open Go Go.RowKit
theorem gPowType : (Tryd.prog.globals[1]?).map (·.type) = some 138 := by kernel_rfl
theorem cellsPow : Tryd.prog.cellsOf 138 = 20 := by kernel_rfl
theorem cellsU64 : Tryd.prog.cellsOf 128 = 1 := by kernel_rfl
theorem dataPow : (Rows.laid_internal_strconv_uint64pow10 : DataW Unit) = Lib.tabData .u64 Lib.pow10Tab := by kernel_rfl
/-- The row's list. -/
def list5 : List (String × DataW Unit) := [("math/bits.deBruijn32tab", Rows.laid_math_bits_deBruijn32tab), ("math/bits.deBruijn64tab", Rows.laid_math_bits_deBruijn64tab), ("internal/strconv.uint64pow10", Rows.laid_internal_strconv_uint64pow10), ("unicode/utf8.acceptRanges", Rows.laid_unicode_utf8_acceptRanges), ("unicode/utf8.first", Rows.laid_unicode_utf8_first)]
theorem env_of {W : World} (hL : laidMet Tryd.prog list5 W) (hS : W.ShapedOpen Tryd.prog) : Env W := by
  have h := hL.tail.tail
  rw [dataPow] at h
  exact ⟨cell_of_shapedOpen_int (zero := #[.int .i64 0]) (t := 3) hS (of_decide_eq_true (by kernel_rfl)) (by kernel_rfl) rfl (by kernel_rfl) (by kernel_rfl) Tryd.underlying3,
    Lib.tabIs_of_head gPow gPowType Tryd.underlying138 Tryd.underlying128 cellsU64 cellsPow h⟩
/-- The numbers of a datum that is made of numbers. -/
def numsOf : DataW Unit → List Value
  | .agg ps => ps.flatMap fun d => match d with
    | .lit (.int k z) => [Value.int k z]
    | .agg qs => qs.flatMap fun e => match e with
      | .lit (.int k z) => [Value.int k z]
      | _ => []
    | _ => []
  | _ => []
noncomputable def put (h : Array Obj) (g : Nat) (d : DataW Unit) : Array Obj := h.modify g fun
  | .cells _ t frozen => .cells (numsOf d).toArray t frozen
  | o => o
/-- A WORLD FOR THE WITNESS: the settled one, each listed variable holding what its initialiser lays. -/
noncomputable def laidWorld (os : Os) : World :=
  { World.holding Tryd.prog os ⟨#[], #[], []⟩ with heap := put (put (put (put (put (World.holding Tryd.prog os ⟨#[], #[], []⟩).heap 4 Rows.laid_math_bits_deBruijn32tab) 5 Rows.laid_math_bits_deBruijn64tab) 1 Rows.laid_internal_strconv_uint64pow10) 3 Rows.laid_unicode_utf8_acceptRanges) 2 Rows.laid_unicode_utf8_first }
set_option maxRecDepth 100000 in
theorem laid_met (os : Os) (args : Array Value) : laidMet Tryd.prog list5 ((laidWorld os).forCall (fun _ _ => 0) ⟨#[], args, []⟩).memory :=
  laidMet_of_run' 8 (by kernel_rfl) (by kernel_rfl)
end Deci
end Go.Proofs.YtjmingdlfihmaaaDoor
