/-
  No cell of these rows narrows 'for every input' (looked for: loops, veiled, ifaces, maps, wideKeys, modest, calm, conditions, laid).
  DERIVED. THE GIVEN ROWS OF THIS SEAT. 10 by the template 'for every input the law returns true; each argument reads behind the call as it read before'; 0 by the template 'total and deterministic' (their statements: YtcfbondgbhmcaaaTotals.lean).
  GIVEN WITH THE SEED: the statements are not yours to turn. If you find one false, say at which input.
  Laid BY PROGRAM, IN A SANDBOX (cutbox-rows.mjs): the forced cells as the released guide's own fill.sh prints them over the translation 1e89ad5fe9da6175… (all of the seat's roots in one cut). By AI agents, Wed Nov 11 2026. No macro, syntax, notation, axiom, sorry.
-/
import Derived.Test.YtcfbondgbhmcaaaChecked
import GoSem.Claim
import GoSem.ClaimJoined
import GoSem.ClaimMapViews
import Derived.JoinedTies
import Derived.KernelRfl
namespace Go.Proofs.Ytcfbondgbhmcaaa
/- THE CELL 'sum', in the pinned program and in every row, IS THE sha256 OF THE DUMP (.gsa) THAT YtcfbondgbhmcaaaProg.lean LOADS. Nothing in Lean hashes anything: it is a label: what it is worth is what the hold of that sum in a sandbox is worth. -/
noncomputable def Try.pinned : Pinned := { name := "ytcfbondgbhmcaaa", sum := "1e89ad5fe9da61752dbdbd5b9355d5b2d20a7b6e3fbab24d33ea00a6fd65774c", checked := Try.checked }
namespace Rows
def none {H : Type} : Left H := { results := [], args := [] }

/-- 'jitneylaw01.NumTwo': WHATEVER THE INPUT: true; the input reads as it did. -/
def numTwoSpec : ChangeSpec := { name := "numTwo", fn := fun _ => fun
  | [d1, d2, d3] => { results := [.lit (.bool true)], args := [d1, d2, d3] }
  | _ => none }
def numTwoRow : OpenClaim := { program := "ytcfbondgbhmcaaa", sum := "1e89ad5fe9da61752dbdbd5b9355d5b2d20a7b6e3fbab24d33ea00a6fd65774c", func := "jitney/jitneylaw01.NumTwo", spec := "numTwo", inPlace := ["math.sqrt"], apart := false }
def NumTwoSaid : Prop := numTwoRow.holds Try.pinned (OpenSpec.ofChange numTwoSpec)

/-- ITS FALSE NEIGHBOUR: 'it returns false'. Refute it at one input. -/
def numTwoWrong : ChangeSpec := { name := "numTwo", fn := fun _ => fun
  | [d1, d2, d3] => { results := [.lit (.bool false)], args := [d1, d2, d3] }
  | _ => none }
def NumTwoWrongFalsely : Prop := numTwoRow.holds Try.pinned (OpenSpec.ofChange numTwoWrong)

/-- 'jitneylaw01.NumSums': WHATEVER THE INPUT: true; the input reads as it did. -/
def numSumsSpec : ChangeSpec := { name := "numSums", fn := fun _ => fun
  | [d] => { results := [.lit (.bool true)], args := [d] }
  | _ => none }
def numSumsRow : OpenClaim := { program := "ytcfbondgbhmcaaa", sum := "1e89ad5fe9da61752dbdbd5b9355d5b2d20a7b6e3fbab24d33ea00a6fd65774c", func := "jitney/jitneylaw01.NumSums", spec := "numSums", inPlace := ["math.sqrt"], apart := false }
def NumSumsSaid : Prop := numSumsRow.holds Try.pinned (OpenSpec.ofChange numSumsSpec)

/-- ITS FALSE NEIGHBOUR: 'it returns false'. Refute it at one input. -/
def numSumsWrong : ChangeSpec := { name := "numSums", fn := fun _ => fun
  | [d] => { results := [.lit (.bool false)], args := [d] }
  | _ => none }
def NumSumsWrongFalsely : Prop := numSumsRow.holds Try.pinned (OpenSpec.ofChange numSumsWrong)

/-- 'jitneylaw01.NumCeils': WHATEVER THE INPUT: true; the input reads as it did. -/
def numCeilsSpec : ChangeSpec := { name := "numCeils", fn := fun _ => fun
  | [d1, d2] => { results := [.lit (.bool true)], args := [d1, d2] }
  | _ => none }
def numCeilsRow : OpenClaim := { program := "ytcfbondgbhmcaaa", sum := "1e89ad5fe9da61752dbdbd5b9355d5b2d20a7b6e3fbab24d33ea00a6fd65774c", func := "jitney/jitneylaw01.NumCeils", spec := "numCeils", inPlace := ["math.sqrt"], apart := false }
def NumCeilsSaid : Prop := numCeilsRow.holds Try.pinned (OpenSpec.ofChange numCeilsSpec)

/-- ITS FALSE NEIGHBOUR: 'it returns false'. Refute it at one input. -/
def numCeilsWrong : ChangeSpec := { name := "numCeils", fn := fun _ => fun
  | [d1, d2] => { results := [.lit (.bool false)], args := [d1, d2] }
  | _ => none }
def NumCeilsWrongFalsely : Prop := numCeilsRow.holds Try.pinned (OpenSpec.ofChange numCeilsWrong)

/-- 'jitneylaw01.NumOrders': WHATEVER THE INPUT: true; the input reads as it did. -/
def numOrdersSpec : ChangeSpec := { name := "numOrders", fn := fun _ => fun
  | [d1, d2, d3] => { results := [.lit (.bool true)], args := [d1, d2, d3] }
  | _ => none }
def numOrdersRow : OpenClaim := { program := "ytcfbondgbhmcaaa", sum := "1e89ad5fe9da61752dbdbd5b9355d5b2d20a7b6e3fbab24d33ea00a6fd65774c", func := "jitney/jitneylaw01.NumOrders", spec := "numOrders", inPlace := ["math.sqrt"], apart := false }
def NumOrdersSaid : Prop := numOrdersRow.holds Try.pinned (OpenSpec.ofChange numOrdersSpec)

/-- ITS FALSE NEIGHBOUR: 'it returns false'. Refute it at one input. -/
def numOrdersWrong : ChangeSpec := { name := "numOrders", fn := fun _ => fun
  | [d1, d2, d3] => { results := [.lit (.bool false)], args := [d1, d2, d3] }
  | _ => none }
def NumOrdersWrongFalsely : Prop := numOrdersRow.holds Try.pinned (OpenSpec.ofChange numOrdersWrong)

/-- 'jitneylaw01.NumHolds': WHATEVER THE INPUT: true; the input reads as it did. -/
def numHoldsSpec : ChangeSpec := { name := "numHolds", fn := fun _ => fun
  | [d1, d2, d3, d4] => { results := [.lit (.bool true)], args := [d1, d2, d3, d4] }
  | _ => none }
def numHoldsRow : OpenClaim := { program := "ytcfbondgbhmcaaa", sum := "1e89ad5fe9da61752dbdbd5b9355d5b2d20a7b6e3fbab24d33ea00a6fd65774c", func := "jitney/jitneylaw01.NumHolds", spec := "numHolds", inPlace := ["math.sqrt"], apart := false }
def NumHoldsSaid : Prop := numHoldsRow.holds Try.pinned (OpenSpec.ofChange numHoldsSpec)

/-- ITS FALSE NEIGHBOUR: 'it returns false'. Refute it at one input. -/
def numHoldsWrong : ChangeSpec := { name := "numHolds", fn := fun _ => fun
  | [d1, d2, d3, d4] => { results := [.lit (.bool false)], args := [d1, d2, d3, d4] }
  | _ => none }
def NumHoldsWrongFalsely : Prop := numHoldsRow.holds Try.pinned (OpenSpec.ofChange numHoldsWrong)

/-- 'jitneylaw01.NumCeilSums': WHATEVER THE INPUT: true; the input reads as it did. -/
def numCeilSumsSpec : ChangeSpec := { name := "numCeilSums", fn := fun _ => fun
  | [d1, d2, d3] => { results := [.lit (.bool true)], args := [d1, d2, d3] }
  | _ => none }
def numCeilSumsRow : OpenClaim := { program := "ytcfbondgbhmcaaa", sum := "1e89ad5fe9da61752dbdbd5b9355d5b2d20a7b6e3fbab24d33ea00a6fd65774c", func := "jitney/jitneylaw01.NumCeilSums", spec := "numCeilSums", inPlace := ["math.sqrt"], apart := false }
def NumCeilSumsSaid : Prop := numCeilSumsRow.holds Try.pinned (OpenSpec.ofChange numCeilSumsSpec)

/-- ITS FALSE NEIGHBOUR: 'it returns false'. Refute it at one input. -/
def numCeilSumsWrong : ChangeSpec := { name := "numCeilSums", fn := fun _ => fun
  | [d1, d2, d3] => { results := [.lit (.bool false)], args := [d1, d2, d3] }
  | _ => none }
def NumCeilSumsWrongFalsely : Prop := numCeilSumsRow.holds Try.pinned (OpenSpec.ofChange numCeilSumsWrong)

/-- 'jitneylaw02.SpotWays': WHATEVER THE INPUT: true; the input reads as it did. -/
def spotWaysSpec : ChangeSpec := { name := "spotWays", fn := fun _ => fun
  | [d1, d2, d3, d4, d5, d6] => { results := [.lit (.bool true)], args := [d1, d2, d3, d4, d5, d6] }
  | _ => none }
def spotWaysRow : OpenClaim := { program := "ytcfbondgbhmcaaa", sum := "1e89ad5fe9da61752dbdbd5b9355d5b2d20a7b6e3fbab24d33ea00a6fd65774c", func := "jitney/jitneylaw02.SpotWays", spec := "spotWays", inPlace := ["math.archTrunc", "math.Float64bits", "math.Float64frombits", "math.sqrt"], unfollowed := true, recurses := true, apart := false }
def SpotWaysSaid : Prop := spotWaysRow.holds Try.pinned (OpenSpec.ofChange spotWaysSpec)

/-- ITS FALSE NEIGHBOUR: 'it returns false'. Refute it at one input. -/
def spotWaysWrong : ChangeSpec := { name := "spotWays", fn := fun _ => fun
  | [d1, d2, d3, d4, d5, d6] => { results := [.lit (.bool false)], args := [d1, d2, d3, d4, d5, d6] }
  | _ => none }
def SpotWaysWrongFalsely : Prop := spotWaysRow.holds Try.pinned (OpenSpec.ofChange spotWaysWrong)

/-- 'jitneylaw02.SpotRounds': WHATEVER THE INPUT: true; the input reads as it did. -/
def spotRoundsSpec : ChangeSpec := { name := "spotRounds", fn := fun _ => fun
  | [d1, d2, d3, d4] => { results := [.lit (.bool true)], args := [d1, d2, d3, d4] }
  | _ => none }
def spotRoundsRow : OpenClaim := { program := "ytcfbondgbhmcaaa", sum := "1e89ad5fe9da61752dbdbd5b9355d5b2d20a7b6e3fbab24d33ea00a6fd65774c", func := "jitney/jitneylaw02.SpotRounds", spec := "spotRounds", inPlace := ["math.archTrunc", "math.Float64bits", "math.Float64frombits", "math.sqrt"], unfollowed := true, recurses := true, apart := false }
def SpotRoundsSaid : Prop := spotRoundsRow.holds Try.pinned (OpenSpec.ofChange spotRoundsSpec)

/-- ITS FALSE NEIGHBOUR: 'it returns false'. Refute it at one input. -/
def spotRoundsWrong : ChangeSpec := { name := "spotRounds", fn := fun _ => fun
  | [d1, d2, d3, d4] => { results := [.lit (.bool false)], args := [d1, d2, d3, d4] }
  | _ => none }
def SpotRoundsWrongFalsely : Prop := spotRoundsRow.holds Try.pinned (OpenSpec.ofChange spotRoundsWrong)

/-- 'jitneylaw02.SpotTurns': WHATEVER THE INPUT: true; the input reads as it did. -/
def spotTurnsSpec : ChangeSpec := { name := "spotTurns", fn := fun _ => fun
  | [d1, d2, d3, d4, d5, d6] => { results := [.lit (.bool true)], args := [d1, d2, d3, d4, d5, d6] }
  | _ => none }
def spotTurnsRow : OpenClaim := { program := "ytcfbondgbhmcaaa", sum := "1e89ad5fe9da61752dbdbd5b9355d5b2d20a7b6e3fbab24d33ea00a6fd65774c", func := "jitney/jitneylaw02.SpotTurns", spec := "spotTurns", inPlace := ["math.archTrunc", "math.Float64bits", "math.Float64frombits", "math.sqrt"], unfollowed := true, recurses := true, apart := false }
def SpotTurnsSaid : Prop := spotTurnsRow.holds Try.pinned (OpenSpec.ofChange spotTurnsSpec)

/-- ITS FALSE NEIGHBOUR: 'it returns false'. Refute it at one input. -/
def spotTurnsWrong : ChangeSpec := { name := "spotTurns", fn := fun _ => fun
  | [d1, d2, d3, d4, d5, d6] => { results := [.lit (.bool false)], args := [d1, d2, d3, d4, d5, d6] }
  | _ => none }
def SpotTurnsWrongFalsely : Prop := spotTurnsRow.holds Try.pinned (OpenSpec.ofChange spotTurnsWrong)

/-- 'jitneylaw02.SpotRoots': WHATEVER THE INPUT: true; the input reads as it did. -/
def spotRootsSpec : ChangeSpec := { name := "spotRoots", fn := fun _ => fun
  | [d1, d2] => { results := [.lit (.bool true)], args := [d1, d2] }
  | _ => none }
def spotRootsRow : OpenClaim := { program := "ytcfbondgbhmcaaa", sum := "1e89ad5fe9da61752dbdbd5b9355d5b2d20a7b6e3fbab24d33ea00a6fd65774c", func := "jitney/jitneylaw02.SpotRoots", spec := "spotRoots", inPlace := ["math.archTrunc", "math.Float64bits", "math.Float64frombits", "math.sqrt"], unfollowed := true, recurses := true, apart := false }
def SpotRootsSaid : Prop := spotRootsRow.holds Try.pinned (OpenSpec.ofChange spotRootsSpec)

/-- ITS FALSE NEIGHBOUR: 'it returns false'. Refute it at one input. -/
def spotRootsWrong : ChangeSpec := { name := "spotRoots", fn := fun _ => fun
  | [d1, d2] => { results := [.lit (.bool false)], args := [d1, d2] }
  | _ => none }
def SpotRootsWrongFalsely : Prop := spotRootsRow.holds Try.pinned (OpenSpec.ofChange spotRootsWrong)

/- THE SECOND FORM. 'bulk': how many values and letters a reading holds, each counted each time it is reached (what is shared counts as often as it is met; a slice's spare places count too). A statement '..UptoSaid' is the law's where the arguments, and the package variables that the reading takes, are together of bulk at most 1048576: NARROWER than '..Said'. Prove '..Said' where nothing that the law and all that it calls make is longer than what came in: it says more and counts as full. Else prove '..UptoSaid'. A law counts once. -/
mutual
def uptoBulk {H : Type} : DataW H → Nat
  | .lit (.string bytes) => bytes.length + 1
  | .lit _ => 1
  | .nil => 1
  | .ptr d => uptoBulk d + 1
  | .slice elems spare => uptoBulkAll elems + uptoBulkAll spare + 1
  | .agg parts => uptoBulkAll parts + 1
  | .iface _ d => uptoBulk d + 1
  | .map entries => uptoBulkEntries entries + 1
  | .held _ => 1
def uptoBulkAll {H : Type} : List (DataW H) → Nat
  | [] => 0
  | d :: r => uptoBulk d + uptoBulkAll r
def uptoBulkEntries {H : Type} : List (Lit × DataW H) → Nat
  | [] => 0
  | x :: r => uptoBulkEntry x + uptoBulkEntries r
def uptoBulkEntry {H : Type} : Lit × DataW H → Nat
  | (.string bytes, d) => bytes.length + uptoBulk d + 1
  | (_, d) => uptoBulk d + 1
 end
def uptoSmall : (H : Type) → List (DataW H) → Bool := fun _ ds => decide (uptoBulkAll ds ≤ 1048576)
def OpenSpec.upto (s : _root_.Go.ChangeSpec) : _root_.Go.OpenSpec := { _root_.Go.OpenSpec.ofChange s with cond := some uptoSmall }

/-- 'jitneylaw01.NumTwo', WHERE WHAT IT READS IS OF BULK AT MOST 1048576: true; the input reads as it did. -/
def numTwoUptoRow : OpenClaim := { program := "ytcfbondgbhmcaaa", sum := "1e89ad5fe9da61752dbdbd5b9355d5b2d20a7b6e3fbab24d33ea00a6fd65774c", func := "jitney/jitneylaw01.NumTwo", spec := "numTwo", inPlace := ["math.sqrt"], apart := false, narrowed := true }
def NumTwoUptoSaid : Prop := numTwoUptoRow.holds Try.pinned (OpenSpec.upto numTwoSpec)

/-- 'jitneylaw01.NumSums', WHERE WHAT IT READS IS OF BULK AT MOST 1048576: true; the input reads as it did. -/
def numSumsUptoRow : OpenClaim := { program := "ytcfbondgbhmcaaa", sum := "1e89ad5fe9da61752dbdbd5b9355d5b2d20a7b6e3fbab24d33ea00a6fd65774c", func := "jitney/jitneylaw01.NumSums", spec := "numSums", inPlace := ["math.sqrt"], apart := false, narrowed := true }
def NumSumsUptoSaid : Prop := numSumsUptoRow.holds Try.pinned (OpenSpec.upto numSumsSpec)

/-- 'jitneylaw01.NumCeils', WHERE WHAT IT READS IS OF BULK AT MOST 1048576: true; the input reads as it did. -/
def numCeilsUptoRow : OpenClaim := { program := "ytcfbondgbhmcaaa", sum := "1e89ad5fe9da61752dbdbd5b9355d5b2d20a7b6e3fbab24d33ea00a6fd65774c", func := "jitney/jitneylaw01.NumCeils", spec := "numCeils", inPlace := ["math.sqrt"], apart := false, narrowed := true }
def NumCeilsUptoSaid : Prop := numCeilsUptoRow.holds Try.pinned (OpenSpec.upto numCeilsSpec)

/-- 'jitneylaw01.NumOrders', WHERE WHAT IT READS IS OF BULK AT MOST 1048576: true; the input reads as it did. -/
def numOrdersUptoRow : OpenClaim := { program := "ytcfbondgbhmcaaa", sum := "1e89ad5fe9da61752dbdbd5b9355d5b2d20a7b6e3fbab24d33ea00a6fd65774c", func := "jitney/jitneylaw01.NumOrders", spec := "numOrders", inPlace := ["math.sqrt"], apart := false, narrowed := true }
def NumOrdersUptoSaid : Prop := numOrdersUptoRow.holds Try.pinned (OpenSpec.upto numOrdersSpec)

/-- 'jitneylaw01.NumHolds', WHERE WHAT IT READS IS OF BULK AT MOST 1048576: true; the input reads as it did. -/
def numHoldsUptoRow : OpenClaim := { program := "ytcfbondgbhmcaaa", sum := "1e89ad5fe9da61752dbdbd5b9355d5b2d20a7b6e3fbab24d33ea00a6fd65774c", func := "jitney/jitneylaw01.NumHolds", spec := "numHolds", inPlace := ["math.sqrt"], apart := false, narrowed := true }
def NumHoldsUptoSaid : Prop := numHoldsUptoRow.holds Try.pinned (OpenSpec.upto numHoldsSpec)

/-- 'jitneylaw01.NumCeilSums', WHERE WHAT IT READS IS OF BULK AT MOST 1048576: true; the input reads as it did. -/
def numCeilSumsUptoRow : OpenClaim := { program := "ytcfbondgbhmcaaa", sum := "1e89ad5fe9da61752dbdbd5b9355d5b2d20a7b6e3fbab24d33ea00a6fd65774c", func := "jitney/jitneylaw01.NumCeilSums", spec := "numCeilSums", inPlace := ["math.sqrt"], apart := false, narrowed := true }
def NumCeilSumsUptoSaid : Prop := numCeilSumsUptoRow.holds Try.pinned (OpenSpec.upto numCeilSumsSpec)

/-- 'jitneylaw02.SpotWays', WHERE WHAT IT READS IS OF BULK AT MOST 1048576: true; the input reads as it did. -/
def spotWaysUptoRow : OpenClaim := { program := "ytcfbondgbhmcaaa", sum := "1e89ad5fe9da61752dbdbd5b9355d5b2d20a7b6e3fbab24d33ea00a6fd65774c", func := "jitney/jitneylaw02.SpotWays", spec := "spotWays", inPlace := ["math.archTrunc", "math.Float64bits", "math.Float64frombits", "math.sqrt"], unfollowed := true, recurses := true, apart := false, narrowed := true }
def SpotWaysUptoSaid : Prop := spotWaysUptoRow.holds Try.pinned (OpenSpec.upto spotWaysSpec)

/-- 'jitneylaw02.SpotRounds', WHERE WHAT IT READS IS OF BULK AT MOST 1048576: true; the input reads as it did. -/
def spotRoundsUptoRow : OpenClaim := { program := "ytcfbondgbhmcaaa", sum := "1e89ad5fe9da61752dbdbd5b9355d5b2d20a7b6e3fbab24d33ea00a6fd65774c", func := "jitney/jitneylaw02.SpotRounds", spec := "spotRounds", inPlace := ["math.archTrunc", "math.Float64bits", "math.Float64frombits", "math.sqrt"], unfollowed := true, recurses := true, apart := false, narrowed := true }
def SpotRoundsUptoSaid : Prop := spotRoundsUptoRow.holds Try.pinned (OpenSpec.upto spotRoundsSpec)

/-- 'jitneylaw02.SpotTurns', WHERE WHAT IT READS IS OF BULK AT MOST 1048576: true; the input reads as it did. -/
def spotTurnsUptoRow : OpenClaim := { program := "ytcfbondgbhmcaaa", sum := "1e89ad5fe9da61752dbdbd5b9355d5b2d20a7b6e3fbab24d33ea00a6fd65774c", func := "jitney/jitneylaw02.SpotTurns", spec := "spotTurns", inPlace := ["math.archTrunc", "math.Float64bits", "math.Float64frombits", "math.sqrt"], unfollowed := true, recurses := true, apart := false, narrowed := true }
def SpotTurnsUptoSaid : Prop := spotTurnsUptoRow.holds Try.pinned (OpenSpec.upto spotTurnsSpec)

/-- 'jitneylaw02.SpotRoots', WHERE WHAT IT READS IS OF BULK AT MOST 1048576: true; the input reads as it did. -/
def spotRootsUptoRow : OpenClaim := { program := "ytcfbondgbhmcaaa", sum := "1e89ad5fe9da61752dbdbd5b9355d5b2d20a7b6e3fbab24d33ea00a6fd65774c", func := "jitney/jitneylaw02.SpotRoots", spec := "spotRoots", inPlace := ["math.archTrunc", "math.Float64bits", "math.Float64frombits", "math.sqrt"], unfollowed := true, recurses := true, apart := false, narrowed := true }
def SpotRootsUptoSaid : Prop := spotRootsUptoRow.holds Try.pinned (OpenSpec.upto spotRootsSpec)

end Rows
end Go.Proofs.Ytcfbondgbhmcaaa
