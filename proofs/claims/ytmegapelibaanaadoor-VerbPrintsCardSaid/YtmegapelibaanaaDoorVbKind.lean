/- Package verb's Name, kindOf, checkCount; over the translated program. -/
import Derived.Test.YtmegapelibaanaaDoorVbMath
namespace Go.Proofs.YtmegapelibaanaaDoor
namespace Vb
open Go Go.RowKit Deci
set_option linter.unusedVariables false
theorem name_none {k : Int} (h : k < 0 ∨ 8 ≤ k) : nameS k.toNat = ⟨#[]⟩ := by
  rcases h with h | h
  · rw [show k.toNat = 0 by omega]; rfl
  · obtain ⟨j, hj⟩ : ∃ j, k.toNat = j + 8 := ⟨k.toNat - 8, by omega⟩
    rw [hj]; rfl
theorem name_any (k : Int) (w : World) (hE : EnvV w) :
    Calls Tryd.prog 10 #[.int .i64 k] w fun e w' => e = .returned (.string (nameS k.toNat)) ∧ w' = w := by
  by_cases h1 : k < 0
  · rw [name_none (.inl h1)]
    clear hE
    go_enter Tryd.func10, Tryd.ntmps10
    go_wp2
    go_ret
    exact ⟨rfl, rfl⟩
  by_cases h2 : 8 ≤ k
  · rw [name_none (.inr h2)]
    clear hE
    go_enter Tryd.func10, Tryd.ntmps10
    go_wp2
    go_ret
    exact ⟨rfl, rfl⟩
  · obtain ⟨j, rfl⟩ : ∃ j : Nat, k = j := ⟨k.toNat, by omega⟩
    have hc := hE.names j (by omega)
    rw [Int.toNat_natCast]
    generalize nameS j = s at *
    have h3 : (0 : Int) ≤ (j : Int) := by omega
    have h4 : (j : Int) < 8 := by omega
    clear hE
    go_enter Tryd.func10, Tryd.ntmps10
    go_wp2
    go_ret
    exact ⟨rfl, rfl⟩
end Vb
end Go.Proofs.YtmegapelibaanaaDoor
