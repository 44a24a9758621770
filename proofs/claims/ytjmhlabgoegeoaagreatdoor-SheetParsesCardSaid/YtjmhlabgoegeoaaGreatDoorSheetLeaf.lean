/- Small functions of inst and jitneyref05: times; over the translated program. -/
import Derived.Test.YtjmhlabgoegeoaaGreatDoorDeciBase
namespace Go.Proofs.YtjmhlabgoegeoaaGreatDoor
namespace Sheet
open Go Go.RowKit Deci
/-- Is a number a time? -/
def timeB (n : Int) : Bool := decide (0 ≤ n) && decide (n ≤ 1099511627776)
theorem timeB_yes {n : Int} (h1 : 0 ≤ n) (h2 : n ≤ 1099511627776) : timeB n = true := by unfold timeB; simp [h1, h2]
theorem timeB_low {n : Int} (h1 : n < 0) : timeB n = false := by unfold timeB; simp; omega
theorem timeB_high {n : Int} (h1 : 1099511627776 < n) : timeB n = false := by unfold timeB; simp; omega
theorem refTime_any (n : Int) (w : World) :
    Calls Tryz.prog 25 #[.int .i64 n] w fun e w' => e = .returned (.bool (timeB n)) ∧ w = w' := by
  by_cases h1 : n < 0
  · rw [timeB_low h1]
    go_enter Tryz.func25, Tryz.ntmps25
    go_wp2
    go_ret
    first | exact ⟨rfl, rfl⟩ | exact ⟨ret_bool (by simp; omega), rfl⟩
  · by_cases h2 : 1099511627776 < n
    · rw [timeB_high h2]
      go_enter Tryz.func25, Tryz.ntmps25
      go_wp2
      go_ret
      first | exact ⟨rfl, rfl⟩ | exact ⟨ret_bool (by simp; omega), rfl⟩
    · rw [timeB_yes (by omega) (by omega)]
      go_enter Tryz.func25, Tryz.ntmps25
      go_wp2
      go_ret
      first | exact ⟨rfl, rfl⟩ | exact ⟨ret_bool (by simp; omega), rfl⟩
theorem noTime_any (n : Int) (w : World) :
    Calls Tryz.prog 33 #[.int .i64 n] w fun e w' => e = .returned (.bool (!timeB n)) ∧ w = w' := by
  by_cases h1 : n < 0
  · rw [timeB_low h1]
    go_enter Tryz.func33, Tryz.ntmps33
    go_wp2
    go_ret
    first | exact ⟨rfl, rfl⟩ | exact ⟨ret_bool (by simp; omega), rfl⟩
  · by_cases h2 : 1099511627776 < n
    · rw [timeB_high h2]
      go_enter Tryz.func33, Tryz.ntmps33
      go_wp2
      go_ret
      first | exact ⟨rfl, rfl⟩ | exact ⟨ret_bool (by simp; omega), rfl⟩
    · rw [timeB_yes (by omega) (by omega)]
      go_enter Tryz.func33, Tryz.ntmps33
      go_wp2
      go_ret
      first | exact ⟨rfl, rfl⟩ | exact ⟨ret_bool (by simp; omega), rfl⟩
end Sheet
end Go.Proofs.YtjmhlabgoegeoaaGreatDoor
