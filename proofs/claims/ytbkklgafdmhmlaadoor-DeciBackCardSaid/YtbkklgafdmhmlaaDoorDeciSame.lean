/- jitneyref03.Same, of two slices that hold the same texts; over the translated program. -/
import Derived.Test.YtbkklgafdmhmlaaDoorDeciLines
import Derived.BigQuiet
import Derived.Deep.QuietTactic
namespace Go.Proofs.YtbkklgafdmhmlaaDoor
namespace Deci
open Go Go.RowKit
/-- A slice holds these texts. -/
def HasStrs (w : World) (v : Value) (ps : List ByteArray) : Prop :=
  (v = .slice none 0 0 ∧ ps = []) ∨ ∃ g cap, v = .slice (some ⟨g, 0, none⟩) ps.length cap ∧ g < w.heap.size ∧ ∀ j (h : j < ps.length), w.cell? ⟨g, j, none⟩ = some (.string ps[j])
theorem HasStrs.below {w w' : World} {v : Value} {ps : List ByteArray} (h : HasStrs w v ps) (hb : Below w.heap.size w w') : HasStrs w' v ps := by
  rcases h with h | ⟨g, cap, h1, h2, h3⟩
  · exact .inl h
  · exact .inr ⟨g, cap, h1, Nat.lt_of_lt_of_le h2 hb.size, fun j hj => (hb.cell (p := ⟨g, j, none⟩) h2).trans (h3 j hj)⟩
theorem hasStrs_of {w : World} {base : Nat} {v : Value} {ps : List ByteArray} (h : w.ownsRow base 9 1 v ps.length (ps.map Value.string)) : HasStrs w v ps := by
  rcases h.2 with ⟨rfl, h0⟩ | ⟨g, cap, cur, rfl, _, hg, h1, _, h2, h3⟩
  · exact .inl ⟨rfl, List.eq_nil_of_length_eq_zero h0⟩
  · refine .inr ⟨g, cap, rfl, (Array.getElem?_eq_some_iff.1 hg).1, fun j hj => ?_⟩
    have e : cur[j]? = some (.string ps[j]) := by
      have := congrArg (·[j]?) h3
      simp only [Nat.mul_one] at this
      rw [List.getElem?_take, if_pos hj, List.getElem?_map, List.getElem?_eq_getElem hj] at this
      simpa using this
    simp only [World.cell?, hg]
    exact e
theorem HasStrs.slice {w : World} {v : Value} {ps : List ByteArray} (h : HasStrs w v ps) : ∃ a cap, v = .slice a ps.length cap := by
  rcases h with ⟨rfl, rfl⟩ | ⟨g, cap, rfl, _⟩
  · exact ⟨_, _, rfl⟩
  · exact ⟨_, _, rfl⟩
set_option maxHeartbeats 1000000 in
theorem same_yes (v1 v2 : Value) (ps : List ByteArray) (w : World) (h1 : HasStrs w v1 ps) (h2 : HasStrs w v2 ps) (hl : ps.length ≤ 9223372036854775000) :
    Calls Tryd.prog 19 #[v1, v2] w fun e w' => e = .returned (.bool true) ∧ ∃ n, w' = w.drewN n := by
  by_cases hps : ps = []
  · subst hps
    obtain ⟨a, c, rfl⟩ := h1.slice
    obtain ⟨b, d, rfl⟩ := h2.slice
    clear h1 h2 hl
    simp only [List.length_nil]
    go_enter Tryd.func19, Tryd.ntmps19
    go_wp2
    go_loop [5] (fun i => i = .int .i64 0) (fun _ => 0)
    case atStart => rfl
    case round =>
      subst hrel
      go_wp2
      go_ret
      exact ⟨rfl, 0, rfl⟩
  · rcases h1 with ⟨-, h⟩ | ⟨g, c1, rfl, hg, hc⟩
    · exact absurd h hps
    · rcases h2 with ⟨-, h⟩ | ⟨g2, c2, rfl, hg2, hc2⟩
      · exact absurd h hps
      · clear hps
        have HC := Lib.hid hc; clear hc
        have HC2 := Lib.hid hc2; clear hc2
        go_enter Tryd.func19, Tryd.ntmps19
        go_wp2
        go_loopw [5] (fun i wr => ∃ k m : Nat, k ≤ ps.length ∧ i = .int .i64 k ∧ wr = w.drewN m) (fun i _ => ps.length - (intOf i).toNat)
        case atStart => exact ⟨0, 0, Nat.zero_le _, rfl, rfl⟩
        case round =>
          obtain ⟨k, m, hk, rfl, rfl⟩ := hrel
          by_cases hlt : k < ps.length
          · have q1 := HC.out k hlt
            have q2 := HC2.out k hlt
            generalize ps[k] = x at q1 q2
            go_wp2_with fail
            go_quiet (fail)
            go_wp2
            go_roundw
            case rel => exact ⟨k + 1, _, by omega, by go_num, rfl⟩
            case measure => simp [intOf]; omega
          · go_wp2
            go_ret
            exact ⟨rfl, m, rfl⟩
end Deci
end Go.Proofs.YtbkklgafdmhmlaaDoor
