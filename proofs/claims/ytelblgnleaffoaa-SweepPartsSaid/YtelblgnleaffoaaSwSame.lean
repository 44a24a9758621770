/- jitneyref01.SameInts of two rows that hold the same numbers. -/
import Derived.Test.YtelblgnleaffoaaSwNum
import Derived.RegionTactic
import Derived.ChangeAlike
import Derived.Below
namespace Go.Proofs.Ytelblgnleaffoaa
open Go.RowKit
namespace Spot
/-- w' is w but for draws. -/
def Drew (w w' : World) : Prop := ∃ q, w' = w.drewN q
theorem Drew.refl (w : World) : Drew w w := ⟨0, rfl⟩
theorem Drew.drew {w w' : World} (h : Drew w w') : Drew w w'.drew := by
  obtain ⟨q, rfl⟩ := h
  exact ⟨q + 1, rfl⟩
theorem Drew.drewN {w w' : World} (h : Drew w w') (q : Nat) : Drew w (w'.drewN q) := by
  obtain ⟨p, rfl⟩ := h
  refine ⟨p + q, ?_⟩
  simp only [World.drewN, Nat.add_assoc]
theorem Drew.cell {w w' : World} (h : Drew w w') (a : Addr) : w'.cell? a = w.cell? a := by
  obtain ⟨q, rfl⟩ := h; rfl
theorem same_nil (a b : Option Addr) (c d : Nat) (w : World) :
    Calls Try.prog 6 #[.slice a 0 c, .slice b 0 d] w fun e w' => e = .returned (.bool true) ∧ Drew w w' := by
  go_enter Try.func6, Try.ntmps6
  go_wp2
  go_loop [5] (fun i => i = .int .i64 0) (fun _ => 0)
  case atStart => rfl
  case round =>
    subst hrel
    go_wp2
    go_ret
    exact ⟨rfl, Drew.refl _⟩
theorem same_any (b1 o1 c1 b2 o2 c2 n : Nat) (z : Nat → Int) (w : World) (hn : n ≤ 9223372036854775806)
    (h1 : ∀ j, j < n → w.cell? ⟨b1, o1 + j, none⟩ = some (.int .i64 (z j))) (h2 : ∀ j, j < n → w.cell? ⟨b2, o2 + j, none⟩ = some (.int .i64 (z j))) :
    Calls Try.prog 6 #[.slice (some ⟨b1, o1, none⟩) n c1, .slice (some ⟨b2, o2, none⟩) n c2] w fun e w' => e = .returned (.bool true) ∧ Drew w w' := by
  have H1 := Lib.hid h1; clear h1
  have H2 := Lib.hid h2; clear h2
  go_enter Try.func6, Try.ntmps6
  go_wp2
  go_loopw [5] (fun i wr => ∃ k : Nat, k ≤ n ∧ i = .int .i64 k ∧ Drew w wr) (fun i _ => n - (intOf i).toNat)
  case atStart => exact ⟨0, Nat.zero_le _, rfl, Drew.refl _⟩
  case round =>
    obtain ⟨k, hk, rfl, hd⟩ := hrel
    by_cases hlt : k < n
    · have f1 : wr.cell? ⟨b1, o1 + k, none⟩ = some (.int .i64 (z k)) := (hd.cell _).trans (H1.out k hlt)
      have f2 : wr.cell? ⟨b2, o2 + k, none⟩ = some (.int .i64 (z k)) := (hd.cell _).trans (H2.out k hlt)
      generalize z k = zk at *
      go_wp2
      go_quiet (fail)
      go_wp2
      go_roundw
      case rel => exact ⟨k + 1, by omega, by go_num, hd.drewN _⟩
      case measure => simp [intOf]; omega
    · have hkn : k = n := by omega
      subst hkn
      go_wp2
      go_ret
      exact ⟨rfl, hd⟩
end Spot
end Go.Proofs.Ytelblgnleaffoaa
