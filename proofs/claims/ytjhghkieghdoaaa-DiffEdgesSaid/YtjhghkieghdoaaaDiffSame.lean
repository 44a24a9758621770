/- jitneyref01.SameInts and SameLongs of two rows that hold the same numbers. -/
import Derived.Test.YtjhghkieghdoaaaDiffBase
import Derived.RegionTactic
import Derived.LoopTactic
import Derived.ChangeAlike
namespace Go.Proofs.Ytjhghkieghdoaaa
open Go.RowKit
namespace Diff
theorem same_nil (a b : Option Addr) (c d : Nat) (w : World) :
    Calls Try.prog 13 #[.slice a 0 c, .slice b 0 d] w fun e w' => e = .returned (.bool true) ∧ Below w.heap.size w w' := by
  go_enter Try.func13, Try.ntmps13
  go_wp2
  go_loop [5] (fun i => i = .int .i64 0) (fun _ => 0)
  case atStart => rfl
  case round =>
    subst hrel
    go_wp2
    go_ret
    exact ⟨rfl, Below.refl _ _⟩
theorem same_any (b1 c1 b2 c2 n : Nat) (y z : Nat → Int) (w : World) (hn : n ≤ 1000) (h1 : IsB w b1 n y) (h2 : IsB w b2 n z) (he : ∀ j, j < n → y j = z j) :
    Calls Try.prog 13 #[.slice (some ⟨b1, 0, none⟩) n c1, .slice (some ⟨b2, 0, none⟩) n c2] w fun e w' => e = .returned (.bool true) ∧ Below w.heap.size w w' := by
  have H1 := Lib.hid (h1.congr he); clear h1 he
  have H2 := Lib.hid h2; clear h2
  go_enter Try.func13, Try.ntmps13
  go_wp2
  go_loopw [5] (fun i wr => ∃ k : Nat, k ≤ n ∧ i = .int .i64 k ∧ Hid (Below w.heap.size w wr)) (fun i _ => n - (intOf i).toNat)
  case atStart => exact ⟨0, Nat.zero_le _, rfl, Lib.hid (Below.refl _ _)⟩
  case round =>
    obtain ⟨k, hk, rfl, HD⟩ := hrel
    by_cases hlt : k < n
    · have f1 := (H1.out.below HD.out).at hlt
      have f2 := (H2.out.below HD.out).at hlt
      generalize z k = zk at *
      go_wp2
      go_quiet (fail)
      go_wp2
      go_roundw
      case rel => exact ⟨k + 1, by omega, by go_num, Lib.hid (below_drewN HD.out _)⟩
      case measure => simp [intOf]; omega
    · have hkn : k = n := by omega
      subst hkn
      go_wp2
      go_ret
      exact ⟨rfl, HD.out⟩
theorem ints_any (b1 c1 b2 c2 n : Nat) (y z : Nat → Int) (w : World) (hn : n ≤ 1000) (h1 : IsB w b1 n y) (h2 : IsB w b2 n z) (he : ∀ j, j < n → y j = z j) :
    Calls Try.prog 19 #[.slice (some ⟨b1, 0, none⟩) n c1, .slice (some ⟨b2, 0, none⟩) n c2] w fun e w' => e = .returned (.bool true) ∧ Below w.heap.size w w' := by
  have H1 := Lib.hid (h1.congr he); clear h1 he
  have H2 := Lib.hid h2; clear h2
  go_enter Try.func19, Try.ntmps19
  go_wp2
  go_loopw [5] (fun i wr => ∃ k : Nat, k ≤ n ∧ i = .int .i64 k ∧ Hid (Below w.heap.size w wr)) (fun i _ => n - (intOf i).toNat)
  case atStart => exact ⟨0, Nat.zero_le _, rfl, Lib.hid (Below.refl _ _)⟩
  case round =>
    obtain ⟨k, hk, rfl, HD⟩ := hrel
    by_cases hlt : k < n
    · have f1 := (H1.out.below HD.out).at hlt
      have f2 := (H2.out.below HD.out).at hlt
      generalize z k = zk at *
      go_wp2
      go_quiet (fail)
      go_wp2
      go_roundw
      case rel => exact ⟨k + 1, by omega, by go_num, Lib.hid (below_drewN HD.out _)⟩
      case measure => simp [intOf]; omega
    · have hkn : k = n := by omega
      subst hkn
      go_wp2
      go_ret
      exact ⟨rfl, HD.out⟩
end Diff
end Go.Proofs.Ytjhghkieghdoaaa
