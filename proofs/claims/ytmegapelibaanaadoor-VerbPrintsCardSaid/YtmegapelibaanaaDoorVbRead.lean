/- Package verb's kindOf, checkCount, wholes; over the translated program. -/
import Derived.Test.YtmegapelibaanaaDoorVbFind
namespace Go.Proofs.YtmegapelibaanaaDoor
namespace Vb
open Go Go.RowKit Deci
set_option linter.unusedVariables false
theorem idx_name (k : Nat) (hk : k < 8) (W : World) : (Instr.index 50 (.agg #[.string (nameS 0), .string (nameS 1), .string (nameS 2), .string (nameS 3), .string (nameS 4), .string (nameS 5), .string (nameS 6), .string (nameS 7)]) (.int .i64 k)).run Tryd.prog W = .ok (.string (nameS k)) W := by
  rcases (show k = 0 ∨ k = 1 ∨ k = 2 ∨ k = 3 ∨ k = 4 ∨ k = 5 ∨ k = 6 ∨ k = 7 by omega) with rfl | rfl | rfl | rfl | rfl | rfl | rfl | rfl
  all_goals simp [Instr.index, run_underlying Tryd.underlying50, asIntOf, part, go_sem]
def tabV : Value := .agg #[.string (nameS 0), .string (nameS 1), .string (nameS 2), .string (nameS 3), .string (nameS 4), .string (nameS 5), .string (nameS 6), .string (nameS 7)]
set_option maxHeartbeats 2000000 in
set_option maxRecDepth 100000 in
theorem kindOf_any (s : ByteArray) (w : World) (hE : EnvV w) :
    Calls Tryd.prog 52 #[.string s] w fun e w' => e = .returned (.int .i64 (kindV s.data.toList)) ∧ w' = w := by
  have x0 := hE.names 0 (by decide)
  have x1 := hE.names 1 (by decide)
  have x2 := hE.names 2 (by decide)
  have x3 := hE.names 3 (by decide)
  have x4 := hE.names 4 (by decide)
  have x5 := hE.names 5 (by decide)
  have x6 := hE.names 6 (by decide)
  have x7 := hE.names 7 (by decide)
  clear hE
  obtain ⟨l, hl⟩ : ∃ l, l = s.toList := ⟨_, rfl⟩
  have hld : s.data.toList = l := by rw [hl, Lib.toList_data]
  rw [hld]
  have hn : ∀ j, (nameS j).toList = nameL j := fun j => by rw [Lib.toList_data]; rfl
  have hno := fun h => kind_no (l := l) h
  have hat := fun i hi h => kind_at (l := l) (i := i) hi h
  generalize kindV l = kv at *
  have HNO := Lib.hid hno; clear hno
  have HAT := Lib.hid hat; clear hat
  clear hld
  go_enter Tryd.func52, Tryd.ntmps52
  go_wp2_with fail
  go_loopw [6] (fun i wr => ∃ k : Nat, k ≤ 8 ∧ i = .int .i64 k ∧ wr = w ∧ Hid (∀ j, j < k → nameL j ≠ l)) (fun i _ => 8 - (intOf i).toNat)
  case atStart => exact ⟨0, by omega, rfl, rfl, Lib.hid fun j hj => absurd hj (by omega)⟩
  case round =>
    obtain ⟨k, hk, rfl, rfl, HL⟩ := hrel
    by_cases hlt : k < 8
    · have hs : ∀ j, j < 8 → nameL j = l → kv = j := fun j hj h => HAT.out j hj h
      have hnx : nameL k ≠ l → ∀ j, j < k + 1 → nameL j ≠ l := fun h j hj => by
        rcases Nat.lt_succ_iff_lt_or_eq.1 hj with h' | rfl
        · exact HL.out j h'
        · exact h
      have HS := Lib.hid hs; clear hs
      have HX := Lib.hid hnx; clear hnx HL
      have hyes : nameL k = l → ((nameS k).toList == s.toList) = true ∧ (nameS k).toList = s.toList := fun h => by rw [hn, ← hl, h]; simp
      have hnot : nameL k ≠ l → ((nameS k).toList == s.toList) = false ∧ ¬ (nameS k).toList = s.toList := fun h => by rw [hn, ← hl]; simpa using h
      by_cases h : nameL k = l
      · obtain ⟨e1, e2⟩ := hyes h
        have hkv := HS.out k hlt h
        have hix := fun W => idx_name k hlt W
        clear hyes hnot h HS HX hl hn
        subst hkv
        have i0 : (kv : Int) < 8 := by omega
        go_wp2_with fail
        go_ret
        exact ⟨rfl, rfl⟩
      · obtain ⟨e1, e2⟩ := hnot h
        have hix := fun W => idx_name k hlt W
        have HN := Lib.hid (HX.out h)
        clear hyes hnot h HS HX hl hn
        have i0 : (k : Int) < 8 := by omega
        go_wp2_with fail
        go_roundw
        case rel => exact ⟨k + 1, by omega, by go_num, (by first | rfl | trivial), HN⟩
        case measure => simp [intOf]; omega
    · obtain rfl : k = 8 := by omega
      have hkv : kv = 0 := HNO.out HL.out
      subst hkv
      clear HL
      go_wp2_with fail
      go_ret
      exact ⟨rfl, rfl⟩
end Vb
end Go.Proofs.YtmegapelibaanaaDoor
