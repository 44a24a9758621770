/- Contracts of the small functions of package deci: what each answers, over the translated program. -/
import Derived.Test.YtmegapelibaanaaDoorChecked
import Derived.WalkKit
import Derived.WalkLawsBesides
import Derived.WalkSpells
import Derived.Lib.Hide
import Derived.IntWalk
import Derived.BigQuiet
import Derived.Deep.QuietTactic
import Derived.Laws.Externs
import Derived.Lib.Strings
import Derived.Lib.ItoaNum
import Derived.Lib.TrimByte
namespace Go.Proofs.YtmegapelibaanaaDoor
open Go.RowKit
theorem ret_int {k : IntKind} {a b : Int} (h : a = b) : Ending.returned (.int k a) = .returned (.int k b) := by rw [h]
theorem ret_bool {a b : Bool} (h : a = b) : Ending.returned (.bool a) = .returned (.bool b) := by rw [h]
theorem take_snoc (s : ByteArray) (k : Nat) (h : k < s.size) : s.data.toList.take (k + 1) = s.data.toList.take k ++ [s[k]] := by
  rw [List.take_succ_eq_append_getElem (by simpa using h)]; rfl
theorem take_all (s : ByteArray) (k : Nat) (h : s.size ≤ k) : s.data.toList.take k = s.data.toList := List.take_of_length_le (by simpa using h)
namespace Deci
/-- A number that is held between two bounds. -/
def heldV (n a b : Int) : Int := if n < a then a else if b < n then b else n
theorem heldV_low {n a b : Int} (h : n < a) : heldV n a b = a := by unfold heldV; rw [if_pos h]
theorem heldV_in {n a b : Int} (h1 : a ≤ n) (h2 : n ≤ b) : heldV n a b = n := by unfold heldV; rw [if_neg (by omega), if_neg (by omega)]
theorem heldV_high {n a b : Int} (h1 : a ≤ n) (h : b < n) : heldV n a b = b := by unfold heldV; rw [if_neg (by omega), if_pos h]
theorem heldV_bd {n a b : Int} (h : a ≤ b) : a ≤ heldV n a b ∧ heldV n a b ≤ b := by unfold heldV; split <;> (try split) <;> omega

theorem held_any (n a b : Int) (hab : a ≤ b) (w : World) :
    Calls Tryd.prog 41 #[.int .i64 n, .int .i64 a, .int .i64 b] w fun e w' => e = .returned (.int .i64 (heldV n a b)) ∧ w = w' := by
  have hv : (n < a → heldV n a b = a) ∧ (a ≤ n → b < n → heldV n a b = b) ∧ (a ≤ n → n ≤ b → heldV n a b = n) := ⟨heldV_low, heldV_high, heldV_in⟩
  generalize heldV n a b = v at *
  have H := Lib.hid hv; clear hv
  have hab' : ¬ b < a := by omega
  by_cases h1 : n < a
  · go_enter Tryd.func41, Tryd.ntmps41
    go_wp2
    all_goals
      go_ret
      exact ⟨ret_int (H.out.1 h1).symm, rfl⟩
  · by_cases h2 : b < n
    · go_enter Tryd.func41, Tryd.ntmps41
      go_wp2
      all_goals
        go_ret
        exact ⟨ret_int (by have := H.out.2.1 (by omega) h2; omega), rfl⟩
    · go_enter Tryd.func41, Tryd.ntmps41
      go_wp2
      all_goals
        go_ret
        exact ⟨ret_int (by have := H.out.2.2 (by omega) (by omega); omega), rfl⟩

/-- Does each byte lie between two bounds? -/
def inB (lo hi : Int) (l : List UInt8) : Bool := l.all fun c => decide (lo ≤ (c.toNat : Int)) && decide ((c.toNat : Int) ≤ hi)
theorem inB_snoc (lo hi : Int) (l : List UInt8) (c : UInt8) : inB lo hi (l ++ [c]) = (inB lo hi l && (decide (lo ≤ (c.toNat : Int)) && decide ((c.toNat : Int) ≤ hi))) := by
  unfold inB; simp
theorem inB_false (lo hi : Int) (s : ByteArray) (k : Nat) (h : k < s.size) (hc : (s[k].toNat : Int) < lo ∨ hi < (s[k].toNat : Int)) : inB lo hi s.data.toList = false := by
  unfold inB
  rw [List.all_eq_false]
  exact ⟨s[k], by show s.data[k] ∈ s.data.toList; simp, by simp; omega⟩

set_option maxHeartbeats 400000 in
theorem within_any (s : ByteArray) (lo hi : Int) (w : World) (hs : s.size ≤ maxLen) :
    Calls Tryd.prog 86 #[.string s, .int .u8 lo, .int .u8 hi] w fun e w' => e = .returned (.bool (inB lo hi s.data.toList)) ∧ w = w' := by
  unfold maxLen at hs
  go_enter Tryd.func86, Tryd.ntmps86
  go_wp2
  go_loop [10] (fun i => ∃ k : Nat, k ≤ s.size ∧ i = .int .i64 k ∧ inB lo hi (s.data.toList.take k) = true) (fun i => s.size - (intOf i).toNat)
  case atStart => exact ⟨0, Nat.zero_le _, rfl, rfl⟩
  case round =>
    obtain ⟨k, hk, rfl, hin⟩ := hrel
    by_cases hlt : k < s.size
    · have hsn := inB_snoc lo hi (s.data.toList.take k) s[k]
      rw [← take_snoc s k hlt, hin, Bool.true_and] at hsn
      have HS := Lib.hid hsn; clear hsn hin
      by_cases h1 : (s[k].toNat : Int) < lo
      · have hf := inB_false lo hi s k hlt (Or.inl h1)
        have HF := Lib.hid hf; clear hf
        go_wp2
        go_ret
        exact ⟨ret_bool HF.out.symm, rfl⟩
      · by_cases h2 : hi < (s[k].toNat : Int)
        · have hf := inB_false lo hi s k hlt (Or.inr h2)
          have HF := Lib.hid hf; clear hf
          go_wp2
          go_ret
          exact ⟨ret_bool HF.out.symm, rfl⟩
        · go_wp2
          go_round
          case rel => exact ⟨k + 1, by omega, by go_num, by rw [HS.out]; simp; omega⟩
          case measure => simp [intOf]; omega
    · rw [take_all s k (by omega)] at hin
      have HS := Lib.hid hin; clear hin
      go_wp2
      go_ret
      exact ⟨ret_bool HS.out.symm, rfl⟩

/-- Digits alone, at least one, and at most so many. -/
def digB (l : List UInt8) (most : Int) : Bool := decide (0 < l.length) && (decide ((l.length : Int) ≤ most) && inB 48 57 l)
theorem size_list (s : ByteArray) : s.data.toList.length = s.size := by simp
theorem digits_any (s : ByteArray) (most : Int) (w : World) (hs : s.size ≤ maxLen) :
    Calls Tryd.prog 89 #[.string s, .int .i64 most] w fun e w' => e = .returned (.bool (digB s.data.toList most)) ∧ w = w' := by
  have hw := fun w => within_any s 48 57 w hs
  unfold digB
  rw [size_list]
  unfold maxLen at hs
  generalize inB 48 57 s.data.toList = b at *
  have HW := Lib.hid hw; clear hw
  by_cases h1 : 0 < s.size
  · by_cases h2 : (s.size : Int) ≤ most
    · go_enter Tryd.func89, Tryd.ntmps89
      go_wp2_with (go_at_call 86; refine (HW.out _).mono ?_; rintro e w' ⟨rfl, rfl⟩)
      go_ret
      exact ⟨ret_bool (by simp [h1, h2]), rfl⟩
    · go_enter Tryd.func89, Tryd.ntmps89
      go_wp2_with (go_at_call 86; refine (HW.out _).mono ?_; rintro e w' ⟨rfl, rfl⟩)
      go_ret
      exact ⟨ret_bool (by rw [decide_eq_false (by omega : ¬ ((s.size : Int) ≤ most))]; simp), rfl⟩
  · go_enter Tryd.func89, Tryd.ntmps89
    go_wp2_with (go_at_call 86; refine (HW.out _).mono ?_; rintro e w' ⟨rfl, rfl⟩)
    go_ret
    exact ⟨ret_bool (by simp [h1]), rfl⟩

/-- A word: at least one byte, and each of them from 33 to 126. -/
def wordB (l : List UInt8) : Bool := !l.isEmpty && inB 33 126 l
theorem word_any (s : ByteArray) (w : World) (hs : s.size ≤ maxLen) :
    Calls Tryd.prog 71 #[.string s] w fun e w' => e = .returned (.bool (wordB s.data.toList)) ∧ w = w' := by
  have hw := fun w => within_any s 33 126 w hs
  unfold wordB
  generalize inB 33 126 s.data.toList = b at *
  have HW := Lib.hid hw; clear hw
  rw [← Lib.toList_data]
  cases he : s.toList.isEmpty with
  | true =>
    have he' : s.toList = [] := by simpa using he
    go_enter Tryd.func71, Tryd.ntmps71
    go_wp2_with (go_at_call 86; refine (HW.out _).mono ?_; rintro e w' ⟨rfl, rfl⟩)
    go_ret
    exact ⟨ret_bool (by simp), rfl⟩
  | false =>
    have he' : ¬ s.toList = [] := by simpa using he
    go_enter Tryd.func71, Tryd.ntmps71
    go_wp2_with (go_at_call 86; refine (HW.out _).mono ?_; rintro e w' ⟨rfl, rfl⟩)
    go_ret
    exact ⟨ret_bool (by simp), rfl⟩

/-! ## the number of some digits -/
/-- The number of digits, most significant first. -/
def natV (l : List UInt8) : Nat := l.foldl (fun n c => 10 * n + (c.toNat - 48)) 0
theorem natV_snoc (l : List UInt8) (c : UInt8) : natV (l ++ [c]) = 10 * natV l + (c.toNat - 48) := by unfold natV; simp
theorem natV_nil : natV [] = 0 := rfl
/-- What is told of a number that may be too great. -/
def capV (n : Nat) : Int := if n ≤ 1099511627776 then (n : Int) else 1099511627777
theorem capV_bd (n : Nat) : 0 ≤ capV n ∧ capV n ≤ 1099511627777 := by unfold capV; split <;> omega
theorem capV_step (n d : Nat) : heldV (10 * capV n + (d : Int)) 0 1099511627777 = capV (10 * n + d) := by
  unfold capV heldV
  split <;> split <;> (repeat' split) <;> omega
theorem dig_bd {c : UInt8} (h1 : 48 ≤ (c.toNat : Int)) : ((c.toNat : Int) - 48) = ((c.toNat - 48 : Nat) : Int) := by omega
theorem behind_any (n d : Int) (w : World) (h1 : 0 ≤ n) (h2 : n ≤ 1099511627777) (h3 : 0 ≤ d) (h4 : d ≤ 255) :
    Calls Tryd.prog 100 #[.int .i64 n, .int .i64 d] w fun e w' => e = .returned (.int .i64 (heldV (10 * n + d) 0 1099511627777)) ∧ w = w' := by
  go_enter Tryd.func100, Tryd.ntmps100
  go_wp2_with (go_at_call 41; refine (held_any _ _ _ (by omega) _).mono ?_; rintro e w' ⟨rfl, rfl⟩)
  go_ret
  exact ⟨rfl, rfl⟩
theorem inB_at {lo hi : Int} {s : ByteArray} (h : inB lo hi s.data.toList = true) (k : Nat) (hk : k < s.size) : lo ≤ (s[k].toNat : Int) ∧ (s[k].toNat : Int) ≤ hi := by
  unfold inB at h
  rw [List.all_eq_true] at h
  have := h s[k] (by show s.data[k] ∈ s.data.toList; simp)
  simpa using this

set_option maxHeartbeats 400000 in
theorem value_any (s : ByteArray) (t : Int) (w : World) (hs : s.size ≤ maxLen) (hd : inB 48 57 s.data.toList = true) (h1 : t ≤ 100) :
    Calls Tryd.prog 90 #[.string s, .int .i64 t] w fun e w' => e = .returned (.int .i64 (capV (natV s.data.toList * 10 ^ t.toNat))) ∧ w = w' := by
  unfold maxLen at hs
  have HD := Lib.hid hd; clear hd
  obtain ⟨v, hv⟩ : ∃ v, v = natV s.data.toList := ⟨_, rfl⟩
  have HV := Lib.hid hv; clear hv
  go_enter Tryd.func90, Tryd.ntmps90
  go_wp2
  go_loop [5, 9] (fun n i => ∃ k : Nat, k ≤ s.size ∧ i = .int .i64 k ∧ n = .int .i64 (capV (natV (s.data.toList.take k)))) (fun _ i => s.size - (intOf i).toNat)
  case atStart => exact ⟨0, Nat.zero_le _, rfl, rfl⟩
  case round =>
    obtain ⟨k, hk, rfl, rfl⟩ := hrel
    by_cases hlt : k < s.size
    · have hb := inB_at HD.out k hlt
      have hsn := natV_snoc (s.data.toList.take k) s[k]
      rw [← take_snoc s k hlt] at hsn
      have hst := capV_step (natV (s.data.toList.take k)) (s[k].toNat - 48)
      rw [← hsn, ← dig_bd hb.1] at hst
      have hcb := capV_bd (natV (s.data.toList.take k))
      generalize capV (natV (s.data.toList.take k)) = a at *
      obtain ⟨b, hbq⟩ : ∃ b, b = capV (natV (s.data.toList.take (k + 1))) := ⟨_, rfl⟩
      rw [← hbq] at hst
      have HBQ := Lib.hid hbq; clear hbq
      obtain ⟨hb1, hb2⟩ := hb
      obtain ⟨hc1, hc2⟩ := hcb
      clear hsn
      have HST := Lib.hid hst; clear hst
      go_wp2_with (go_at_call 100; refine (behind_any _ _ _ (by omega) (by omega) (by omega) (by omega)).mono ?_; rintro e w' ⟨rfl, rfl⟩; rw [HST.out])
      go_round
      case rel => exact ⟨k + 1, by omega, by go_num, by rw [HBQ.out]⟩
      case measure => simp [intOf]; omega
    · rw [take_all s k (by omega)]
      rw [← HV.out]
      go_wp2
      go_loop [5, 21] (fun n i => ∃ k : Nat, k ≤ t.toNat ∧ i = .int .i64 k ∧ n = .int .i64 (capV (v * 10 ^ k))) (fun _ i => t.toNat - (intOf i).toNat)
      case atStart => exact ⟨0, Nat.zero_le _, rfl, by simp⟩
      case round =>
        obtain ⟨j, hj, rfl, rfl⟩ := hrel
        have hcb := capV_bd (v * 10 ^ j)
        by_cases hjt : j < t.toNat
        · have hjt' : (j : Int) < t := by omega
          have hst := capV_step (v * 10 ^ j) 0
          have he : 10 * (v * 10 ^ j) + 0 = v * 10 ^ (j + 1) := by rw [Nat.pow_succ, Nat.add_zero, ← Nat.mul_assoc, Nat.mul_comm 10, Nat.mul_assoc, Nat.mul_comm 10]
          rw [he] at hst
          clear he
          generalize capV (v * 10 ^ j) = a at *
          obtain ⟨b, hbq⟩ : ∃ b, b = capV (v * 10 ^ (j + 1)) := ⟨_, rfl⟩
          rw [← hbq] at hst
          have HBQ := Lib.hid hbq; clear hbq
          obtain ⟨hc1, hc2⟩ := hcb
          have HST := Lib.hid hst; clear hst
          go_wp2_with (go_at_call 100; refine (behind_any _ _ _ (by omega) (by omega) (by omega) (by omega)).mono ?_; rintro e w' ⟨rfl, rfl⟩; rw [show heldV (10 * a + 0) 0 1099511627777 = b from HST.out])
          go_round
          case rel => exact ⟨j + 1, by omega, by go_num, by rw [HBQ.out]⟩
          case measure => simp [intOf]; omega
        · have hjt' : ¬ (j : Int) < t := by omega
          obtain rfl : t.toNat = j := by omega
          go_wp2
          go_ret
          exact ⟨ret_int (by rw [HV.out]), rfl⟩
end Deci
end Go.Proofs.YtmegapelibaanaaDoor
