/- Contracts of num.Sum and of the document's answers for layer 1 (jitneyref01): May, Sum, Mul, Held, Root. -/
import Derived.Test.YtcfbondgbhmcaaaNumBase
namespace Go.Proofs.Ytcfbondgbhmcaaa
open Go.RowKit
namespace Num
def sumO : Int → List Int → Option Int
  | s, [] => some s
  | s, x :: xs => if addB s x = true then sumO (s + x) xs else none
def sumB (zs : List Int) : Bool := (sumO 0 zs).isSome
def sumV (zs : List Int) : Int := (sumO 0 zs).getD 0
theorem sumO_append (a b : List Int) : ∀ s, sumO s (a ++ b) = (sumO s a).bind (fun t => sumO t b) := by
  induction a with
  | nil => intro s; rfl
  | cons x xs ih =>
    intro s
    simp only [List.cons_append, sumO]
    split
    · exact ih _
    · rfl
theorem take_succ (zs : List Int) (k : Nat) (h : k < zs.length) : zs = zs.take k ++ zs.getD k 0 :: zs.drop (k + 1) := by
  have e : zs.drop k = zs.getD k 0 :: zs.drop (k + 1) := by
    rw [List.drop_eq_getElem_cons h]; simp [List.getD, List.getElem?_eq_getElem h]
  rw [← e, List.take_append_drop]
theorem take_snoc (zs : List Int) (k : Nat) (h : k < zs.length) : zs.take (k + 1) = zs.take k ++ [zs.getD k 0] := by
  rw [List.take_add_one]; simp [List.getD, List.getElem?_eq_getElem h]
theorem sum_step (zs : List Int) (k : Nat) (s : Int) (h : k < zs.length) (hs : sumO 0 (zs.take k) = some s) (ha : addB s (zs.getD k 0) = true) :
    sumO 0 (zs.take (k + 1)) = some (s + zs.getD k 0) := by
  rw [take_snoc zs k h, sumO_append, hs]; simp only [Option.bind_some, sumO, if_pos ha]
theorem sum_stop (zs : List Int) (k : Nat) (s : Int) (h : k < zs.length) (hs : sumO 0 (zs.take k) = some s) (ha : addB s (zs.getD k 0) = false) :
    sumO 0 zs = none := by
  conv => lhs; rw [take_succ zs k h]
  rw [sumO_append, hs]; simp only [Option.bind_some, sumO, ha, Bool.false_eq_true, if_false]

theorem sum_any (b off cap : Nat) (zs : List Int) (w : World) (hlen : zs.length ≤ 9223372036854775806)
    (hc : ∀ j, j < zs.length → w.cell? ⟨b, off + j, none⟩ = some (.int .i64 (zs.getD j 0))) :
    Calls Try.prog 22 #[.slice (some ⟨b, off, none⟩) zs.length cap] w fun e w' => e = .returned (.tuple #[.int .i64 (sumV zs), .bool (sumB zs)]) ∧ w = w' := by
  obtain ⟨len, hlen'⟩ : ∃ n : Nat, n = zs.length := ⟨_, rfl⟩
  rw [← hlen'] at hlen ⊢
  have HL := Lib.hid hlen'; clear hlen'
  have HC := Lib.hid hc; clear hc
  generalize hv : sumV zs = V
  generalize hb : sumB zs = B
  have HV := Lib.hid hv; clear hv
  have HB := Lib.hid hb; clear hb
  go_enter Try.func22, Try.ntmps22
  go_wp2_with fail
  go_loop [4, 11] (fun t i => ∃ k : Nat, ∃ s : Int, k ≤ len ∧ i = .int .i64 k ∧ t = .int .i64 s ∧ Hid (sumO 0 (zs.take k) = some s)) (fun _ i => len - (intOf i).toNat)
  case atStart => exact ⟨0, 0, Nat.zero_le _, rfl, rfl, Lib.hid (by simp [sumO])⟩
  case round =>
    obtain ⟨k, s, hk, rfl, rfl, HS⟩ := hrel
    by_cases hlt : k < len
    · have hcell := HC.out k (by rw [← HL.out]; exact hlt)
      generalize hz : zs.getD k 0 = z at *
      have HZ := Lib.hid hz; clear hz
      cases hadd : addB s z with
      | true =>
        have e : addV s z = s + z := if_pos hadd
        have hst := sum_step zs k s (by rw [← HL.out]; exact hlt) HS.out (by rw [HZ.out]; exact hadd)
        rw [HZ.out] at hst
        have HST := Lib.hid hst; clear hst
        have HA := Lib.hid hadd; clear hadd
        have HE := Lib.hid e; clear e
        go_wp2_with fail
        refine (add_any _ _ _).mono ?_
        rintro e w' ⟨rfl, rfl⟩
        rw [HA.out, HE.out]
        go_wp2_with fail
        go_round
        case rel => exact ⟨k + 1, s + z, by omega, by go_num, rfl, HST⟩
        case measure => simp [intOf]; omega
      | false =>
        have e : addV s z = 0 := if_neg (by rw [hadd]; decide)
        have hst := sum_stop zs k s (by rw [← HL.out]; exact hlt) HS.out (by rw [HZ.out]; exact hadd)
        have HST := Lib.hid hst; clear hst
        have HA := Lib.hid hadd; clear hadd
        have HE := Lib.hid e; clear e
        go_wp2_with fail
        refine (add_any _ _ _).mono ?_
        rintro e w' ⟨rfl, rfl⟩
        rw [HA.out, HE.out]
        go_wp2_with fail
        go_ret2
        refine ⟨?_, rfl⟩
        rw [← HV.out, ← HB.out]; unfold sumV sumB; rw [HST.out]; rfl
    · have hkl : k = len := by omega
      subst hkl
      have hsm : sumO 0 zs = some s := by have := HS.out; rw [List.take_of_length_le (by rw [HL.out]; exact Nat.le_refl _)] at this; exact this
      have HSM := Lib.hid hsm; clear hsm
      go_wp2_with fail
      go_ret2
      refine ⟨?_, rfl⟩
      rw [← HV.out, ← HB.out]; unfold sumV sumB; rw [HSM.out]; rfl
theorem sum_nil (a : Option Addr) (cap : Nat) (w : World) :
    Calls Try.prog 22 #[.slice a 0 cap] w fun e w' => e = .returned (.tuple #[.int .i64 0, .bool true]) ∧ w = w' := by
  go_enter Try.func22, Try.ntmps22
  go_wp2_with fail
  go_loop [4, 11] (fun t i => i = .int .i64 0 ∧ t = .int .i64 0) (fun _ _ => 0)
  case atStart => exact ⟨rfl, rfl⟩
  case round =>
    obtain ⟨rfl, rfl⟩ := hrel
    go_wp2
    go_ret2
    exact ⟨rfl, rfl⟩

/-! ### jitneyref01 -/
theorem refMay_any (n : Int) (w : World) :
    Calls Try.prog 34 #[.int .i64 n] w fun e w' => e = .returned (.bool (mayB n)) ∧ w = w' := by
  by_cases h1 : -1152921504606846976 ≤ n
  · by_cases h2 : n ≤ 1152921504606846976
    · have hr := mayB_of h1 h2
      generalize mayB n = z at *
      subst hr
      go_enter Try.func34, Try.ntmps34
      go_wp2
      go_ret
      exact ⟨rfl, rfl⟩
    · have hr : mayB n = false := by unfold mayB; simp [h2]
      generalize mayB n = z at *
      subst hr
      go_enter Try.func34, Try.ntmps34
      go_wp2
      go_ret
      exact ⟨rfl, rfl⟩
  · have hr : mayB n = false := by unfold mayB; simp [h1]
    generalize mayB n = z at *
    subst hr
    go_enter Try.func34, Try.ntmps34
    go_wp2
    go_ret
    exact ⟨rfl, rfl⟩
theorem refHeld_any (n low high : Int) (w : World) :
    Calls Try.prog 19 #[.int .i64 n, .int .i64 low, .int .i64 high] w fun e w' => e = .returned (.int .i64 (heldV n low high)) ∧ w = w' := by
  have hfin : (high < n → high < low → heldV n low high = low) ∧ (high < n → low ≤ high → heldV n low high = high) ∧ (n ≤ high → n < low → heldV n low high = low) ∧ (n ≤ high → low ≤ n → heldV n low high = n) := by
    unfold heldV; refine ⟨fun _ _ => ?_, fun _ _ => ?_, fun _ _ => ?_, fun _ _ => ?_⟩ <;> (split <;> try split) <;> omega
  generalize heldV n low high = v at *
  have H := Lib.hid hfin; clear hfin
  by_cases h1 : high < n
  · by_cases h2 : high < low
    · go_enter Try.func19, Try.ntmps19
      go_wp2
      go_ret
      exact ⟨ret_int (H.out.1 h1 h2).symm, rfl⟩
    · go_enter Try.func19, Try.ntmps19
      go_wp2
      go_ret
      exact ⟨ret_int (H.out.2.1 h1 (by omega)).symm, rfl⟩
  · by_cases h2 : n < low
    · go_enter Try.func19, Try.ntmps19
      go_wp2
      go_ret
      exact ⟨ret_int (H.out.2.2.1 (by omega) h2).symm, rfl⟩
    · go_enter Try.func19, Try.ntmps19
      go_wp2
      go_ret
      exact ⟨ret_int (H.out.2.2.2 (by omega) (by omega)).symm, rfl⟩
end Num
end Go.Proofs.Ytcfbondgbhmcaaa
