/- The document's answer whether a system is right, and whether numbers hold (jitneyref07.Right, Holds). -/
import Derived.Test.YtjhghkieghdoaaaDiffRight
namespace Go.Proofs.Ytjhghkieghdoaaa
open Go.RowKit Go.Lib
namespace Diff
set_option linter.unusedVariables false
theorem bad_cases {n x y z : Int} (h : badE n x y z = true) : x < 0 ∨ (0 ≤ x ∧ n ≤ x) ∨ (0 ≤ x ∧ x < n ∧ y < 0) ∨ (0 ≤ x ∧ x < n ∧ 0 ≤ y ∧ n ≤ y) ∨ (0 ≤ x ∧ x < n ∧ 0 ≤ y ∧ y < n ∧ z < -2199023255552) ∨ (0 ≤ x ∧ x < n ∧ 0 ≤ y ∧ y < n ∧ -2199023255552 ≤ z ∧ 2199023255552 < z) := by
  rcases Classical.em ((0 ≤ x ∧ x < n) ∧ (0 ≤ y ∧ y < n) ∧ -2199023255552 ≤ z ∧ z ≤ 2199023255552) with h' | h'
  · rw [badE_false.2 h'] at h; cases h
  · omega
set_option maxHeartbeats 4000000 in
theorem refRight_any (n : Int) (a : Option Addr) (m c : Nat) (f t g : Nat → Int) (w : World) (he : IsEs w a m f t g) (hm : m ≤ 201) (hn : n ≤ 60) (hn0 : -9223372036854775808 ≤ n) :
    Calls Try.prog 10 #[.int .i64 n, .slice a m c] w fun e w' => e = .returned (.bool (rightB n m f t g)) ∧ Below w.heap.size w w' := by
  have HE := Lib.hid he; clear he
  by_cases h1 : 1 ≤ n
  · have hr : rightB n m f t g = !anyTo (fun j => badE n (f j) (t j) (g j)) m := by unfold rightB; simp [h1]
    have HR := Lib.hid hr; clear hr
    go_enter Try.func10, Try.ntmps10
    go_wp2_with fail
    go_loopg [5, 6] m (fun gg s5 _ wr => ∃ k : Nat, k ≤ m ∧ m - k ≤ gg ∧ s5 = .int .i64 k ∧ Hid (Below w.heap.size w wr) ∧ Hid (anyTo (fun j => badE n (f j) (t j) (g j)) k = false))
    case atStart => exact ⟨0, Nat.zero_le _, by omega, rfl, Lib.hid (Below.refl _ _), Lib.hid rfl⟩
    case round =>
      obtain ⟨k, hk, hg, rfl, BW, AN⟩ := hrel
      by_cases hlt : k < m
      · rcases HE.out with h0 | ⟨b, off, rfl, hb, hmx, hc⟩
        · omega
        · obtain ⟨c0, c1, c2⟩ := hc k hlt
          have d0 := (BW.out.cell hb).trans c0
          have d1 := (BW.out.cell hb).trans c1
          have d2 := (BW.out.cell hb).trans c2
          clear hc hmx c0 c1 c2
          have hany : anyTo (fun j => badE n (f j) (t j) (g j)) m = true ↔ ∃ i, i < m ∧ badE n (f i) (t i) (g i) = true := anyTo_iff
          have HANY := Lib.hid hany; clear hany
          have hal := BW.out.alloc (B := w.heap.size) BW.out.size (.cells #[.int .i64 (f k), .int .i64 (t k), .int .i64 (g k)] 42)
          have HAL := Lib.hid hal; clear hal
          cases hq : badE n (f k) (t k) (g k) with
          | true =>
            have hfin : rightB n m f t g = false := by rw [HR.out, HANY.out.2 ⟨k, hlt, hq⟩]; rfl
            have HF := Lib.hid hfin; clear hfin
            have hcs := bad_cases hq
            clear hq
            generalize f k = x at *
            generalize t k = y at *
            generalize g k = z at *
            rcases hcs with h | ⟨e1, e2⟩ | ⟨e1, e2, e3⟩ | ⟨e1, e2, e3, e4⟩ | ⟨e1, e2, e3, e4, e5⟩ | ⟨e1, e2, e3, e4, e5, e6⟩
            all_goals
              (try have hz1 : decide (z < -2199023255552) = false := by simp; omega)
              go_wp2_with fail
              go_ret
              exact ⟨ret_bool HF.out.symm, HAL.out⟩
          | false =>
            obtain ⟨⟨e1, e2⟩, ⟨e3, e4⟩, e5, e6⟩ := badE_false.1 hq
            have han : anyTo (fun j => badE n (f j) (t j) (g j)) (k + 1) = false := by unfold anyTo; rw [AN.out, hq]; rfl
            have HAN1 := Lib.hid han; clear han hq
            generalize f k = x at *
            generalize t k = y at *
            generalize g k = z at *
            have hz1 : decide (z < -2199023255552) = false := by simp; omega
            have hz2 : decide (2199023255552 < z) = false := by simp; omega
            go_wp2_with fail
            go_roundg (m - (k + 1))
            case measure => omega
            case rel => exact ⟨k + 1, by omega, by omega, by go_num, HAL, HAN1⟩
      · obtain rfl : k = m := by omega
        go_wp2_with fail
        go_ret
        exact ⟨ret_bool (by rw [HR.out, AN.out]; rfl), BW.out⟩
  · have hr : rightB n m f t g = false := by unfold rightB; simp [h1]
    rw [hr]; clear hr
    go_enter Try.func10, Try.ntmps10
    go_wp2_with fail
    go_ret
    exact ⟨rfl, Below.refl _ _⟩
end Diff
end Go.Proofs.Ytjhghkieghdoaaa
