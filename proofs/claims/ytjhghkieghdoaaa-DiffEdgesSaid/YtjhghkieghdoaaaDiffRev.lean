/- slices.Reverse of a row of numbers, over the translated program. -/
import Derived.Test.YtjhghkieghdoaaaDiffBase
import Derived.Shelf.RegionOpenPlain
namespace Go.Proofs.Ytjhghkieghdoaaa
open Go.RowKit Go.Lib
namespace Diff
set_option linter.unusedVariables false
/-- k exchanges of a row turned round -/
def revK (n : Nat) (f : Nat → Int) (k : Nat) : Nat → Int := fun v => if v < k ∨ n - 1 - k < v then f (n - 1 - v) else f v
theorem revK_next {n k : Nat} {f : Nat → Int} (h : k + k + 1 < n) : ∀ v, v < n → put (put (revK n f k) k (f (n - 1 - k))) (n - 1 - k) (f k) v = revK n f (k + 1) v := by
  intro v hv
  unfold put revK
  by_cases e1 : v = n - 1 - k
  · subst e1
    rw [if_pos rfl, if_pos (by omega), show n - 1 - (n - 1 - k) = k from by omega]
  · rw [if_neg e1]
    by_cases e2 : v = k
    · subst e2
      rw [if_pos rfl, if_pos (by omega)]
    · rw [if_neg e2]
      by_cases e3 : v < k ∨ n - 1 - k < v
      · rw [if_pos e3, if_pos (by omega)]
      · rw [if_neg e3, if_neg (by omega)]
theorem revK_end {n k : Nat} {f : Nat → Int} (h : n ≤ k + k + 1) : ∀ v, v < n → revK n f k v = f (n - 1 - v) := by
  intro v hv
  unfold revK
  split
  · rfl
  · rw [show n - 1 - v = v from by omega]
set_option maxHeartbeats 2000000 in
theorem rev_any (n g c : Nat) (f : Nat → Int) (w : World) (hB : IsB w g n f) (hn : n ≤ 1000) (h0 : 1 ≤ n) :
    Calls Try.prog 33 #[.slice (some ⟨g, 0, none⟩) n c] w fun e w' => e = .returned (.tuple #[]) ∧ Turned [g] w w' ∧ IsB w' g n (fun i => f (n - 1 - i)) := by
  have hB0 := hB.congr (g := revK n f 0) fun v hv => by unfold revK; rw [if_neg (by omega)]
  have HB := Lib.hid hB0; clear hB hB0
  go_enter Try.func33, Try.ntmps33
  go_wp2_with fail
  go_loopg [2, 3] n (fun gg s2 s3 wr => ∃ (k : Nat) (z : Int), k + k ≤ n ∧ n - k ≤ gg ∧ s2 = .int .i64 k ∧ s3 = .int .i64 z ∧ z = (n : Int) - 1 - k ∧ Hid (IsB wr g n (revK n f k)) ∧ Hid (Turned [g] w wr))
  case atStart => exact ⟨0, (n : Int) - 1, by omega, by omega, rfl, rfl, by omega, HB, Lib.hid (Turned.refl _ _)⟩
  case round =>
    obtain ⟨k, z, hk, hg, rfl, rfl, hz, HB1, HT⟩ := hrel
    by_cases hlt : k + k + 1 < n
    · obtain ⟨j, hj⟩ : ∃ j, j = n - 1 - k := ⟨_, rfl⟩
      obtain rfl : z = (j : Int) := by omega
      have hkj : k < j := by omega
      have hjn : j < n := by omega
      have hkn : k < n := by omega
      have ck := HB1.out.at hkn
      have cj := HB1.out.at hjn
      have fk := HB1.out.fz k
      have fj := HB1.out.fz j
      have hvk : revK n f k k = f k := by unfold revK; rw [if_neg (by omega)]
      have hvj : revK n f k j = f (n - 1 - k) := by unfold revK; rw [if_neg (by omega), hj]
      rw [hvk] at ck
      rw [hvj] at cj
      have HB2 := Lib.hid ((((HB1.out.set k (f (n - 1 - k))).set j (f k))).congr (g := revK n f (k + 1)) fun v hv => by rw [hj]; exact revK_next hlt v hv)
      have HT2 := Lib.hid ((HT.out.set (a := ⟨g, k, none⟩) (.inl (by simp)) (.int .i64 (f (n - 1 - k)))).set (a := ⟨g, j, none⟩) (.inl (by simp)) (.int .i64 (f k)))
      have HJ := Lib.hid hj
      clear hz hvk hvj hj
      generalize f (n - 1 - k) = x at *
      generalize f k = y at *
      go_wp2_with fail
      go_region
      all_goals
        go_wp2_with fail
        go_roundg (n - (k + 1))
        case measure => omega
        case rel => exact ⟨k + 1, (j : Int) - 1, by omega, by omega, by go_num, rfl, by have := HJ.out; omega, Lib.hid (HB2.out.kept (by rfl)), Lib.hid HT2.out.drew⟩
    · have hend := HB1.out.congr (revK_end (f := f) (by omega))
      have HE := Lib.hid hend; clear hend
      have hx : ¬ ((k : Int) < z) := by omega
      go_wp2_with fail
      go_end0
      exact ⟨rfl, HT.out, HE.out⟩
end Diff
end Go.Proofs.Ytjhghkieghdoaaa
