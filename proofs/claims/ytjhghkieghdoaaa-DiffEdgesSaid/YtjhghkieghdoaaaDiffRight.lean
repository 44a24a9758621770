/- Right and Holds of package diff, over the translated program. -/
import Derived.Test.YtjhghkieghdoaaaDiffBase
namespace Go.Proofs.Ytjhghkieghdoaaa
open Go.RowKit Go.Lib
namespace Diff
set_option linter.unusedVariables false
theorem contains_es (a : Option Addr) (m c : Nat) (f t g : Nat → Int) (p : Nat → Bool) (fn : Nat) (lb : Array Value) (w : World) (eg : ∀ args w, (callFunc fn args).run Try.prog w = .ok (.enter fn args) w) (he : IsEs w a m f t g) (hm : m ≤ 100000000)
    (hp : ∀ j, j < m → ∀ W, Below w.heap.size w W → Calls Try.prog fn (#[.agg #[.int .i64 (f j), .int .i64 (t j), .int .i64 (g j)]] ++ lb) W fun e w' => e = .returned (.bool (p j)) ∧ Below W.heap.size W w') :
    Calls Try.prog 22 #[.slice a m c, .func (.func fn) #[] lb] w fun e w' => e = .returned (.bool (anyTo p m)) ∧ Below w.heap.size w w' := by
  have h := index_es a m c f t g p fn lb w eg he hm hp
  have H := Lib.hid h; clear h hp he eg
  go_enter Try.func22, Try.ntmps22
  go_wp2_with fail
  refine H.out.mono ?_
  rintro e w' ⟨i, rfl, h1, h2⟩
  have H1 := Lib.hid h1; clear h1
  have H2 := Lib.hid h2; clear h2
  go_wp2_with fail
  go_ret
  exact ⟨ret_bool H1.out, H2.out⟩
def rightB (n : Int) (m : Nat) (f t g : Nat → Int) : Bool := decide (1 ≤ n) && !anyTo (fun j => badE n (f j) (t j) (g j)) m
theorem rightB_iff {n : Int} {m : Nat} {f t g : Nat → Int} : rightB n m f t g = true ↔ 1 ≤ n ∧ ∀ j, j < m → (0 ≤ f j ∧ f j < n) ∧ (0 ≤ t j ∧ t j < n) ∧ -2199023255552 ≤ g j ∧ g j ≤ 2199023255552 := by
  unfold rightB
  simp only [Bool.and_eq_true, decide_eq_true_eq, Bool.not_eq_true', anyTo_false, badE_false]
set_option maxHeartbeats 1000000 in
theorem right_any (n : Int) (a : Option Addr) (m c : Nat) (f t g : Nat → Int) (w : World) (he : IsEs w a m f t g) (hm : m ≤ 201) (hn : n ≤ 60) (hn0 : -9223372036854775808 ≤ n) :
    Calls Try.prog 11 #[.int .i64 n, .slice a m c] w fun e w' => e = .returned (.bool (rightB n m f t g)) ∧ Below w.heap.size w w' := by
  have hb : Below w.heap.size w (w.alloc (.cells #[.int .i64 n] 3)) := (Below.refl _ _).alloc (Nat.le_refl _) _
  have hE := he.below hb
  have hcell : (w.alloc (.cells #[.int .i64 n] 3)).cell? ⟨w.heap.size, 0, none⟩ = some (.int .i64 n) := by simp [go_sem]
  have hcall := contains_es a m c f t g (fun j => badE n (f j) (t j) (g j)) 23 #[.pointer (some ⟨w.heap.size, 0, none⟩)] (w.alloc (.cells #[.int .i64 n] 3)) (fun _ _ => rfl) hE (by omega)
    (fun j hj W hW => right1_any w.heap.size n (f j) (t j) (g j) W ((hW.cell (by simp)).trans hcell))
  have HB := Lib.hid hb; clear hb
  have HC := Lib.hid hcall; clear hcall hE he hcell
  by_cases h1 : 1 ≤ n
  · have hr : rightB n m f t g = !anyTo (fun j => badE n (f j) (t j) (g j)) m := by unfold rightB; simp [h1]
    rw [hr]; clear hr
    generalize anyTo (fun j => badE n (f j) (t j) (g j)) m = z at *
    go_enter Try.func11, Try.ntmps11
    go_wp2_with fail
    refine HC.out.mono ?_
    rintro e w' ⟨rfl, hb⟩
    have HB2 := Lib.hid (HB.out.trans (hb.mono HB.out.size)); clear hb
    go_wp2_with fail
    go_ret
    exact ⟨rfl, HB2.out⟩
  · have hr : rightB n m f t g = false := by unfold rightB; simp [h1]
    rw [hr]; clear hr
    go_enter Try.func11, Try.ntmps11
    go_wp2_with fail
    go_ret
    exact ⟨rfl, HB.out⟩
/-! ### Holds -/
/-- a slice of numbers: nil or empty, or a row of cells -/
def IsXs (w : World) (a : Option Addr) (n : Nat) (x : Nat → Int) : Prop :=
  n = 0 ∨ ∃ b off, a = some ⟨b, off, none⟩ ∧ b < w.heap.size ∧ n ≤ maxLen ∧ ∀ j, j < n → w.cell? ⟨b, off + j, none⟩ = some (.int .i64 (x j))
theorem IsXs.below {w w' : World} {a : Option Addr} {n : Nat} {x : Nat → Int} (h : IsXs w a n x) (hb : Below w.heap.size w w') : IsXs w' a n x := by
  rcases h with h | ⟨b, off, h1, h2, h3, h4⟩
  · exact .inl h
  · exact .inr ⟨b, off, h1, Nat.lt_of_lt_of_le h2 hb.size, h3, fun j hj => (hb.cell (p := ⟨b, off + j, none⟩) h2).trans (h4 j hj)⟩
def outB (x : Int) : Bool := decide (x < -1152921504606846976) || decide (1152921504606846976 < x)
theorem outB_false {x : Int} : outB x = false ↔ -1152921504606846976 ≤ x ∧ x ≤ 1152921504606846976 := by unfold outB; simp only [Bool.or_eq_false_iff, decide_eq_false_iff_not]; omega
theorem hold1_any (x : Int) (w : World) : Calls Try.prog 27 #[.int .i64 x] w fun e w' => e = .returned (.bool (outB x)) ∧ Below w.heap.size w w' := by
  by_cases h1 : x < -1152921504606846976
  · have hr : outB x = true := by unfold outB; simp [h1]
    generalize outB x = z at *
    subst hr
    go_enter Try.func27, Try.ntmps27
    go_wp2
    go_ret
    exact ⟨rfl, Below.refl _ _⟩
  · have hd : decide (x < -1152921504606846976) = false := by simp; omega
    have hr : outB x = decide (1152921504606846976 < x) := by unfold outB; simp [hd]
    rw [hr]; clear hr
    go_enter Try.func27, Try.ntmps27
    go_wp2
    go_ret
    exact ⟨rfl, Below.refl _ _⟩
set_option maxHeartbeats 1000000 in
theorem index_xs (a : Option Addr) (m c : Nat) (x : Nat → Int) (p : Nat → Bool) (fn : Nat) (w : World) (eg : ∀ args w, (callFunc fn args).run Try.prog w = .ok (.enter fn args) w) (he : IsXs w a m x) (hm : m ≤ 100000000)
    (hp : ∀ j, j < m → ∀ W, Below w.heap.size w W → Calls Try.prog fn #[.int .i64 (x j)] W fun e w' => e = .returned (.bool (p j)) ∧ Below W.heap.size W w') :
    Calls Try.prog 34 #[.slice a m c, .func (.func fn) #[] #[]] w fun e w' => ∃ i : Int, e = .returned (.int .i64 i) ∧ decide (0 ≤ i) = anyTo p m ∧ Below w.heap.size w w' := by
  have HE := Lib.hid he; clear he
  have HP := Lib.hid hp; clear hp
  have EG := Lib.hid eg; clear eg
  go_enter Try.func34, Try.ntmps34
  go_wp2_with fail
  go_loopg [5, 8] m (fun gg _ s8 wr => ∃ k : Nat, k ≤ m ∧ m - k ≤ gg ∧ s8 = .int .i64 k ∧ Hid (Below w.heap.size w wr) ∧ Hid (anyTo p k = false))
  case atStart => exact ⟨0, Nat.zero_le _, by omega, rfl, Lib.hid (Below.refl _ _), Lib.hid rfl⟩
  case round =>
    obtain ⟨k, hk, hg, rfl, BW, AN⟩ := hrel
    by_cases hlt : k < m
    · rcases HE.out with h0 | ⟨b, off, rfl, hb, hmx, hc⟩
      · omega
      · have c0 := hc k hlt
        have d0 := (BW.out.cell (p := ⟨b, off + k, none⟩) hb).trans c0
        have hcall := HP.out k hlt wr BW.out
        clear hc hmx c0
        have eg := EG.out
        cases hq : p k with
        | true =>
          rw [hq] at hcall
          have HQ := Lib.hid hq; clear hq
          have HC := Lib.hid hcall; clear hcall
          go_wp2_with fail
          refine HC.out.mono ?_
          rintro e w' ⟨rfl, hb⟩
          have HB := Lib.hid hb
          clear hb eg d0
          go_wp2_with fail
          go_ret
          exact ⟨_, rfl, by rw [anyTo_iff.2 ⟨k, hlt, HQ.out⟩]; simp, BW.out.trans (HB.out.mono BW.out.size)⟩
        | false =>
          rw [hq] at hcall
          have HQ := Lib.hid hq; clear hq
          have HC := Lib.hid hcall; clear hcall
          go_wp2_with fail
          refine HC.out.mono ?_
          rintro e w' ⟨rfl, hb⟩
          have HB := Lib.hid hb
          clear hb eg d0
          go_wp2_with fail
          go_roundg (m - (k + 1))
          case measure => omega
          case rel => exact ⟨k + 1, by omega, by omega, by go_num, Lib.hid (BW.out.trans (HB.out.mono BW.out.size)), Lib.hid (by unfold anyTo; rw [AN.out, HQ.out]; rfl)⟩
    · obtain rfl : k = m := by omega
      go_wp2_with fail
      go_ret
      exact ⟨_, rfl, by rw [AN.out]; rfl, BW.out⟩
theorem contains_xs (a : Option Addr) (m c : Nat) (x : Nat → Int) (p : Nat → Bool) (fn : Nat) (w : World) (eg : ∀ args w, (callFunc fn args).run Try.prog w = .ok (.enter fn args) w) (he : IsXs w a m x) (hm : m ≤ 100000000)
    (hp : ∀ j, j < m → ∀ W, Below w.heap.size w W → Calls Try.prog fn #[.int .i64 (x j)] W fun e w' => e = .returned (.bool (p j)) ∧ Below W.heap.size W w') :
    Calls Try.prog 26 #[.slice a m c, .func (.func fn) #[] #[]] w fun e w' => e = .returned (.bool (anyTo p m)) ∧ Below w.heap.size w w' := by
  have h := index_xs a m c x p fn w eg he hm hp
  have H := Lib.hid h; clear h hp he eg
  go_enter Try.func26, Try.ntmps26
  go_wp2_with fail
  refine H.out.mono ?_
  rintro e w' ⟨i, rfl, h1, h2⟩
  have H1 := Lib.hid h1; clear h1
  have H2 := Lib.hid h2; clear h2
  go_wp2_with fail
  go_ret
  exact ⟨ret_bool H1.out, H2.out⟩
/-- an edge that does not hold of numbers -/
def violB (n : Nat) (x : Nat → Int) (f t g : Int) : Bool := !(inB f n) || !(inB t n) || decide (g < x t.toNat - x f.toNat)
def holdsB (m : Nat) (f t g : Nat → Int) (n : Nat) (x : Nat → Int) : Bool := !anyTo (fun j => outB (x j)) n && !anyTo (fun j => violB n x (f j) (t j) (g j)) m
theorem holdsB_iff {m : Nat} {f t g : Nat → Int} {n : Nat} {x : Nat → Int} : holdsB m f t g n x = true ↔ (∀ j, j < n → -1152921504606846976 ≤ x j ∧ x j ≤ 1152921504606846976) ∧ ∀ j, j < m → (0 ≤ f j ∧ f j < n) ∧ (0 ≤ t j ∧ t j < n) ∧ x (t j).toNat - x (f j).toNat ≤ g j := by
  unfold holdsB
  simp only [Bool.and_eq_true, Bool.not_eq_true', anyTo_false, outB_false]
  refine and_congr_right fun _ => forall_congr' fun j => forall_congr' fun _ => ?_
  unfold violB
  simp only [Bool.or_eq_false_iff, Bool.not_eq_false', inB_iff, decide_eq_false_iff_not, Int.not_lt, and_assoc]
set_option maxHeartbeats 1000000 in
theorem hold2_any (A : Nat) (n c : Nat) (x : Nat → Int) (xa : Option Addr) (f t g : Int) (w : World) (hA : w.cell? ⟨A, 0, none⟩ = some (.slice xa n c)) (hx : IsXs w xa n x) (hn : n ≤ 60) (hb : ∀ j, j < n → -1152921504606846976 ≤ x j ∧ x j ≤ 1152921504606846976) :
    Calls Try.prog 28 #[.agg #[.int .i64 f, .int .i64 t, .int .i64 g], .pointer (some ⟨A, 0, none⟩)] w fun e w' => e = .returned (.bool (violB n x f t g)) ∧ Below w.heap.size w w' := by
  have hlt := World.block_lt_of_cell? _ _ hA
  have hne : A ≠ w.heap.size := by simp at hlt; omega
  have hB : Below w.heap.size w (w.alloc (.cells #[.int .i64 f, .int .i64 t, .int .i64 g] 42)) := (Below.refl _ _).alloc (Nat.le_refl _) _
  have HB := Lib.hid hB; clear hB
  have HX := Lib.hid hx; clear hx
  have HXB := Lib.hid hb; clear hb
  cases h1 : inB f n with
  | false =>
    have hr : violB n x f t g = true := by unfold violB; simp [h1]
    rw [hr]; clear hr
    go_enter Try.func28, Try.ntmps28
    go_wp2_with fail
    go_quiet ((go_at_call 20; exact Calls.quiet_of_same ((isIn_any _ _ _).mono fun _ _ ⟨a, b⟩ => And.intro a b.symm)))
    go_wp2_with fail
    go_ret
    exact ⟨rfl, below_drewN HB.out _⟩
  | true =>
    obtain ⟨f0, f1⟩ := inB_iff.1 h1
    cases h2 : inB t n with
    | false =>
      have hr : violB n x f t g = true := by unfold violB; simp [h1, h2]
      rw [hr]; clear hr
      go_enter Try.func28, Try.ntmps28
      go_wp2_with fail
      go_quiet ((go_at_call 20; exact Calls.quiet_of_same ((isIn_any _ _ _).mono fun _ _ ⟨a, b⟩ => And.intro a b.symm)))
      go_wp2_with fail
      go_ret
      exact ⟨rfl, below_drewN HB.out _⟩
    | true =>
      obtain ⟨t0, t1⟩ := inB_iff.1 h2
      have hr : violB n x f t g = decide (g < x t.toNat - x f.toNat) := by unfold violB; simp [h1, h2]
      rw [hr]; clear hr
      obtain ⟨F, rfl⟩ := Int.eq_ofNat_of_zero_le f0
      obtain ⟨T, rfl⟩ := Int.eq_ofNat_of_zero_le t0
      rw [Int.toNat_natCast, Int.toNat_natCast]
      rcases HX.out with h0 | ⟨b, off, rfl, hb, hmx, hc⟩
      · omega
      · have cF := hc F (by omega)
        have cT := hc T (by omega)
        have bF := HXB.out F (by omega)
        have bT := HXB.out T (by omega)
        clear hc hmx HX HXB
        generalize x F = xf at *
        generalize x T = xt at *
        have hbne : b ≠ w.heap.size := by omega
        have hwr : IntKind.i64.wrap (xt - xf) = xt - xf := IntWalk.i64_in _ (by omega)
        have hf' : F < n := by omega
        have ht' : T < n := by omega
        go_enter Try.func28, Try.ntmps28
        go_wp2_with fail
        go_quiet ((go_at_call 20; exact Calls.quiet_of_same ((isIn_any _ _ _).mono fun _ _ ⟨a, b⟩ => And.intro a b.symm)))
        go_wp2_with fail
        go_ret
        exact ⟨rfl, below_drewN HB.out _⟩
end Diff
end Go.Proofs.Ytjhghkieghdoaaa
