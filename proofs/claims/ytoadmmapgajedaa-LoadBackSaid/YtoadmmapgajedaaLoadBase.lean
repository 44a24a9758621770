/- Contracts of package load over the translated program: between, may, Right, Fits, Neg, Add; and of the document's answers for layer 4. -/
import Derived.Test.YtoadmmapgajedaaChecked
import Derived.WalkKit
import Derived.WalkLawsBesides
import Derived.WalkSpells
import Derived.Lib.Hide
import Derived.IntWalk
import Derived.BigQuiet
import Derived.Below
import Derived.Deep.QuietTactic
namespace Go.Proofs.Ytoadmmapgajedaa
open Go.RowKit
namespace Load
theorem ret_int {k : IntKind} {a b : Int} (h : a = b) : Ending.returned (.int k a) = .returned (.int k b) := by rw [h]
theorem bcell {W w1 : World} (hb : Below W.heap.size W w1) : (∀ b o, b < W.heap.size → w1.cell? ⟨b, o, none⟩ = W.cell? ⟨b, o, none⟩) ∧ (∀ b o, b < W.heap.size → w1.frozen? ⟨b, o, none⟩ = W.frozen? ⟨b, o, none⟩) :=
  ⟨fun b o h => hb.cell (p := ⟨b, o, none⟩) h, fun b o h => hb.frozen (p := ⟨b, o, none⟩) h⟩

def btw (lo n hi : Int) : Bool := decide (lo ≤ n) && decide (n ≤ hi)
theorem btw_true {lo n hi : Int} (h : btw lo n hi = true) : lo ≤ n ∧ n ≤ hi := by unfold btw at h; simpa using h
theorem btw_of {lo n hi : Int} (h1 : lo ≤ n) (h2 : n ≤ hi) : btw lo n hi = true := by unfold btw; simp [h1, h2]
theorem btw_not {lo n hi : Int} (h : btw lo n hi = false) : n < lo ∨ hi < n := by
  unfold btw at h; simp only [Bool.and_eq_false_iff, decide_eq_false_iff_not] at h; omega
theorem between_any (lo n hi : Int) (w : World) :
    Calls Try.prog 24 #[.int .i64 lo, .int .i64 n, .int .i64 hi] w fun e w' => e = .returned (.bool (btw lo n hi)) ∧ w = w' := by
  by_cases h1 : lo ≤ n
  · by_cases h2 : n ≤ hi
    · have hr := btw_of h1 h2
      generalize btw lo n hi = z at *
      subst hr
      go_enter Try.func24, Try.ntmps24
      go_wp2
      go_ret
      exact ⟨rfl, rfl⟩
    · have hr : btw lo n hi = false := by unfold btw; simp [h2]
      generalize btw lo n hi = z at *
      subst hr
      go_enter Try.func24, Try.ntmps24
      go_wp2
      go_ret
      exact ⟨rfl, rfl⟩
  · have hr : btw lo n hi = false := by unfold btw; simp [h1]
    generalize btw lo n hi = z at *
    subst hr
    go_enter Try.func24, Try.ntmps24
    go_wp2
    go_ret
    exact ⟨rfl, rfl⟩
def mayP (n : Int) : Bool := btw (-1073741824) n 1073741824
def mayL (s t : Int) : Bool := mayP s && mayP t
theorem mayP_true {n : Int} (h : mayP n = true) : -1073741824 ≤ n ∧ n ≤ 1073741824 := btw_true h
theorem mayL_true {s t : Int} (h : mayL s t = true) : (-1073741824 ≤ s ∧ s ≤ 1073741824) ∧ (-1073741824 ≤ t ∧ t ≤ 1073741824) := by
  unfold mayL at h; rw [Bool.and_eq_true] at h; exact ⟨mayP_true h.1, mayP_true h.2⟩
def fitsL (rs rt s t : Int) : Bool := btw 0 s rs && btw 0 t rt
def rightL (s t : Int) : Bool := fitsL 1000 1000 s t
theorem may_any (s t : Int) (w : World) :
    Calls Try.prog 22 #[.agg #[.int .i64 s, .int .i64 t]] w fun e w' => e = .returned (.bool (mayL s t)) ∧ Below w.heap.size w w' := by
  cases h1 : btw (-1073741824) s 1073741824 with
  | true =>
    have hr : mayL s t = btw (-1073741824) t 1073741824 := by unfold mayL mayP; rw [h1]; rfl
    rw [hr]; clear hr
    have H1 := Lib.hid h1; clear h1
    go_enter Try.func22, Try.ntmps22
    go_wp2_with fail
    refine (between_any _ _ _ _).mono ?_
    rintro e w' ⟨rfl, rfl⟩
    rw [H1.out]
    go_wp2_with fail
    refine (between_any _ _ _ _).mono ?_
    rintro e w' ⟨rfl, rfl⟩
    go_wp2_with fail
    go_ret
    exact ⟨rfl, (Below.refl _ _).alloc (Nat.le_refl _) _⟩
  | false =>
    have hr : mayL s t = false := by unfold mayL mayP; rw [h1]; rfl
    rw [hr]; clear hr
    have H1 := Lib.hid h1; clear h1
    go_enter Try.func22, Try.ntmps22
    go_wp2_with fail
    refine (between_any _ _ _ _).mono ?_
    rintro e w' ⟨rfl, rfl⟩
    rw [H1.out]
    go_wp2_with fail
    go_ret
    exact ⟨rfl, (Below.refl _ _).alloc (Nat.le_refl _) _⟩
theorem fits_any (rs rt s t : Int) (w : World) :
    Calls Try.prog 15 #[.agg #[.int .i64 rs, .int .i64 rt], .agg #[.int .i64 s, .int .i64 t]] w fun e w' => e = .returned (.bool (fitsL rs rt s t)) ∧ Below w.heap.size w w' := by
  cases h1 : btw 0 s rs with
  | true =>
    have hr : fitsL rs rt s t = btw 0 t rt := by unfold fitsL; rw [h1]; rfl
    rw [hr]; clear hr
    have H1 := Lib.hid h1; clear h1
    go_enter Try.func15, Try.ntmps15
    go_wp2_with fail
    refine (between_any _ _ _ _).mono ?_
    rintro e w' ⟨rfl, rfl⟩
    rw [H1.out]
    go_wp2_with fail
    refine (between_any _ _ _ _).mono ?_
    rintro e w' ⟨rfl, rfl⟩
    go_wp2_with fail
    go_ret
    exact ⟨rfl, ((Below.refl _ _).alloc (Nat.le_refl _) _).alloc (by simp) _⟩
  | false =>
    have hr : fitsL rs rt s t = false := by unfold fitsL; rw [h1]; rfl
    rw [hr]; clear hr
    have H1 := Lib.hid h1; clear h1
    go_enter Try.func15, Try.ntmps15
    go_wp2_with fail
    refine (between_any _ _ _ _).mono ?_
    rintro e w' ⟨rfl, rfl⟩
    rw [H1.out]
    go_wp2_with fail
    go_ret
    exact ⟨rfl, ((Below.refl _ _).alloc (Nat.le_refl _) _).alloc (by simp) _⟩
theorem right_any (s t : Int) (w : World) :
    Calls Try.prog 13 #[.agg #[.int .i64 s, .int .i64 t]] w fun e w' => e = .returned (.bool (rightL s t)) ∧ Below w.heap.size w w' := by
  show Calls Try.prog 13 #[.agg #[.int .i64 s, .int .i64 t]] w fun e w' => e = .returned (.bool (fitsL 1000 1000 s t)) ∧ Below w.heap.size w w'
  go_enter Try.func13, Try.ntmps13
  go_wp2_with fail
  refine (fits_any _ _ _ _ _).mono ?_
  rintro e w' ⟨rfl, hb⟩
  go_wp2_with fail
  go_ret
  exact ⟨rfl, ((Below.refl _ _).alloc (Nat.le_refl _) _).trans (hb.mono (by simp))⟩
def negV (s t x : Int) : Int := if mayL s t then -x else 0
theorem neg_any (s t : Int) (w : World) :
    Calls Try.prog 11 #[.agg #[.int .i64 s, .int .i64 t]] w fun e w' => e = .returned (.agg #[.int .i64 (negV s t s), .int .i64 (negV s t t)]) ∧ Below w.heap.size w w' := by
  cases h : mayL s t with
  | true =>
    obtain ⟨⟨s1, s2⟩, t1, t2⟩ := mayL_true h
    have hs : negV s t s = -s := by simp [negV, h]
    have ht : negV s t t = -t := by simp [negV, h]
    rw [hs, ht]; clear hs ht
    have H := Lib.hid h; clear h
    go_enter Try.func11, Try.ntmps11
    go_wp2_with fail
    refine (may_any _ _ _).mono ?_
    rintro e w' ⟨rfl, hb⟩
    rw [H.out]
    obtain ⟨hc, hf⟩ := bcell hb
    go_wp2_with fail
    exact bodyPost_ret (v := .agg #[.int .i64 (-s), .int .i64 (-t)]) (by simp [results, Try.results11, go_sem, hc]) rfl ⟨rfl, ((((((Below.refl _ _).alloc (Nat.le_refl _) _).alloc (by simp) _).trans (hb.mono (by simp; omega))).setCell (by simp) _).setCell (by simp) _)⟩
  | false =>
    have hs : negV s t s = 0 := by simp [negV, h]
    have ht : negV s t t = 0 := by simp [negV, h]
    rw [hs, ht]; clear hs ht
    have H := Lib.hid h; clear h
    go_enter Try.func11, Try.ntmps11
    go_wp2_with fail
    refine (may_any _ _ _).mono ?_
    rintro e w' ⟨rfl, hb⟩
    rw [H.out]
    obtain ⟨hc, hf⟩ := bcell hb
    go_wp2_with fail
    exact bodyPost_ret (v := .agg #[.int .i64 0, .int .i64 0]) (by simp [results, Try.results11, go_sem, hc]) rfl ⟨rfl, ((((((Below.refl _ _).alloc (Nat.le_refl _) _).alloc (by simp) _).trans (hb.mono (by simp; omega))).setCell (by simp) _).setCell (by simp) _)⟩
def adB (s t x y : Int) : Bool := mayL s t && mayL x y && mayL (s + x) (t + y)
def adV (c : Bool) (x : Int) : Int := if c then x else 0
theorem adV_true (x : Int) : adV true x = x := rfl
theorem adV_false (x : Int) : adV false x = 0 := rfl
theorem adB_true {s t x y : Int} (h : adB s t x y = true) : mayL s t = true ∧ mayL x y = true ∧ mayL (s + x) (t + y) = true := by
  unfold adB at h; simp only [Bool.and_eq_true] at h; exact ⟨h.1.1, h.1.2, h.2⟩
theorem add_any (s t x y : Int) (w : World) :
    Calls Try.prog 9 #[.agg #[.int .i64 s, .int .i64 t], .agg #[.int .i64 x, .int .i64 y]] w fun e w' =>
      e = .returned (.tuple #[.agg #[.int .i64 (adV (adB s t x y) (s + x)), .int .i64 (adV (adB s t x y) (t + y))], .bool (adB s t x y)]) ∧ Below w.heap.size w w' := by
  cases h1 : mayL s t with
  | false =>
    have hr : adB s t x y = false := by unfold adB; rw [h1]; rfl
    rw [hr, adV_false, adV_false]; clear hr
    have H1 := Lib.hid h1; clear h1
    go_enter Try.func9, Try.ntmps9
    go_wp2_with fail
    refine (may_any _ _ _).mono ?_
    rintro e w1 ⟨rfl, hb⟩
    rw [H1.out]
    obtain ⟨hc, hf⟩ := bcell hb
    go_wp2_with fail
    exact bodyPost_ret (v := .tuple #[.agg #[.int .i64 0, .int .i64 0], .bool false]) (by simp [results, Try.results9, go_sem, hc]) rfl ⟨rfl, (((((((Below.refl _ _).alloc (Nat.le_refl _) _).alloc (by simp) _).alloc (by simp; omega) _).alloc (by simp; omega) _).trans (hb.mono (by simp; omega))).setCell (by simp; omega) _).setCell (by simp; omega) _⟩
  | true =>
  cases h2 : mayL x y with
  | false =>
    have hr : adB s t x y = false := by unfold adB; rw [h1, h2]; rfl
    rw [hr, adV_false, adV_false]; clear hr
    have H1 := Lib.hid h1; clear h1
    have H2 := Lib.hid h2; clear h2
    go_enter Try.func9, Try.ntmps9
    go_wp2_with fail
    refine (may_any _ _ _).mono ?_
    rintro e w1 ⟨rfl, hb⟩
    rw [H1.out]
    obtain ⟨hc, hf⟩ := bcell hb
    go_wp2_with fail
    refine (may_any _ _ _).mono ?_
    rintro e w2 ⟨rfl, hb2⟩
    rw [H2.out]
    replace hb := hb.trans (hb2.mono hb.size)
    clear hc hf hb2
    obtain ⟨hc, hf⟩ := bcell hb
    go_wp2_with fail
    exact bodyPost_ret (v := .tuple #[.agg #[.int .i64 0, .int .i64 0], .bool false]) (by simp [results, Try.results9, go_sem, hc]) rfl ⟨rfl, (((((((Below.refl _ _).alloc (Nat.le_refl _) _).alloc (by simp) _).alloc (by simp; omega) _).alloc (by simp; omega) _).trans (hb.mono (by simp; omega))).setCell (by simp; omega) _).setCell (by simp; omega) _⟩
  | true =>
    obtain ⟨⟨s1, s2⟩, t1, t2⟩ := mayL_true h1
    obtain ⟨⟨x1, x2⟩, y1, y2⟩ := mayL_true h2
    cases h3 : mayL (s + x) (t + y) with
    | false =>
      have hr : adB s t x y = false := by unfold adB; rw [h1, h2, h3]; rfl
      rw [hr, adV_false, adV_false]; clear hr
      have H1 := Lib.hid h1; clear h1
      have H2 := Lib.hid h2; clear h2
      have H3 := Lib.hid h3; clear h3
      go_enter Try.func9, Try.ntmps9
      go_wp2_with fail
      refine (may_any _ _ _).mono ?_
      rintro e w1 ⟨rfl, hb⟩
      rw [H1.out]
      obtain ⟨hc, hf⟩ := bcell hb
      go_wp2_with fail
      refine (may_any _ _ _).mono ?_
      rintro e w2 ⟨rfl, hb2⟩
      rw [H2.out]
      replace hb := hb.trans (hb2.mono hb.size)
      clear hc hf hb2
      obtain ⟨hc, hf⟩ := bcell hb
      go_wp2_with fail
      refine (may_any _ _ _).mono ?_
      rintro e w3 ⟨rfl, hb3⟩
      rw [H3.out]
      replace hb := hb.trans (hb3.mono hb.size)
      clear hc hf hb3
      obtain ⟨hc, hf⟩ := bcell hb
      go_wp2_with fail
      exact bodyPost_ret (v := .tuple #[.agg #[.int .i64 0, .int .i64 0], .bool false]) (by simp [results, Try.results9, go_sem, hc]) rfl ⟨rfl, (((((((Below.refl _ _).alloc (Nat.le_refl _) _).alloc (by simp) _).alloc (by simp; omega) _).alloc (by simp; omega) _).trans (hb.mono (by simp; omega))).setCell (by simp; omega) _).setCell (by simp; omega) _⟩
    | true =>
      have hr : adB s t x y = true := by unfold adB; rw [h1, h2, h3]; rfl
      rw [hr, adV_true, adV_true]; clear hr
      have H1 := Lib.hid h1; clear h1
      have H2 := Lib.hid h2; clear h2
      have H3 := Lib.hid h3; clear h3
      go_enter Try.func9, Try.ntmps9
      go_wp2_with fail
      refine (may_any _ _ _).mono ?_
      rintro e w1 ⟨rfl, hb⟩
      rw [H1.out]
      obtain ⟨hc, hf⟩ := bcell hb
      go_wp2_with fail
      refine (may_any _ _ _).mono ?_
      rintro e w2 ⟨rfl, hb2⟩
      rw [H2.out]
      replace hb := hb.trans (hb2.mono hb.size)
      clear hc hf hb2
      obtain ⟨hc, hf⟩ := bcell hb
      go_wp2_with fail
      refine (may_any _ _ _).mono ?_
      rintro e w3 ⟨rfl, hb3⟩
      rw [H3.out]
      replace hb := hb.trans (hb3.mono hb.size)
      clear hc hf hb3
      obtain ⟨hc, hf⟩ := bcell hb
      go_wp2_with fail
      exact bodyPost_ret (v := .tuple #[.agg #[.int .i64 (s + x), .int .i64 (t + y)], .bool true]) (by simp [results, Try.results9, go_sem, hc]) rfl ⟨rfl, (((((((Below.refl _ _).alloc (Nat.le_refl _) _).alloc (by simp) _).alloc (by simp; omega) _).alloc (by simp; omega) _).trans (hb.mono (by simp; omega))).setCell (by simp; omega) _).setCell (by simp; omega) _⟩
end Load
end Go.Proofs.Ytoadmmapgajedaa
