/- Contracts of load.between, may, Right, Fits, Neg and jitneyref04.Right for the seat of SheetParses (XLoadBase, XLoadRef have the others). -/
import Derived.Test.YtjmhlabgoegeoaaGreatDoorChecked
import Derived.WalkKit
import Derived.WalkLawsBesides
import Derived.WalkSpells
import Derived.Lib.Hide
import Derived.IntWalk
import Derived.BigQuiet
import Derived.Below
import Derived.Deep.QuietTactic
namespace Go.Proofs.YtjmhlabgoegeoaaGreatDoor
open Go.RowKit
namespace Load
theorem ret_int {k : IntKind} {a b : Int} (h : a = b) : Ending.returned (.int k a) = .returned (.int k b) := by rw [h]
theorem bcell {W w1 : World} (hb : Below W.heap.size W w1) : (∀ b o, b < W.heap.size → w1.cell? ⟨b, o, none⟩ = W.cell? ⟨b, o, none⟩) ∧ (∀ b o, b < W.heap.size → w1.frozen? ⟨b, o, none⟩ = W.frozen? ⟨b, o, none⟩) :=
  ⟨fun b o h => hb.cell (p := ⟨b, o, none⟩) h, fun b o h => hb.frozen (p := ⟨b, o, none⟩) h⟩

def btw (lo n hi : Int) : Bool := decide (lo ≤ n) && decide (n ≤ hi)
theorem btw_true {lo n hi : Int} (h : btw lo n hi = true) : lo ≤ n ∧ n ≤ hi := by unfold btw at h; simpa using h
theorem btw_of {lo n hi : Int} (h1 : lo ≤ n) (h2 : n ≤ hi) : btw lo n hi = true := by unfold btw; simp [h1, h2]
theorem btw_not {lo n hi : Int} (h : btw lo n hi = false) : n < lo ∨ hi < n := by
  unfold btw at h; simp only [Bool.and_eq_false_iff, decide_eq_false_iff_not] at h; omega
theorem between_any (lo n hi : Int) (w : World) :
    Calls Tryz.prog 104 #[.int .i64 lo, .int .i64 n, .int .i64 hi] w fun e w' => e = .returned (.bool (btw lo n hi)) ∧ w = w' := by
  by_cases h1 : lo ≤ n
  · by_cases h2 : n ≤ hi
    · have hr := btw_of h1 h2
      generalize btw lo n hi = z at *
      subst hr
      go_enter Tryz.func104, Tryz.ntmps104
      go_wp2
      go_ret
      exact ⟨rfl, rfl⟩
    · have hr : btw lo n hi = false := by unfold btw; simp [h2]
      generalize btw lo n hi = z at *
      subst hr
      go_enter Tryz.func104, Tryz.ntmps104
      go_wp2
      go_ret
      exact ⟨rfl, rfl⟩
  · have hr : btw lo n hi = false := by unfold btw; simp [h1]
    generalize btw lo n hi = z at *
    subst hr
    go_enter Tryz.func104, Tryz.ntmps104
    go_wp2
    go_ret
    exact ⟨rfl, rfl⟩
def mayP (n : Int) : Bool := btw (-1073741824) n 1073741824
def mayL (s t : Int) : Bool := mayP s && mayP t
theorem mayP_true {n : Int} (h : mayP n = true) : -1073741824 ≤ n ∧ n ≤ 1073741824 := btw_true h
theorem mayL_true {s t : Int} (h : mayL s t = true) : (-1073741824 ≤ s ∧ s ≤ 1073741824) ∧ (-1073741824 ≤ t ∧ t ≤ 1073741824) := by
  unfold mayL at h; rw [Bool.and_eq_true] at h; exact ⟨mayP_true h.1, mayP_true h.2⟩
def fitsL (rs rt s t : Int) : Bool := btw 0 s rs && btw 0 t rt
def rightL (s t : Int) : Bool := fitsL 1000 1000 s t
theorem may_any (s t : Int) (w : World) :
    Calls Tryz.prog 88 #[.agg #[.int .i64 s, .int .i64 t]] w fun e w' => e = .returned (.bool (mayL s t)) ∧ Below w.heap.size w w' := by
  cases h1 : btw (-1073741824) s 1073741824 with
  | true =>
    have hr : mayL s t = btw (-1073741824) t 1073741824 := by unfold mayL mayP; rw [h1]; rfl
    rw [hr]; clear hr
    have H1 := Lib.hid h1; clear h1
    go_enter Tryz.func88, Tryz.ntmps88
    go_wp2_with fail
    refine (between_any _ _ _ _).mono ?_
    rintro e w' ⟨rfl, rfl⟩
    rw [H1.out]
    go_wp2_with fail
    refine (between_any _ _ _ _).mono ?_
    rintro e w' ⟨rfl, rfl⟩
    go_wp2_with fail
    go_ret
    exact ⟨rfl, (Below.refl _ _).alloc (Nat.le_refl _) _⟩
  | false =>
    have hr : mayL s t = false := by unfold mayL mayP; rw [h1]; rfl
    rw [hr]; clear hr
    have H1 := Lib.hid h1; clear h1
    go_enter Tryz.func88, Tryz.ntmps88
    go_wp2_with fail
    refine (between_any _ _ _ _).mono ?_
    rintro e w' ⟨rfl, rfl⟩
    rw [H1.out]
    go_wp2_with fail
    go_ret
    exact ⟨rfl, (Below.refl _ _).alloc (Nat.le_refl _) _⟩
theorem fits_any (rs rt s t : Int) (w : World) :
    Calls Tryz.prog 87 #[.agg #[.int .i64 rs, .int .i64 rt], .agg #[.int .i64 s, .int .i64 t]] w fun e w' => e = .returned (.bool (fitsL rs rt s t)) ∧ Below w.heap.size w w' := by
  cases h1 : btw 0 s rs with
  | true =>
    have hr : fitsL rs rt s t = btw 0 t rt := by unfold fitsL; rw [h1]; rfl
    rw [hr]; clear hr
    have H1 := Lib.hid h1; clear h1
    go_enter Tryz.func87, Tryz.ntmps87
    go_wp2_with fail
    refine (between_any _ _ _ _).mono ?_
    rintro e w' ⟨rfl, rfl⟩
    rw [H1.out]
    go_wp2_with fail
    refine (between_any _ _ _ _).mono ?_
    rintro e w' ⟨rfl, rfl⟩
    go_wp2_with fail
    go_ret
    exact ⟨rfl, ((Below.refl _ _).alloc (Nat.le_refl _) _).alloc (by simp) _⟩
  | false =>
    have hr : fitsL rs rt s t = false := by unfold fitsL; rw [h1]; rfl
    rw [hr]; clear hr
    have H1 := Lib.hid h1; clear h1
    go_enter Tryz.func87, Tryz.ntmps87
    go_wp2_with fail
    refine (between_any _ _ _ _).mono ?_
    rintro e w' ⟨rfl, rfl⟩
    rw [H1.out]
    go_wp2_with fail
    go_ret
    exact ⟨rfl, ((Below.refl _ _).alloc (Nat.le_refl _) _).alloc (by simp) _⟩
theorem right_any (s t : Int) (w : World) :
    Calls Tryz.prog 61 #[.agg #[.int .i64 s, .int .i64 t]] w fun e w' => e = .returned (.bool (rightL s t)) ∧ Below w.heap.size w w' := by
  show Calls Tryz.prog 61 #[.agg #[.int .i64 s, .int .i64 t]] w fun e w' => e = .returned (.bool (fitsL 1000 1000 s t)) ∧ Below w.heap.size w w'
  go_enter Tryz.func61, Tryz.ntmps61
  go_wp2_with fail
  refine (fits_any _ _ _ _ _).mono ?_
  rintro e w' ⟨rfl, hb⟩
  go_wp2_with fail
  go_ret
  exact ⟨rfl, ((Below.refl _ _).alloc (Nat.le_refl _) _).trans (hb.mono (by simp))⟩
def negV (s t x : Int) : Int := if mayL s t then -x else 0
theorem neg_any (s t : Int) (w : World) :
    Calls Tryz.prog 66 #[.agg #[.int .i64 s, .int .i64 t]] w fun e w' => e = .returned (.agg #[.int .i64 (negV s t s), .int .i64 (negV s t t)]) ∧ Below w.heap.size w w' := by
  cases h : mayL s t with
  | true =>
    obtain ⟨⟨s1, s2⟩, t1, t2⟩ := mayL_true h
    have hs : negV s t s = -s := by simp [negV, h]
    have ht : negV s t t = -t := by simp [negV, h]
    rw [hs, ht]; clear hs ht
    have H := Lib.hid h; clear h
    go_enter Tryz.func66, Tryz.ntmps66
    go_wp2_with fail
    refine (may_any _ _ _).mono ?_
    rintro e w' ⟨rfl, hb⟩
    rw [H.out]
    obtain ⟨hc, hf⟩ := bcell hb
    go_wp2_with fail
    exact bodyPost_ret (v := .agg #[.int .i64 (-s), .int .i64 (-t)]) (by simp [results, Tryz.results66, go_sem, hc]) rfl ⟨rfl, ((((((Below.refl _ _).alloc (Nat.le_refl _) _).alloc (by simp) _).trans (hb.mono (by simp; omega))).setCell (by simp) _).setCell (by simp) _)⟩
  | false =>
    have hs : negV s t s = 0 := by simp [negV, h]
    have ht : negV s t t = 0 := by simp [negV, h]
    rw [hs, ht]; clear hs ht
    have H := Lib.hid h; clear h
    go_enter Tryz.func66, Tryz.ntmps66
    go_wp2_with fail
    refine (may_any _ _ _).mono ?_
    rintro e w' ⟨rfl, hb⟩
    rw [H.out]
    obtain ⟨hc, hf⟩ := bcell hb
    go_wp2_with fail
    exact bodyPost_ret (v := .agg #[.int .i64 0, .int .i64 0]) (by simp [results, Tryz.results66, go_sem, hc]) rfl ⟨rfl, ((((((Below.refl _ _).alloc (Nat.le_refl _) _).alloc (by simp) _).trans (hb.mono (by simp; omega))).setCell (by simp) _).setCell (by simp) _)⟩
theorem refRight_any (s t : Int) (w : World) :
    Calls Tryz.prog 24 #[.agg #[.int .i64 s, .int .i64 t]] w fun e w' => e = .returned (.bool (rightL s t)) ∧ Below w.heap.size w w' := by
  by_cases h0 : 0 ≤ s
  · skip
    by_cases h1 : s ≤ 1000
    · skip
      by_cases h2 : 0 ≤ t
      · skip
        by_cases h3 : t ≤ 1000
        · skip
          have hr : rightL s t = true := by simp [fitsL, rightL, btw, *]
          generalize rightL s t = z at *
          subst hr
          go_enter Tryz.func24, Tryz.ntmps24
          go_wp2
          go_ret
          exact ⟨rfl, (Below.refl _ _).alloc (Nat.le_refl _) _⟩
        · have hr : rightL s t = false := by simp [fitsL, rightL, btw, *]
          generalize rightL s t = z at *
          subst hr
          go_enter Tryz.func24, Tryz.ntmps24
          go_wp2
          go_ret
          exact ⟨rfl, (Below.refl _ _).alloc (Nat.le_refl _) _⟩
      · have hr : rightL s t = false := by simp [fitsL, rightL, btw, *]
        generalize rightL s t = z at *
        subst hr
        go_enter Tryz.func24, Tryz.ntmps24
        go_wp2
        go_ret
        exact ⟨rfl, (Below.refl _ _).alloc (Nat.le_refl _) _⟩
    · have hr : rightL s t = false := by simp [fitsL, rightL, btw, *]
      generalize rightL s t = z at *
      subst hr
      go_enter Tryz.func24, Tryz.ntmps24
      go_wp2
      go_ret
      exact ⟨rfl, (Below.refl _ _).alloc (Nat.le_refl _) _⟩
  · have hr : rightL s t = false := by simp [fitsL, rightL, btw, *]
    generalize rightL s t = z at *
    subst hr
    go_enter Tryz.func24, Tryz.ntmps24
    go_wp2
    go_ret
    exact ⟨rfl, (Below.refl _ _).alloc (Nat.le_refl _) _⟩
end Load
end Go.Proofs.YtjmhlabgoegeoaaGreatDoor
