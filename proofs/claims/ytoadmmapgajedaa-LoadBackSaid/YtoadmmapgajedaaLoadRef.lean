/- Contracts of the document's answers for layer 4 (jitneyref04): may, May, Right, Fits, Add. -/
import Derived.Test.YtoadmmapgajedaaLoadBase
namespace Go.Proofs.Ytoadmmapgajedaa
open Go.RowKit
namespace Load
theorem refmay_any (n : Int) (w : World) :
    Calls Try.prog 23 #[.int .i64 n] w fun e w' => e = .returned (.bool (mayP n)) ∧ w = w' := by
  by_cases h1 : -1073741824 ≤ n
  · by_cases h2 : n ≤ 1073741824
    · have hr : mayP n = true := btw_of h1 h2
      generalize mayP n = z at *
      subst hr
      go_enter Try.func23, Try.ntmps23
      go_wp2
      go_ret
      exact ⟨rfl, rfl⟩
    · have hr : mayP n = false := by unfold mayP btw; simp [h2]
      generalize mayP n = z at *
      subst hr
      go_enter Try.func23, Try.ntmps23
      go_wp2
      go_ret
      exact ⟨rfl, rfl⟩
  · have hr : mayP n = false := by unfold mayP btw; simp [h1]
    generalize mayP n = z at *
    subst hr
    go_enter Try.func23, Try.ntmps23
    go_wp2
    go_ret
    exact ⟨rfl, rfl⟩
theorem refMay_any (s t : Int) (w : World) :
    Calls Try.prog 12 #[.agg #[.int .i64 s, .int .i64 t]] w fun e w' => e = .returned (.bool (mayL s t)) ∧ Below w.heap.size w w' := by
  cases h1 : mayP s with
  | true =>
    have hr : mayL s t = mayP t := by unfold mayL; rw [h1]; rfl
    rw [hr]; clear hr
    have H1 := Lib.hid h1; clear h1
    go_enter Try.func12, Try.ntmps12
    go_wp2_with fail
    refine (refmay_any _ _).mono ?_
    rintro e w' ⟨rfl, rfl⟩
    rw [H1.out]
    go_wp2_with fail
    refine (refmay_any _ _).mono ?_
    rintro e w' ⟨rfl, rfl⟩
    go_wp2_with fail
    go_ret
    exact ⟨rfl, (Below.refl _ _).alloc (Nat.le_refl _) _⟩
  | false =>
    have hr : mayL s t = false := by unfold mayL; rw [h1]; rfl
    rw [hr]; clear hr
    have H1 := Lib.hid h1; clear h1
    go_enter Try.func12, Try.ntmps12
    go_wp2_with fail
    refine (refmay_any _ _).mono ?_
    rintro e w' ⟨rfl, rfl⟩
    rw [H1.out]
    go_wp2_with fail
    go_ret
    exact ⟨rfl, (Below.refl _ _).alloc (Nat.le_refl _) _⟩
theorem refFits_any (rs rt s t : Int) (w : World) :
    Calls Try.prog 16 #[.agg #[.int .i64 rs, .int .i64 rt], .agg #[.int .i64 s, .int .i64 t]] w fun e w' => e = .returned (.bool (fitsL rs rt s t)) ∧ Below w.heap.size w w' := by
  by_cases h0 : 0 ≤ s
  · skip
    by_cases h1 : 0 ≤ t
    · skip
      by_cases h2 : s ≤ rs
      · skip
        by_cases h3 : t ≤ rt
        · skip
          have hr : fitsL rs rt s t = true := by simp [fitsL, btw, *]
          generalize fitsL rs rt s t = z at *
          subst hr
          go_enter Try.func16, Try.ntmps16
          go_wp2
          go_ret
          exact ⟨rfl, ((Below.refl _ _).alloc (Nat.le_refl _) _).alloc (by simp) _⟩
        · have hr : fitsL rs rt s t = false := by simp [fitsL, btw, *]
          generalize fitsL rs rt s t = z at *
          subst hr
          go_enter Try.func16, Try.ntmps16
          go_wp2
          go_ret
          exact ⟨rfl, ((Below.refl _ _).alloc (Nat.le_refl _) _).alloc (by simp) _⟩
      · have hr : fitsL rs rt s t = false := by simp [fitsL, btw, *]
        generalize fitsL rs rt s t = z at *
        subst hr
        go_enter Try.func16, Try.ntmps16
        go_wp2
        go_ret
        exact ⟨rfl, ((Below.refl _ _).alloc (Nat.le_refl _) _).alloc (by simp) _⟩
    · have hr : fitsL rs rt s t = false := by simp [fitsL, btw, *]
      generalize fitsL rs rt s t = z at *
      subst hr
      go_enter Try.func16, Try.ntmps16
      go_wp2
      go_ret
      exact ⟨rfl, ((Below.refl _ _).alloc (Nat.le_refl _) _).alloc (by simp) _⟩
  · have hr : fitsL rs rt s t = false := by simp [fitsL, btw, *]
    generalize fitsL rs rt s t = z at *
    subst hr
    go_enter Try.func16, Try.ntmps16
    go_wp2
    go_ret
    exact ⟨rfl, ((Below.refl _ _).alloc (Nat.le_refl _) _).alloc (by simp) _⟩
theorem refRight_any (s t : Int) (w : World) :
    Calls Try.prog 14 #[.agg #[.int .i64 s, .int .i64 t]] w fun e w' => e = .returned (.bool (rightL s t)) ∧ Below w.heap.size w w' := by
  by_cases h0 : 0 ≤ s
  · skip
    by_cases h1 : s ≤ 1000
    · skip
      by_cases h2 : 0 ≤ t
      · skip
        by_cases h3 : t ≤ 1000
        · skip
          have hr : rightL s t = true := by simp [fitsL, rightL, btw, *]
          generalize rightL s t = z at *
          subst hr
          go_enter Try.func14, Try.ntmps14
          go_wp2
          go_ret
          exact ⟨rfl, (Below.refl _ _).alloc (Nat.le_refl _) _⟩
        · have hr : rightL s t = false := by simp [fitsL, rightL, btw, *]
          generalize rightL s t = z at *
          subst hr
          go_enter Try.func14, Try.ntmps14
          go_wp2
          go_ret
          exact ⟨rfl, (Below.refl _ _).alloc (Nat.le_refl _) _⟩
      · have hr : rightL s t = false := by simp [fitsL, rightL, btw, *]
        generalize rightL s t = z at *
        subst hr
        go_enter Try.func14, Try.ntmps14
        go_wp2
        go_ret
        exact ⟨rfl, (Below.refl _ _).alloc (Nat.le_refl _) _⟩
    · have hr : rightL s t = false := by simp [fitsL, rightL, btw, *]
      generalize rightL s t = z at *
      subst hr
      go_enter Try.func14, Try.ntmps14
      go_wp2
      go_ret
      exact ⟨rfl, (Below.refl _ _).alloc (Nat.le_refl _) _⟩
  · have hr : rightL s t = false := by simp [fitsL, rightL, btw, *]
    generalize rightL s t = z at *
    subst hr
    go_enter Try.func14, Try.ntmps14
    go_wp2
    go_ret
    exact ⟨rfl, (Below.refl _ _).alloc (Nat.le_refl _) _⟩
theorem refAdd_any (s t x y : Int) (w : World) :
    Calls Try.prog 10 #[.agg #[.int .i64 s, .int .i64 t], .agg #[.int .i64 x, .int .i64 y]] w fun e w' =>
      e = .returned (.tuple #[.agg #[.int .i64 (adV (adB s t x y) (s + x)), .int .i64 (adV (adB s t x y) (t + y))], .bool (adB s t x y)]) ∧ Below w.heap.size w w' := by
  cases h1 : mayL s t with
  | false =>
    have hr : adB s t x y = false := by unfold adB; rw [h1]; rfl
    rw [hr, adV_false, adV_false]; clear hr
    have H1 := Lib.hid h1; clear h1
    go_enter Try.func10, Try.ntmps10
    go_wp2_with fail
    refine (refMay_any _ _ _).mono ?_
    rintro e w1 ⟨rfl, hb⟩
    rw [H1.out]
    obtain ⟨hc, hf⟩ := bcell hb
    go_wp2_with fail
    exact bodyPost_ret (v := .tuple #[.agg #[.int .i64 0, .int .i64 0], .bool false]) (by simp [results, Try.results10, go_sem, hc]) rfl ⟨rfl, ((((((Below.refl _ _).alloc (Nat.le_refl _) _).alloc (by simp) _).alloc (by simp; omega) _).trans (hb.mono (by simp; omega))).setCell (by simp; omega) _).setCell (by simp; omega) _⟩
  | true =>
  cases h2 : mayL x y with
  | false =>
    have hr : adB s t x y = false := by unfold adB; rw [h1, h2]; rfl
    rw [hr, adV_false, adV_false]; clear hr
    have H1 := Lib.hid h1; clear h1
    have H2 := Lib.hid h2; clear h2
    go_enter Try.func10, Try.ntmps10
    go_wp2_with fail
    refine (refMay_any _ _ _).mono ?_
    rintro e w1 ⟨rfl, hb⟩
    rw [H1.out]
    obtain ⟨hc, hf⟩ := bcell hb
    go_wp2_with fail
    refine (refMay_any _ _ _).mono ?_
    rintro e w2 ⟨rfl, hb2⟩
    rw [H2.out]
    replace hb := hb.trans (hb2.mono hb.size)
    clear hc hf hb2
    obtain ⟨hc, hf⟩ := bcell hb
    go_wp2_with fail
    exact bodyPost_ret (v := .tuple #[.agg #[.int .i64 0, .int .i64 0], .bool false]) (by simp [results, Try.results10, go_sem, hc]) rfl ⟨rfl, ((((((Below.refl _ _).alloc (Nat.le_refl _) _).alloc (by simp) _).alloc (by simp; omega) _).trans (hb.mono (by simp; omega))).setCell (by simp; omega) _).setCell (by simp; omega) _⟩
  | true =>
    obtain ⟨⟨s1, s2⟩, t1, t2⟩ := mayL_true h1
    obtain ⟨⟨x1, x2⟩, y1, y2⟩ := mayL_true h2
    cases h3 : mayP (s + x) with
    | false =>
      have hr : adB s t x y = false := by unfold adB; rw [h1, h2]; unfold mayL; rw [h3]; rfl
      rw [hr, adV_false, adV_false]; clear hr
      have H1 := Lib.hid h1; clear h1
      have H2 := Lib.hid h2; clear h2
      have H3 := Lib.hid h3; clear h3
      go_enter Try.func10, Try.ntmps10
      go_wp2_with fail
      refine (refMay_any _ _ _).mono ?_
      rintro e w1 ⟨rfl, hb⟩
      rw [H1.out]
      obtain ⟨hc, hf⟩ := bcell hb
      go_wp2_with fail
      refine (refMay_any _ _ _).mono ?_
      rintro e w2 ⟨rfl, hb2⟩
      rw [H2.out]
      replace hb := hb.trans (hb2.mono hb.size)
      clear hc hf hb2
      obtain ⟨hc, hf⟩ := bcell hb
      go_wp2_with fail
      refine (refmay_any _ _).mono ?_
      rintro e w' ⟨rfl, rfl⟩
      rw [H3.out]
      go_wp2_with fail
      exact bodyPost_ret (v := .tuple #[.agg #[.int .i64 0, .int .i64 0], .bool false]) (by simp [results, Try.results10, go_sem, hc]) rfl ⟨rfl, ((((((Below.refl _ _).alloc (Nat.le_refl _) _).alloc (by simp) _).alloc (by simp; omega) _).trans (hb.mono (by simp; omega))).setCell (by simp; omega) _).setCell (by simp; omega) _⟩
    | true =>
    cases h4 : mayP (t + y) with
    | false =>
      have hr : adB s t x y = false := by unfold adB; rw [h1, h2]; unfold mayL; rw [h3, h4]; rfl
      rw [hr, adV_false, adV_false]; clear hr
      have H1 := Lib.hid h1; clear h1
      have H2 := Lib.hid h2; clear h2
      have H3 := Lib.hid h3; clear h3
      have H4 := Lib.hid h4; clear h4
      go_enter Try.func10, Try.ntmps10
      go_wp2_with fail
      refine (refMay_any _ _ _).mono ?_
      rintro e w1 ⟨rfl, hb⟩
      rw [H1.out]
      obtain ⟨hc, hf⟩ := bcell hb
      go_wp2_with fail
      refine (refMay_any _ _ _).mono ?_
      rintro e w2 ⟨rfl, hb2⟩
      rw [H2.out]
      replace hb := hb.trans (hb2.mono hb.size)
      clear hc hf hb2
      obtain ⟨hc, hf⟩ := bcell hb
      go_wp2_with fail
      refine (refmay_any _ _).mono ?_
      rintro e w' ⟨rfl, rfl⟩
      rw [H3.out]
      go_wp2_with fail
      refine (refmay_any _ _).mono ?_
      rintro e w' ⟨rfl, rfl⟩
      rw [H4.out]
      go_wp2_with fail
      exact bodyPost_ret (v := .tuple #[.agg #[.int .i64 0, .int .i64 0], .bool false]) (by simp [results, Try.results10, go_sem, hc]) rfl ⟨rfl, ((((((Below.refl _ _).alloc (Nat.le_refl _) _).alloc (by simp) _).alloc (by simp; omega) _).trans (hb.mono (by simp; omega))).setCell (by simp; omega) _).setCell (by simp; omega) _⟩
    | true =>
      have hr : adB s t x y = true := by unfold adB; rw [h1, h2]; unfold mayL; rw [h3, h4]; rfl
      rw [hr, adV_true, adV_true]; clear hr
      have H1 := Lib.hid h1; clear h1
      have H2 := Lib.hid h2; clear h2
      have H3 := Lib.hid h3; clear h3
      have H4 := Lib.hid h4; clear h4
      go_enter Try.func10, Try.ntmps10
      go_wp2_with fail
      refine (refMay_any _ _ _).mono ?_
      rintro e w1 ⟨rfl, hb⟩
      rw [H1.out]
      obtain ⟨hc, hf⟩ := bcell hb
      go_wp2_with fail
      refine (refMay_any _ _ _).mono ?_
      rintro e w2 ⟨rfl, hb2⟩
      rw [H2.out]
      replace hb := hb.trans (hb2.mono hb.size)
      clear hc hf hb2
      obtain ⟨hc, hf⟩ := bcell hb
      go_wp2_with fail
      refine (refmay_any _ _).mono ?_
      rintro e w' ⟨rfl, rfl⟩
      rw [H3.out]
      go_wp2_with fail
      refine (refmay_any _ _).mono ?_
      rintro e w' ⟨rfl, rfl⟩
      rw [H4.out]
      go_wp2_with fail
      exact bodyPost_ret (v := .tuple #[.agg #[.int .i64 (s + x), .int .i64 (t + y)], .bool true]) (by simp [results, Try.results10, go_sem, hc]) rfl ⟨rfl, ((((((Below.refl _ _).alloc (Nat.le_refl _) _).alloc (by simp) _).alloc (by simp; omega) _).trans (hb.mono (by simp; omega))).setCell (by simp; omega) _).setCell (by simp; omega) _⟩
end Load
end Go.Proofs.Ytoadmmapgajedaa
