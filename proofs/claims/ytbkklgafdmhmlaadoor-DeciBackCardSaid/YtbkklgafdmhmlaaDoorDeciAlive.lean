/- The document's examples of layer 3: each call answers as said; over the translated program. -/
import Derived.Test.YtbkklgafdmhmlaaDoorDeciWrite
import Derived.Test.YtbkklgafdmhmlaaDoorDeciWhole
import Derived.Deep.QuietTactic
namespace Go.Proofs.YtbkklgafdmhmlaaDoor
namespace Deci
open Go Go.RowKit
theorem ex1 : readV [45, 49, 46, 53] 2 = -150 ∧ readE [45, 49, 46, 53] 2 = 0 := by decide +kernel
theorem ex2 : readV [49, 46, 53, 48, 53] 2 = 0 ∧ readE [49, 46, 53, 48, 53] 2 = 21 := by decide +kernel
theorem ex3 : readV [49, 48, 57, 57, 53, 49, 49, 54, 50, 55, 55, 55, 55] 0 = 0 ∧ readE [49, 48, 57, 57, 53, 49, 49, 54, 50, 55, 55, 55, 55] 0 = 23 := by decide +kernel
theorem ex4 : (wordsP [97, 32, 98]).length = 2 ∧ wordsE [97, 32, 98] = 0 := by decide +kernel
theorem ex5 : (linesP [120, 10, 10]).length = 2 ∧ linesE [120, 10, 10] = 0 := by decide +kernel
theorem ex6 : linesP [120] = [] ∧ linesE [120] = 20 := by decide +kernel
theorem ex7 : wholeV [55, 48] = 70 ∧ wholeE [55, 48] = 0 := by decide +kernel
theorem ex8 : wholeV [48, 55] = 0 ∧ wholeE [48, 55] = 21 := by decide +kernel
theorem d150 : Lib.decDigits 150 = [49, 53, 48] := by
  rw [Lib.decDigits, dif_neg (by decide), Lib.decDigits_two (by decide) (by decide)]; rfl
theorem d100 : Lib.decDigits 100 = [49, 48, 48] := by
  rw [Lib.decDigits, dif_neg (by decide), Lib.decDigits_two (by decide) (by decide)]; rfl
theorem ex9 : writeV (-150) 2 = [45, 49, 46, 53] := by
  have h : ((-150 : Int)).natAbs = 150 := rfl
  unfold writeV headV partV
  rw [h, d150]
  decide +kernel
theorem ex10 : writeV 100 2 = [49] := by
  have h : ((100 : Int)).natAbs = 100 := rfl
  unfold writeV headV partV
  rw [h, d100]
  decide +kernel
set_option maxRecDepth 100000 in
set_option maxHeartbeats 4000000 in
theorem alive_any (w : World) (hE : Env w) :
    Calls Tryd.prog 8 #[] w fun e w' => e = .returned (.bool true) ∧ Below w.heap.size w w' := by
  have c1 := fun w hE => read_any ⟨#[45, 49, 46, 53]⟩ 2 w hE (by decide)
  have c2 := fun w hE => read_any ⟨#[49, 46, 53, 48, 53]⟩ 2 w hE (by decide)
  have c3 := fun w hE => read_any ⟨#[49, 48, 57, 57, 53, 49, 49, 54, 50, 55, 55, 55, 55]⟩ 0 w hE (by decide)
  have c4 := fun w => words_any ⟨#[97, 32, 98]⟩ w (by decide)
  have c5 := fun w hE => lines_any ⟨#[120, 10, 10]⟩ w hE (by decide)
  have c6 := fun w hE => lines_any ⟨#[120]⟩ w hE (by decide)
  have c7 := fun w hE => whole_any ⟨#[55, 48]⟩ w hE (by decide)
  have c8 := fun w hE => whole_any ⟨#[48, 55]⟩ w hE (by decide)
  have c9 := fun w hE => write_any (-150) 2 w hE (by omega) (by omega)
  have c10 := fun w hE => write_any 100 2 w hE (by omega) (by omega)
  simp only [ex1, ex2, ex3, ex4.2, ex5.2, ex6, ex7, ex8, ex9, ex10] at c1 c2 c3 c4 c5 c6 c7 c8 c9 c10
  have e4 := ex4.1
  have e5 := ex5.1
  generalize wordsP [97, 32, 98] = p4 at c4 e4
  generalize linesP [120, 10, 10] = p5 at c5 e5
  have C1 := Lib.hid c1; clear c1
  have C2 := Lib.hid c2; clear c2
  have C3 := Lib.hid c3; clear c3
  have C4 := Lib.hid c4; clear c4
  have C5 := Lib.hid c5; clear c5
  have C6 := Lib.hid c6; clear c6
  have C7 := Lib.hid c7; clear c7
  have C8 := Lib.hid c8; clear c8
  have C9 := Lib.hid c9; clear c9
  have C10 := Lib.hid c10; clear c10
  have E4 := Lib.hid e4; clear e4
  have E5 := Lib.hid e5; clear e5
  have HE := Lib.hid hE; clear hE
  have HB0 := Lib.hid (Below.refl w.heap.size w)
  go_enter Tryd.func8, Tryd.ntmps8
  go_wp2_with fail
  refine (C1.out _ HE.out).mono ?_
  rintro e W1 ⟨rfl, hb⟩
  have HB1 := Lib.hid (HB0.out.trans (hb.mono HB0.out.size)); clear hb
  go_wp2_with fail
  refine (C2.out _ (HE.out.below HB1.out)).mono ?_
  rintro e W2 ⟨rfl, hb⟩
  have HB2 := Lib.hid (HB1.out.trans (hb.mono HB1.out.size)); clear hb
  go_wp2_with fail
  refine (C3.out _ (HE.out.below HB2.out)).mono ?_
  rintro e W3 ⟨rfl, hb⟩
  have HB3 := Lib.hid (HB2.out.trans (hb.mono HB2.out.size)); clear hb
  go_wp2_with fail
  refine (C4.out _).mono ?_
  rintro e W4 ⟨v4, rfl, ho4, hb⟩
  have HB4 := Lib.hid (HB3.out.trans (hb.mono HB3.out.size)); clear hb
  rw [E4.out] at ho4
  obtain ⟨a4, cap4, rfl⟩ := row_slice ho4
  clear ho4
  go_wp2_with fail
  refine (C5.out _ (HE.out.below HB4.out)).mono ?_
  rintro e W5 ⟨v5, rfl, ho5, hb⟩
  have HB5 := Lib.hid (HB4.out.trans (hb.mono HB4.out.size)); clear hb
  rw [E5.out] at ho5
  obtain ⟨a5, cap5, rfl⟩ := row_slice ho5
  clear ho5
  go_wp2_with fail
  refine (C6.out _ (HE.out.below HB5.out)).mono ?_
  rintro e W6 ⟨v6, rfl, ho6, hb⟩
  have HB6 := Lib.hid (HB5.out.trans (hb.mono HB5.out.size)); clear hb ho6
  go_wp2_with fail
  refine (C7.out _ (HE.out.below HB6.out)).mono ?_
  rintro e W7 ⟨rfl, hb⟩
  have HB7 := Lib.hid (HB6.out.trans (hb.mono HB6.out.size)); clear hb
  go_wp2_with fail
  refine (C8.out _ (HE.out.below HB7.out)).mono ?_
  rintro e W8 ⟨rfl, hb⟩
  have HB8 := Lib.hid (HB7.out.trans (hb.mono HB7.out.size)); clear hb
  have z1 : (strOf [45, 49, 46, 53]).toList = [45, 49, 46, 53] := by rw [Lib.toList_data]; rfl
  have z2 : (strOf [49]).toList = [49] := by rw [Lib.toList_data]; rfl
  go_wp2_with fail
  refine (C9.out _ (HE.out.below HB8.out)).mono ?_
  rintro e W9 ⟨rfl, hb⟩
  have HB9 := Lib.hid (HB8.out.trans (hb.mono HB8.out.size)); clear hb
  go_wp2_with fail
  refine (C10.out _ (HE.out.below HB9.out)).mono ?_
  rintro e W10 ⟨rfl, hb⟩
  have HB10 := Lib.hid (HB9.out.trans (hb.mono HB9.out.size)); clear hb
  go_wp2_with fail
  go_ret
  exact ⟨rfl, HB10.out⟩
end Deci
end Go.Proofs.YtbkklgafdmhmlaaDoor
