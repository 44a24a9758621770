/- Holds of package diff, over the translated program. -/
import Derived.Test.YtjhghkieghdoaaaDiffRight
namespace Go.Proofs.Ytjhghkieghdoaaa
open Go.RowKit Go.Lib
namespace Diff
set_option linter.unusedVariables false
set_option maxHeartbeats 1000000 in
theorem holds_any (a xa : Option Addr) (m c n xc : Nat) (f t g x : Nat → Int) (w : World) (he : IsEs w a m f t g) (hx : IsXs w xa n x) (hm : m ≤ 201) (hn : n ≤ 60) :
    Calls Try.prog 17 #[.slice a m c, .slice xa n xc] w fun e w' => e = .returned (.bool (holdsB m f t g n x)) ∧ Below w.heap.size w w' := by
  have hb : Below w.heap.size w (w.alloc (.cells #[.slice xa n xc] 24)) := (Below.refl _ _).alloc (Nat.le_refl _) _
  have hcell : (w.alloc (.cells #[.slice xa n xc] 24)).cell? ⟨w.heap.size, 0, none⟩ = some (.slice xa n xc) := by simp [go_sem]
  have hsz : (w.alloc (.cells #[.slice xa n xc] 24)).heap.size = w.heap.size + 1 := by simp
  have hX := hx.below hb
  have hE := he.below hb
  obtain ⟨W, hW⟩ : ∃ W, W = w.alloc (.cells #[.slice xa n xc] 24) := ⟨_, rfl⟩
  rw [← hW] at hb hcell hX hE hsz
  have hc1 := contains_xs xa n xc x (fun j => outB (x j)) 27 W (fun _ _ => rfl) hX (by omega) (fun j hj W _ => hold1_any (x j) W)
  have HB := Lib.hid hb; clear hb
  have HC1 := Lib.hid hc1; clear hc1
  have HX := Lib.hid hX; clear hX
  have HE := Lib.hid hE; clear hE
  have HW := Lib.hid hW; clear hW
  have HSZ := Lib.hid hsz; clear hsz hx he
  unfold holdsB
  cases h1 : anyTo (fun j => outB (x j)) n with
  | true =>
    rw [h1] at HC1
    have H1 := Lib.hid h1; clear h1 hcell
    go_enter Try.func17, Try.ntmps17
    go_wp2_with fail
    rw [← HW.out]
    refine HC1.out.mono ?_
    rintro e w' ⟨rfl, hb⟩
    have HB2 := Lib.hid (HB.out.trans (hb.mono HB.out.size)); clear hb
    go_wp2_with fail
    go_ret
    exact ⟨rfl, HB2.out⟩
  | false =>
    rw [h1] at HC1
    have hxb : ∀ j, j < n → -1152921504606846976 ≤ x j ∧ x j ≤ 1152921504606846976 := fun j hj => outB_false.1 (anyTo_false.1 h1 j hj)
    have hc2 := fun w' (hw : Below W.heap.size W w') => contains_es a m c f t g (fun j => violB n x (f j) (t j) (g j)) 28 #[.pointer (some ⟨w.heap.size, 0, none⟩)] w' (fun _ _ => rfl) (HE.out.below hw) (by omega)
      (fun j hj V hV => hold2_any w.heap.size n xc x xa (f j) (t j) (g j) V (((hw.trans (hV.mono hw.size)).cell (by have := HSZ.out; simp; omega)).trans hcell) (HX.out.below (hw.trans (hV.mono hw.size))) hn hxb)
    have HC2 := Lib.hid hc2; clear hc2 hxb
    have H1 := Lib.hid h1; clear h1
    have hlt : w.heap.size < W.heap.size := by have := HSZ.out; omega
    generalize anyTo (fun j => violB n x (f j) (t j) (g j)) m = z at *
    go_enter Try.func17, Try.ntmps17
    go_wp2_with fail
    rw [← HW.out]
    refine HC1.out.mono ?_
    rintro e w' ⟨rfl, hb⟩
    have hc := HC2.out w' hb
    have HC3 := Lib.hid hc; clear hc
    have HB2 := Lib.hid (HB.out.trans (hb.mono HB.out.size))
    have HBW := Lib.hid hb; clear hb
    go_wp2_with fail
    refine HC3.out.mono ?_
    rintro e w1 ⟨rfl, hb⟩
    have HB3 := Lib.hid (HB2.out.trans (hb.mono HB2.out.size)); clear hb
    go_wp2_with fail
    go_ret
    exact ⟨rfl, HB3.out⟩
end Diff
end Go.Proofs.Ytjhghkieghdoaaa
