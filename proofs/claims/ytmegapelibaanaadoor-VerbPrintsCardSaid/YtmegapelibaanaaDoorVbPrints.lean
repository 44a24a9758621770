/- The walk of jitneylaw27.VerbPrints; over the translated program. -/
import Derived.Test.YtmegapelibaanaaDoorVbAlive
import Derived.Test.YtmegapelibaanaaDoorVbAs
import Derived.Test.YtmegapelibaanaaDoorVbRefP
import Derived.Test.YtmegapelibaanaaDoorVbOpen
namespace Go.Proofs.YtmegapelibaanaaDoor
namespace Vb
open Go Go.RowKit Deci
set_option linter.unusedVariables false
set_option maxHeartbeats 4000000 in
set_option maxRecDepth 100000 in
theorem prints_walk (w : World) (hE : EnvV w) (v : Value) (L : List CM) (hC : Came w v L) :
    Calls Tryd.prog 3 #[v] w fun e w' => e = .returned (.bool true) ∧ Below w.heap.size w w' := by
  have hEA : EnvAt w.heap.size w := env_at hE
  obtain ⟨A, hA⟩ : ∃ A, A = w.heap.size := ⟨_, rfl⟩
  rw [← hA] at hEA ⊢
  have hEW := fun W (hb : Below A w W) => (hEA.below hb).mono (by have := hb.size; omega : A ≤ W.heap.size)
  have hIW := fun W (hb : Below A w W) => hC.is.below (by rw [← hA]; exact hb)
  have K0 := fun W (hb : Below A w W) => alive_any W (hEW W hb)
  have K1 := fun W (hb : Below A w W) => few_any v L W (hIW W hb) hC.len
  have hfw := fun h => (fewB_iff (L := L)).1 h
  have K2 := fun (h : fewB L = true) W (hb : Below A w W) => print_any v L W (hEW W hb) (hIW W hb) (by have := (hfw h).2; omega) (fun c hc => ⟨((hfw h).1 c hc).2, by have := ((hfw h).1 c hc).1; omega⟩)
  have K3 := fun (h : fewB L = true) W (hb : Below A w W) => as_any v L W (hIW W hb) (by have := (hfw h).2; omega)
  have K4 := fun (h : fewB L = true) v' W (hb : Below A w W) (hI : IsCm W v' L) => refPrint_any v' L W (hEW W hb) hI (hfw h).2 (hfw h).1
  generalize fewB L = fb at *
  generalize strOf (printT L) = S at *
  generalize printE L = er at *
  have H0 := Lib.hid K0; clear K0
  have H1 := Lib.hid K1; clear K1
  have H2 := Lib.hid K2; clear K2
  have H3 := Lib.hid K3; clear K3
  have H4 := Lib.hid K4; clear K4
  have HA := Lib.hid hA; clear hA
  clear hEW hIW hfw hC hE hEA
  go_enter Tryd.func3, Tryd.ntmps3
  go_wp2_with fail
  refine (H0.out w (Below.refl _ _)).mono ?_
  rintro e w1 ⟨rfl, hb1⟩
  have HB1 := Lib.hid (hb1.mono (by have := HA.out; omega : A ≤ w.heap.size)); clear hb1
  have hs1 : A ≤ w1.heap.size := by have := HB1.out.size; have := HA.out; omega
  go_wp2_with fail
  refine (H1.out w1 HB1.out).mono ?_
  rintro e w2 ⟨rfl, hb2⟩
  have HB2 := Lib.hid (HB1.out.trans (hb2.mono hs1)); clear hb2
  have hs2 : A ≤ w2.heap.size := by have := HB2.out.size; have := HA.out; omega
  cases fb with
  | false =>
    go_wp2_with fail
    go_ret
    exact ⟨rfl, HB2.out⟩
  | true =>
    go_wp2_with fail
    refine (H2.out (by trivial) w2 HB2.out).mono ?_
    rintro e w3 ⟨rfl, hb3⟩
    have HB3 := Lib.hid (HB2.out.trans (hb3.mono hs2)); clear hb3
    have hs3 : A ≤ w3.heap.size := by have := HB3.out.size; have := HA.out; omega
    go_wp2_with fail
    refine (H3.out (by trivial) w3 HB3.out).mono ?_
    rintro e w4 ⟨hb4, v', rfl, hI⟩
    have HB4 := Lib.hid (HB3.out.trans (hb4.mono hs3)); clear hb4
    have hs4 : A ≤ w4.heap.size := by have := HB4.out.size; have := HA.out; omega
    have h4 := H4.out (by trivial) v' w4 HB4.out hI
    have HK := Lib.hid h4; clear h4 hI
    go_wp2_with fail
    refine HK.out.mono ?_
    rintro e w5 ⟨rfl, hb5⟩
    have HB5 := Lib.hid (HB4.out.trans (hb5.mono hs4)); clear hb5
    go_wp2_with fail
    go_ret
    exact ⟨rfl, HB5.out⟩
end Vb
end Go.Proofs.YtmegapelibaanaaDoor
