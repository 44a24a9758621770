/- The document's examples of layer 2 hold: jitneylaw02.alive answers true, if the library's sort does as it says (SortSaid). -/
import Derived.Test.YtcfbondgbhmcaaaSweepFacts
import Derived.Test.YtcfbondgbhmcaaaSpotSame
import Derived.WideShapes
namespace Go.Proofs.Ytcfbondgbhmcaaa
open Go.RowKit
namespace Spot
open Fl Go.Sort Go.Lib
variable {m : Nat}
theorem whole_half (w : World) : Calls Try.prog 47 #[.float .f64 4602678819172646912] w fun e w' => e = .returned (.bool false) ∧ w = w' := by
  have e : ∀ w : World, (Extern.MathFloor.toIntegral "math.archTrunc" .zero #[.float .f64 4602678819172646912]).run Try.prog w = .ok (.float .f64 0) w := fun w => by kernel_rfl
  have hr : ∀ w : World, (callFunc 68 #[.float .f64 4602678819172646912]).run Try.prog w = .ok (.value (.float .f64 0)) w := fun w => by
    rw [run_callFunc_extern Try.func68 (by kernel_rfl) (by kernel_rfl) (by kernel_rfl) (e := Extern.MathFloor.toIntegral "math.archTrunc" .zero) (by kernel_rfl), e]
    rfl
  have ht : ∀ w : World, Calls Try.prog 55 #[.float .f64 4602678819172646912] w fun e w' => e = .returned (.float .f64 0) ∧ w = w' := fun w => by
    go_enter Try.func55, Try.ntmps55
    go_wp2
    go_ret
    exact ⟨rfl, rfl⟩
  have c1 : (FloatKind.f64.format.order 13938640846711685120 4602678819172646912 == some .lt || FloatKind.f64.format.order 13938640846711685120 4602678819172646912 == some .eq) = true := by decide +kernel
  have c2 : (FloatKind.f64.format.order 4602678819172646912 4715268809856909312 == some .lt || FloatKind.f64.format.order 4602678819172646912 4715268809856909312 == some .eq) = true := by decide +kernel
  have c3 : (FloatKind.f64.format.order 0 4602678819172646912 == some .eq) = false := by decide +kernel
  clear hr e
  go_enter Try.func47, Try.ntmps47
  go_wp2_with fail
  refine (ht _).mono ?_
  rintro e w' ⟨rfl, rfl⟩
  go_wp2_with fail
  go_ret
  exact ⟨rfl, rfl⟩
theorem good_half (w : World) : Calls Try.prog 37 #[.complex .f64 4602678819172646912 0] w fun e w' => e = .returned (.bool false) ∧ w = w' := by
  go_enter Try.func37, Try.ntmps37
  go_wp2_with fail
  refine (whole_half _).mono ?_
  rintro e w' ⟨rfl, rfl⟩
  go_wp2_with fail
  go_ret
  exact ⟨rfl, rfl⟩
theorem wd3 : wd 3 = 4613937818241073152 := by decide +kernel
theorem wd4 : wd 4 = 4616189618054758400 := by decide +kernel
theorem isz3 : Isz 4613937818241073152 3 := by rw [← wd3]; exact isz_wd ⟨by decide, by decide⟩
theorem isz4 : Isz 4616189618054758400 4 := by rw [← wd4]; exact isz_wd ⟨by decide, by decide⟩
theorem isz1 : Isz 4607182418800017408 1 := by rw [show 4607182418800017408 = wd 1 by decide +kernel]; exact isz_wd ⟨by decide, by decide⟩
theorem iszm1 : Isz 13830554455654793216 (-1) := by rw [show 13830554455654793216 = wd (-1) by decide +kernel]; exact isz_wd ⟨by decide, by decide⟩
theorem near_small {n : Int} (h1 : -4 ≤ n) (h2 : n ≤ 4) : Near n := ⟨by omega, by omega⟩
def aP (j : Nat) : Nat := if j = 1 then 4607182418800017408 else if j = 3 then 13830554455654793216 else 0
def aQ (j : Nat) : Nat := if j = 0 then 13830554455654793216 else if j = 4 then 4607182418800017408 else 0
theorem a_sp (k : Nat) : Sp (aP k) (aQ k) (aX k) (aY k) := by
  constructor
  · unfold aP aX
    split
    · exact isz1
    · split
      · exact iszm1
      · exact isz_zero
  · unfold aQ aY
    split
    · exact iszm1
    · split
      · exact isz1
      · exact isz_zero
theorem a_near (k : Nat) : Near (aX k) ∧ Near (aY k) := by
  unfold aX aY
  constructor <;> (split <;> try split) <;> exact near_small (by decide) (by decide)
/-- What a row of places holds, cell by cell. -/
theorem row_cells {w : World} {base e g n c : Nat} {l : List (Fin (m + 1))} (h : w.ownsRow base e 1 (.slice (some ⟨g, 0, none⟩) n c) n (l.map encP)) (j : Nat) (x : Fin (m + 1)) (hj : l[j]? = some x) :
    w.cell? ⟨g, 0 + j, none⟩ = some (.int .i64 (x.val : Int)) := by
  have := h.cells (g := g) rfl j (encP x) (by rw [List.getElem?_map, hj]; rfl)
  rw [← Go.WideShapes.add_plain]; exact this
def aZ (j : Nat) : Int := if j = 0 then 2 else if j = 1 then 1 else if j = 2 then 4 else if j = 3 then 3 else 0
def aRow : Obj := .cells #[.complex .f64 0 13830554455654793216, .complex .f64 4607182418800017408 0, .complex .f64 0 0, .complex .f64 13830554455654793216 0, .complex .f64 0 4607182418800017408] 36
/-- Of a post with an existential. -/
def SwPost (w : World) (e : Ending) (w' : World) : Prop := ∃ g c : Nat, e = .returned (.slice (some ⟨g, 0, none⟩) 5 c) ∧ (∀ j, j < 5 → w'.cell? ⟨g, 0 + j, none⟩ = some (.int .i64 (aZ j))) ∧ Below w.heap.size w w' ∧ g < w'.heap.size
theorem alive_sweep (hsort : SortSaid) (w : World) (ob : Obj) :
    Calls Try.prog 29 #[.complex .f64 0 0, .slice (some ⟨w.heap.size + 1, 0, none⟩) 5 5] ((w.alloc ob).alloc aRow) (SwPost w) := by
  have hb : Below w.heap.size w ((w.alloc ob).alloc aRow) := ((Below.refl _ _).alloc (Nat.le_refl _) _).alloc (by simp) _
  have h := sweep_loop 4 aX aY 0 0 aP aQ 0 0 (w.heap.size + 1) 0 5 ((w.alloc ob).alloc aRow) (by decide) (by simp) (fun j hj => by
    unfold aRow
    rw [Nat.zero_add, World.cell?_alloc_at _ _ _ _ (by simp)]
    match j, hj with
    | 0, _ => rfl
    | 1, _ => rfl
    | 2, _ => rfl
    | 3, _ => rfl
    | 4, _ => rfl) (fun k _ => a_sp k) (fun k _ => a_near k) ⟨isz_zero, isz_zero⟩ ⟨near_small (by decide) (by decide), near_small (by decide) (by decide)⟩ hsort
  refine h.mono ?_
  rintro e w' ⟨g, c, rfl, hg, hown, hb'⟩
  rw [sweep_alive] at hown
  refine ⟨g, c, rfl, fun j hj => ?_, hb.trans (hb'.mono (by simp; omega)), (hown.lt g rfl).2⟩
  match j, hj with
  | 0, _ => exact row_cells hown 0 2 rfl
  | 1, _ => exact row_cells hown 1 1 rfl
  | 2, _ => exact row_cells hown 2 4 rfl
  | 3, _ => exact row_cells hown 3 3 rfl
  | 4, _ => exact row_cells hown 4 0 rfl
def zRow : Obj := .cells #[.int .i64 2, .int .i64 1, .int .i64 4, .int .i64 3, .int .i64 0] 3
theorem alive_same (g c : Nat) (w : World) (hg : g < w.heap.size) (h : ∀ j, j < 5 → w.cell? ⟨g, 0 + j, none⟩ = some (.int .i64 (aZ j))) :
    Calls Try.prog 31 #[.slice (some ⟨g, 0, none⟩) 5 c, .slice (some ⟨w.heap.size, 0, none⟩) 5 5] (w.alloc zRow) fun e w' => e = .returned (.bool true) ∧ Drew (w.alloc zRow) w' :=
  same_any g 0 c w.heap.size 0 5 5 aZ _ (by decide) (fun j hj => by rw [World.cell?_alloc_lt _ _ _ (by exact hg)]; exact h j hj) (fun j hj => by
    unfold zRow
    rw [Nat.zero_add, World.cell?_alloc_new]
    match j, hj with
    | 0, _ => rfl
    | 1, _ => rfl
    | 2, _ => rfl
    | 3, _ => rfl
    | 4, _ => rfl)
theorem Drew.below {w w' : World} (h : Drew w w') (B : Nat) : Below B w w' := by
  obtain ⟨q, rfl⟩ := h
  exact ⟨rfl, rfl, rfl, Nat.le_refl _, fun _ _ => rfl⟩
set_option maxHeartbeats 4000000 in
set_option maxRecDepth 100000 in
theorem alive_any (hsort : SortSaid) (w : World) : Calls Try.prog 24 #[] w fun e w' => e = .returned (.bool true) ∧ Below w.heap.size w w' := by
  have z0 : Sp 0 0 0 0 := ⟨isz_zero, isz_zero⟩
  have hc : Sp 4613937818241073152 4616189618054758400 3 4 := ⟨isz3, isz4⟩
  have one : Sp 4607182418800017408 0 1 0 := ⟨isz1, isz_zero⟩
  have im : Sp 0 4607182418800017408 0 1 := ⟨isz_zero, isz1⟩
  have n0 : Near 0 := near_small (by decide) (by decide)
  have n1 : Near 1 := near_small (by decide) (by decide)
  have n3 : Near 3 := near_small (by decide) (by decide)
  have n4 : Near 4 := near_small (by decide) (by decide)
  have h1 := fun w => at_yes 3 4 w n3 n4
  rw [wd3, wd4] at h1
  have h2 := fun w => at_no1 16777217 0 w (by omega)
  have h3 := fun w => xy_yes _ _ _ _ w hc n3 n4
  have h4 := fun w => dist_yes _ _ _ _ _ _ _ _ w z0 hc n0 n0 n3 n4
  rw [show dist 0 0 3 4 = 5 by decide +kernel] at h4
  have h5 := fun w => square_yes _ _ _ _ _ _ _ _ w z0 hc n0 n0 n3 n4
  rw [show sq 0 0 3 4 = 25 by decide +kernel] at h5
  have h6 := fun w => good_yes _ _ _ _ w hc n3 n4
  have h7 := fun w => Turn_yes _ _ _ _ _ _ _ _ _ _ _ _ w z0 one im n0 n0 n1 n0 n0 n1
  rw [show side 0 0 1 0 0 1 = 1 by decide +kernel] at h7
  have h8 := fun w => Turn_yes _ _ _ _ _ _ _ _ _ _ _ _ w z0 im one n0 n0 n0 n1 n1 n0
  rw [show side 0 0 0 1 1 0 = -1 by decide +kernel] at h8
  have h9 := fun w => before_yes _ _ _ _ _ _ _ _ _ _ _ _ w z0 one im n0 n0 n1 n0 n0 n1
  rw [show beforeB 0 0 1 0 0 1 = true by decide +kernel] at h9
  generalize cmpObj (1 - 0) (0 - 0) (0 - 0) (1 - 0) = ob at *
  have H1 := Lib.hid h1; clear h1
  have H2 := Lib.hid h2; clear h2
  have H3 := Lib.hid h3; clear h3
  have H4 := Lib.hid h4; clear h4
  have H5 := Lib.hid h5; clear h5
  have H6 := Lib.hid h6; clear h6
  have H7 := Lib.hid h7; clear h7
  have H8 := Lib.hid h8; clear h8
  have H9 := Lib.hid h9; clear h9
  clear n0 n1 n3 n4 hc one im
  have o1 : FloatKind.f64.format.order 4613937818241073152 4613937818241073152 = some .eq := by decide +kernel
  have o2 : FloatKind.f64.format.order 4616189618054758400 4616189618054758400 = some .eq := by decide +kernel
  go_enter Try.func24, Try.ntmps24
  go_wp2_with fail
  refine (H1.out _).mono ?_
  rintro e w' ⟨rfl, rfl⟩
  go_wp2_with fail
  refine (H2.out _).mono ?_
  rintro e w' ⟨rfl, rfl⟩
  go_wp2_with fail
  refine (H3.out _).mono ?_
  rintro e w' ⟨rfl, rfl⟩
  go_wp2_with fail
  refine (H4.out _).mono ?_
  rintro e w' ⟨rfl, rfl⟩
  go_wp2_with fail
  refine (H5.out _).mono ?_
  rintro e w' ⟨rfl, rfl⟩
  go_wp2_with fail
  refine (H6.out _).mono ?_
  rintro e w' ⟨rfl, rfl⟩
  go_wp2_with fail
  refine (good_half _).mono ?_
  rintro e w' ⟨rfl, rfl⟩
  go_wp2_with fail
  refine (H7.out _).mono ?_
  rintro e w' ⟨rfl, rfl⟩
  go_wp2_with fail
  refine (H8.out _).mono ?_
  rintro e w' ⟨rfl, rfl⟩
  go_wp2_with fail
  refine (H9.out _).mono ?_
  rintro e w' ⟨rfl, rfl⟩
  go_wp2_with fail
  refine (alive_sweep hsort w ob).mono ?_
  rintro e w1 ⟨g, c, rfl, hcell, hb, hg⟩
  have hsame := alive_same g c w1 hg hcell
  have HS := Lib.hid hsame; clear hsame hcell
  go_wp2_with fail
  refine HS.out.mono ?_
  rintro e w2 ⟨rfl, hd⟩
  go_wp2_with fail
  go_ret
  exact ⟨rfl, (hb.alloc hb.size _).trans (hd.below _)⟩
end Spot
end Go.Proofs.Ytcfbondgbhmcaaa
