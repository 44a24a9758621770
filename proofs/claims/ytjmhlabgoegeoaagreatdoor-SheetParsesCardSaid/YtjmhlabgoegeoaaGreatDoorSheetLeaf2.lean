/- inst.wrongCar, wrongTimes, nowhere; over the translated program. -/
import Derived.Test.YtjmhlabgoegeoaaGreatDoorSheetLeaf
import Derived.Test.YtjmhlabgoegeoaaGreatDoorSheetLoad
import Derived.Test.YtjmhlabgoegeoaaGreatDoorSheetStop
import Derived.Deep.RegionWith
namespace Go.Proofs.YtjmhlabgoegeoaaGreatDoor
namespace Sheet
open Go Go.RowKit Deci
attribute [local go_sem] store_cx
def carB' (s t m : Int) : Bool := Load.rightL s t && timeB m
theorem wrongCar_any (s t m : Int) (w : World) :
    Calls Tryz.prog 31 #[.agg #[.int .i64 s, .int .i64 t, .int .i64 m]] w fun e w' => e = .returned (.bool (!carB' s t m)) ∧ Below w.heap.size w w' := by
  have h1 := fun w => Load.right_any s t w
  have h2 := fun w => noTime_any m w
  unfold carB'
  generalize Load.rightL s t = a at *
  generalize timeB m = b at *
  have H1 := Lib.hid h1; clear h1
  have H2 := Lib.hid h2; clear h2
  cases a <;> cases b <;>
  · go_enter Tryz.func31, Tryz.ntmps31
    go_wp2_with (first
      | (go_at_call 61; refine (H1.out _).mono ?_; rintro e w1 ⟨rfl, hb⟩; have c2 : w1.cell? ⟨w.heap.size, 2, none⟩ = some (.int .i64 m) := (hb.cell (p := ⟨w.heap.size, 2, none⟩) (by simp)).trans ((own_cell (World.alloc_heap_new w _)).trans rfl); have HB := Lib.hid hb; clear hb)
      | (go_at_call 33; refine (H2.out _).mono ?_; rintro e w2 ⟨rfl, rfl⟩))
    go_ret
    exact ⟨rfl, by first | exact HB.out | exact ((Below.refl _ _).alloc (Nat.le_refl _) _).trans (HB.out.mono (by simp))⟩
def timesB (a b c : Int) : Bool := timeB a && (timeB b && (timeB c && decide (b ≤ c)))
set_option maxHeartbeats 1000000 in
theorem wrongTimes_any (s t a b c : Int) (p q : Nat) (w : World) :
    Calls Tryz.prog 35 #[.agg #[.int .i64 s, .int .i64 t, .int .i64 a, .int .i64 b, .int .i64 c, .complex .f64 p q]] w fun e w' => e = .returned (.bool (!timesB a b c)) ∧ Below w.heap.size w w' := by
  have h1 := fun w => noTime_any a w
  have h2 := fun w => noTime_any b w
  have h3 := fun w => noTime_any c w
  unfold timesB
  generalize timeB a = x at *
  generalize timeB b = y at *
  generalize timeB c = z at *
  have H1 := Lib.hid h1; clear h1
  have H2 := Lib.hid h2; clear h2
  have H3 := Lib.hid h3; clear h3
  by_cases hbc : b ≤ c
  · have hbc' : ¬ c < b := by omega
    cases x <;> cases y <;> cases z <;>
    · go_enter Tryz.func35, Tryz.ntmps35
      go_wp2_with (first | (go_at_call_of 33 (Value.int IntKind.i64 a); refine (H1.out _).mono ?_; rintro e w' ⟨rfl, rfl⟩) | (go_at_call_of 33 (Value.int IntKind.i64 b); refine (H2.out _).mono ?_; rintro e w' ⟨rfl, rfl⟩) | (go_at_call_of 33 (Value.int IntKind.i64 c); refine (H3.out _).mono ?_; rintro e w' ⟨rfl, rfl⟩))
      go_ret
      exact ⟨ret_bool (by simp [hbc]), (Below.refl _ _).alloc (Nat.le_refl _) _⟩
  · have hbc' : c < b := by omega
    cases x <;> cases y <;> cases z <;>
    · go_enter Tryz.func35, Tryz.ntmps35
      go_wp2_with (first | (go_at_call_of 33 (Value.int IntKind.i64 a); refine (H1.out _).mono ?_; rintro e w' ⟨rfl, rfl⟩) | (go_at_call_of 33 (Value.int IntKind.i64 b); refine (H2.out _).mono ?_; rintro e w' ⟨rfl, rfl⟩) | (go_at_call_of 33 (Value.int IntKind.i64 c); refine (H3.out _).mono ?_; rintro e w' ⟨rfl, rfl⟩))
      go_ret
      exact ⟨ret_bool (by simp [hbc]), (Below.refl _ _).alloc (Nat.le_refl _) _⟩
theorem nowhere_any (s t a b c : Int) (p q : Nat) (x y : Int) (w : World) (h : Fl.Sp p q x y) (hx : Spot.Near x) (hy : Spot.Near y) :
    Calls Tryz.prog 38 #[.agg #[.int .i64 s, .int .i64 t, .int .i64 a, .int .i64 b, .int .i64 c, .complex .f64 p q]] w fun e w' => e = .returned (.bool false) ∧ Below w.heap.size w w' := by
  have h1 := fun w => Spot.good_yes p q x y w h hx hy
  have H1 := Lib.hid h1; clear h1 h hx hy
  go_enter Tryz.func38, Tryz.ntmps38
  go_wp2_with (go_at_call 71; refine (H1.out _).mono ?_; rintro e w' ⟨rfl, rfl⟩)
  go_ret
  exact ⟨rfl, (Below.refl _ _).alloc (Nat.le_refl _) _⟩
end Sheet
end Go.Proofs.YtjmhlabgoegeoaaGreatDoor
