/- The document's examples of layer 1 hold: jitneylaw01.alive answers true. -/
import Derived.Test.YtcfbondgbhmcaaaNumRef
import Derived.RowKit3
namespace Go.Proofs.Ytcfbondgbhmcaaa
open Go.RowKit
namespace Num
theorem cells_of_ints (w : World) (t : TypeId) (zs : List Int) (j : Nat) (h : j < zs.length) :
    (w.alloc (.cells (zs.map (Value.int .i64)).toArray t)).cell? ⟨w.heap.size, 0 + j, none⟩ = some (.int .i64 (zs.getD j 0)) := by
  rw [Nat.zero_add, World.cell?_alloc_new]
  simp [List.getD, List.getElem?_eq_getElem h]
theorem sum123 (w : World) : Calls Try.prog 22 #[.slice (some ⟨w.heap.size, 0, none⟩) 3 3] (w.alloc (.cells #[.int .i64 1, .int .i64 2, .int .i64 3] 2)) fun e w' =>
    e = .returned (.tuple #[.int .i64 6, .bool true]) ∧ w.alloc (.cells #[.int .i64 1, .int .i64 2, .int .i64 3] 2) = w' := by
  have h := sum_any w.heap.size 0 3 [1, 2, 3] (w.alloc (.cells #[.int .i64 1, .int .i64 2, .int .i64 3] 2)) (by decide) (cells_of_ints w 2 [1, 2, 3])
  rw [show sumV [1, 2, 3] = 6 from by decide, show sumB [1, 2, 3] = true from by decide] at h
  exact h
set_option maxRecDepth 100000 in
theorem alive_any (w : World) : Calls Try.prog 13 #[] w fun e w' => e = .returned (.bool true) ∧ w.alloc (.cells #[.int .i64 1, .int .i64 2, .int .i64 3] 2) = w' := by
  go_enter Try.func13, Try.ntmps13
  go_wp2_with fail
  refine (add_any _ _ _).mono ?_
  rintro e w' ⟨rfl, rfl⟩
  rw [show addV 1152921504606846976 (-1) = 1152921504606846975 from by decide, show addB 1152921504606846976 (-1) = true from by decide]
  go_wp2_with fail
  refine (add_any _ _ _).mono ?_
  rintro e w' ⟨rfl, rfl⟩
  rw [show addV 1152921504606846976 1 = 0 from by decide, show addB 1152921504606846976 1 = false from by decide]
  go_wp2_with fail
  refine (sum123 _).mono ?_
  rintro e w' ⟨rfl, rfl⟩
  go_wp2_with fail
  refine (mul_any _ _ _).mono ?_
  rintro e w' ⟨rfl, rfl⟩
  rw [show mulV (-4) 5 = -20 from by decide, show mulB (-4) 5 = true from by decide]
  go_wp2_with fail
  refine (mul_any _ _ _).mono ?_
  rintro e w' ⟨rfl, rfl⟩
  rw [show mulV 2147483648 2147483648 = 0 from by decide, show mulB 2147483648 2147483648 = false from by decide]
  go_wp2_with fail
  refine (ceil_any _ _ _ (by decide) (by decide) (by decide)).mono ?_
  rintro e w' ⟨rfl, rfl⟩
  rw [show ceilV 7 2 = 4 from by decide]
  go_wp2_with fail
  refine (ceil_any _ _ _ (by decide) (by decide) (by decide)).mono ?_
  rintro e w' ⟨rfl, rfl⟩
  rw [show ceilV (-7) 2 = -3 from by decide]
  go_wp2_with fail
  refine (root_any _ _).mono ?_
  rintro e w' ⟨rfl, rfl⟩
  rw [show rootV 10 = 4 from by decide +kernel]
  go_wp2_with fail
  refine (root_any _ _).mono ?_
  rintro e w' ⟨rfl, rfl⟩
  rw [show rootV 9 = 3 from by decide +kernel]
  go_wp2_with fail
  refine (held_any _ _ _ _).mono ?_
  rintro e w' ⟨rfl, rfl⟩
  rw [show heldV 5 1 3 = 3 from by decide]
  go_wp2_with fail
  refine (held_any _ _ _ _).mono ?_
  rintro e w' ⟨rfl, rfl⟩
  rw [show heldV 5 7 3 = 7 from by decide]
  go_wp2_with fail
  go_ret
  exact ⟨rfl, rfl⟩
end Num
end Go.Proofs.Ytcfbondgbhmcaaa
