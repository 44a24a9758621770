/- sweep.Clusters at the example's instance, of the requests 1, 2 and 3. -/
import Derived.Test.YtelblgnleaffoaaSwParts
namespace Go.Proofs.Ytelblgnleaffoaa
open Go.RowKit
namespace Sw
open Go.Lib Spot
set_option linter.unusedVariables false
/-- An order of the call's own as a slice of numbers. -/
theorem own_ord {w : World} {base m : Nat} {v : Value} {l : List Int} (h : w.ownsRow base 3 1 v (m + 1) (l.map (Value.int .i64))) (hl : l.length = m + 1) :
    ∃ a c, v = .slice a (m + 1) c ∧ m + 1 ≤ c ∧ c ≤ maxLen ∧ IsXs w a (m + 1) (fun j => l.getD j 0) := by
  rcases h.2 with ⟨_, h0⟩ | ⟨g, c, u, rfl, _, k, hc, hm, _⟩
  · omega
  · refine ⟨_, c, rfl, hc, hm, Or.inr ⟨g, 0, rfl, (Array.getElem?_eq_some_iff.1 k).1, fun j hj => ?_⟩⟩
    rw [Nat.zero_add, h.cellAt j (by omega)]
    simp [List.getD, hl, hj]
theorem rise3 : ∀ j, j + 1 < [1, 2, 3].length → ¬ ([1, 2, 3] : List Int).getD (j + 1) 0 < ([1, 2, 3] : List Int).getD j 0 := by
  intro j hj
  have h : j = 0 ∨ j = 1 := by simp at hj; omega
  rcases h with rfl | rfl <;> decide
theorem rise5 : ∀ j, j + 1 < [1, 2, 3, 4, 4].length → ¬ ([1, 2, 3, 4, 4] : List Int).getD (j + 1) 0 < ([1, 2, 3, 4, 4] : List Int).getD j 0 := by
  intro j hj
  have h : j = 0 ∨ j = 1 ∨ j = 2 ∨ j = 3 := by simp at hj; omega
  rcases h with rfl | rfl | rfl | rfl <;> decide
set_option maxHeartbeats 4000000 in
set_option maxRecDepth 100000 in
theorem clusters_any (c s r b cap : Nat) (w : World) (hsm : Smp w s) (hb0 : b < w.heap.size) (hc : ∀ j, j < 3 → w.cell? ⟨b, j, none⟩ = some (.int .i64 ([1, 2, 3].getD j 0))) :
    Calls Try.prog 11 #[smpV c s r, .slice (some ⟨b, 0, none⟩) 3 cap] w fun e w' => ∃ g cc, e = .returned (.slice (some ⟨g, 0, none⟩) 2 cc) ∧ RowsAt w' g 2 (lenN 3 2) (fun j i => [2, 3, 1].getD (offN 3 2 j + i) 0) ∧ Below w.heap.size w w' := by
  have bx := box_new w c s r
  have b0 : Below w.heap.size w (w.alloc (boxO c s r)) := (Below.refl _ _).alloc (Nat.le_refl _) _
  have z0 : (w.alloc (boxO c s r)).heap.size = w.heap.size + 1 := by simp
  have ho := fun W (h1 : Smp W s) (h2 : b < W.heap.size) (h3 : ∀ j, j < 3 → W.cell? ⟨b, 0 + j, none⟩ = some (.int .i64 ([1, 2, 3].getD j 0))) =>
    order_any c s r b 0 3 cap 2 [1, 2, 3] [1, 2, 3] W h1 h2 rfl (by decide) (by decide) (by decide) h3 (by decide) (.inl rfl) rise3 (by decide +kernel) (by decide) (by decide +kernel) (by decide +kernel)
  rw [ordL_two] at ho
  unfold smpV at *
  have HO := Lib.hid ho; clear ho
  have HSS := Lib.hid hsm.1
  have HSM := Lib.hid (hsm.below b0 hsm.1); clear hsm
  have HC := Lib.hid (fun j hj => (b0.cell (p := ⟨b, j, none⟩) (by exact hb0)).trans (hc j hj)); clear hc
  go_enter Try.func11, Try.ntmps11
  go_wp2_with fail
  generalize hW : w.alloc (Obj.cells #[.slice (some ⟨c, 0, none⟩) 2 2, .slice (some ⟨s, 0, none⟩) 10 10, .slice (some ⟨r, 0, none⟩) 4 4, .slice none 0 0] 34) = W
  rw [show w.alloc (boxO c s r) = W from hW] at *
  clear hW
  have Z0 := Lib.hid z0; clear z0
  have B0 := Lib.hid b0; clear b0
  obtain ⟨x0, x1, x2, x3, x4⟩ := bx
  have HO1 : Hid (∀ Q, (∀ v w', w'.ownsRow W.heap.size 3 1 v 3 ([2, 3, 1].map (Value.int .i64)) → Below W.heap.size W w' → Q (.returned v) w') → Calls Try.prog 10 #[.agg #[.slice (some ⟨c, 0, none⟩) 2 2, .slice (some ⟨s, 0, none⟩) 10 10, .slice (some ⟨r, 0, none⟩) 4 4, .slice none 0 0], .slice (some ⟨b, 0, none⟩) 3 cap] W.drew Q) :=
    Lib.hid fun Q hQ => (HO.out W.drew (HSM.out.below ((Below.refl W.heap.size W).drew) HSM.out.1) (by show b < W.heap.size; rw [Z0.out]; omega) (fun j hj => by rw [Nat.zero_add]; exact HC.out j hj)).mono fun e w' h => by
      obtain ⟨v, rfl, h1, h2⟩ := h
      exact hQ v w' h1 (((Below.refl W.heap.size W).drew).trans h2)
  go_region_held3 (fun w' => w'.cell? ⟨w.heap.size, 0, none⟩ = some (.slice (some ⟨c, 0, none⟩) 2 2) ∧ w'.cell? ⟨w.heap.size, 1, none⟩ = some (.slice (some ⟨s, 0, none⟩) 10 10) ∧ w'.cell? ⟨w.heap.size, 2, none⟩ = some (.slice (some ⟨r, 0, none⟩) 4 4) ∧ w'.cell? ⟨w.heap.size, 3, none⟩ = some (.slice none 0 0))
    (first | go_keep | exact ⟨m1, m2, m3, m4⟩ | exact ⟨k1, k2, k3, k4⟩)
    (first
      | (go_at_call 10; (with_reducible refine HO1.out _ ?_); intro v w2 hown hb; have k1 := (hb.cell (p := ⟨w.heap.size, 0, none⟩) (by exact x0)).trans x1; have k2 := (hb.cell (p := ⟨w.heap.size, 1, none⟩) (by exact x0)).trans x2; have k3 := (hb.cell (p := ⟨w.heap.size, 2, none⟩) (by exact x0)).trans x3; have k4 := (hb.cell (p := ⟨w.heap.size, 3, none⟩) (by exact x0)).trans x4; obtain ⟨a, c2, rfl, hc1, hc2, hx⟩ := own_ord hown rfl; have HX := Lib.hid hx; have HB2 := Lib.hid hb; clear hown hb hx)
      | (go_at_call 5; (with_reducible refine (parts_any a 3 c2 _ 2 2 _ HX.out hc1 hc2 (by decide) (by decide) (by decide)).mono ?_); rintro e w3 ⟨g, c3, rfl, hr, hb⟩; have HR := Lib.hid hr; have HB3 := Lib.hid (HB2.out.trans (hb.mono HB2.out.size)); have m1 := (HB3.out.cell (p := ⟨w.heap.size, 0, none⟩) (by exact x0)).trans x1; have m2 := (HB3.out.cell (p := ⟨w.heap.size, 1, none⟩) (by exact x0)).trans x2; have m3 := (HB3.out.cell (p := ⟨w.heap.size, 2, none⟩) (by exact x0)).trans x3; have m4 := (HB3.out.cell (p := ⟨w.heap.size, 3, none⟩) (by exact x0)).trans x4; clear hr hb)
      | fail)
  all_goals
    go_wp2_with fail
    go_ret
    exact ⟨g, c3, rfl, HR.out, B0.out.trans (HB3.out.mono (by rw [Z0.out]; omega))⟩
end Sw
end Go.Proofs.Ytelblgnleaffoaa
