/- sweep.Spread at the example's instance, of the requests 2, 3 and 9. -/
import Derived.Test.YtelblgnleaffoaaSwInst
import Derived.Deep.RegionHeld3
namespace Go.Proofs.Ytelblgnleaffoaa
open Go.RowKit
namespace Sw
open Go.Lib Spot
set_option linter.unusedVariables false
theorem travel23 : Num.heldV (travelV 2 3) 0 1099511627776 = 2 ∧ Num.heldV (travelV 3 2) 0 1099511627776 = 2 := by decide +kernel
set_option maxHeartbeats 4000000 in
set_option maxRecDepth 100000 in
theorem spread_any (c s r b cap : Nat) (w : World) (hsm : Smp w s) (hb0 : b < w.heap.size) (c0 : w.cell? ⟨b, 0, none⟩ = some (.int .i64 2)) (c1 : w.cell? ⟨b, 1, none⟩ = some (.int .i64 3)) (c2 : w.cell? ⟨b, 2, none⟩ = some (.int .i64 9)) :
    Calls Try.prog 12 #[smpV c s r, .slice (some ⟨b, 0, none⟩) 3 cap] w fun e w' => e = .returned (.int .i64 4) ∧ Below w.heap.size w w' := by
  have bx := box_new w c s r
  have b0 : Below w.heap.size w (w.alloc (boxO c s r)) := (Below.refl _ _).alloc (Nat.le_refl _) _
  have z0 : (w.alloc (boxO c s r)).heap.size = w.heap.size + 1 := by simp
  have h2 := fun w => pick_any c s r 2 w
  have h3 := fun w => pick_any c s r 3 w
  have h9 := fun w => pick_any c s r 9 w
  have t1 := fun w h => time_yes c s r 2 3 (by decide) (by decide) w h
  have t2 := fun w h => time_yes c s r 3 2 (by decide) (by decide) w h
  rw [travel23.1, show ((2 : Nat) : Int) = 2 from rfl, show ((3 : Nat) : Int) = 3 from rfl] at t1
  rw [travel23.2, show ((2 : Nat) : Int) = 2 from rfl, show ((3 : Nat) : Int) = 3 from rfl] at t2
  have p1 : ∀ w, Calls Try.prog 18 #[.int .i64 0, .int .i64 (IntKind.i64.wrap 4)] w fun e w' => e = .returned (.int .i64 4) ∧ w = w' := fun w => by
    rw [show IntKind.i64.wrap 4 = 4 from by decide]
    exact plus_any 0 4 (by decide) (by decide) (by decide) (by decide) w
  have P1 := Lib.hid p1; clear p1
  rw [show pickV 2 = 2 from rfl] at h2
  rw [show pickV 3 = 3 from rfl] at h3
  rw [show pickV 9 = 0 from rfl] at h9
  unfold smpV at *
  have H2 := Lib.hid h2; have H3 := Lib.hid h3; have H9 := Lib.hid h9; have T1 := Lib.hid t1; have T2 := Lib.hid t2
  clear h2 h3 h9 t1 t2
  have HSS := Lib.hid hsm.1
  have HSM := Lib.hid (hsm.below b0 hsm.1); clear hsm
  have d0 := (b0.cell (p := ⟨b, 0, none⟩) (by exact hb0)).trans c0
  have d1 := (b0.cell (p := ⟨b, 1, none⟩) (by exact hb0)).trans c1
  have d2 := (b0.cell (p := ⟨b, 2, none⟩) (by exact hb0)).trans c2
  clear c0 c1 c2
  go_enter Try.func12, Try.ntmps12
  go_wp2_with fail
  generalize hW : w.alloc (Obj.cells #[.slice (some ⟨c, 0, none⟩) 2 2, .slice (some ⟨s, 0, none⟩) 10 10, .slice (some ⟨r, 0, none⟩) 4 4, .slice none 0 0] 34) = W
  rw [show w.alloc (boxO c s r) = W from hW] at *
  clear hW
  have HBW := Lib.hid z0
  have Z0 := Lib.hid z0; clear z0
  have BX := Lib.hid bx; clear bx
  have B0 := Lib.hid b0; clear b0
  have D := Lib.hid (And.intro d0 (And.intro d1 d2)); clear d0 d1 d2
  have hst : ∀ W', Below (w.heap.size + 1) W W' → Box W' w.heap.size c s r ∧ Smp W' s ∧ W'.cell? ⟨b, 0, none⟩ = some (.int .i64 2) ∧ W'.cell? ⟨b, 1, none⟩ = some (.int .i64 3) ∧ W'.cell? ⟨b, 2, none⟩ = some (.int .i64 9) := fun W' h => by
    have e : s < w.heap.size + 1 := by have := HSS.out; omega
    have e2 : b < w.heap.size + 1 := by omega
    exact ⟨BX.out.below h (by omega), HSM.out.below h e, (h.cell (by exact e2)).trans D.out.1, (h.cell (by exact e2)).trans D.out.2.1, (h.cell (by exact e2)).trans D.out.2.2⟩
  have HST := Lib.hid hst; clear hst
  go_loopw [5, 6, 8, 9, 12] (fun s5 s6 _ _ s12 wr => Hid (Below (w.heap.size + 1) W wr) ∧ ((s12 = .int .i64 0 ∧ s5 = .int .i64 0 ∧ s6 = .int .i64 0) ∨ (s12 = .int .i64 1 ∧ s5 = .int .i64 0 ∧ s6 = .int .i64 2) ∨ (s12 = .int .i64 2 ∧ s5 = .int .i64 4 ∧ s6 = .int .i64 3) ∨ (s12 = .int .i64 3 ∧ s5 = .int .i64 4 ∧ s6 = .int .i64 3))) (fun _ _ _ _ i _ => 3 - (intOf i).toNat)
  case atStart => exact ⟨Lib.hid (Below.refl _ _), .inl ⟨rfl, rfl, rfl⟩⟩
  case round =>
    obtain ⟨HB1, hrel⟩ := hrel
    obtain ⟨⟨y0, y1, y2, y3, y4⟩, hsm, x0, x1, x2⟩ := HST.out wr HB1.out
    have HS1 := Lib.hid hsm; clear hsm
    have hwz : Hid (w.heap.size + 1 ≤ wr.heap.size) := Lib.hid (by have := HB1.out.size; rw [HBW.out] at this; exact this)
    rcases hrel with ⟨rfl, rfl, rfl⟩ | ⟨rfl, rfl, rfl⟩ | ⟨rfl, rfl, rfl⟩ | ⟨rfl, rfl, rfl⟩
    · go_wp2_with fail
      refine (H2.out _).mono ?_
      rintro e w1 ⟨rfl, hb⟩
      have HB2 := Lib.hid (HB1.out.trans (hb.mono hwz.out)); clear hb
      go_wp2_with fail
      go_roundw
      case rel => exact ⟨HB2, .inr (.inl ⟨rfl, rfl, rfl⟩)⟩
      case measure => simp [intOf]
    · go_wp2_with fail
      refine (H3.out _).mono ?_
      rintro e w1 ⟨rfl, hb⟩
      have HB2 := Lib.hid (HB1.out.trans (hb.mono hwz.out)); clear hb
      clear y0 y1 y2 y3 y4 x0 x1 x2
      obtain ⟨⟨y0, y1, y2, y3, y4⟩, hsm, x0, x1, x2⟩ := HST.out w1 HB2.out
      have HS2 := Lib.hid hsm; clear hsm x0 x1 x2
      have hwz1 : Hid (w.heap.size + 1 ≤ w1.heap.size) := Lib.hid (by have := HB2.out.size; rw [HBW.out] at this; exact this)
      go_wp2_with fail
      have HS2d : Hid (Smp w1.drew s) := Lib.hid (HS2.out.below ((Below.refl w1.heap.size w1).drew) HS2.out.1)
      go_region_held3 (fun w' => w'.cell? ⟨w.heap.size, 0, none⟩ = some (.slice (some ⟨c, 0, none⟩) 2 2) ∧ w'.cell? ⟨w.heap.size, 1, none⟩ = some (.slice (some ⟨s, 0, none⟩) 10 10) ∧ w'.cell? ⟨w.heap.size, 2, none⟩ = some (.slice (some ⟨r, 0, none⟩) 4 4) ∧ w'.cell? ⟨w.heap.size, 3, none⟩ = some (.slice none 0 0))
        (first | go_keep | exact ⟨k1, k2, k3, k4⟩ | exact ⟨m1, m2, m3, m4⟩)
        (first
          | (go_at_call 19; (with_reducible refine (T1.out _ HS2d.out).mono ?_); rintro e w2 ⟨rfl, hb⟩; have HB3 : Hid (Below (w.heap.size + 1) W w2) := Lib.hid ((HB2.out.drew).trans (hb.mono hwz1.out)); obtain ⟨⟨k0, k1, k2, k3, k4⟩, hsm3, -, -, -⟩ := HST.out w2 HB3.out; have HS3 := Lib.hid hsm3; clear hsm3 hb)
          | (go_at_call 19; (with_reducible refine (T2.out _ HS3.out).mono ?_); rintro e w3 ⟨rfl, hb⟩; have HB4 : Hid (Below (w.heap.size + 1) W w3) := Lib.hid (HB3.out.trans (hb.mono (by have := HB3.out.size; rw [HBW.out] at this; exact this))); obtain ⟨⟨m0, m1, m2, m3, m4⟩, -, -, -, -⟩ := HST.out w3 HB4.out; clear hb)
          | (go_at_call 18; (with_reducible refine (P1.out _).mono ?_); rintro e w4 ⟨rfl, rfl⟩)
          | fail)
      all_goals
        go_wp2_with fail
        go_roundw
        case rel => exact ⟨HB4, .inr (.inr (.inl ⟨rfl, rfl, rfl⟩))⟩
        case measure => simp [intOf]
    · go_wp2_with fail
      refine (H9.out _).mono ?_
      rintro e w1 ⟨rfl, hb⟩
      have HB2 := Lib.hid (HB1.out.trans (hb.mono hwz.out)); clear hb
      go_wp2_with fail
      go_roundw
      case rel => exact ⟨HB2, .inr (.inr (.inr ⟨rfl, rfl, rfl⟩))⟩
      case measure => simp [intOf]
    · go_wp2_with fail
      go_ret
      exact ⟨rfl, B0.out.trans (HB1.out.mono (Nat.le_succ _))⟩
end Sw
end Go.Proofs.Ytelblgnleaffoaa
