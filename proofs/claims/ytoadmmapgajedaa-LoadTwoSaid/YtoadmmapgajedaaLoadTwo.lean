/- LoadTwo: whatever the input, the law returns true, and each argument reads as it read before. No conditions but the row's own. -/
import Derived.Test.YtoadmmapgajedaaRows
import Derived.WalkKit
import Derived.ProofKit
import Derived.ShutString
import Derived.ChangeOld
import Derived.Below
import Derived.OpenShut
import Derived.Lib.SmallJoins
import Derived.Deep.RegionHeld3
import Derived.Test.YtoadmmapgajedaaLoadOpen
import Derived.Test.YtoadmmapgajedaaLoadKept
import Derived.Test.YtoadmmapgajedaaLoadAlive
namespace Go.Proofs.Ytoadmmapgajedaa.loadTwo
open Go.ChangeShapes Go.WideShapes Go.ChangeAt Go.RowKit Go.Joins
open Go.ChangeMaps (open_string shut_string)
set_option linter.unusedVariables false

theorem own : ownKnob Try.prog.godebug = none := by kernel_rfl
theorem laidOut : laidOutB Try.prog = true := by kernel_rfl
open Load (IsLds isLds_of cellsLoad cellsInt)
open Load (KA KA.nil KA.box)
def cellsT (A B C : Nat) (s0 t0 s1 t1 u v : Int) : List (Addr × Value) := [(⟨A, 0, none⟩, .int .i64 s0), (⟨A, 1, none⟩, .int .i64 t0), (⟨A + 1, 0, none⟩, .int .i64 s1), (⟨A + 1, 1, none⟩, .int .i64 t1), (⟨B, 0, none⟩, .int .i64 u), (⟨B, 1, none⟩, .int .i64 v), (⟨C, 0, none⟩, .int .i64 u), (⟨C, 1, none⟩, .int .i64 v)]
theorem allT {w0 W : World} {A B C : Nat} {s0 t0 s1 t1 u v : Int} (h : KA w0 (cellsT A B C s0 t0 s1 t1 u v) W) : KA w0 (cellsT A B C s0 t0 s1 t1 u v) W ∧ W.cell? ⟨A, 0, none⟩ = some (.int .i64 s0) ∧ W.cell? ⟨A, 1, none⟩ = some (.int .i64 t0) ∧ W.cell? ⟨A + 1, 0, none⟩ = some (.int .i64 s1) ∧ W.cell? ⟨A + 1, 1, none⟩ = some (.int .i64 t1) ∧ W.cell? ⟨B, 0, none⟩ = some (.int .i64 u) ∧ W.cell? ⟨B, 1, none⟩ = some (.int .i64 v) ∧ W.cell? ⟨C, 0, none⟩ = some (.int .i64 u) ∧ W.cell? ⟨C, 1, none⟩ = some (.int .i64 v) :=
  ⟨h, h.at (by simp [cellsT]), h.at (by simp [cellsT]), h.at (by simp [cellsT]), h.at (by simp [cellsT]), h.at (by simp [cellsT]), h.at (by simp [cellsT]), h.at (by simp [cellsT]), h.at (by simp [cellsT])⟩
open Load (alive_any)
set_option maxHeartbeats 2000000 in
set_option maxRecDepth 100000 in
theorem walk (w : World) (s0 t0 : Int) (w0 : (Lit.int .i64 s0).wf = true ∧ (Lit.int .i64 t0).wf = true) (s1 t1 : Int) (w1 : (Lit.int .i64 s1).wf = true ∧ (Lit.int .i64 t1).wf = true) :
    Calls Try.prog 3 #[.agg #[.int .i64 s0, .int .i64 t0], .agg #[.int .i64 s1, .int .i64 t1]] w fun e w' => e = .returned (.bool true) ∧ Below w.heap.size w w' := by
  have hkk := ((KA.nil w).box (.int .i64 s0) (.int .i64 t0) 23).box (.int .i64 s1) (.int .i64 t1) 23
  have HKK := Lib.hid hkk; clear hkk
  have hadd := fun W => Load.add_any s0 t0 s1 t1 W
  have hadr := fun W => Load.refAdd_any s0 t0 s1 t1 W
  generalize Load.adV (Load.adB s0 t0 s1 t1) (s0 + s1) = u at hadd hadr
  generalize Load.adV (Load.adB s0 t0 s1 t1) (t0 + t1) = v at hadd hadr
  generalize Load.adB s0 t0 s1 t1 = c at hadd hadr
  have HADD := Lib.hid hadd; clear hadd
  have HADR := Lib.hid hadr; clear hadr
  have hr1 := fun W => Load.right_any s0 t0 W
  have hr2 := fun W => Load.refRight_any s0 t0 W
  generalize Load.rightL s0 t0 = r at hr1 hr2
  have HR1 := Lib.hid hr1; clear hr1
  have HR2 := Lib.hid hr2; clear hr2
  have hf1 := fun W => Load.fits_any s0 t0 s1 t1 W
  have hf2 := fun W => Load.refFits_any s0 t0 s1 t1 W
  generalize Load.fitsL s0 t0 s1 t1 = f at hf1 hf2
  have HF1 := Lib.hid hf1; clear hf1
  have HF2 := Lib.hid hf2; clear hf2
  cases hm : Load.mayL s0 t0 with
  | true =>
    obtain ⟨⟨m1, m2⟩, m3, m4⟩ := Load.mayL_true hm
    have hneg := fun W => Load.neg_any s0 t0 W
    have hs : ∀ x, Load.negV s0 t0 x = -x := fun x => by simp [Load.negV, hm]
    have hmay := fun W => Load.refMay_any s0 t0 W
    rw [hm] at hmay
    rw [hs, hs] at hneg
    have HNEG := Lib.hid hneg; clear hneg hs
    have HMAY := Lib.hid hmay; clear hmay hm
    go_enter Try.func3, Try.ntmps3
    go_wp2_with fail
    refine (alive_any _).mono ?_
    rintro e W1 ⟨rfl, hb⟩
    have hk := HKK.out.below hb
    simp only [World.size_alloc] at hk
    clear hb HKK
    obtain ⟨A, hA⟩ : ∃ A, A = w.heap.size := ⟨_, rfl⟩
    rw [← hA] at hk ⊢
    have HA := Lib.hid hA; clear hA
    have q0 := hk.at (a := ⟨A, 0, none⟩) (v := .int .i64 s0) (by simp)
    have q1 := hk.at (a := ⟨A, 1, none⟩) (v := .int .i64 t0) (by simp)
    have q2 := hk.at (a := ⟨A + 1, 0, none⟩) (v := .int .i64 s1) (by simp)
    have q3 := hk.at (a := ⟨A + 1, 1, none⟩) (v := .int .i64 t1) (by simp)
    have l0 := hk.lt (a := ⟨A, 0, none⟩) (v := .int .i64 s0) (by simp)
    have l1 := hk.lt (a := ⟨A + 1, 0, none⟩) (v := .int .i64 s1) (by simp)
    have HK := Lib.hid hk; clear hk
    go_wp2_with fail
    refine (HADD.out _).mono ?_
    rintro e W2 ⟨rfl, hb⟩
    have hk := HK.out.below hb
    clear hb q0 q1 q2 q3 l0 l1 HK
    have q0 := hk.at (a := ⟨A, 0, none⟩) (v := .int .i64 s0) (by simp)
    have q1 := hk.at (a := ⟨A, 1, none⟩) (v := .int .i64 t0) (by simp)
    have q2 := hk.at (a := ⟨A + 1, 0, none⟩) (v := .int .i64 s1) (by simp)
    have q3 := hk.at (a := ⟨A + 1, 1, none⟩) (v := .int .i64 t1) (by simp)
    have l0 := hk.lt (a := ⟨A, 0, none⟩) (v := .int .i64 s0) (by simp)
    have l1 := hk.lt (a := ⟨A + 1, 0, none⟩) (v := .int .i64 s1) (by simp)
    have HK := Lib.hid hk; clear hk
    go_wp2_with fail
    refine (HADR.out _).mono ?_
    rintro e W3 ⟨rfl, hb⟩
    have hk := ((((HK.out.alloc (.cells #[.int .i64 u, .int .i64 v] 23)).put (a := ⟨W2.heap.size, 0, none⟩) (v := .int .i64 u) (by simp [go_sem])).put (a := ⟨W2.heap.size, 1, none⟩) (v := .int .i64 v) (by simp [go_sem]))).below hb
    clear hb q0 q1 q2 q3 l0 l1 HK
    obtain ⟨B, hB⟩ : ∃ B, B = W2.heap.size := ⟨_, rfl⟩
    rw [← hB] at hk ⊢
    have HB := Lib.hid hB; clear hB
    have q0 := hk.at (a := ⟨A, 0, none⟩) (v := .int .i64 s0) (by simp)
    have q1 := hk.at (a := ⟨A, 1, none⟩) (v := .int .i64 t0) (by simp)
    have q2 := hk.at (a := ⟨A + 1, 0, none⟩) (v := .int .i64 s1) (by simp)
    have q3 := hk.at (a := ⟨A + 1, 1, none⟩) (v := .int .i64 t1) (by simp)
    have l0 := hk.lt (a := ⟨A, 0, none⟩) (v := .int .i64 s0) (by simp)
    have l1 := hk.lt (a := ⟨A + 1, 0, none⟩) (v := .int .i64 s1) (by simp)
    have p0 := hk.at (a := ⟨B, 0, none⟩) (v := .int .i64 u) (by simp)
    have p1 := hk.at (a := ⟨B, 1, none⟩) (v := .int .i64 v) (by simp)
    have l2 := hk.lt (a := ⟨B, 0, none⟩) (v := .int .i64 u) (by simp)
    have HK := Lib.hid hk; clear hk
    go_wp2_with fail
    refine (HNEG.out _).mono ?_
    rintro e W4 ⟨rfl, hb⟩
    have hk := ((((HK.out.alloc (.cells #[.int .i64 u, .int .i64 v] 23)).put (a := ⟨W3.heap.size, 0, none⟩) (v := .int .i64 u) (by simp [go_sem])).put (a := ⟨W3.heap.size, 1, none⟩) (v := .int .i64 v) (by simp [go_sem]))).below hb
    clear hb q0 q1 q2 q3 l0 l1 HK p0 p1 l2
    obtain ⟨C, hC⟩ : ∃ C, C = W3.heap.size := ⟨_, rfl⟩
    rw [← hC] at hk ⊢
    have HC := Lib.hid hC; clear hC
    have q0 := hk.at (a := ⟨A, 0, none⟩) (v := .int .i64 s0) (by simp)
    have q1 := hk.at (a := ⟨A, 1, none⟩) (v := .int .i64 t0) (by simp)
    have q2 := hk.at (a := ⟨A + 1, 0, none⟩) (v := .int .i64 s1) (by simp)
    have q3 := hk.at (a := ⟨A + 1, 1, none⟩) (v := .int .i64 t1) (by simp)
    have l0 := hk.lt (a := ⟨A, 0, none⟩) (v := .int .i64 s0) (by simp)
    have l1 := hk.lt (a := ⟨A + 1, 0, none⟩) (v := .int .i64 s1) (by simp)
    have p0 := hk.at (a := ⟨B, 0, none⟩) (v := .int .i64 u) (by simp)
    have p1 := hk.at (a := ⟨B, 1, none⟩) (v := .int .i64 v) (by simp)
    have p2 := hk.at (a := ⟨C, 0, none⟩) (v := .int .i64 u) (by simp)
    have p3 := hk.at (a := ⟨C, 1, none⟩) (v := .int .i64 v) (by simp)
    have l2 := hk.lt (a := ⟨B, 0, none⟩) (v := .int .i64 u) (by simp)
    have l3 := hk.lt (a := ⟨C, 0, none⟩) (v := .int .i64 u) (by simp)
    have HK := Lib.hid hk; clear hk
    go_wp2_with fail
    refine (HMAY.out _).mono ?_
    rintro e W5 ⟨rfl, hb⟩
    have hk := ((((HK.out.alloc (.cells #[.int .i64 (-s0), .int .i64 (-t0)] 23)).put (a := ⟨W4.heap.size, 0, none⟩) (v := .int .i64 (-s0)) (by simp [go_sem])).put (a := ⟨W4.heap.size, 1, none⟩) (v := .int .i64 (-t0)) (by simp [go_sem]))).below hb
    clear hb q0 q1 q2 q3 l0 l1 HK p0 p1 p2 p3 l2 l3
    obtain ⟨D, hD⟩ : ∃ D, D = W4.heap.size := ⟨_, rfl⟩
    rw [← hD] at hk ⊢
    have HD := Lib.hid hD; clear hD
    have q0 := hk.at (a := ⟨A, 0, none⟩) (v := .int .i64 s0) (by simp)
    have q1 := hk.at (a := ⟨A, 1, none⟩) (v := .int .i64 t0) (by simp)
    have q2 := hk.at (a := ⟨A + 1, 0, none⟩) (v := .int .i64 s1) (by simp)
    have q3 := hk.at (a := ⟨A + 1, 1, none⟩) (v := .int .i64 t1) (by simp)
    have l0 := hk.lt (a := ⟨A, 0, none⟩) (v := .int .i64 s0) (by simp)
    have l1 := hk.lt (a := ⟨A + 1, 0, none⟩) (v := .int .i64 s1) (by simp)
    have p0 := hk.at (a := ⟨B, 0, none⟩) (v := .int .i64 u) (by simp)
    have p1 := hk.at (a := ⟨B, 1, none⟩) (v := .int .i64 v) (by simp)
    have p2 := hk.at (a := ⟨C, 0, none⟩) (v := .int .i64 u) (by simp)
    have p3 := hk.at (a := ⟨C, 1, none⟩) (v := .int .i64 v) (by simp)
    have l2 := hk.lt (a := ⟨B, 0, none⟩) (v := .int .i64 u) (by simp)
    have l3 := hk.lt (a := ⟨C, 0, none⟩) (v := .int .i64 u) (by simp)
    have n0 := hk.at (a := ⟨D, 0, none⟩) (v := .int .i64 (-s0)) (by simp)
    have n1 := hk.at (a := ⟨D, 1, none⟩) (v := .int .i64 (-t0)) (by simp)
    have l4 := hk.lt (a := ⟨D, 0, none⟩) (v := .int .i64 (-s0)) (by simp)
    have HK := Lib.hid hk; clear hk
    go_wp2_with fail
    refine (HMAY.out _).mono ?_
    rintro e W6 ⟨rfl, hb⟩
    have hk := HK.out.below hb
    clear hb q0 q1 q2 q3 l0 l1 HK p0 p1 p2 p3 l2 l3 n0 n1 l4
    have q0 := hk.at (a := ⟨A, 0, none⟩) (v := .int .i64 s0) (by simp)
    have q1 := hk.at (a := ⟨A, 1, none⟩) (v := .int .i64 t0) (by simp)
    have q2 := hk.at (a := ⟨A + 1, 0, none⟩) (v := .int .i64 s1) (by simp)
    have q3 := hk.at (a := ⟨A + 1, 1, none⟩) (v := .int .i64 t1) (by simp)
    have l0 := hk.lt (a := ⟨A, 0, none⟩) (v := .int .i64 s0) (by simp)
    have l1 := hk.lt (a := ⟨A + 1, 0, none⟩) (v := .int .i64 s1) (by simp)
    have p0 := hk.at (a := ⟨B, 0, none⟩) (v := .int .i64 u) (by simp)
    have p1 := hk.at (a := ⟨B, 1, none⟩) (v := .int .i64 v) (by simp)
    have p2 := hk.at (a := ⟨C, 0, none⟩) (v := .int .i64 u) (by simp)
    have p3 := hk.at (a := ⟨C, 1, none⟩) (v := .int .i64 v) (by simp)
    have l2 := hk.lt (a := ⟨B, 0, none⟩) (v := .int .i64 u) (by simp)
    have l3 := hk.lt (a := ⟨C, 0, none⟩) (v := .int .i64 u) (by simp)
    have n0 := hk.at (a := ⟨D, 0, none⟩) (v := .int .i64 (-s0)) (by simp)
    have n1 := hk.at (a := ⟨D, 1, none⟩) (v := .int .i64 (-t0)) (by simp)
    have l4 := hk.lt (a := ⟨D, 0, none⟩) (v := .int .i64 (-s0)) (by simp)
    have HK := Lib.hid hk; clear hk
    clear q0 q1 q2 q3 l0 l1 p0 p1 p2 p3 l2 l3
    obtain ⟨KK, q0, q1, q2, q3, p0, p1, p2, p3⟩ := allT (A := A) (B := B) (C := C) (HK.out.sub (L' := cellsT A B C s0 t0 s1 t1 u v) (fun p hp => by simp only [cellsT, List.mem_cons, List.not_mem_nil, or_false] at hp ⊢; rcases hp with rfl | rfl | rfl | rfl | rfl | rfl | rfl | rfl <;> simp))
    clear HK
    go_wp2_with fail
    clear n0 n1 l4
    go_region_held3 (fun w' => KA w (cellsT A B C s0 t0 s1 t1 u v) w' ∧ w'.cell? ⟨A, 0, none⟩ = some (.int .i64 s0) ∧ w'.cell? ⟨A, 1, none⟩ = some (.int .i64 t0) ∧ w'.cell? ⟨A + 1, 0, none⟩ = some (.int .i64 s1) ∧ w'.cell? ⟨A + 1, 1, none⟩ = some (.int .i64 t1) ∧ w'.cell? ⟨B, 0, none⟩ = some (.int .i64 u) ∧ w'.cell? ⟨B, 1, none⟩ = some (.int .i64 v) ∧ w'.cell? ⟨C, 0, none⟩ = some (.int .i64 u) ∧ w'.cell? ⟨C, 1, none⟩ = some (.int .i64 v))
      (first
        | exact allT ‹KA w (cellsT A B C s0 t0 s1 t1 u v) _›
        | exact allT (Load.KA.drew (And.left ‹KA w (cellsT A B C s0 t0 s1 t1 u v) _ ∧ _›))
        | exact allT (Load.KA.drew ‹KA w (cellsT A B C s0 t0 s1 t1 u v) _›))
      (first
        | (go_at_call 13; (with_reducible refine (HR1.out _).mono ?_); rintro e w' ⟨rfl, hb⟩; have hka := Load.KA.below (And.left ‹KA w (cellsT A B C s0 t0 s1 t1 u v) _ ∧ _›) hb; clear hb)
        | (go_at_call 14; (with_reducible refine (HR2.out _).mono ?_); rintro e w' ⟨rfl, hb⟩; have hka := Load.KA.below (And.left ‹KA w (cellsT A B C s0 t0 s1 t1 u v) _ ∧ _›) hb; clear hb)
        | (go_at_call 15; (with_reducible refine (HF1.out _).mono ?_); rintro e w' ⟨rfl, hb⟩; have hka := Load.KA.below (And.left ‹KA w (cellsT A B C s0 t0 s1 t1 u v) _ ∧ _›) hb; clear hb)
        | (go_at_call 16; (with_reducible refine (HF2.out _).mono ?_); rintro e w' ⟨rfl, hb⟩; have hka := Load.KA.below (And.left ‹KA w (cellsT A B C s0 t0 s1 t1 u v) _ ∧ _›) hb; clear hb))
    go_wp2_with fail
    go_ret
    exact ⟨rfl, (And.left ‹KA w (cellsT A B C s0 t0 s1 t1 u v) _ ∧ _›).2⟩
  | false =>
    have hneg := fun W => Load.neg_any s0 t0 W
    have hs : ∀ x, Load.negV s0 t0 x = 0 := fun x => by simp [Load.negV, hm]
    have hmay := fun W => Load.refMay_any s0 t0 W
    rw [hm] at hmay
    rw [hs, hs] at hneg
    have HNEG := Lib.hid hneg; clear hneg hs
    have HMAY := Lib.hid hmay; clear hmay hm
    go_enter Try.func3, Try.ntmps3
    go_wp2_with fail
    refine (alive_any _).mono ?_
    rintro e W1 ⟨rfl, hb⟩
    have hk := HKK.out.below hb
    simp only [World.size_alloc] at hk
    clear hb HKK
    obtain ⟨A, hA⟩ : ∃ A, A = w.heap.size := ⟨_, rfl⟩
    rw [← hA] at hk ⊢
    have HA := Lib.hid hA; clear hA
    have q0 := hk.at (a := ⟨A, 0, none⟩) (v := .int .i64 s0) (by simp)
    have q1 := hk.at (a := ⟨A, 1, none⟩) (v := .int .i64 t0) (by simp)
    have q2 := hk.at (a := ⟨A + 1, 0, none⟩) (v := .int .i64 s1) (by simp)
    have q3 := hk.at (a := ⟨A + 1, 1, none⟩) (v := .int .i64 t1) (by simp)
    have l0 := hk.lt (a := ⟨A, 0, none⟩) (v := .int .i64 s0) (by simp)
    have l1 := hk.lt (a := ⟨A + 1, 0, none⟩) (v := .int .i64 s1) (by simp)
    have HK := Lib.hid hk; clear hk
    go_wp2_with fail
    refine (HADD.out _).mono ?_
    rintro e W2 ⟨rfl, hb⟩
    have hk := HK.out.below hb
    clear hb q0 q1 q2 q3 l0 l1 HK
    have q0 := hk.at (a := ⟨A, 0, none⟩) (v := .int .i64 s0) (by simp)
    have q1 := hk.at (a := ⟨A, 1, none⟩) (v := .int .i64 t0) (by simp)
    have q2 := hk.at (a := ⟨A + 1, 0, none⟩) (v := .int .i64 s1) (by simp)
    have q3 := hk.at (a := ⟨A + 1, 1, none⟩) (v := .int .i64 t1) (by simp)
    have l0 := hk.lt (a := ⟨A, 0, none⟩) (v := .int .i64 s0) (by simp)
    have l1 := hk.lt (a := ⟨A + 1, 0, none⟩) (v := .int .i64 s1) (by simp)
    have HK := Lib.hid hk; clear hk
    go_wp2_with fail
    refine (HADR.out _).mono ?_
    rintro e W3 ⟨rfl, hb⟩
    have hk := ((((HK.out.alloc (.cells #[.int .i64 u, .int .i64 v] 23)).put (a := ⟨W2.heap.size, 0, none⟩) (v := .int .i64 u) (by simp [go_sem])).put (a := ⟨W2.heap.size, 1, none⟩) (v := .int .i64 v) (by simp [go_sem]))).below hb
    clear hb q0 q1 q2 q3 l0 l1 HK
    obtain ⟨B, hB⟩ : ∃ B, B = W2.heap.size := ⟨_, rfl⟩
    rw [← hB] at hk ⊢
    have HB := Lib.hid hB; clear hB
    have q0 := hk.at (a := ⟨A, 0, none⟩) (v := .int .i64 s0) (by simp)
    have q1 := hk.at (a := ⟨A, 1, none⟩) (v := .int .i64 t0) (by simp)
    have q2 := hk.at (a := ⟨A + 1, 0, none⟩) (v := .int .i64 s1) (by simp)
    have q3 := hk.at (a := ⟨A + 1, 1, none⟩) (v := .int .i64 t1) (by simp)
    have l0 := hk.lt (a := ⟨A, 0, none⟩) (v := .int .i64 s0) (by simp)
    have l1 := hk.lt (a := ⟨A + 1, 0, none⟩) (v := .int .i64 s1) (by simp)
    have p0 := hk.at (a := ⟨B, 0, none⟩) (v := .int .i64 u) (by simp)
    have p1 := hk.at (a := ⟨B, 1, none⟩) (v := .int .i64 v) (by simp)
    have l2 := hk.lt (a := ⟨B, 0, none⟩) (v := .int .i64 u) (by simp)
    have HK := Lib.hid hk; clear hk
    go_wp2_with fail
    refine (HNEG.out _).mono ?_
    rintro e W4 ⟨rfl, hb⟩
    have hk := ((((HK.out.alloc (.cells #[.int .i64 u, .int .i64 v] 23)).put (a := ⟨W3.heap.size, 0, none⟩) (v := .int .i64 u) (by simp [go_sem])).put (a := ⟨W3.heap.size, 1, none⟩) (v := .int .i64 v) (by simp [go_sem]))).below hb
    clear hb q0 q1 q2 q3 l0 l1 HK p0 p1 l2
    obtain ⟨C, hC⟩ : ∃ C, C = W3.heap.size := ⟨_, rfl⟩
    rw [← hC] at hk ⊢
    have HC := Lib.hid hC; clear hC
    have q0 := hk.at (a := ⟨A, 0, none⟩) (v := .int .i64 s0) (by simp)
    have q1 := hk.at (a := ⟨A, 1, none⟩) (v := .int .i64 t0) (by simp)
    have q2 := hk.at (a := ⟨A + 1, 0, none⟩) (v := .int .i64 s1) (by simp)
    have q3 := hk.at (a := ⟨A + 1, 1, none⟩) (v := .int .i64 t1) (by simp)
    have l0 := hk.lt (a := ⟨A, 0, none⟩) (v := .int .i64 s0) (by simp)
    have l1 := hk.lt (a := ⟨A + 1, 0, none⟩) (v := .int .i64 s1) (by simp)
    have p0 := hk.at (a := ⟨B, 0, none⟩) (v := .int .i64 u) (by simp)
    have p1 := hk.at (a := ⟨B, 1, none⟩) (v := .int .i64 v) (by simp)
    have p2 := hk.at (a := ⟨C, 0, none⟩) (v := .int .i64 u) (by simp)
    have p3 := hk.at (a := ⟨C, 1, none⟩) (v := .int .i64 v) (by simp)
    have l2 := hk.lt (a := ⟨B, 0, none⟩) (v := .int .i64 u) (by simp)
    have l3 := hk.lt (a := ⟨C, 0, none⟩) (v := .int .i64 u) (by simp)
    have HK := Lib.hid hk; clear hk
    go_wp2_with fail
    refine (HMAY.out _).mono ?_
    rintro e W5 ⟨rfl, hb⟩
    have hk := ((((HK.out.alloc (.cells #[.int .i64 0, .int .i64 0] 23)).put (a := ⟨W4.heap.size, 0, none⟩) (v := .int .i64 0) (by simp [go_sem])).put (a := ⟨W4.heap.size, 1, none⟩) (v := .int .i64 0) (by simp [go_sem]))).below hb
    clear hb q0 q1 q2 q3 l0 l1 HK p0 p1 p2 p3 l2 l3
    obtain ⟨D, hD⟩ : ∃ D, D = W4.heap.size := ⟨_, rfl⟩
    rw [← hD] at hk ⊢
    have HD := Lib.hid hD; clear hD
    have q0 := hk.at (a := ⟨A, 0, none⟩) (v := .int .i64 s0) (by simp)
    have q1 := hk.at (a := ⟨A, 1, none⟩) (v := .int .i64 t0) (by simp)
    have q2 := hk.at (a := ⟨A + 1, 0, none⟩) (v := .int .i64 s1) (by simp)
    have q3 := hk.at (a := ⟨A + 1, 1, none⟩) (v := .int .i64 t1) (by simp)
    have l0 := hk.lt (a := ⟨A, 0, none⟩) (v := .int .i64 s0) (by simp)
    have l1 := hk.lt (a := ⟨A + 1, 0, none⟩) (v := .int .i64 s1) (by simp)
    have p0 := hk.at (a := ⟨B, 0, none⟩) (v := .int .i64 u) (by simp)
    have p1 := hk.at (a := ⟨B, 1, none⟩) (v := .int .i64 v) (by simp)
    have p2 := hk.at (a := ⟨C, 0, none⟩) (v := .int .i64 u) (by simp)
    have p3 := hk.at (a := ⟨C, 1, none⟩) (v := .int .i64 v) (by simp)
    have l2 := hk.lt (a := ⟨B, 0, none⟩) (v := .int .i64 u) (by simp)
    have l3 := hk.lt (a := ⟨C, 0, none⟩) (v := .int .i64 u) (by simp)
    have n0 := hk.at (a := ⟨D, 0, none⟩) (v := .int .i64 0) (by simp)
    have n1 := hk.at (a := ⟨D, 1, none⟩) (v := .int .i64 0) (by simp)
    have l4 := hk.lt (a := ⟨D, 0, none⟩) (v := .int .i64 0) (by simp)
    have HK := Lib.hid hk; clear hk
    go_wp2_with fail
    refine (HMAY.out _).mono ?_
    rintro e W6 ⟨rfl, hb⟩
    have hk := HK.out.below hb
    clear hb q0 q1 q2 q3 l0 l1 HK p0 p1 p2 p3 l2 l3 n0 n1 l4
    have q0 := hk.at (a := ⟨A, 0, none⟩) (v := .int .i64 s0) (by simp)
    have q1 := hk.at (a := ⟨A, 1, none⟩) (v := .int .i64 t0) (by simp)
    have q2 := hk.at (a := ⟨A + 1, 0, none⟩) (v := .int .i64 s1) (by simp)
    have q3 := hk.at (a := ⟨A + 1, 1, none⟩) (v := .int .i64 t1) (by simp)
    have l0 := hk.lt (a := ⟨A, 0, none⟩) (v := .int .i64 s0) (by simp)
    have l1 := hk.lt (a := ⟨A + 1, 0, none⟩) (v := .int .i64 s1) (by simp)
    have p0 := hk.at (a := ⟨B, 0, none⟩) (v := .int .i64 u) (by simp)
    have p1 := hk.at (a := ⟨B, 1, none⟩) (v := .int .i64 v) (by simp)
    have p2 := hk.at (a := ⟨C, 0, none⟩) (v := .int .i64 u) (by simp)
    have p3 := hk.at (a := ⟨C, 1, none⟩) (v := .int .i64 v) (by simp)
    have l2 := hk.lt (a := ⟨B, 0, none⟩) (v := .int .i64 u) (by simp)
    have l3 := hk.lt (a := ⟨C, 0, none⟩) (v := .int .i64 u) (by simp)
    have n0 := hk.at (a := ⟨D, 0, none⟩) (v := .int .i64 0) (by simp)
    have n1 := hk.at (a := ⟨D, 1, none⟩) (v := .int .i64 0) (by simp)
    have l4 := hk.lt (a := ⟨D, 0, none⟩) (v := .int .i64 0) (by simp)
    have HK := Lib.hid hk; clear hk
    clear q0 q1 q2 q3 l0 l1 p0 p1 p2 p3 l2 l3
    obtain ⟨KK, q0, q1, q2, q3, p0, p1, p2, p3⟩ := allT (A := A) (B := B) (C := C) (HK.out.sub (L' := cellsT A B C s0 t0 s1 t1 u v) (fun p hp => by simp only [cellsT, List.mem_cons, List.not_mem_nil, or_false] at hp ⊢; rcases hp with rfl | rfl | rfl | rfl | rfl | rfl | rfl | rfl <;> simp))
    clear HK
    go_wp2_with fail
    clear n0 n1 l4
    go_region_held3 (fun w' => KA w (cellsT A B C s0 t0 s1 t1 u v) w' ∧ w'.cell? ⟨A, 0, none⟩ = some (.int .i64 s0) ∧ w'.cell? ⟨A, 1, none⟩ = some (.int .i64 t0) ∧ w'.cell? ⟨A + 1, 0, none⟩ = some (.int .i64 s1) ∧ w'.cell? ⟨A + 1, 1, none⟩ = some (.int .i64 t1) ∧ w'.cell? ⟨B, 0, none⟩ = some (.int .i64 u) ∧ w'.cell? ⟨B, 1, none⟩ = some (.int .i64 v) ∧ w'.cell? ⟨C, 0, none⟩ = some (.int .i64 u) ∧ w'.cell? ⟨C, 1, none⟩ = some (.int .i64 v))
      (first
        | exact allT ‹KA w (cellsT A B C s0 t0 s1 t1 u v) _›
        | exact allT (Load.KA.drew (And.left ‹KA w (cellsT A B C s0 t0 s1 t1 u v) _ ∧ _›))
        | exact allT (Load.KA.drew ‹KA w (cellsT A B C s0 t0 s1 t1 u v) _›))
      (first
        | (go_at_call 13; (with_reducible refine (HR1.out _).mono ?_); rintro e w' ⟨rfl, hb⟩; have hka := Load.KA.below (And.left ‹KA w (cellsT A B C s0 t0 s1 t1 u v) _ ∧ _›) hb; clear hb)
        | (go_at_call 14; (with_reducible refine (HR2.out _).mono ?_); rintro e w' ⟨rfl, hb⟩; have hka := Load.KA.below (And.left ‹KA w (cellsT A B C s0 t0 s1 t1 u v) _ ∧ _›) hb; clear hb)
        | (go_at_call 15; (with_reducible refine (HF1.out _).mono ?_); rintro e w' ⟨rfl, hb⟩; have hka := Load.KA.below (And.left ‹KA w (cellsT A B C s0 t0 s1 t1 u v) _ ∧ _›) hb; clear hb)
        | (go_at_call 16; (with_reducible refine (HF2.out _).mono ?_); rintro e w' ⟨rfl, hb⟩; have hka := Load.KA.below (And.left ‹KA w (cellsT A B C s0 t0 s1 t1 u v) _ ∧ _›) hb; clear hb))
    go_wp2_with fail
    go_ret
    exact ⟨rfl, (And.left ‹KA w (cellsT A B C s0 t0 s1 t1 u v) _ ∧ _›).2⟩

set_option maxRecDepth 100000 in
theorem lifted (os : Os) (started : os.Started) (H : Type) (enc : TypeId × Value → H) :
    ReturnsInHanded {} Try.checked os 3 .any (Rows.loadTwoSpec.pre6 enc Try.prog Try.f3 Rows.loadTwoRow.domain false) (Rows.loadTwoSpec.post enc Try.prog Try.f3 false true false false) := by
  refine returnsInHanded_of_change (C := Try.checked) own started (by kernel_rfl) Try.func3
    (ChangeSpec.witness6 (enc := enc) (C := Try.checked) false ⟨#[], #[.agg #[.int .i64 0, .int .i64 0], .agg #[.int .i64 0, .int .i64 0]], []⟩ 8 (by kernel_rfl) (by kernel_rfl) (by kernel_rfl) (by kernel_rfl)) ?_
  intro W base args ds gs before hval0 hW hcnd _
  have hval : ∀ (j : Nat) t v, Try.f3.params[j]? = some t → args[j]? = some v → Value.okWide Try.prog W .any base t v := hval0
  have hW' := hW
  obtain ⟨p, q, hA0, hV, rfl, hfz, hnd⟩ := hW
  have hA : DataW.TrodAll enc Try.prog W 0 (fun _ => true) true Try.f3.params.toList args.toList ds p := hA0
  rw [Try.params3] at hA hval
  obtain ⟨v0, vs0, d0, ds0, p0, q0, hargs, rfl, rfl, h0, r0⟩ := trodAll_cons hA
  obtain ⟨v1, vs1, d1, ds1, p1, q1, rfl, rfl, rfl, h1, r1⟩ := trodAll_cons r0
  obtain ⟨rfl, rfl, rfl⟩ := trodAll_nil r1
  obtain rfl : args = #[v0, v1] := by cases args; simp_all
  obtain ⟨rfl, rfl⟩ := trodVars_none hV
  have k0 := h0
  have lt0 : ∀ x ∈ p0, x.block < W.heap.size := by obtain ⟨m, hm⟩ := k0; exact DataW.trod_lt m _ _ _ hm
  obtain ⟨c0, e0, y0, z0, m0, rfl, hd0, hp0, hy0, hz0⟩ := open_agg2 Try.underlying23 (by kernel_rfl) cellsLoad (hval 0 23 v0 rfl rfl) h0
  obtain ⟨s0, hc0, _, ws0⟩ := DataW.trod_int Try.underlying3 hy0
  obtain ⟨t0, he0, _, wt0⟩ := DataW.trod_int Try.underlying3 hz0
  simp only [List.cons.injEq, and_true] at hc0 he0
  subst hc0 he0
  have k1 := h1
  have lt1 : ∀ x ∈ p1, x.block < W.heap.size := by obtain ⟨m, hm⟩ := k1; exact DataW.trod_lt m _ _ _ hm
  obtain ⟨c1, e1, y1, z1, m1, rfl, hd1, hp1, hy1, hz1⟩ := open_agg2 Try.underlying23 (by kernel_rfl) cellsLoad (hval 1 23 v1 rfl rfl) h1
  obtain ⟨s1, hc1, _, ws1⟩ := DataW.trod_int Try.underlying3 hy1
  obtain ⟨t1, he1, _, wt1⟩ := DataW.trod_int Try.underlying3 hz1
  simp only [List.cons.injEq, and_true] at hc1 he1
  subst hc1 he1
  clear hA0 hval0
  refine (walk W s0 t0 ⟨ws0, wt0⟩ s1 t1 ⟨ws1, wt1⟩).mono fun e W' ⟨he, bel⟩ => ?_
  subst he
  exact ⟨_, rfl, _, _, _, [], _, [], hW', trodAll_mk1 (shut_bool Try.underlying4 _), (trodAll_cons_mk (Below.trod laidOut (by kernel_rfl) (of_decide_eq_true (by kernel_rfl)) k0 bel lt0) (trodAll_cons_mk (Below.trod laidOut (by kernel_rfl) (of_decide_eq_true (by kernel_rfl)) k1 bel lt1) trodAll_mk0)), rfl, bel.frame _, fun h => by cases h⟩

theorem over : Rows.loadTwoRow.holds Try.pinned (OpenSpec.ofChange Rows.loadTwoSpec) :=
  OpenClaim.holds_of_wide 3 Try.f3 rfl rfl rfl rfl rfl rfl rfl ⟨rfl, rfl, rfl, rfl, rfl⟩ rfl rfl rfl rfl rfl (by kernel_rfl) Try.func3 (by kernel_rfl)
    (of_decide_eq_true (by kernel_rfl)) (by unfold Func.isWrapper; first | (rw [if_pos (by decide +kernel)]; kernel_rfl) | (rw [if_neg (by decide +kernel)]; exact ⟨rfl, rfl⟩))
    (fun os started H enc _ => lifted os started H enc)

/-- THE STATEMENT -/
theorem proved : Rows.LoadTwoSaid := over
#print axioms proved
end Go.Proofs.Ytoadmmapgajedaa.loadTwo
