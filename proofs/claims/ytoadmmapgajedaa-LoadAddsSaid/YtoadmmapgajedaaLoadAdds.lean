/- LoadAdds: whatever the input, the law returns true, and each argument reads as it read before. No conditions but the row's own. -/
import Derived.Test.YtoadmmapgajedaaRows
import Derived.WalkKit
import Derived.ProofKit
import Derived.ShutString
import Derived.ChangeOld
import Derived.Below
import Derived.OpenShut
import Derived.Lib.SmallJoins
import Derived.Deep.RegionHeld3
import Derived.Deep.RegionWith
import Derived.Deep.DeepCutAuto
import Derived.Test.YtoadmmapgajedaaLoadOpen
import Derived.Test.YtoadmmapgajedaaLoadMore
import Derived.Test.YtoadmmapgajedaaLoadAlive
namespace Go.Proofs.Ytoadmmapgajedaa.loadAdds
open Go.ChangeShapes Go.WideShapes Go.ChangeAt Go.RowKit Go.Joins
open Go.ChangeMaps (open_string shut_string)
set_option linter.unusedVariables false

theorem own : ownKnob Try.prog.godebug = none := by kernel_rfl
theorem laidOut : laidOutB Try.prog = true := by kernel_rfl
open Load (IsLds isLds_of cellsLoad cellsInt)
open Load (KA KA.nil KA.box)
theorem setNew {w0 V W : World} {L : List (Addr × Value)} (hV : KA w0 L V) (h : KA w0 L W) (o : Nat) (v : Value) : KA w0 L (W.setCell ⟨V.heap.size, o, none⟩ v) :=
  ⟨fun p hp => by
    have hlt := World.block_lt_of_cell? _ _ (hV.1 p hp)
    exact (World.cell?_setCell_other W _ _ v (fun e => by rw [← e] at hlt; exact absurd hlt (Nat.lt_irrefl _))).trans (h.1 p hp), h.2.setCell (by exact hV.2.size) v⟩
def cellsC (A : Nat) (s0 t0 s2 t2 : Int) : List (Addr × Value) := [(⟨A, 0, none⟩, .int .i64 (s0)), (⟨A, 1, none⟩, .int .i64 (t0)), (⟨A + 1 + 1, 0, none⟩, .int .i64 (s2)), (⟨A + 1 + 1, 1, none⟩, .int .i64 (t2))]
theorem cellsC_all {w0 W : World} {A : Nat} {s0 t0 s2 t2 : Int} (h : KA w0 (cellsC A s0 t0 s2 t2) W) : KA w0 (cellsC A s0 t0 s2 t2) W ∧ W.cell? ⟨A, 0, none⟩ = some (.int .i64 (s0)) ∧ W.cell? ⟨A, 1, none⟩ = some (.int .i64 (t0)) ∧ W.cell? ⟨A + 1 + 1, 0, none⟩ = some (.int .i64 (s2)) ∧ W.cell? ⟨A + 1 + 1, 1, none⟩ = some (.int .i64 (t2)) :=
  ⟨h, h.at (by simp [cellsC]), h.at (by simp [cellsC]), h.at (by simp [cellsC]), h.at (by simp [cellsC])⟩
def cellsD (A G : Nat) (s0 t0 s2 t2 b0 b1 : Int) : List (Addr × Value) := [(⟨A, 0, none⟩, .int .i64 (s0)), (⟨A, 1, none⟩, .int .i64 (t0)), (⟨A + 1 + 1, 0, none⟩, .int .i64 (s2)), (⟨A + 1 + 1, 1, none⟩, .int .i64 (t2)), (⟨G, 0, none⟩, .int .i64 (b0)), (⟨G, 1, none⟩, .int .i64 (b1))]
theorem cellsD_all {w0 W : World} {A G : Nat} {s0 t0 s2 t2 b0 b1 : Int} (h : KA w0 (cellsD A G s0 t0 s2 t2 b0 b1) W) : KA w0 (cellsD A G s0 t0 s2 t2 b0 b1) W ∧ W.cell? ⟨A, 0, none⟩ = some (.int .i64 (s0)) ∧ W.cell? ⟨A, 1, none⟩ = some (.int .i64 (t0)) ∧ W.cell? ⟨A + 1 + 1, 0, none⟩ = some (.int .i64 (s2)) ∧ W.cell? ⟨A + 1 + 1, 1, none⟩ = some (.int .i64 (t2)) ∧ W.cell? ⟨G, 0, none⟩ = some (.int .i64 (b0)) ∧ W.cell? ⟨G, 1, none⟩ = some (.int .i64 (b1)) :=
  ⟨h, h.at (by simp [cellsD]), h.at (by simp [cellsD]), h.at (by simp [cellsD]), h.at (by simp [cellsD]), h.at (by simp [cellsD]), h.at (by simp [cellsD])⟩
def cellsX (A X : Nat) (s0 t0 s1 t1 s2 t2 u v : Int) : List (Addr × Value) := [(⟨A, 0, none⟩, .int .i64 (s0)), (⟨A, 1, none⟩, .int .i64 (t0)), (⟨A + 1, 0, none⟩, .int .i64 (s1)), (⟨A + 1, 1, none⟩, .int .i64 (t1)), (⟨A + 1 + 1, 0, none⟩, .int .i64 (s2)), (⟨A + 1 + 1, 1, none⟩, .int .i64 (t2)), (⟨X, 0, none⟩, .int .i64 (u)), (⟨X, 1, none⟩, .int .i64 (v))]
theorem cellsX_all {w0 W : World} {A X : Nat} {s0 t0 s1 t1 s2 t2 u v : Int} (h : KA w0 (cellsX A X s0 t0 s1 t1 s2 t2 u v) W) : KA w0 (cellsX A X s0 t0 s1 t1 s2 t2 u v) W ∧ W.cell? ⟨A, 0, none⟩ = some (.int .i64 (s0)) ∧ W.cell? ⟨A, 1, none⟩ = some (.int .i64 (t0)) ∧ W.cell? ⟨A + 1, 0, none⟩ = some (.int .i64 (s1)) ∧ W.cell? ⟨A + 1, 1, none⟩ = some (.int .i64 (t1)) ∧ W.cell? ⟨A + 1 + 1, 0, none⟩ = some (.int .i64 (s2)) ∧ W.cell? ⟨A + 1 + 1, 1, none⟩ = some (.int .i64 (t2)) ∧ W.cell? ⟨X, 0, none⟩ = some (.int .i64 (u)) ∧ W.cell? ⟨X, 1, none⟩ = some (.int .i64 (v)) :=
  ⟨h, h.at (by simp [cellsX]), h.at (by simp [cellsX]), h.at (by simp [cellsX]), h.at (by simp [cellsX]), h.at (by simp [cellsX]), h.at (by simp [cellsX]), h.at (by simp [cellsX]), h.at (by simp [cellsX])⟩
open Load (alive_any)
set_option maxHeartbeats 20000000 in
set_option maxRecDepth 100000 in
theorem walk (w : World) (s0 t0 : Int) (w0 : (Lit.int .i64 s0).wf = true ∧ (Lit.int .i64 t0).wf = true) (s1 t1 : Int) (w1 : (Lit.int .i64 s1).wf = true ∧ (Lit.int .i64 t1).wf = true) (s2 t2 : Int) (w2 : (Lit.int .i64 s2).wf = true ∧ (Lit.int .i64 t2).wf = true) (a3 : Int) (w3 : (Lit.int .i64 a3).wf = true) :
    Calls Try.prog 6 #[.agg #[.int .i64 s0, .int .i64 t0], .agg #[.int .i64 s1, .int .i64 t1], .agg #[.int .i64 s2, .int .i64 t2], .int .i64 a3] w fun e w' => e = .returned (.bool true) ∧ Below w.heap.size w w' := by
  have hkk := (((KA.nil w).box (.int .i64 s0) (.int .i64 t0) 23).box (.int .i64 s1) (.int .i64 t1) 23).box (.int .i64 s2) (.int .i64 t2) 23
  have HKK := Lib.hid hkk; clear hkk
  have hadd := fun W => Load.add_any s0 t0 s1 t1 W
  have hadr := fun W => Load.add_any s1 t1 s0 t0 W
  rw [Load.adB_comm s1 t1 s0 t0, Int.add_comm s1 s0, Int.add_comm t1 t0] at hadr
  obtain ⟨u, hu⟩ : ∃ u, Load.adV (Load.adB s0 t0 s1 t1) (s0 + s1) = u := ⟨_, rfl⟩
  obtain ⟨v, hv⟩ : ∃ v, Load.adV (Load.adB s0 t0 s1 t1) (t0 + t1) = v := ⟨_, rfl⟩
  obtain ⟨c, hc⟩ : ∃ c, Load.adB s0 t0 s1 t1 = c := ⟨_, rfl⟩
  rw [hu, hv, hc] at hadd hadr
  have HU := Lib.hid hu; clear hu
  have HV := Lib.hid hv; clear hv
  have HC := Lib.hid hc; clear hc
  have HADD := Lib.hid hadd; clear hadd
  have HADR := Lib.hid hadr; clear hadr
  have hr1 := fun W => Load.right_any s2 t2 W
  have hf1 := fun W => Load.fits_any s2 t2 s0 t0 W
  have HR := Lib.hid hr1; clear hr1
  have HF := Lib.hid hf1; clear hf1
  go_enter Try.func6, Try.ntmps6
  go_wp2_with fail
  refine (alive_any _).mono ?_
  rintro e W1 ⟨rfl, hb⟩
  have hk := HKK.out.below hb
  simp only [World.size_alloc] at hk
  clear hb HKK
  obtain ⟨A, hA⟩ : ∃ A, A = w.heap.size := ⟨_, rfl⟩
  rw [← hA] at hk ⊢
  have HA := Lib.hid hA; clear hA
  have q0 := hk.at (a := ⟨A, 0, none⟩) (v := .int .i64 (s0)) (by simp)
  have l0 := hk.lt (a := ⟨A, 0, none⟩) (v := .int .i64 (s0)) (by simp)
  have q1 := hk.at (a := ⟨A, 1, none⟩) (v := .int .i64 (t0)) (by simp)
  have q2 := hk.at (a := ⟨A + 1, 0, none⟩) (v := .int .i64 (s1)) (by simp)
  have l1 := hk.lt (a := ⟨A + 1, 0, none⟩) (v := .int .i64 (s1)) (by simp)
  have q3 := hk.at (a := ⟨A + 1, 1, none⟩) (v := .int .i64 (t1)) (by simp)
  have q4 := hk.at (a := ⟨A + 1 + 1, 0, none⟩) (v := .int .i64 (s2)) (by simp)
  have l2 := hk.lt (a := ⟨A + 1 + 1, 0, none⟩) (v := .int .i64 (s2)) (by simp)
  have q5 := hk.at (a := ⟨A + 1 + 1, 1, none⟩) (v := .int .i64 (t2)) (by simp)
  have HK := Lib.hid hk; clear hk
  go_wp2_with fail
  refine (HADD.out _).mono ?_
  rintro e W2 ⟨rfl, hb⟩
  have hk := HK.out.below hb
  try simp only [World.size_alloc] at hk
  clear hb HK q0 q1 q2 q3 q4 q5 l0 l1 l2
  have q0 := hk.at (a := ⟨A, 0, none⟩) (v := .int .i64 (s0)) (by simp)
  have l0 := hk.lt (a := ⟨A, 0, none⟩) (v := .int .i64 (s0)) (by simp)
  have q1 := hk.at (a := ⟨A, 1, none⟩) (v := .int .i64 (t0)) (by simp)
  have q2 := hk.at (a := ⟨A + 1, 0, none⟩) (v := .int .i64 (s1)) (by simp)
  have l1 := hk.lt (a := ⟨A + 1, 0, none⟩) (v := .int .i64 (s1)) (by simp)
  have q3 := hk.at (a := ⟨A + 1, 1, none⟩) (v := .int .i64 (t1)) (by simp)
  have q4 := hk.at (a := ⟨A + 1 + 1, 0, none⟩) (v := .int .i64 (s2)) (by simp)
  have l2 := hk.lt (a := ⟨A + 1 + 1, 0, none⟩) (v := .int .i64 (s2)) (by simp)
  have q5 := hk.at (a := ⟨A + 1 + 1, 1, none⟩) (v := .int .i64 (t2)) (by simp)
  have HK := Lib.hid hk; clear hk
  go_wp2_with fail
  refine (HADR.out _).mono ?_
  rintro e W3 ⟨rfl, hb⟩
  have hk := (HK.out.box (.int .i64 (u)) (.int .i64 (v)) 23).below hb
  try simp only [World.size_alloc] at hk
  clear hb HK q0 q1 q2 q3 q4 q5 l0 l1 l2
  obtain ⟨X, hX⟩ : ∃ X, X = W2.heap.size := ⟨_, rfl⟩
  rw [← hX] at hk ⊢
  have HX := Lib.hid hX; clear hX
  have q0 := hk.at (a := ⟨A, 0, none⟩) (v := .int .i64 (s0)) (by simp)
  have l0 := hk.lt (a := ⟨A, 0, none⟩) (v := .int .i64 (s0)) (by simp)
  have q1 := hk.at (a := ⟨A, 1, none⟩) (v := .int .i64 (t0)) (by simp)
  have q2 := hk.at (a := ⟨A + 1, 0, none⟩) (v := .int .i64 (s1)) (by simp)
  have l1 := hk.lt (a := ⟨A + 1, 0, none⟩) (v := .int .i64 (s1)) (by simp)
  have q3 := hk.at (a := ⟨A + 1, 1, none⟩) (v := .int .i64 (t1)) (by simp)
  have q4 := hk.at (a := ⟨A + 1 + 1, 0, none⟩) (v := .int .i64 (s2)) (by simp)
  have l2 := hk.lt (a := ⟨A + 1 + 1, 0, none⟩) (v := .int .i64 (s2)) (by simp)
  have q5 := hk.at (a := ⟨A + 1 + 1, 1, none⟩) (v := .int .i64 (t2)) (by simp)
  have q6 := hk.at (a := ⟨X, 0, none⟩) (v := .int .i64 (u)) (by simp)
  have l3 := hk.lt (a := ⟨X, 0, none⟩) (v := .int .i64 (u)) (by simp)
  have q7 := hk.at (a := ⟨X, 1, none⟩) (v := .int .i64 (v)) (by simp)
  have HK := Lib.hid hk; clear hk
  go_upto_if 38 with fail
  have hk := (HK.out.box (.int .i64 (u)) (.int .i64 (v)) 23)
  have hkx : KA w (cellsX A X s0 t0 s1 t1 s2 t2 u v) (W3.alloc (.cells #[.int .i64 (u), .int .i64 (v)] 23)) := (hk.sub (L' := cellsX A X s0 t0 s1 t1 s2 t2 u v) (fun p hp => by simp only [cellsX, List.mem_cons, List.not_mem_nil, or_false] at hp ⊢; rcases hp with rfl | rfl | rfl | rfl | rfl | rfl | rfl | rfl <;> simp))
  have HKX := Lib.hid hkx
  clear hk hkx HK q0 q1 q2 q3 q4 q5 q6 q7 l0 l1 l2 l3
  generalize hWc : W3.alloc (.cells #[.int .i64 (u), .int .i64 (v)] 23) = Wc at HKX ⊢
  have HWC := Lib.hid hWc; clear hWc
  go_cut [] (fun wx => KA w (cellsC A s0 t0 s2 t2) wx)
  case first =>
    obtain ⟨KX, q0, q1, q2, q3, q4, q5, q6, q7⟩ := cellsX_all HKX.out
    have HX2 := Lib.hid KX
    cases c with
    | false =>
      clear KX
      go_wp2_with fail
      go_meet
      exact (HX2.out.sub (L' := cellsC A s0 t0 s2 t2) (fun p hp => by simp only [cellsC, cellsX, List.mem_cons, List.not_mem_nil, or_false] at hp ⊢; rcases hp with rfl | rfl | rfl | rfl <;> simp))
    | true =>
      have hu := HU.out
      have hv := HV.out
      have hc := HC.out
      obtain ⟨hm0, hm1, hm2⟩ := Load.adB_true hc
      rw [hc, Load.adV_true] at hu hv
      have hng := fun W => Load.neg_any s1 t1 W
      rw [Load.negV_true hm1, Load.negV_true hm1] at hng
      have hbk := fun W => Load.add_any (s0 + s1) (t0 + t1) (-s1) (-t1) W
      rw [Load.adB_back hc, Load.adV_true, Load.adV_true, Int.add_neg_cancel_right, Int.add_neg_cancel_right, hu, hv] at hbk
      have HNG := Lib.hid hng; clear hng
      have HBK := Lib.hid hbk; clear hbk
      clear hu hv hc hm0 hm1 hm2 HKX
      go_wp2_with fail
      (first | (go_region_held3 (fun w' => KA w (cellsX A X s0 t0 s1 t1 s2 t2 u v) w' ∧ w'.cell? ⟨A, 0, none⟩ = some (.int .i64 (s0)) ∧ w'.cell? ⟨A, 1, none⟩ = some (.int .i64 (t0)) ∧ w'.cell? ⟨A + 1, 0, none⟩ = some (.int .i64 (s1)) ∧ w'.cell? ⟨A + 1, 1, none⟩ = some (.int .i64 (t1)) ∧ w'.cell? ⟨A + 1 + 1, 0, none⟩ = some (.int .i64 (s2)) ∧ w'.cell? ⟨A + 1 + 1, 1, none⟩ = some (.int .i64 (t2)) ∧ w'.cell? ⟨X, 0, none⟩ = some (.int .i64 (u)) ∧ w'.cell? ⟨X, 1, none⟩ = some (.int .i64 (v)))
        (first
          | exact cellsX_all ‹KA w (cellsX A X s0 t0 s1 t1 s2 t2 u v) _›
          | exact cellsX_all (Load.KA.drew (And.left ‹KA w (cellsX A X s0 t0 s1 t1 s2 t2 u v) _ ∧ _›))
          | exact cellsX_all (Load.KA.drew ‹KA w (cellsX A X s0 t0 s1 t1 s2 t2 u v) _›)
          | exact cellsX_all (Load.KA.alloc (And.left ‹KA w (cellsX A X s0 t0 s1 t1 s2 t2 u v) _ ∧ _›) _)
          | exact cellsX_all (Load.KA.drew (Load.KA.alloc (And.left ‹KA w (cellsX A X s0 t0 s1 t1 s2 t2 u v) _ ∧ _›) _))
          | exact cellsX_all (Load.KA.alloc ‹KA w (cellsX A X s0 t0 s1 t1 s2 t2 u v) _› _)
          | exact cellsX_all (Load.KA.drew (Load.KA.alloc ‹KA w (cellsX A X s0 t0 s1 t1 s2 t2 u v) _› _))
          | exact cellsX_all (setNew ‹KA w (cellsX A X s0 t0 s1 t1 s2 t2 u v) _› (setNew ‹KA w (cellsX A X s0 t0 s1 t1 s2 t2 u v) _› ‹KA w (cellsX A X s0 t0 s1 t1 s2 t2 u v) _› 0 _) 1 _))
        (first
          | (go_at_call 11; (with_reducible refine (HNG.out _).mono ?_); rintro e w' ⟨rfl, hb⟩; have hka := Load.KA.below (And.left ‹KA w (cellsX A X s0 t0 s1 t1 s2 t2 u v) _ ∧ _›) hb; (obtain ⟨hcc, hff⟩ := Load.bcell hb); have hz := hb.size; (try simp only [World.size_alloc, World.size_drew] at hz); (try have hz2 := Nat.lt_of_succ_le hz); clear hb)
          | (go_at_call 9; (with_reducible refine (HBK.out _).mono ?_); rintro e w' ⟨rfl, hb⟩; have hka := Load.KA.below (And.left ‹KA w (cellsX A X s0 t0 s1 t1 s2 t2 u v) _ ∧ _›) hb; (obtain ⟨hcc, hff⟩ := Load.bcell hb); have hz := hb.size; (try simp only [World.size_alloc] at hz); (try have hz2 := Nat.lt_of_succ_le hz); clear hb))) | fail)
      all_goals (go_split_ands; go_wp2_with fail; go_meet; exact (‹KA w (cellsX A X s0 t0 s1 t1 s2 t2 u v) _›.sub (L' := cellsC A s0 t0 s2 t2) (fun p hp => by simp only [cellsC, cellsX, List.mem_cons, List.not_mem_nil, or_false] at hp ⊢; rcases hp with rfl | rfl | rfl | rfl <;> simp)))
  case rest =>
    have hr1 := HR.out
    have hf1 := HF.out
    have hAG : A + 1 + 1 < wc.heap.size := hcut.lt (a := ⟨A + 1 + 1, 0, none⟩) (v := .int .i64 s2) (by simp [cellsC])
    obtain ⟨KK, q0, q1, q2, q3⟩ := cellsC_all hcut
    have l0 := KK.lt (a := ⟨A, 0, none⟩) (v := .int .i64 s0) (by simp [cellsC])
    have l1 : A + 1 + 1 < wc.heap.size := hAG
    have HK := Lib.hid KK
    clear KK hcut HC HU HV
    cases hr : Load.rightL s2 t2 with
    | false =>
      rw [hr] at hr1
      have HR1 := Lib.hid hr1; clear hr1 hr hf1
      go_wp2_with fail
      refine (HR1.out _).mono ?_
      rintro e W7 ⟨rfl, hb⟩
      have hk := (HK.out.box (.int .i64 (s2)) (.int .i64 (t2)) 23).below hb
      have f0 : W7.frozen? ⟨wc.heap.size, 0, none⟩ = false := (hb.frozen (p := ⟨wc.heap.size, 0, none⟩) (by simp)).trans (by simp)
      have f1 : W7.frozen? ⟨wc.heap.size, 1, none⟩ = false := (hb.frozen (p := ⟨wc.heap.size, 1, none⟩) (by simp)).trans (by simp)
      clear hb HK q0 q1 q2 q3 l0 l1
      obtain ⟨G, hG⟩ : ∃ G, G = wc.heap.size := ⟨_, rfl⟩
      rw [← hG] at hk f0 f1 hAG ⊢
      have HG := Lib.hid hG; clear hG
      simp only [cellsC] at hk
      have q0 := hk.at (a := ⟨A, 0, none⟩) (v := .int .i64 (s0)) (by simp)
      have l0 := hk.lt (a := ⟨A, 0, none⟩) (v := .int .i64 (s0)) (by simp)
      have q1 := hk.at (a := ⟨A, 1, none⟩) (v := .int .i64 (t0)) (by simp)
      have q2 := hk.at (a := ⟨A + 1 + 1, 0, none⟩) (v := .int .i64 (s2)) (by simp)
      have l1 := hk.lt (a := ⟨A + 1 + 1, 0, none⟩) (v := .int .i64 (s2)) (by simp)
      have q3 := hk.at (a := ⟨A + 1 + 1, 1, none⟩) (v := .int .i64 (t2)) (by simp)
      have q4 := hk.at (a := ⟨G, 0, none⟩) (v := .int .i64 (s2)) (by simp)
      have l2 := hk.lt (a := ⟨G, 0, none⟩) (v := .int .i64 (s2)) (by simp)
      have q5 := hk.at (a := ⟨G, 1, none⟩) (v := .int .i64 (t2)) (by simp)
      have HK := Lib.hid hk; clear hk
      go_wp2_with fail
      clear q0 q1 q2 q3 q4 q5 l0 l1 l2 f0 f1 hAG
      obtain ⟨KK, q0, q1, q2, q3, q4, q5⟩ := cellsD_all (A := A) (G := G) (b0 := s2) (b1 := t2) (HK.out.sub (L' := cellsD A G s0 t0 s2 t2 s2 t2) (fun p hp => by simp only [cellsD, List.mem_cons, List.not_mem_nil, or_false] at hp ⊢; rcases hp with rfl | rfl | rfl | rfl | rfl | rfl <;> simp))
      clear HK
      have hund : undef = Value.tuple #[] := rfl
      have KKd := Load.KA.drew KK
      (first | (go_region_with (first
          | (go_at_call 13; (with_reducible refine (HR1.out _).mono ?_); rintro e w' ⟨rfl, hb⟩; have hka := Load.KA.below ‹KA w (cellsD A G s0 t0 s2 t2 s2 t2) _› hb; clear hb; have hq := cellsD_all hka; go_split_ands))) | fail)
      all_goals (go_wp2_with fail; go_ret; exact ⟨rfl, ‹KA w (cellsD A G s0 t0 s2 t2 s2 t2) _›.2⟩)
    | true =>
      rw [hr] at hr1
      have HR1 := Lib.hid hr1; clear hr1
      obtain ⟨⟨r1, r2⟩, r3, r4⟩ := Load.rightL_true hr
      obtain ⟨M1, hM1⟩ : ∃ M1, bits .and .i64 a3 1023 = M1 := ⟨_, rfl⟩
      obtain ⟨M2, hM2⟩ : ∃ M2, bits .and .i64 a3 255 = M2 := ⟨_, rfl⟩
      have b1 : 0 ≤ M1 ∧ M1 ≤ 1023 := by rw [← hM1, Load.and1023]; omega
      have b2 : 0 ≤ M2 ∧ M2 ≤ 255 := by rw [← hM2, Load.and255]; omega
      obtain ⟨b1, b1'⟩ := b1
      obtain ⟨b2, b2'⟩ := b2
      cases hf : Load.fitsL s2 t2 s0 t0 with
      | false =>
        rw [hf] at hf1
        have HF1 := Lib.hid hf1; clear hf1 hf hr
        go_wp2_with fail
        refine (HR1.out _).mono ?_
        rintro e W7 ⟨rfl, hb⟩
        have hk := (HK.out.box (.int .i64 (s2)) (.int .i64 (t2)) 23).below hb
        have f0 : W7.frozen? ⟨wc.heap.size, 0, none⟩ = false := (hb.frozen (p := ⟨wc.heap.size, 0, none⟩) (by simp)).trans (by simp)
        have f1 : W7.frozen? ⟨wc.heap.size, 1, none⟩ = false := (hb.frozen (p := ⟨wc.heap.size, 1, none⟩) (by simp)).trans (by simp)
        clear hb HK q0 q1 q2 q3 l0 l1
        obtain ⟨G, hG⟩ : ∃ G, G = wc.heap.size := ⟨_, rfl⟩
        rw [← hG] at hk f0 f1 hAG ⊢
        have HG := Lib.hid hG; clear hG
        simp only [cellsC] at hk
        have q0 := hk.at (a := ⟨A, 0, none⟩) (v := .int .i64 (s0)) (by simp)
        have l0 := hk.lt (a := ⟨A, 0, none⟩) (v := .int .i64 (s0)) (by simp)
        have q1 := hk.at (a := ⟨A, 1, none⟩) (v := .int .i64 (t0)) (by simp)
        have q2 := hk.at (a := ⟨A + 1 + 1, 0, none⟩) (v := .int .i64 (s2)) (by simp)
        have l1 := hk.lt (a := ⟨A + 1 + 1, 0, none⟩) (v := .int .i64 (s2)) (by simp)
        have q3 := hk.at (a := ⟨A + 1 + 1, 1, none⟩) (v := .int .i64 (t2)) (by simp)
        have q4 := hk.at (a := ⟨G, 0, none⟩) (v := .int .i64 (s2)) (by simp)
        have l2 := hk.lt (a := ⟨G, 0, none⟩) (v := .int .i64 (s2)) (by simp)
        have q5 := hk.at (a := ⟨G, 1, none⟩) (v := .int .i64 (t2)) (by simp)
        have HK := Lib.hid hk; clear hk
        have hbig := Load.two_put (a := .int .i64 (s2 + M1)) (b := .int .i64 (t2 + M2)) (Below.refl (G + 1) W7) q4 q5 f0 f1
        have hka2 := ((HK.out.sub (L' := cellsC A s0 t0 s2 t2) (fun p hp => by simp only [cellsC, List.mem_cons, List.not_mem_nil, or_false] at hp ⊢; rcases hp with rfl | rfl | rfl | rfl <;> simp)).under hbig.1 (fun p hp => by simp only [cellsC, List.mem_cons, List.not_mem_nil, or_false] at hp; rcases hp with rfl | rfl | rfl | rfl <;> simp <;> omega) (by have := HA.out; omega)).put hbig.2.2.1
        have hka3 := hka2.put hbig.2.2.2.1
        have HBIG := Lib.hid hka3; clear hka2 hka3 hbig
        go_wp2_with fail
        clear q0 q1 q2 q3 q4 q5 l0 l1 l2 f0 f1 hM1 hM2 hAG
        obtain ⟨KK, q0, q1, q2, q3, q4, q5⟩ := cellsD_all (A := A) (G := G) (b0 := s2 + M1) (b1 := t2 + M2) (HBIG.out.sub (L' := cellsD A G s0 t0 s2 t2 (s2 + M1) (t2 + M2)) (fun p hp => by simp only [cellsC, cellsD, List.mem_cons, List.not_mem_nil, or_false] at hp ⊢; rcases hp with rfl | rfl | rfl | rfl | rfl | rfl <;> simp))
        clear HBIG HK
        have hund : undef = Value.tuple #[] := rfl
        have KKd := Load.KA.drew KK
        (first | (go_region_with (first
            | (go_at_call 13; (with_reducible refine (HR1.out _).mono ?_); rintro e w' ⟨rfl, hb⟩; have hka := Load.KA.below ‹KA w (cellsD A G s0 t0 s2 t2 (s2 + M1) (t2 + M2)) _› hb; clear hb; have hq := cellsD_all hka; go_split_ands)
            | (go_at_call 15; (with_reducible refine (HF1.out _).mono ?_); rintro e w' ⟨rfl, hb⟩; have hka := Load.KA.below ‹KA w (cellsD A G s0 t0 s2 t2 (s2 + M1) (t2 + M2)) _› hb; clear hb; have hq := cellsD_all hka; go_split_ands))) | fail)
        all_goals (go_wp2_with fail; go_ret; exact ⟨rfl, ‹KA w (cellsD A G s0 t0 s2 t2 (s2 + M1) (t2 + M2)) _›.2⟩)
      | true =>
        rw [hf] at hf1
        have HF1 := Lib.hid hf1; clear hf1
        obtain ⟨⟨g1, g2⟩, g3, g4⟩ := Load.fitsL_true hf
        have hn1 := fun W => Load.neg_any s0 t0 W
        have hn2 := fun W => Load.neg_any (-s0) (-t0) W
        have hm1 : Load.mayL s0 t0 = true := Load.mayL_of (by omega) (by omega) (by omega) (by omega)
        have hm2 : Load.mayL (-s0) (-t0) = true := Load.mayL_of (by omega) (by omega) (by omega) (by omega)
        rw [Load.negV_true hm1, Load.negV_true hm1] at hn1
        rw [Load.negV_true hm2, Load.negV_true hm2, Int.neg_neg, Int.neg_neg] at hn2
        have hf2 := fun W => Load.fits_any (s2 + M1) (t2 + M2) s0 t0 W
        rw [Load.fitsL_of (by omega) (by omega) (by omega) (by omega)] at hf2
        have HF2 := Lib.hid hf2; clear hf2
        have HN1 := Lib.hid hn1; clear hn1
        have HN2 := Lib.hid hn2; clear hn2
        clear hm1 hm2 hf hr
        go_wp2_with fail
        refine (HR1.out _).mono ?_
        rintro e W7 ⟨rfl, hb⟩
        have hk := (HK.out.box (.int .i64 (s2)) (.int .i64 (t2)) 23).below hb
        have f0 : W7.frozen? ⟨wc.heap.size, 0, none⟩ = false := (hb.frozen (p := ⟨wc.heap.size, 0, none⟩) (by simp)).trans (by simp)
        have f1 : W7.frozen? ⟨wc.heap.size, 1, none⟩ = false := (hb.frozen (p := ⟨wc.heap.size, 1, none⟩) (by simp)).trans (by simp)
        clear hb HK q0 q1 q2 q3 l0 l1
        obtain ⟨G, hG⟩ : ∃ G, G = wc.heap.size := ⟨_, rfl⟩
        rw [← hG] at hk f0 f1 hAG ⊢
        have HG := Lib.hid hG; clear hG
        simp only [cellsC] at hk
        have q0 := hk.at (a := ⟨A, 0, none⟩) (v := .int .i64 (s0)) (by simp)
        have l0 := hk.lt (a := ⟨A, 0, none⟩) (v := .int .i64 (s0)) (by simp)
        have q1 := hk.at (a := ⟨A, 1, none⟩) (v := .int .i64 (t0)) (by simp)
        have q2 := hk.at (a := ⟨A + 1 + 1, 0, none⟩) (v := .int .i64 (s2)) (by simp)
        have l1 := hk.lt (a := ⟨A + 1 + 1, 0, none⟩) (v := .int .i64 (s2)) (by simp)
        have q3 := hk.at (a := ⟨A + 1 + 1, 1, none⟩) (v := .int .i64 (t2)) (by simp)
        have q4 := hk.at (a := ⟨G, 0, none⟩) (v := .int .i64 (s2)) (by simp)
        have l2 := hk.lt (a := ⟨G, 0, none⟩) (v := .int .i64 (s2)) (by simp)
        have q5 := hk.at (a := ⟨G, 1, none⟩) (v := .int .i64 (t2)) (by simp)
        have HK := Lib.hid hk; clear hk
        have hbig := Load.two_put (a := .int .i64 (s2 + M1)) (b := .int .i64 (t2 + M2)) (Below.refl (G + 1) W7) q4 q5 f0 f1
        have hka2 := ((HK.out.sub (L' := cellsC A s0 t0 s2 t2) (fun p hp => by simp only [cellsC, List.mem_cons, List.not_mem_nil, or_false] at hp ⊢; rcases hp with rfl | rfl | rfl | rfl <;> simp)).under hbig.1 (fun p hp => by simp only [cellsC, List.mem_cons, List.not_mem_nil, or_false] at hp; rcases hp with rfl | rfl | rfl | rfl <;> simp <;> omega) (by have := HA.out; omega)).put hbig.2.2.1
        have hka3 := hka2.put hbig.2.2.2.1
        have HBIG := Lib.hid hka3; clear hka2 hka3 hbig
        go_wp2_with fail
        clear q0 q1 q2 q3 q4 q5 l0 l1 l2 f0 f1 hM1 hM2 hAG
        obtain ⟨KK, q0, q1, q2, q3, q4, q5⟩ := cellsD_all (A := A) (G := G) (b0 := s2 + M1) (b1 := t2 + M2) (HBIG.out.sub (L' := cellsD A G s0 t0 s2 t2 (s2 + M1) (t2 + M2)) (fun p hp => by simp only [cellsC, cellsD, List.mem_cons, List.not_mem_nil, or_false] at hp ⊢; rcases hp with rfl | rfl | rfl | rfl | rfl | rfl <;> simp))
        clear HBIG HK
        (first | (go_region_held3 (fun w' => KA w (cellsD A G s0 t0 s2 t2 (s2 + M1) (t2 + M2)) w' ∧ w'.cell? ⟨A, 0, none⟩ = some (.int .i64 (s0)) ∧ w'.cell? ⟨A, 1, none⟩ = some (.int .i64 (t0)) ∧ w'.cell? ⟨A + 1 + 1, 0, none⟩ = some (.int .i64 (s2)) ∧ w'.cell? ⟨A + 1 + 1, 1, none⟩ = some (.int .i64 (t2)) ∧ w'.cell? ⟨G, 0, none⟩ = some (.int .i64 (s2 + M1)) ∧ w'.cell? ⟨G, 1, none⟩ = some (.int .i64 (t2 + M2)))
          (first
            | exact cellsD_all ‹KA w (cellsD A G s0 t0 s2 t2 (s2 + M1) (t2 + M2)) _›
            | exact cellsD_all (Load.KA.drew (And.left ‹KA w (cellsD A G s0 t0 s2 t2 (s2 + M1) (t2 + M2)) _ ∧ _›))
            | exact cellsD_all (Load.KA.drew ‹KA w (cellsD A G s0 t0 s2 t2 (s2 + M1) (t2 + M2)) _›)
            | exact cellsD_all (Load.KA.alloc (And.left ‹KA w (cellsD A G s0 t0 s2 t2 (s2 + M1) (t2 + M2)) _ ∧ _›) _)
            | exact cellsD_all (Load.KA.drew (Load.KA.alloc (And.left ‹KA w (cellsD A G s0 t0 s2 t2 (s2 + M1) (t2 + M2)) _ ∧ _›) _))
            | exact cellsD_all (Load.KA.alloc ‹KA w (cellsD A G s0 t0 s2 t2 (s2 + M1) (t2 + M2)) _› _)
            | exact cellsD_all (Load.KA.drew (Load.KA.alloc ‹KA w (cellsD A G s0 t0 s2 t2 (s2 + M1) (t2 + M2)) _› _))
            | exact cellsD_all (setNew ‹KA w (cellsD A G s0 t0 s2 t2 (s2 + M1) (t2 + M2)) _› (setNew ‹KA w (cellsD A G s0 t0 s2 t2 (s2 + M1) (t2 + M2)) _› ‹KA w (cellsD A G s0 t0 s2 t2 (s2 + M1) (t2 + M2)) _› 0 _) 1 _))
          (first
            | (go_at_call 13; (with_reducible refine (HR1.out _).mono ?_); rintro e w' ⟨rfl, hb⟩; have hka := Load.KA.below (And.left ‹KA w (cellsD A G s0 t0 s2 t2 (s2 + M1) (t2 + M2)) _ ∧ _›) hb; clear hb)
            | (go_at_call 15; (with_reducible refine (HF1.out _).mono ?_); rintro e w' ⟨rfl, hb⟩; have hka := Load.KA.below (And.left ‹KA w (cellsD A G s0 t0 s2 t2 (s2 + M1) (t2 + M2)) _ ∧ _›) hb; clear hb)
            | (go_at_call 15; (with_reducible refine (HF2.out _).mono ?_); rintro e w' ⟨rfl, hb⟩; have hka := Load.KA.below (And.left ‹KA w (cellsD A G s0 t0 s2 t2 (s2 + M1) (t2 + M2)) _ ∧ _›) hb; clear hb)
            | (go_at_call 11; (with_reducible refine (HN1.out _).mono ?_); rintro e w' ⟨rfl, hb⟩; have hka := Load.KA.below (And.left ‹KA w (cellsD A G s0 t0 s2 t2 (s2 + M1) (t2 + M2)) _ ∧ _›) hb; clear hb)
            | (go_at_call 11; (with_reducible refine (HN2.out _).mono ?_); rintro e w' ⟨rfl, hb⟩; have hka := Load.KA.below (And.left ‹KA w (cellsD A G s0 t0 s2 t2 (s2 + M1) (t2 + M2)) _ ∧ _›) hb; clear hb))) | fail)
        all_goals (go_wp2_with fail; go_ret; exact ⟨rfl, (And.left ‹KA w (cellsD A G s0 t0 s2 t2 (s2 + M1) (t2 + M2)) _ ∧ _›).2⟩)

set_option maxRecDepth 100000 in
theorem lifted (os : Os) (started : os.Started) (H : Type) (enc : TypeId × Value → H) :
    ReturnsInHanded {} Try.checked os 6 .any (Rows.loadAddsSpec.pre6 enc Try.prog Try.f6 Rows.loadAddsRow.domain false) (Rows.loadAddsSpec.post enc Try.prog Try.f6 false true false false) := by
  refine returnsInHanded_of_change (C := Try.checked) own started (by kernel_rfl) Try.func6
    (ChangeSpec.witness6 (enc := enc) (C := Try.checked) false ⟨#[], #[.agg #[.int .i64 0, .int .i64 0], .agg #[.int .i64 0, .int .i64 0], .agg #[.int .i64 0, .int .i64 0], .int .i64 0], []⟩ 8 (by kernel_rfl) (by kernel_rfl) (by kernel_rfl) (by kernel_rfl)) ?_
  intro W base args ds gs before hval0 hW hcnd _
  have hval : ∀ (j : Nat) t v, Try.f6.params[j]? = some t → args[j]? = some v → Value.okWide Try.prog W .any base t v := hval0
  have hW' := hW
  obtain ⟨p, q, hA0, hV, rfl, hfz, hnd⟩ := hW
  have hA : DataW.TrodAll enc Try.prog W 0 (fun _ => true) true Try.f6.params.toList args.toList ds p := hA0
  rw [Try.params6] at hA hval
  obtain ⟨v0, vs0, d0, ds0, p0, q0, hargs, rfl, rfl, h0, r0⟩ := trodAll_cons hA
  obtain ⟨v1, vs1, d1, ds1, p1, q1, rfl, rfl, rfl, h1, r1⟩ := trodAll_cons r0
  obtain ⟨v2, vs2, d2, ds2, p2, q2, rfl, rfl, rfl, h2, r2⟩ := trodAll_cons r1
  obtain ⟨v3, vs3, d3, ds3, p3, q3, rfl, rfl, rfl, h3, r3⟩ := trodAll_cons r2
  obtain ⟨rfl, rfl, rfl⟩ := trodAll_nil r3
  obtain rfl : args = #[v0, v1, v2, v3] := by cases args; simp_all
  obtain ⟨rfl, rfl⟩ := trodVars_none hV
  have k0 := h0
  have lt0 : ∀ x ∈ p0, x.block < W.heap.size := by obtain ⟨m, hm⟩ := k0; exact DataW.trod_lt m _ _ _ hm
  obtain ⟨c0, e0, y0, z0, m0, rfl, hd0, hp0, hy0, hz0⟩ := open_agg2 Try.underlying23 (by kernel_rfl) cellsLoad (hval 0 23 v0 rfl rfl) h0
  obtain ⟨s0, hc0, _, ws0⟩ := DataW.trod_int Try.underlying3 hy0
  obtain ⟨t0, he0, _, wt0⟩ := DataW.trod_int Try.underlying3 hz0
  simp only [List.cons.injEq, and_true] at hc0 he0
  subst hc0 he0
  have k1 := h1
  have lt1 : ∀ x ∈ p1, x.block < W.heap.size := by obtain ⟨m, hm⟩ := k1; exact DataW.trod_lt m _ _ _ hm
  obtain ⟨c1, e1, y1, z1, m1, rfl, hd1, hp1, hy1, hz1⟩ := open_agg2 Try.underlying23 (by kernel_rfl) cellsLoad (hval 1 23 v1 rfl rfl) h1
  obtain ⟨s1, hc1, _, ws1⟩ := DataW.trod_int Try.underlying3 hy1
  obtain ⟨t1, he1, _, wt1⟩ := DataW.trod_int Try.underlying3 hz1
  simp only [List.cons.injEq, and_true] at hc1 he1
  subst hc1 he1
  have k2 := h2
  have lt2 : ∀ x ∈ p2, x.block < W.heap.size := by obtain ⟨m, hm⟩ := k2; exact DataW.trod_lt m _ _ _ hm
  obtain ⟨c2, e2, y2, z2, m2, rfl, hd2, hp2, hy2, hz2⟩ := open_agg2 Try.underlying23 (by kernel_rfl) cellsLoad (hval 2 23 v2 rfl rfl) h2
  obtain ⟨s2, hc2, _, ws2⟩ := DataW.trod_int Try.underlying3 hy2
  obtain ⟨t2, he2, _, wt2⟩ := DataW.trod_int Try.underlying3 hz2
  simp only [List.cons.injEq, and_true] at hc2 he2
  subst hc2 he2
  obtain ⟨a3, rfl, rfl, rfl, w3⟩ := open_int Try.underlying3 (hval 3 3 v3 rfl rfl) h3
  clear hA0 hval0
  refine (walk W s0 t0 ⟨ws0, wt0⟩ s1 t1 ⟨ws1, wt1⟩ s2 t2 ⟨ws2, wt2⟩ a3 w3).mono fun e W' ⟨he, bel⟩ => ?_
  subst he
  exact ⟨_, rfl, _, _, _, [], _, [], hW', trodAll_mk1 (shut_bool Try.underlying4 _), (trodAll_cons_mk (Below.trod laidOut (by kernel_rfl) (of_decide_eq_true (by kernel_rfl)) k0 bel lt0) (trodAll_cons_mk (Below.trod laidOut (by kernel_rfl) (of_decide_eq_true (by kernel_rfl)) k1 bel lt1) (trodAll_cons_mk (Below.trod laidOut (by kernel_rfl) (of_decide_eq_true (by kernel_rfl)) k2 bel lt2) (trodAll_cons_mk (shut_int Try.underlying3 w3) trodAll_mk0)))), rfl, bel.frame _, fun h => by cases h⟩

theorem over : Rows.loadAddsRow.holds Try.pinned (OpenSpec.ofChange Rows.loadAddsSpec) :=
  OpenClaim.holds_of_wide 6 Try.f6 rfl rfl rfl rfl rfl rfl rfl ⟨rfl, rfl, rfl, rfl, rfl⟩ rfl rfl rfl rfl rfl (by kernel_rfl) Try.func6 (by kernel_rfl)
    (of_decide_eq_true (by kernel_rfl)) (by unfold Func.isWrapper; first | (rw [if_pos (by decide +kernel)]; kernel_rfl) | (rw [if_neg (by decide +kernel)]; exact ⟨rfl, rfl⟩))
    (fun os started H enc _ => lifted os started H enc)

/-- THE STATEMENT -/
theorem proved : Rows.LoadAddsSaid := over
#print axioms proved
end Go.Proofs.Ytoadmmapgajedaa.loadAdds
