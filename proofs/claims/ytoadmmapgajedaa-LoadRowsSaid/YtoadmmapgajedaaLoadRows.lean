/- LoadRows: whatever the input, the law returns true, and each argument reads as it read before. No conditions but the row's own. -/
import Derived.Test.YtoadmmapgajedaaRows
import Derived.WalkKit
import Derived.ProofKit
import Derived.ShutString
import Derived.ChangeOld
import Derived.Below
import Derived.OpenShut
import Derived.Lib.SmallJoins
import Derived.RegionTactic
import Derived.Deep.RegionHeld3
import Derived.Deep.DeepCutAuto
import Derived.Test.YtoadmmapgajedaaLoadOpen
import Derived.Test.YtoadmmapgajedaaLoadRefProf
import Derived.Test.YtoadmmapgajedaaLoadAlive
namespace Go.Proofs.Ytoadmmapgajedaa.loadRows
open Go.ChangeShapes Go.WideShapes Go.ChangeAt Go.RowKit Go.Joins
open Go.ChangeMaps (open_string shut_string)
set_option linter.unusedVariables false

theorem own : ownKnob Try.prog.godebug = none := by kernel_rfl
theorem laidOut : laidOutB Try.prog = true := by kernel_rfl
open Load (IsLds isLds_of cellsLoad cellsInt)
open Load (KA KA.nil KA.box S S_succ okTo okAt pk firstV alive_any)
theorem room_all {w0 W : World} {A : Nat} {s t : Int} (h : KA w0 [(⟨A, 1, none⟩, .int .i64 t), (⟨A, 0, none⟩, .int .i64 s)] W) : KA w0 [(⟨A, 1, none⟩, .int .i64 t), (⟨A, 0, none⟩, .int .i64 s)] W ∧ W.cell? ⟨A, 0, none⟩ = some (.int .i64 s) ∧ W.cell? ⟨A, 1, none⟩ = some (.int .i64 t) :=
  ⟨h, h.at (by simp), h.at (by simp)⟩
theorem room_base {w0 W : World} {A : Nat} {s t : Int} (h : KA w0 [(⟨A, 1, none⟩, .int .i64 t), (⟨A, 0, none⟩, .int .i64 s)] W) : KA W [(⟨A, 1, none⟩, .int .i64 t), (⟨A, 0, none⟩, .int .i64 s)] W := ⟨h.1, Below.refl _ _⟩
/-- between two rounds of the law's loop -/
def RelR (w : World) (g h P n : Nat) (X Y : Nat → Int) (k : Nat) (wr : World) : Prop :=
  (∀ j, j < n → (wr.cell? ⟨g, j * 2, none⟩ = some (.int .i64 (S X (j + 1))) ∧ wr.cell? ⟨g, j * 2 + 1, none⟩ = some (.int .i64 (S Y (j + 1)))) ∧ wr.cell? ⟨h, j * 2, none⟩ = some (.int .i64 (S X (j + 1))) ∧ wr.cell? ⟨h, j * 2 + 1, none⟩ = some (.int .i64 (S Y (j + 1)))) ∧
  wr.cell? ⟨P, 0, none⟩ = some (.int .i64 (pk X k)) ∧ wr.cell? ⟨P, 1, none⟩ = some (.int .i64 (pk Y k)) ∧ wr.frozen? ⟨P, 0, none⟩ = false ∧ wr.frozen? ⟨P, 1, none⟩ = false ∧ P < wr.heap.size ∧ Below w.heap.size w wr
theorem RelR.drew {w W : World} {g h P n k : Nat} {X Y : Nat → Int} (r : RelR w g h P n X Y k W) : RelR w g h P n X Y k W.drew := by
  obtain ⟨hc, c0, c1, f0, f1, hP, hb⟩ := r
  exact ⟨hc, c0, c1, f0, f1, hP, hb.drew⟩
theorem relR_step {w W : World} {g h P n k : Nat} {X Y : Nat → Int} (r : RelR w g h P n X Y k W) (hg : g < P) (hh : h < P) (hw : w.heap.size ≤ P) :
    RelR w g h P n X Y (k + 1) ((W.setCell ⟨P, 0, none⟩ (.int .i64 (if pk X k < S X (k + 1) then S X (k + 1) else pk X k))).setCell ⟨P, 1, none⟩ (.int .i64 (if pk Y k < S Y (k + 1) then S Y (k + 1) else pk Y k))).drew := by
  obtain ⟨hc, c0, c1, f0, f1, hP, hb⟩ := r
  have eX : pk X (k + 1) = if pk X k < S X (k + 1) then S X (k + 1) else pk X k := rfl
  have eY : pk Y (k + 1) = if pk Y k < S Y (k + 1) then S Y (k + 1) else pk Y k := rfl
  rw [← eX, ← eY]
  obtain ⟨g1, gs, g2, g3, g4, g5⟩ := Load.two_put (a := .int .i64 (pk X (k + 1))) (b := .int .i64 (pk Y (k + 1))) (Below.refl (P + 1) W) c0 c1 f0 f1
  refine ⟨fun j hj => ⟨⟨(g1.cell (by exact hg)).trans (hc j hj).1.1, (g1.cell (by exact hg)).trans (hc j hj).1.2⟩, (g1.cell (by exact hh)).trans (hc j hj).2.1, (g1.cell (by exact hh)).trans (hc j hj).2.2⟩, g2, g3, g4, g5, by show P < (World.drew _).heap.size; rw [World.size_drew, gs]; exact hP, (hb.trans (g1.mono hw)).drew⟩
set_option maxHeartbeats 20000000 in
set_option maxRecDepth 100000 in
theorem walk (w : World) (s0 t0 : Int) (w0 : (Lit.int .i64 s0).wf = true ∧ (Lit.int .i64 t0).wf = true) (b1 : Option Addr) (len1 cap1 : Nat) (x1 y1 : Nat → Int) (w1 : IsLds w b1 len1 x1 y1) :
    Calls Try.prog 4 #[.agg #[.int .i64 s0, .int .i64 t0], .slice b1 len1 cap1] w fun e w' => e = .returned (.bool true) ∧ Below w.heap.size w w' := by
  rcases Nat.lt_or_ge 200 len1 with hbig | hsm
  · go_enter Try.func4, Try.ntmps4
    go_wp2_with fail
    refine (alive_any _).mono ?_
    rintro e W1 ⟨rfl, hb⟩
    have hk := ((KA.nil w).box (.int .i64 s0) (.int .i64 t0) 23).below hb
    go_wp2_with fail
    go_ret
    exact ⟨rfl, hk.2⟩
  rcases Nat.eq_zero_or_pos len1 with h0 | hpos
  · subst h0
    have hprof := fun W => Load.prof_nil b1 cap1 (fun _ => 0) (fun _ => 0) W
    have HP := Lib.hid hprof; clear hprof
    go_enter Try.func4, Try.ntmps4
    go_wp2_with fail
    refine (alive_any _).mono ?_
    rintro e W1 ⟨rfl, hb⟩
    have hk := ((KA.nil w).box (.int .i64 s0) (.int .i64 t0) 23).below hb
    obtain ⟨A, hA⟩ : ∃ A, A = w.heap.size := ⟨_, rfl⟩
    rw [← hA] at hk ⊢
    have HAE := Lib.hid hA; clear hA
    have HK := Lib.hid hk; clear hk hb
    go_wp2_with fail
    refine (HP.out _).mono ?_
    rintro e W2 hpp
    obtain ⟨g, rfl, hb1, hg1, hg2, HCG⟩ := hpp.yes rfl
    have HK2 := Lib.hid (HK.out.below hb1)
    clear hpp hb1 hg1 hg2 HCG HK
    go_wp2_with fail
    refine (Load.refProf_nil _ _ _).mono ?_
    rintro e W3 ⟨rfl, hb⟩
    have HK3 := Lib.hid (HK2.out.below hb)
    clear hb HK2
    obtain ⟨KK, q0, q1⟩ := room_all (room_base HK3.out)
    have KKd := Load.KA.drew KK
    go_wp2_with fail
    go_region_held3 (fun w' => KA W3 [(⟨A, 1, none⟩, .int .i64 t0), (⟨A, 0, none⟩, .int .i64 s0)] w' ∧ w'.cell? ⟨A, 0, none⟩ = some (.int .i64 s0) ∧ w'.cell? ⟨A, 1, none⟩ = some (.int .i64 t0))
      (first
        | exact room_all ‹KA W3 [(⟨A, 1, none⟩, .int .i64 t0), (⟨A, 0, none⟩, .int .i64 s0)] _›
        | exact room_all (Load.KA.drew (And.left ‹KA W3 [(⟨A, 1, none⟩, .int .i64 t0), (⟨A, 0, none⟩, .int .i64 s0)] _ ∧ _›))
        | exact room_all (Load.KA.drew ‹KA W3 [(⟨A, 1, none⟩, .int .i64 t0), (⟨A, 0, none⟩, .int .i64 s0)] _›))
      (first
        | (go_at_call 19; (with_reducible refine (Load.first_nil _ _ _ _ _).mono ?_); rintro e w' ⟨rfl, hb⟩; have hka := Load.KA.below (And.left ‹KA W3 [(⟨A, 1, none⟩, .int .i64 t0), (⟨A, 0, none⟩, .int .i64 s0)] _ ∧ _›) hb; clear hb)
        | (go_at_call 20; (with_reducible refine (Load.refFirst_nil _ _ _ _ _).mono ?_); rintro e w' ⟨rfl, hb⟩; have hka := Load.KA.below (And.left ‹KA W3 [(⟨A, 1, none⟩, .int .i64 t0), (⟨A, 0, none⟩, .int .i64 s0)] _ ∧ _›) hb; clear hb))
    have hkw := (And.left ‹KA W3 [(⟨A, 1, none⟩, .int .i64 t0), (⟨A, 0, none⟩, .int .i64 s0)] _ ∧ _›)
    have HBW := Lib.hid (HK3.out.2.trans (hkw.2.mono HK3.out.2.size))
    have hkp : KA (w'.alloc (.cells #[.int .i64 0, .int .i64 0] 23)) [(⟨w'.heap.size, 1, none⟩, .int .i64 0), (⟨w'.heap.size, 0, none⟩, .int .i64 0)] (w'.alloc (.cells #[.int .i64 0, .int .i64 0] 23)) := ((KA.nil _).put (by simp [go_sem])).put (by simp [go_sem])
    have hb8 := HBW.out.alloc HBW.out.size (.cells #[.int .i64 0, .int .i64 0] 23)
    clear hkw
    go_split_ands
    go_wp2_with fail
    generalize hW8 : w'.alloc (.cells #[.int .i64 0, .int .i64 0] 23) = W8 at *
    obtain ⟨P, hP⟩ : ∃ P, P = w'.heap.size := ⟨_, rfl⟩
    rw [← hP] at hkp ⊢
    have HKP := Lib.hid hkp
    have HB8 := Lib.hid hb8
    have HP1 := Lib.hid hP
    have HP2 := Lib.hid hW8
    clear hkp hb8 hP hW8
    go_loop [48] (fun i => i = .int .i64 0) (fun _ => 0)
    case atStart => rfl
    case round =>
      obtain rfl := hrel
      obtain ⟨KK8, q8, q9⟩ := room_all HKP.out
      have KK8d := Load.KA.drew KK8
      go_wp2_with fail
      go_region_held3 (fun w' => KA W8 [(⟨P, 1, none⟩, .int .i64 0), (⟨P, 0, none⟩, .int .i64 0)] w' ∧ w'.cell? ⟨P, 0, none⟩ = some (.int .i64 0) ∧ w'.cell? ⟨P, 1, none⟩ = some (.int .i64 0))
        (first
          | exact room_all ‹KA W8 [(⟨P, 1, none⟩, .int .i64 0), (⟨P, 0, none⟩, .int .i64 0)] _›
          | exact room_all (Load.KA.drew (And.left ‹KA W8 [(⟨P, 1, none⟩, .int .i64 0), (⟨P, 0, none⟩, .int .i64 0)] _ ∧ _›))
          | exact room_all (Load.KA.drew ‹KA W8 [(⟨P, 1, none⟩, .int .i64 0), (⟨P, 0, none⟩, .int .i64 0)] _›))
        (first
          | (go_at_call 21; (with_reducible refine (Load.peak_nil _ _ _).mono ?_); rintro e w' ⟨rfl, hb⟩; have hka := Load.KA.below (And.left ‹KA W8 [(⟨P, 1, none⟩, .int .i64 0), (⟨P, 0, none⟩, .int .i64 0)] _ ∧ _›) hb; clear hb))
      go_wp2_with fail
      go_ret
      exact ⟨rfl, HB8.out.trans ((And.left ‹KA W8 [(⟨P, 1, none⟩, .int .i64 0), (⟨P, 0, none⟩, .int .i64 0)] _ ∧ _›).2.mono HB8.out.size)⟩
  obtain ⟨b, off, rfl, hbw, hmax, hc⟩ : ∃ b off, b1 = some ⟨b, off, none⟩ ∧ b < w.heap.size ∧ len1 ≤ maxLen ∧ ∀ j, j < len1 → w.cell? ⟨b, off + j * 2, none⟩ = some (.int .i64 (x1 j)) ∧ w.cell? ⟨b, off + j * 2 + 1, none⟩ = some (.int .i64 (y1 j)) := by
    rcases w1 with h0 | h
    · omega
    · exact h
  have hl1 : len1 ≤ 1000 := by omega
  have hkc : ∀ W, Below w.heap.size w W → b < W.heap.size ∧ ∀ j, j < len1 → W.cell? ⟨b, off + j * 2, none⟩ = some (.int .i64 (x1 j)) ∧ W.cell? ⟨b, off + j * 2 + 1, none⟩ = some (.int .i64 (y1 j)) := fun W hW =>
    ⟨by have := hW.size; omega, fun j hj => ⟨(hW.cell (p := ⟨b, off + j * 2, none⟩) hbw).trans (hc j hj).1, (hW.cell (p := ⟨b, off + j * 2 + 1, none⟩) hbw).trans (hc j hj).2⟩⟩
  have hprof := fun W hW => Load.prof_any b off cap1 len1 x1 y1 W hl1 (hkc W hW).1 (hkc W hW).2
  have hrprof := fun W hW => Load.refProf_any b off cap1 len1 x1 y1 W hl1 hpos (hkc W hW).1 (hkc W hW).2
  have hpeak := fun W hW => Load.peak_any b off cap1 len1 x1 y1 W hl1 (hkc W hW).1 (hkc W hW).2
  have hfst := fun W hW => Load.first_any b off cap1 len1 x1 y1 s0 t0 W hl1 (hkc W hW).1 (hkc W hW).2
  have hrfst := fun W hW => Load.refFirst_any b off cap1 len1 x1 y1 s0 t0 W hl1 (hkc W hW).1 (hkc W hW).2
  generalize firstV s0 t0 x1 y1 len1 = r at hfst hrfst
  have HP := Lib.hid hprof; clear hprof
  have HRP := Lib.hid hrprof; clear hrprof
  have HF := Lib.hid hfst; clear hfst
  have HRF := Lib.hid hrfst; clear hrfst
  clear hkc hc hbw hmax
  cases hok : okTo x1 y1 len1 with
  | false =>
    rw [hok] at hpeak
    have HPK := Lib.hid hpeak; clear hpeak
    have HOK := Lib.hid hok; clear hok
    go_enter Try.func4, Try.ntmps4
    go_wp2_with fail
    refine (alive_any _).mono ?_
    rintro e W1 ⟨rfl, hb⟩
    have hk := ((KA.nil w).box (.int .i64 s0) (.int .i64 t0) 23).below hb
    obtain ⟨A, hA⟩ : ∃ A, A = w.heap.size := ⟨_, rfl⟩
    rw [← hA] at hk ⊢
    have HAE := Lib.hid hA; clear hA
    have HK := Lib.hid hk; clear hk hb
    go_wp2_with fail
    refine (HP.out _ HK.out.2).mono ?_
    rintro e W2 hpp
    obtain ⟨rfl, hb1⟩ := hpp.no HOK.out
    have HK2 := Lib.hid (HK.out.below hb1)
    clear hpp hb1 HK
    go_wp2_with fail
    refine (HRP.out _ HK2.out.2).mono ?_
    rintro e W3 hpp
    obtain ⟨rfl, hb⟩ := hpp.no HOK.out
    have HK3 := Lib.hid (HK2.out.below hb)
    clear hpp hb HK2
    obtain ⟨KK, q0, q1⟩ := room_all (room_base HK3.out)
    have KKd := Load.KA.drew KK
    have HF3 := Lib.hid (fun W (h : KA W3 [(⟨A, 1, none⟩, .int .i64 t0), (⟨A, 0, none⟩, .int .i64 s0)] W) => HF.out W (HK3.out.2.trans (h.2.mono HK3.out.2.size)))
    have HRF3 := Lib.hid (fun W (h : KA W3 [(⟨A, 1, none⟩, .int .i64 t0), (⟨A, 0, none⟩, .int .i64 s0)] W) => HRF.out W (HK3.out.2.trans (h.2.mono HK3.out.2.size)))
    go_wp2_with fail
    go_region_held3 (fun w' => KA W3 [(⟨A, 1, none⟩, .int .i64 t0), (⟨A, 0, none⟩, .int .i64 s0)] w' ∧ w'.cell? ⟨A, 0, none⟩ = some (.int .i64 s0) ∧ w'.cell? ⟨A, 1, none⟩ = some (.int .i64 t0))
      (first
        | exact room_all ‹KA W3 [(⟨A, 1, none⟩, .int .i64 t0), (⟨A, 0, none⟩, .int .i64 s0)] _›
        | exact room_all (Load.KA.drew (And.left ‹KA W3 [(⟨A, 1, none⟩, .int .i64 t0), (⟨A, 0, none⟩, .int .i64 s0)] _ ∧ _›))
        | exact room_all (Load.KA.drew ‹KA W3 [(⟨A, 1, none⟩, .int .i64 t0), (⟨A, 0, none⟩, .int .i64 s0)] _›))
      (first
        | (go_at_call 19; (with_reducible refine (HF3.out _ ‹KA W3 [(⟨A, 1, none⟩, .int .i64 t0), (⟨A, 0, none⟩, .int .i64 s0)] _›).mono ?_); rintro e w' ⟨rfl, hb⟩; have hka := Load.KA.below (And.left ‹KA W3 [(⟨A, 1, none⟩, .int .i64 t0), (⟨A, 0, none⟩, .int .i64 s0)] _ ∧ _›) hb; clear hb)
        | (go_at_call 20; (with_reducible refine (HRF3.out _ ‹KA W3 [(⟨A, 1, none⟩, .int .i64 t0), (⟨A, 0, none⟩, .int .i64 s0)] _›).mono ?_); rintro e w' ⟨rfl, hb⟩; have hka := Load.KA.below (And.left ‹KA W3 [(⟨A, 1, none⟩, .int .i64 t0), (⟨A, 0, none⟩, .int .i64 s0)] _ ∧ _›) hb; clear hb))
    have hkw := (And.left ‹KA W3 [(⟨A, 1, none⟩, .int .i64 t0), (⟨A, 0, none⟩, .int .i64 s0)] _ ∧ _›)
    have HBW := Lib.hid (HK3.out.2.trans (hkw.2.mono HK3.out.2.size))
    have hkp : KA (w'.alloc (.cells #[.int .i64 0, .int .i64 0] 23)) [(⟨w'.heap.size, 1, none⟩, .int .i64 0), (⟨w'.heap.size, 0, none⟩, .int .i64 0)] (w'.alloc (.cells #[.int .i64 0, .int .i64 0] 23)) := ((KA.nil _).put (by simp [go_sem])).put (by simp [go_sem])
    have hb8 := HBW.out.alloc HBW.out.size (.cells #[.int .i64 0, .int .i64 0] 23)
    clear hkw
    go_split_ands
    go_wp2_with fail
    generalize hW8 : w'.alloc (.cells #[.int .i64 0, .int .i64 0] 23) = W8 at *
    obtain ⟨P, hP⟩ : ∃ P, P = w'.heap.size := ⟨_, rfl⟩
    rw [← hP] at hkp ⊢
    have HKP := Lib.hid hkp
    have HB8 := Lib.hid hb8
    have HP1 := Lib.hid hP
    have HP2 := Lib.hid hW8
    clear hkp hb8 hP hW8
    go_loop [48] (fun i => i = .int .i64 0) (fun _ => 0)
    case atStart => rfl
    case round =>
      obtain rfl := hrel
      obtain ⟨KK8, q8, q9⟩ := room_all HKP.out
      have KK8d := Load.KA.drew KK8
      have HPK8 := Lib.hid (fun W (h : KA W8 [(⟨P, 1, none⟩, .int .i64 0), (⟨P, 0, none⟩, .int .i64 0)] W) => HPK.out W (HB8.out.trans (h.2.mono HB8.out.size)))
      rw [Load.peakV_false, Load.peakV_false] at HPK8
      go_wp2_with fail
      go_region_held3 (fun w' => KA W8 [(⟨P, 1, none⟩, .int .i64 0), (⟨P, 0, none⟩, .int .i64 0)] w' ∧ w'.cell? ⟨P, 0, none⟩ = some (.int .i64 0) ∧ w'.cell? ⟨P, 1, none⟩ = some (.int .i64 0))
        (first
          | exact room_all ‹KA W8 [(⟨P, 1, none⟩, .int .i64 0), (⟨P, 0, none⟩, .int .i64 0)] _›
          | exact room_all (Load.KA.drew (And.left ‹KA W8 [(⟨P, 1, none⟩, .int .i64 0), (⟨P, 0, none⟩, .int .i64 0)] _ ∧ _›))
          | exact room_all (Load.KA.drew ‹KA W8 [(⟨P, 1, none⟩, .int .i64 0), (⟨P, 0, none⟩, .int .i64 0)] _›))
        (first
          | (go_at_call 21; (with_reducible refine (HPK8.out _ ‹KA W8 [(⟨P, 1, none⟩, .int .i64 0), (⟨P, 0, none⟩, .int .i64 0)] _›).mono ?_); rintro e w' ⟨rfl, hb⟩; have hka := Load.KA.below (And.left ‹KA W8 [(⟨P, 1, none⟩, .int .i64 0), (⟨P, 0, none⟩, .int .i64 0)] _ ∧ _›) hb; clear hb))
      go_wp2_with fail
      go_ret
      exact ⟨rfl, HB8.out.trans ((And.left ‹KA W8 [(⟨P, 1, none⟩, .int .i64 0), (⟨P, 0, none⟩, .int .i64 0)] _ ∧ _›).2.mono HB8.out.size)⟩

  | true =>
    rw [hok] at hpeak
    have HPK := Lib.hid hpeak; clear hpeak
    have HOK := Lib.hid hok; clear hok
    go_enter Try.func4, Try.ntmps4
    go_wp2_with fail
    refine (alive_any _).mono ?_
    rintro e W1 ⟨rfl, hb⟩
    have hk := ((KA.nil w).box (.int .i64 s0) (.int .i64 t0) 23).below hb
    obtain ⟨A, hA⟩ : ∃ A, A = w.heap.size := ⟨_, rfl⟩
    rw [← hA] at hk ⊢
    have HAE := Lib.hid hA; clear hA
    have HK := Lib.hid hk; clear hk hb
    go_wp2_with fail
    refine (HP.out _ HK.out.2).mono ?_
    rintro e W2 hpp
    obtain ⟨g, rfl, hb1, hg1, hg2, HCG⟩ := hpp.yes HOK.out
    have HK2 := Lib.hid (HK.out.below hb1)
    have HG2 := Lib.hid hg2
    clear hpp hb1 HK hg1 hg2
    go_wp2_with fail
    refine (HRP.out _ HK2.out.2).mono ?_
    rintro e W3 hpp
    obtain ⟨h, ch, rfl, hb, hh2, HCH⟩ := hpp.yes HOK.out
    have HK3 := Lib.hid (HK2.out.below hb)
    have HG3 := Lib.hid (show g < W3.heap.size by have := HG2.out; have := hb.size; omega)
    have HH3 := Lib.hid hh2
    have HC3 := Lib.hid (show ∀ j, j < len1 → (W3.cell? ⟨g, j * 2, none⟩ = some (.int .i64 (S x1 (j + 1))) ∧ W3.cell? ⟨g, j * 2 + 1, none⟩ = some (.int .i64 (S y1 (j + 1)))) ∧ W3.cell? ⟨h, j * 2, none⟩ = some (.int .i64 (S x1 (j + 1))) ∧ W3.cell? ⟨h, j * 2 + 1, none⟩ = some (.int .i64 (S y1 (j + 1))) from fun j hj =>
      ⟨⟨(hb.cell (p := ⟨g, j * 2, none⟩) HG2.out).trans (HCG.out j hj).1, (hb.cell (p := ⟨g, j * 2 + 1, none⟩) HG2.out).trans (HCG.out j hj).2⟩, HCH.out j hj⟩)
    clear hpp hb HK2 HG2 HCG HCH hh2
    obtain ⟨KK, q0, q1⟩ := room_all (room_base HK3.out)
    have KKd := Load.KA.drew KK
    have HF3 := Lib.hid (fun W (h : KA W3 [(⟨A, 1, none⟩, .int .i64 t0), (⟨A, 0, none⟩, .int .i64 s0)] W) => HF.out W (HK3.out.2.trans (h.2.mono HK3.out.2.size)))
    have HRF3 := Lib.hid (fun W (h : KA W3 [(⟨A, 1, none⟩, .int .i64 t0), (⟨A, 0, none⟩, .int .i64 s0)] W) => HRF.out W (HK3.out.2.trans (h.2.mono HK3.out.2.size)))
    go_wp2_with fail
    go_region_held3 (fun w' => KA W3 [(⟨A, 1, none⟩, .int .i64 t0), (⟨A, 0, none⟩, .int .i64 s0)] w' ∧ w'.cell? ⟨A, 0, none⟩ = some (.int .i64 s0) ∧ w'.cell? ⟨A, 1, none⟩ = some (.int .i64 t0))
      (first
        | exact room_all ‹KA W3 [(⟨A, 1, none⟩, .int .i64 t0), (⟨A, 0, none⟩, .int .i64 s0)] _›
        | exact room_all (Load.KA.drew (And.left ‹KA W3 [(⟨A, 1, none⟩, .int .i64 t0), (⟨A, 0, none⟩, .int .i64 s0)] _ ∧ _›))
        | exact room_all (Load.KA.drew ‹KA W3 [(⟨A, 1, none⟩, .int .i64 t0), (⟨A, 0, none⟩, .int .i64 s0)] _›))
      (first
        | (go_at_call 19; (with_reducible refine (HF3.out _ ‹KA W3 [(⟨A, 1, none⟩, .int .i64 t0), (⟨A, 0, none⟩, .int .i64 s0)] _›).mono ?_); rintro e w' ⟨rfl, hb⟩; have hka := Load.KA.below (And.left ‹KA W3 [(⟨A, 1, none⟩, .int .i64 t0), (⟨A, 0, none⟩, .int .i64 s0)] _ ∧ _›) hb; clear hb)
        | (go_at_call 20; (with_reducible refine (HRF3.out _ ‹KA W3 [(⟨A, 1, none⟩, .int .i64 t0), (⟨A, 0, none⟩, .int .i64 s0)] _›).mono ?_); rintro e w' ⟨rfl, hb⟩; have hka := Load.KA.below (And.left ‹KA W3 [(⟨A, 1, none⟩, .int .i64 t0), (⟨A, 0, none⟩, .int .i64 s0)] _ ∧ _›) hb; clear hb))
    have hkw := (And.left ‹KA W3 [(⟨A, 1, none⟩, .int .i64 t0), (⟨A, 0, none⟩, .int .i64 s0)] _ ∧ _›)
    have hA8 := hkw.2.alloc hkw.2.size (.cells #[.int .i64 0, .int .i64 0] 23)
    have hrel0 : RelR w g h w'.heap.size len1 x1 y1 0 (w'.alloc (.cells #[.int .i64 0, .int .i64 0] 23)) :=
      ⟨fun j hj => ⟨⟨(hA8.cell (p := ⟨g, j * 2, none⟩) HG3.out).trans (HC3.out j hj).1.1, (hA8.cell (p := ⟨g, j * 2 + 1, none⟩) HG3.out).trans (HC3.out j hj).1.2⟩, (hA8.cell (p := ⟨h, j * 2, none⟩) HH3.out).trans (HC3.out j hj).2.1, (hA8.cell (p := ⟨h, j * 2 + 1, none⟩) HH3.out).trans (HC3.out j hj).2.2⟩,
        by simp [go_sem, pk], by simp [go_sem, pk], by simp, by simp, by simp, HK3.out.2.trans (hA8.mono HK3.out.2.size)⟩
    have hgP : g < w'.heap.size := by have := HG3.out; have := hkw.2.size; omega
    have hhP : h < w'.heap.size := by have := HH3.out; have := hkw.2.size; omega
    have hwP : w.heap.size ≤ w'.heap.size := by have := HK3.out.2.size; have := hkw.2.size; omega
    clear hkw hA8
    go_split_ands
    go_wp2_with fail
    generalize hW8 : w'.alloc (.cells #[.int .i64 0, .int .i64 0] 23) = W8 at *
    obtain ⟨P, hP⟩ : ∃ P, P = w'.heap.size := ⟨_, rfl⟩
    rw [← hP] at hrel0 hgP hhP hwP ⊢
    have HREL0 := Lib.hid hrel0
    have HP1 := Lib.hid hP
    have HP2 := Lib.hid hW8
    have HWP := Lib.hid hwP
    clear hrel0 hP hW8 hwP
    go_loopw [48] (fun i wr => ∃ k : Nat, k ≤ len1 ∧ i = .int .i64 k ∧ Hid (RelR w g h P len1 x1 y1 k wr)) (fun i _ => len1 - (intOf i).toNat)
    case atStart => exact ⟨0, Nat.zero_le _, rfl, HREL0⟩
    case round =>
      obtain ⟨k, hk, rfl, HREL⟩ := hrel
      obtain ⟨hcg, c0, c1, f0, f1, hPs, hbel⟩ := HREL.out
      by_cases hlt : k < len1
      · obtain ⟨⟨hx, hy⟩, hx2, hy2⟩ := hcg k hlt
        have hgP' : g ≠ P := by omega
        have hhP' : h ≠ P := by omega
        have hk0 : (0 : Int) ≤ (k : Int) := Int.natCast_nonneg _
        have hk1 : (k : Int) < (len1 : Int) := by omega
        have hst := (relR_step HREL.out hgP hhP HWP.out).drew
        have HST := Lib.hid hst; clear hst hcg
        have HBEL := Lib.hid hbel; clear hbel
        go_wp2_with fail
        go_region
        all_goals
          go_wp2_with fail
          go_region
        go_wp2_with fail
        go_roundw
        case rel => exact ⟨k + 1, by omega, by go_num, HST⟩
        case measure => simp [intOf]; omega
      · obtain rfl : k = len1 := by omega
        have HB8 := Lib.hid hbel
        clear hbel hcg
        have hkp : KA wr [(⟨P, 1, none⟩, .int .i64 (pk y1 k)), (⟨P, 0, none⟩, .int .i64 (pk x1 k))] wr := ((KA.nil _).put c0).put c1
        have HKP := Lib.hid hkp; clear hkp c0 c1
        obtain ⟨KK8, q8, q9⟩ := room_all HKP.out
        have KK8d := Load.KA.drew KK8
        have HPK8 := Lib.hid (fun W (h : KA wr [(⟨P, 1, none⟩, .int .i64 (pk y1 k)), (⟨P, 0, none⟩, .int .i64 (pk x1 k))] W) => HPK.out W (HB8.out.trans (h.2.mono HB8.out.size)))
        rw [Load.peakV_true, Load.peakV_true] at HPK8
        go_wp2_with fail
        go_region_held3 (fun w' => KA wr [(⟨P, 1, none⟩, .int .i64 (pk y1 k)), (⟨P, 0, none⟩, .int .i64 (pk x1 k))] w' ∧ w'.cell? ⟨P, 0, none⟩ = some (.int .i64 (pk x1 k)) ∧ w'.cell? ⟨P, 1, none⟩ = some (.int .i64 (pk y1 k)))
          (first
            | exact room_all ‹KA wr [(⟨P, 1, none⟩, .int .i64 (pk y1 k)), (⟨P, 0, none⟩, .int .i64 (pk x1 k))] _›
            | exact room_all (Load.KA.drew (And.left ‹KA wr [(⟨P, 1, none⟩, .int .i64 (pk y1 k)), (⟨P, 0, none⟩, .int .i64 (pk x1 k))] _ ∧ _›))
            | exact room_all (Load.KA.drew ‹KA wr [(⟨P, 1, none⟩, .int .i64 (pk y1 k)), (⟨P, 0, none⟩, .int .i64 (pk x1 k))] _›))
          (first
            | (go_at_call 21; (with_reducible refine (HPK8.out _ ‹KA wr [(⟨P, 1, none⟩, .int .i64 (pk y1 k)), (⟨P, 0, none⟩, .int .i64 (pk x1 k))] _›).mono ?_); rintro e w' ⟨rfl, hb⟩; have hka := Load.KA.below (And.left ‹KA wr [(⟨P, 1, none⟩, .int .i64 (pk y1 k)), (⟨P, 0, none⟩, .int .i64 (pk x1 k))] _ ∧ _›) hb; clear hb))
        go_wp2_with fail
        go_ret
        exact ⟨rfl, HB8.out.trans ((And.left ‹KA wr [(⟨P, 1, none⟩, .int .i64 (pk y1 k)), (⟨P, 0, none⟩, .int .i64 (pk x1 k))] _ ∧ _›).2.mono HB8.out.size)⟩

set_option maxRecDepth 100000 in
theorem lifted (os : Os) (started : os.Started) (H : Type) (enc : TypeId × Value → H) :
    ReturnsInHanded {} Try.checked os 4 .any (Rows.loadRowsSpec.pre6 enc Try.prog Try.f4 Rows.loadRowsRow.domain false) (Rows.loadRowsSpec.post enc Try.prog Try.f4 false true false false) := by
  refine returnsInHanded_of_change (C := Try.checked) own started (by kernel_rfl) Try.func4
    (ChangeSpec.witness6 (enc := enc) (C := Try.checked) false ⟨#[], #[.agg #[.int .i64 0, .int .i64 0], .slice none 0 0], []⟩ 8 (by kernel_rfl) (by kernel_rfl) (by kernel_rfl) (by kernel_rfl)) ?_
  intro W base args ds gs before hval0 hW hcnd _
  have hval : ∀ (j : Nat) t v, Try.f4.params[j]? = some t → args[j]? = some v → Value.okWide Try.prog W .any base t v := hval0
  have hW' := hW
  obtain ⟨p, q, hA0, hV, rfl, hfz, hnd⟩ := hW
  have hA : DataW.TrodAll enc Try.prog W 0 (fun _ => true) true Try.f4.params.toList args.toList ds p := hA0
  rw [Try.params4] at hA hval
  obtain ⟨v0, vs0, d0, ds0, p0, q0, hargs, rfl, rfl, h0, r0⟩ := trodAll_cons hA
  obtain ⟨v1, vs1, d1, ds1, p1, q1, rfl, rfl, rfl, h1, r1⟩ := trodAll_cons r0
  obtain ⟨rfl, rfl, rfl⟩ := trodAll_nil r1
  obtain rfl : args = #[v0, v1] := by cases args; simp_all
  obtain ⟨rfl, rfl⟩ := trodVars_none hV
  have k0 := h0
  have lt0 : ∀ x ∈ p0, x.block < W.heap.size := by obtain ⟨m, hm⟩ := k0; exact DataW.trod_lt m _ _ _ hm
  obtain ⟨c0, e0, y0, z0, m0, rfl, hd0, hp0, hy0, hz0⟩ := open_agg2 Try.underlying23 (by kernel_rfl) cellsLoad (hval 0 23 v0 rfl rfl) h0
  obtain ⟨s0, hc0, _, ws0⟩ := DataW.trod_int Try.underlying3 hy0
  obtain ⟨t0, he0, _, wt0⟩ := DataW.trod_int Try.underlying3 hz0
  simp only [List.cons.injEq, and_true] at hc0 he0
  subst hc0 he0
  have k1 := h1
  have lt1 : ∀ x ∈ p1, x.block < W.heap.size := by obtain ⟨m, hm⟩ := k1; exact DataW.trod_lt m _ _ _ hm
  obtain ⟨b1, len1, cap1, rfl⟩ := okWide_slice Try.underlying30 (hval 1 30 v1 rfl rfl)
  obtain ⟨x1, y1, w1⟩ := isLds_of Try.underlying30 Try.underlying23 cellsLoad Try.underlying3 cellsInt h1
  clear hA0 hval0
  refine (walk W s0 t0 ⟨ws0, wt0⟩ b1 len1 cap1 x1 y1 w1).mono fun e W' ⟨he, bel⟩ => ?_
  subst he
  exact ⟨_, rfl, _, _, _, [], _, [], hW', trodAll_mk1 (shut_bool Try.underlying4 _), (trodAll_cons_mk (Below.trod laidOut (by kernel_rfl) (of_decide_eq_true (by kernel_rfl)) k0 bel lt0) (trodAll_cons_mk (Below.trod laidOut (by kernel_rfl) (of_decide_eq_true (by kernel_rfl)) k1 bel lt1) trodAll_mk0)), rfl, bel.frame _, fun h => by cases h⟩

theorem over : Rows.loadRowsRow.holds Try.pinned (OpenSpec.ofChange Rows.loadRowsSpec) :=
  OpenClaim.holds_of_wide 4 Try.f4 rfl rfl rfl rfl rfl rfl rfl ⟨rfl, rfl, rfl, rfl, rfl⟩ rfl rfl rfl rfl rfl (by kernel_rfl) Try.func4 (by kernel_rfl)
    (of_decide_eq_true (by kernel_rfl)) (by unfold Func.isWrapper; first | (rw [if_pos (by decide +kernel)]; kernel_rfl) | (rw [if_neg (by decide +kernel)]; exact ⟨rfl, rfl⟩))
    (fun os started H enc _ => lifted os started H enc)

/-- THE STATEMENT -/
theorem proved : Rows.LoadRowsSaid := over
#print axioms proved
end Go.Proofs.Ytoadmmapgajedaa.loadRows
