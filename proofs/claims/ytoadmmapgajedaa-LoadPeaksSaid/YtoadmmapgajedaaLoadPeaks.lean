/- LoadPeaks: whatever the input, the law returns true, and each argument reads as it read before. No conditions but the row's own. -/
import Derived.Test.YtoadmmapgajedaaRows
import Derived.WalkKit
import Derived.ProofKit
import Derived.ShutString
import Derived.ChangeOld
import Derived.Below
import Derived.OpenShut
import Derived.Lib.SmallJoins
import Derived.Test.YtoadmmapgajedaaLoadOpen
import Derived.Test.YtoadmmapgajedaaLoadMore
import Derived.Test.YtoadmmapgajedaaLoadAlive
namespace Go.Proofs.Ytoadmmapgajedaa.loadPeaks
open Go.ChangeShapes Go.WideShapes Go.ChangeAt Go.RowKit Go.Joins
open Go.ChangeMaps (open_string shut_string)
set_option linter.unusedVariables false

theorem own : ownKnob Try.prog.godebug = none := by kernel_rfl
theorem laidOut : laidOutB Try.prog = true := by kernel_rfl
open Load (IsLds isLds_of cellsLoad cellsInt)
open Load (KA KA.nil KA.box S S_succ okTo okAt pk firstV badAt fitsL alive_any)
theorem pk_may {X Y : Nat → Int} {n : Nat} (h : okTo X Y n = true) : (0 ≤ pk X n ∧ pk X n ≤ 1073741824) ∧ 0 ≤ pk Y n ∧ pk Y n ≤ 1073741824 := by
  have hS : ∀ j, j ≤ n → (S X j ≤ 1073741824 ∧ S Y j ≤ 1073741824) := fun j hj => by
    obtain ⟨⟨_, h2⟩, _, h4⟩ := Load.mayL_true (Load.okTo_may (Load.okTo_mono hj h))
    exact ⟨h2, h4⟩
  have key : ∀ Z : Nat → Int, (∀ j, j ≤ n → S Z j ≤ 1073741824) → 0 ≤ pk Z n ∧ pk Z n ≤ 1073741824 := fun Z hZ => by
    refine ⟨(Load.pk_ge Z n).1, ?_⟩
    rcases Load.pk_is Z n with h0 | ⟨j, hj, _, hj2⟩
    · rw [h0]; decide
    · rw [hj2]; exact hZ j hj
  exact ⟨key X fun j hj => (hS j hj).1, key Y fun j hj => (hS j hj).2⟩
theorem first_fits {X Y : Nat → Int} {n : Nat} (h : okTo X Y n = true) (hp : ∀ j, j < n → 0 ≤ S X (j + 1) ∧ 0 ≤ S Y (j + 1)) : firstV (pk X n) (pk Y n) X Y n = -1 := by
  refine Load.firstV_none fun j hj => ?_
  have h1 := (Load.okTo_iff X Y n).1 h j hj
  obtain ⟨h2, h3⟩ := hp j hj
  have h4 := (Load.pk_ge X n).2 (j + 1) (by omega)
  have h5 := (Load.pk_ge Y n).2 (j + 1) (by omega)
  unfold badAt
  rw [h1, Load.fitsL_of h2 h4 h3 h5]
  rfl
theorem first_less {X Y : Nat → Int} {n : Nat} (h0 : pk X n ≠ 0) : 0 ≤ firstV (pk X n - 1) (pk Y n) X Y n := by
  rcases Load.pk_is X n with h | ⟨j, hj, hj0, hj2⟩
  · exact absurd h h0
  · rcases Int.lt_or_le (firstV (pk X n - 1) (pk Y n) X Y n) 0 with hlt | hle
    · exfalso
      have hb := Load.firstV_neg.1 hlt (j - 1) (by omega)
      have hf : fitsL (pk X n - 1) (pk Y n) (S X (j - 1 + 1)) (S Y (j - 1 + 1)) = false := by
        cases hf : fitsL (pk X n - 1) (pk Y n) (S X (j - 1 + 1)) (S Y (j - 1 + 1)) with
        | false => rfl
        | true =>
          obtain ⟨⟨_, h2⟩, _⟩ := Load.fitsL_true hf
          rw [show j - 1 + 1 = j by omega] at h2
          omega
      unfold badAt at hb
      rw [hf] at hb
      simp at hb
    · exact hle
/-- between two rounds of the law's loop -/
def RelL (w : World) (g P n : Nat) (X Y : Nat → Int) (k : Nat) (wr : World) : Prop :=
  (∀ j, j < n → wr.cell? ⟨g, j * 2, none⟩ = some (.int .i64 (S X (j + 1))) ∧ wr.cell? ⟨g, j * 2 + 1, none⟩ = some (.int .i64 (S Y (j + 1)))) ∧ g < wr.heap.size ∧
  wr.cell? ⟨P, 0, none⟩ = some (.int .i64 (pk X n)) ∧ wr.cell? ⟨P, 1, none⟩ = some (.int .i64 (pk Y n)) ∧ P < wr.heap.size ∧ Below w.heap.size w wr ∧ ∀ j, j < k → 0 ≤ S X (j + 1) ∧ 0 ≤ S Y (j + 1)
theorem RelL.next {w W W' : World} {g P n k : Nat} {X Y : Nat → Int} (h : RelL w g P n X Y k W) (hb : Below W.heap.size W W') : RelL w g P n X Y k W' := by
  obtain ⟨h1, h2, h3, h4, h5, h6, h7⟩ := h
  have hs := hb.size
  exact ⟨fun j hj => ⟨(hb.cell (by exact h2)).trans (h1 j hj).1, (hb.cell (by exact h2)).trans (h1 j hj).2⟩, by omega, (hb.cell (by exact h5)).trans h3, (hb.cell (by exact h5)).trans h4, by omega, h6.trans (hb.mono h6.size), h7⟩
theorem RelL.more {w W : World} {g P n k : Nat} {X Y : Nat → Int} (h : RelL w g P n X Y k W) (h1 : 0 ≤ S X (k + 1)) (h2 : 0 ≤ S Y (k + 1)) : RelL w g P n X Y (k + 1) W := by
  obtain ⟨g1, g2, g3, g4, g5, g6, g7⟩ := h
  refine ⟨g1, g2, g3, g4, g5, g6, fun j hj => ?_⟩
  rcases Nat.lt_or_ge j k with h | h
  · exact g7 j h
  · obtain rfl : j = k := by omega
    exact ⟨h1, h2⟩
set_option maxHeartbeats 2000000 in
set_option maxRecDepth 100000 in
theorem walk (w : World) (b0 : Option Addr) (len0 cap0 : Nat) (x0 y0 : Nat → Int) (w0 : IsLds w b0 len0 x0 y0) :
    Calls Try.prog 7 #[.slice b0 len0 cap0] w fun e w' => e = .returned (.bool true) ∧ Below w.heap.size w w' := by
  rcases Nat.lt_or_ge 60 len0 with hbig | hsm
  · go_enter Try.func7, Try.ntmps7
    go_wp2_with fail
    refine (alive_any _).mono ?_
    rintro e W1 ⟨rfl, hb⟩
    go_wp2_with fail
    go_ret
    exact ⟨rfl, hb⟩
  rcases Nat.eq_zero_or_pos len0 with h0 | hpos
  · subst h0
    have hprof := fun W => Load.prof_nil b0 cap0 (fun _ => 0) (fun _ => 0) W
    have HP := Lib.hid hprof; clear hprof
    go_enter Try.func7, Try.ntmps7
    go_wp2_with fail
    refine (alive_any _).mono ?_
    rintro e W1 ⟨rfl, hb⟩
    have HB := Lib.hid hb; clear hb
    go_wp2_with fail
    refine (HP.out _).mono ?_
    rintro e W2 hpp
    obtain ⟨g, rfl, hb1, hg1, hg2, HCG⟩ := hpp.yes rfl
    have HB1 := Lib.hid (HB.out.trans (hb1.mono HB.out.size))
    clear hpp hb1 hg1 HCG HB
    go_wp2_with fail
    refine (Load.peak_nil _ _ _).mono ?_
    rintro e W3 ⟨rfl, hb⟩
    have HB := Lib.hid (HB1.out.trans (hb.mono HB1.out.size))
    clear hb HB1 hg2
    go_wp2_with fail
    go_loop [29] (fun i => i = .int .i64 0) (fun _ => 0)
    case atStart => rfl
    case round =>
      obtain rfl := hrel
      go_wp2_with fail
      refine (Load.first_nil _ _ _ _ _).mono ?_
      rintro e W4 ⟨rfl, hb⟩
      have c0 : W4.cell? ⟨W3.heap.size, 0, none⟩ = some (.int .i64 0) := (hb.cell (p := ⟨W3.heap.size, 0, none⟩) (by simp)).trans (by simp [go_sem])
      have c1 : W4.cell? ⟨W3.heap.size, 1, none⟩ = some (.int .i64 0) := (hb.cell (p := ⟨W3.heap.size, 1, none⟩) (by simp)).trans (by simp [go_sem])
      have HB2 := Lib.hid ((HB.out.alloc HB.out.size (.cells #[.int .i64 0, .int .i64 0] 23)).trans (hb.mono (by have := HB.out.size; simp; omega)))
      clear hb
      go_wp2_with fail
      go_ret
      exact ⟨rfl, HB2.out.alloc HB2.out.size _⟩
  obtain ⟨b, off, rfl, hbw, hmax, hc⟩ : ∃ b off, b0 = some ⟨b, off, none⟩ ∧ b < w.heap.size ∧ len0 ≤ maxLen ∧ ∀ j, j < len0 → w.cell? ⟨b, off + j * 2, none⟩ = some (.int .i64 (x0 j)) ∧ w.cell? ⟨b, off + j * 2 + 1, none⟩ = some (.int .i64 (y0 j)) := by
    rcases w0 with h0 | h
    · omega
    · exact h
  have hl0 : len0 ≤ 1000 := by omega
  have hkc : ∀ W, Below w.heap.size w W → b < W.heap.size ∧ ∀ j, j < len0 → W.cell? ⟨b, off + j * 2, none⟩ = some (.int .i64 (x0 j)) ∧ W.cell? ⟨b, off + j * 2 + 1, none⟩ = some (.int .i64 (y0 j)) := fun W hW =>
    ⟨by have := hW.size; omega, fun j hj => ⟨(hW.cell (p := ⟨b, off + j * 2, none⟩) hbw).trans (hc j hj).1, (hW.cell (p := ⟨b, off + j * 2 + 1, none⟩) hbw).trans (hc j hj).2⟩⟩
  have hprof := fun W hW => Load.prof_any b off cap0 len0 x0 y0 W hl0 (hkc W hW).1 (hkc W hW).2
  have hpeak := fun W hW => Load.peak_any b off cap0 len0 x0 y0 W hl0 (hkc W hW).1 (hkc W hW).2
  have hfst := fun rs rt W hW => Load.first_any b off cap0 len0 x0 y0 rs rt W hl0 (hkc W hW).1 (hkc W hW).2
  have HP := Lib.hid hprof; clear hprof
  have HF := Lib.hid hfst; clear hfst
  clear hkc hc hbw hmax
  cases hok : okTo x0 y0 len0 with
  | false =>
    rw [hok] at hpeak
    have HK := Lib.hid hpeak; clear hpeak
    have HOK := Lib.hid hok; clear hok
    go_enter Try.func7, Try.ntmps7
    go_wp2_with fail
    refine (alive_any _).mono ?_
    rintro e W1 ⟨rfl, hb⟩
    have HB := Lib.hid hb; clear hb
    go_wp2_with fail
    refine (HP.out _ HB.out).mono ?_
    rintro e W2 hpp
    obtain ⟨rfl, hb1⟩ := hpp.no HOK.out
    have HB1 := Lib.hid (HB.out.trans (hb1.mono HB.out.size))
    clear hpp hb1 HB
    go_wp2_with fail
    refine (HK.out _ HB1.out).mono ?_
    rintro e W3 ⟨rfl, hb⟩
    rw [Load.peakV_false, Load.peakV_false]
    have HB := Lib.hid (HB1.out.trans (hb.mono HB1.out.size))
    clear hb HB1
    go_wp2_with fail
    go_ret
    exact ⟨rfl, HB.out⟩
  | true =>
    rw [hok] at hpeak
    obtain ⟨⟨p1, p2⟩, p3, p4⟩ := pk_may hok
    have HK := Lib.hid hpeak; clear hpeak
    have HOK := Lib.hid hok; clear hok
    go_enter Try.func7, Try.ntmps7
    go_wp2_with fail
    refine (alive_any _).mono ?_
    rintro e W1 ⟨rfl, hb⟩
    have HB := Lib.hid hb; clear hb
    go_wp2_with fail
    refine (HP.out _ HB.out).mono ?_
    rintro e W2 hpp
    obtain ⟨g, rfl, hb1, hg1, hg2, HCG⟩ := hpp.yes HOK.out
    have HB1 := Lib.hid (HB.out.trans (hb1.mono HB.out.size))
    have HG2 := Lib.hid hg2
    clear hpp hb1 HB hg1 hg2
    go_wp2_with fail
    refine (HK.out _ HB1.out).mono ?_
    rintro e W3 ⟨rfl, hb⟩
    rw [Load.peakV_true, Load.peakV_true]
    have hgs : g < W3.heap.size := by have := hb.size; have := HG2.out; omega
    have hrel0 : RelL w g W3.heap.size len0 x0 y0 0 (W3.alloc (.cells #[.int .i64 (pk x0 len0), .int .i64 (pk y0 len0)] 23)) := by
      have hA : Below W3.heap.size W3 (W3.alloc (.cells #[.int .i64 (pk x0 len0), .int .i64 (pk y0 len0)] 23)) := (Below.refl _ _).alloc (Nat.le_refl _) _
      have hB := HB1.out.trans (hb.mono HB1.out.size)
      exact ⟨fun j hj => ⟨((hA.cell (by exact hgs)).trans (hb.cell (by exact HG2.out))).trans (HCG.out j hj).1, ((hA.cell (by exact hgs)).trans (hb.cell (by exact HG2.out))).trans (HCG.out j hj).2⟩, by simp; omega, by simp [go_sem], by simp [go_sem], by simp, hB.trans (hA.mono hB.size), fun j hj => absurd hj (by omega)⟩
    have HREL0 := Lib.hid hrel0; clear hrel0 hb HG2 HCG
    go_wp2_with fail
    obtain ⟨P, hP⟩ : ∃ P, P = W3.heap.size := ⟨_, rfl⟩
    rw [← hP] at HREL0 hgs ⊢
    have HPP := Lib.hid hP; clear hP
    go_loopw [29] (fun i wr => ∃ k : Nat, k ≤ len0 ∧ i = .int .i64 k ∧ Hid (RelL w g P len0 x0 y0 k wr)) (fun i _ => len0 - (intOf i).toNat)
    case atStart => exact ⟨0, Nat.zero_le _, rfl, HREL0⟩
    case round =>
      obtain ⟨k, hk, rfl, HREL⟩ := hrel
      obtain ⟨hcg, hgs2, c0, c1, hPs, hbel, hpos2⟩ := HREL.out
      by_cases hlt : k < len0
      · obtain ⟨hx, hy⟩ := hcg k hlt
        clear hcg hpos2
        by_cases hn1 : S x0 (k + 1) < 0
        · have HBEL := Lib.hid hbel; clear hbel
          go_wp2_with fail
          go_ret
          exact ⟨rfl, HBEL.out.alloc HBEL.out.size _⟩
        by_cases hn2 : S y0 (k + 1) < 0
        · have HBEL := Lib.hid hbel; clear hbel
          go_wp2_with fail
          go_ret
          exact ⟨rfl, HBEL.out.alloc HBEL.out.size _⟩
        have hst := (HREL.out.more (by omega) (by omega)).next ((Below.refl _ _).alloc (Nat.le_refl _) (.cells #[.int .i64 (S x0 (k + 1)), .int .i64 (S y0 (k + 1))] 23))
        have HST := Lib.hid hst; clear hst
        have HBEL := Lib.hid hbel; clear hbel
        go_wp2_with fail
        go_roundw
        case rel => exact ⟨k + 1, by omega, by go_num, HST⟩
        case measure => simp [intOf]; omega
      · obtain rfl : k = len0 := by omega
        have hf1 := fun W hW => HF.out (pk x0 k) (pk y0 k) W hW
        have hf2 := fun W hW => HF.out (pk x0 k - 1) (pk y0 k) W hW
        rw [first_fits HOK.out hpos2] at hf1
        have HF1 := Lib.hid hf1; clear hf1
        have HBEL := Lib.hid hbel; clear hbel hcg hpos2
        have hk0' : ((k : Int) == 0) = false := by simp; omega
        by_cases hz : pk x0 k = 0
        · have hz' : (pk x0 k == 0) = true := by simp [hz]
          clear hz
          go_wp2_with fail
          refine (HF1.out _ HBEL.out).mono ?_
          rintro e W4 ⟨rfl, hb⟩
          have d0 := (hb.cell (p := ⟨P, 0, none⟩) hPs).trans c0
          have d1 := (hb.cell (p := ⟨P, 1, none⟩) hPs).trans c1
          have hPs4 : P < W4.heap.size := by have := hb.size; omega
          have HB4 := Lib.hid (HBEL.out.trans (hb.mono HBEL.out.size))
          clear hb c0 c1
          go_wp2_with fail
          go_ret
          exact ⟨rfl, HB4.out.alloc HB4.out.size _⟩
        · have hge := first_less (Y := y0) hz
          have hz' : (pk x0 k == 0) = false := by simp [hz]
          clear hz
          generalize firstV (pk x0 k - 1) (pk y0 k) x0 y0 k = r at hf2 hge
          have HF2 := Lib.hid hf2; clear hf2
          go_wp2_with fail
          refine (HF1.out _ HBEL.out).mono ?_
          rintro e W4 ⟨rfl, hb⟩
          have d0 := (hb.cell (p := ⟨P, 0, none⟩) hPs).trans c0
          have d1 := (hb.cell (p := ⟨P, 1, none⟩) hPs).trans c1
          have hPs4 : P < W4.heap.size := by have := hb.size; omega
          have HB4 := Lib.hid (HBEL.out.trans (hb.mono HBEL.out.size))
          clear hb c0 c1
          go_wp2_with fail
          refine (HF2.out _ (HB4.out.alloc HB4.out.size _)).mono ?_
          rintro e W5 ⟨rfl, hb⟩
          have HB5 := Lib.hid ((HB4.out.alloc HB4.out.size (.cells #[.int .i64 (pk x0 k - 1), .int .i64 (pk y0 k)] 23)).trans (hb.mono (by have := HB4.out.size; simp; omega)))
          clear hb
          go_wp2_with fail
          go_ret
          exact ⟨rfl, HB5.out⟩

set_option maxRecDepth 100000 in
theorem lifted (os : Os) (started : os.Started) (H : Type) (enc : TypeId × Value → H) :
    ReturnsInHanded {} Try.checked os 7 .any (Rows.loadPeaksSpec.pre6 enc Try.prog Try.f7 Rows.loadPeaksRow.domain false) (Rows.loadPeaksSpec.post enc Try.prog Try.f7 false true false false) := by
  refine returnsInHanded_of_change (C := Try.checked) own started (by kernel_rfl) Try.func7
    (ChangeSpec.witness6 (enc := enc) (C := Try.checked) false ⟨#[], #[.slice none 0 0], []⟩ 8 (by kernel_rfl) (by kernel_rfl) (by kernel_rfl) (by kernel_rfl)) ?_
  intro W base args ds gs before hval0 hW hcnd _
  have hval : ∀ (j : Nat) t v, Try.f7.params[j]? = some t → args[j]? = some v → Value.okWide Try.prog W .any base t v := hval0
  have hW' := hW
  obtain ⟨p, q, hA0, hV, rfl, hfz, hnd⟩ := hW
  have hA : DataW.TrodAll enc Try.prog W 0 (fun _ => true) true Try.f7.params.toList args.toList ds p := hA0
  rw [Try.params7] at hA hval
  obtain ⟨v0, vs0, d0, ds0, p0, q0, hargs, rfl, rfl, h0, r0⟩ := trodAll_cons hA
  obtain ⟨rfl, rfl, rfl⟩ := trodAll_nil r0
  obtain rfl : args = #[v0] := by cases args; simp_all
  obtain ⟨rfl, rfl⟩ := trodVars_none hV
  have k0 := h0
  have lt0 : ∀ x ∈ p0, x.block < W.heap.size := by obtain ⟨m, hm⟩ := k0; exact DataW.trod_lt m _ _ _ hm
  obtain ⟨b0, len0, cap0, rfl⟩ := okWide_slice Try.underlying30 (hval 0 30 v0 rfl rfl)
  obtain ⟨x0, y0, w0⟩ := isLds_of Try.underlying30 Try.underlying23 cellsLoad Try.underlying3 cellsInt h0
  clear hA0 hval0
  refine (walk W b0 len0 cap0 x0 y0 w0).mono fun e W' ⟨he, bel⟩ => ?_
  subst he
  exact ⟨_, rfl, _, _, _, [], _, [], hW', trodAll_mk1 (shut_bool Try.underlying4 _), (trodAll_cons_mk (Below.trod laidOut (by kernel_rfl) (of_decide_eq_true (by kernel_rfl)) k0 bel lt0) trodAll_mk0), rfl, bel.frame _, fun h => by cases h⟩

theorem over : Rows.loadPeaksRow.holds Try.pinned (OpenSpec.ofChange Rows.loadPeaksSpec) :=
  OpenClaim.holds_of_wide 7 Try.f7 rfl rfl rfl rfl rfl rfl rfl ⟨rfl, rfl, rfl, rfl, rfl⟩ rfl rfl rfl rfl rfl (by kernel_rfl) Try.func7 (by kernel_rfl)
    (of_decide_eq_true (by kernel_rfl)) (by unfold Func.isWrapper; first | (rw [if_pos (by decide +kernel)]; kernel_rfl) | (rw [if_neg (by decide +kernel)]; exact ⟨rfl, rfl⟩))
    (fun os started H enc _ => lifted os started H enc)

/-- THE STATEMENT -/
theorem proved : Rows.LoadPeaksSaid := over
#print axioms proved
end Go.Proofs.Ytoadmmapgajedaa.loadPeaks
