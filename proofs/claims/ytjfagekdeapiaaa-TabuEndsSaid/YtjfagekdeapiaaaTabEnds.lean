/- TabuEnds: whatever the input, the law returns true, and each argument reads as it read before. No conditions but the row's own. -/
import Derived.Test.YtjfagekdeapiaaaRows
import Derived.WalkKit
import Derived.ProofKit
import Derived.ShutString
import Derived.ChangeOld
import Derived.Below
import Derived.OpenShut
import Derived.Lib.SmallJoins
import Derived.Test.YtjfagekdeapiaaaTabLaw
namespace Go.Proofs.Ytjfagekdeapiaaa.tabuEnds
open Go.ChangeShapes Go.WideShapes Go.ChangeAt Go.RowKit Go.Joins
open Go.ChangeMaps (open_string shut_string)
set_option linter.unusedVariables false

theorem own : ownKnob Try.prog.godebug = none := by kernel_rfl
theorem laidOut : laidOutB Try.prog = true := by kernel_rfl
open Tab Go.Lib
set_option maxHeartbeats 4000000 in
set_option maxRecDepth 100000 in
theorem walk (w : World) (b0 : Option Addr) (len0 cap0 : Nat) (k0 r0 t0 u0 : Nat → Int) (w0 : IsOps w b0 len0 k0 r0 t0 u0) (x0 : len0 ≤ maxLen) (a1 : Int) (w1 : (Lit.int .i64 a1).wf = true) (a2 : Int) (w2 : (Lit.int .i64 a2).wf = true) (a3 : Int) (w3 : (Lit.int .i64 a3).wf = true) (a4 : Int) (w4 : (Lit.int .i64 a4).wf = true) :
    Calls Try.prog 5 #[.slice b0 len0 cap0, .int .i64 a1, .int .i64 a2, .int .i64 a3, .int .i64 a4] w fun e w' => e = .returned (.bool true) ∧ Below w.heap.size w w' := by
  by_cases hl : 100 < len0
  · go_enter Try.func5, Try.ntmps5
    go_wp2_with fail
    refine (alive_any _).mono ?_
    rintro e z1 ⟨rfl, hb⟩
    have HB := Lib.hid hb; clear hb
    go_wp2_with fail
    go_ret
    exact ⟨rfl, HB.out⟩
  by_cases hn : a4 < a3
  · go_enter Try.func5, Try.ntmps5
    go_wp2_with fail
    refine (alive_any _).mono ?_
    rintro e z1 ⟨rfl, hb⟩
    have HB := Lib.hid hb; clear hb
    go_wp2_with fail
    go_ret
    exact ⟨rfl, HB.out⟩
  · have HG := Lib.hid w0; clear w0
    go_enter Try.func5, Try.ntmps5
    go_wp2_with fail
    refine (alive_any _).mono ?_
    rintro e z1 ⟨rfl, hb⟩
    have HS0 := Lib.hid (Tb.start hb)
    clear hb
    go_wp2_with fail
    obtain ⟨T, hT⟩ : ∃ T, T = z1.heap.size := ⟨_, rfl⟩
    rw [← hT] at HS0 ⊢
    clear hT
    go_loopg [13, 29] len0 (fun gg _ s29 wr => ∃ (k : Nat) (B : Option Nat), k ≤ len0 ∧ len0 - k ≤ gg ∧ s29 = .int .i64 k ∧ Hid (Tb w T B (bans r0 t0 u0 k) wr))
    case atStart => exact ⟨0, none, Nat.zero_le _, by omega, rfl, HS0⟩
    case round =>
      obtain ⟨k, B, hk, hg, rfl, HS⟩ := hrel
      have hbl := bans_le r0 t0 u0 k
      by_cases hlt : k < len0
      · rcases HG.out with h0 | ⟨b, off, rfl, hb, hmx, hc⟩
        · omega
        obtain ⟨⟨c0, c1, c2, c3⟩, wr0, wt0, wu0⟩ := hc k hlt
        have d0 := (HS.out.below.cell hb).trans c0
        have d1 := (HS.out.below.cell hb).trans c1
        have d2 := (HS.out.below.cell hb).trans c2
        have d3 := (HS.out.below.cell hb).trans c3
        clear hc hmx c0 c1 c2 c3
        obtain ⟨kk, hkk⟩ : ∃ x, x = k0 k := ⟨_, rfl⟩
        obtain ⟨r, hr⟩ : ∃ x, x = r0 k := ⟨_, rfl⟩
        obtain ⟨t, ht⟩ : ∃ x, x = t0 k := ⟨_, rfl⟩
        obtain ⟨u, hu⟩ : ∃ x, x = u0 k := ⟨_, rfl⟩
        have HEQ := Lib.hid (show bans r0 t0 u0 (k + 1) = ban (bans r0 t0 u0 k) r t u by rw [hr, ht, hu]; rfl)
        rw [← hkk] at d0
        rw [← hr] at d1 wr0
        rw [← ht] at d2 wt0
        rw [← hu] at d3 wu0
        clear hkk hr ht hu
        have HS1 := Lib.hid (HS.out.bel (below_alloc wr (.cells #[.int .i64 kk, .int .i64 r, .int .i64 t, .int .i64 u] 29)))
        obtain ⟨q0, q1, q2, q3⟩ := four_cells (w := wr) (x := .int .i64 kk) (y := .int .i64 r) (z := .int .i64 t) (v := .int .i64 u) (t := 29)
        go_wp2_with fail
        refine (ban_any _ _ _ _ _ _ _ HS1.out.tab (by omega) wr0 wt0 wu0).mono ?_
        rintro e w2 hb2
        obtain ⟨B', hS2⟩ := HS1.out.ban hb2
        have hre := hb2.1
        subst hre
        have HS2 := Lib.hid (show Tb w T B' (bans r0 t0 u0 (k + 1)) w2 by rw [HEQ.out]; exact hS2)
        clear hS2 hb2 d0 d1 d2 d3 q0 q1 q2 q3
        go_wp2_with fail
        go_roundg (len0 - (k + 1))
        case measure => omega
        case rel => exact ⟨k + 1, B', by omega, by omega, by go_num, HS2⟩
      · have hkm : k = len0 := by omega
        rw [hkm] at HS hbl ⊢
        clear hlt hkm hk hg
        obtain ⟨l, hll⟩ : ∃ l, l = bans r0 t0 u0 len0 := ⟨_, rfl⟩
        rw [← hll] at HS hbl
        clear hll
        have hle : a3 ≤ a4 := by omega
        have f1 := @isB_later l a1 a2 a3 a4 hle
        have f2 := live_later hle l
        have HI1 := Lib.hid (isB_live (r := a1) (t := a2) (l := l) (Int.le_refl a3))
        have HI2 := Lib.hid (isB_live (r := a1) (t := a2) (l := l) hle)
        have HI3 := Lib.hid (live_live hle l)
        have HLL := Lib.hid (show (live a3 l).length ≤ 1000 from Nat.le_trans (live_le _ _) (by omega))
        obtain ⟨p, hp⟩ : ∃ p, p = isB l a1 a2 a3 := ⟨_, rfl⟩
        obtain ⟨q, hq⟩ : ∃ q, q = isB l a1 a2 a4 := ⟨_, rfl⟩
        obtain ⟨n, hnn⟩ : ∃ n, n = (live a4 l).length := ⟨_, rfl⟩
        obtain ⟨m, hmm⟩ : ∃ m, m = (live a3 l).length := ⟨_, rfl⟩
        rw [← hp, ← hq] at f1
        rw [← hnn, ← hmm] at f2
        have HP := Lib.hid hp
        have HQ := Lib.hid hq
        have HN := Lib.hid hnn
        have HM := Lib.hid hmm
        have hnm : ¬ (m : Int) < (n : Int) := by omega
        have hpq : (q && !p) = false := by cases q <;> cases p <;> simp_all
        clear hp hq hnn hmm f1 f2 hn
        go_wp2_with fail
        refine (is_any _ _ _ _ _ _ _ HS.out.tab w1 w2).mono ?_
        rintro e z2 ⟨rfl, rfl⟩
        rw [← HP.out]
        go_wp2_with fail
        refine (is_any _ _ _ _ _ _ _ HS.out.tab w1 w2).mono ?_
        rintro e z2 ⟨rfl, rfl⟩
        rw [← HQ.out]
        go_wp2_with fail
        refine (count_any _ _ _ _ _ HS.out.tab (by omega)).mono ?_
        rintro e z2 ⟨rfl, hb⟩
        rw [← HN.out]
        have HS2 := Lib.hid (HS.out.bel hb)
        clear hb
        cases q with
        | true =>
          cases p with
          | false => cases hpq
          | true =>
            clear hpq
            go_wp2_with fail
            refine (count_any _ _ _ _ _ HS2.out.tab (by omega)).mono ?_
            rintro e z3 ⟨rfl, hb⟩
            rw [← HM.out]
            have HS3 := Lib.hid (HS2.out.bel hb)
            clear hb
            go_wp2_with fail
            refine (sweep_any _ _ _ _ _ HS3.out.tab (by omega)).mono ?_
            rintro e z4 ⟨rfl, hA, ht⟩
            have HS4 := Lib.hid (HS3.out.turSame hA ht)
            clear hA ht
            go_wp2_with fail
            refine (is_any _ _ _ _ _ _ _ HS4.out.tab w1 w2).mono ?_
            rintro e z5 ⟨rfl, rfl⟩
            rw [HI1.out, ← HP.out]
            go_wp2_with fail
            refine (is_any _ _ _ _ _ _ _ HS4.out.tab w1 w2).mono ?_
            rintro e z5 ⟨rfl, rfl⟩
            rw [HI2.out, ← HQ.out]
            go_wp2_with fail
            refine (count_any _ _ _ _ _ HS4.out.tab HLL.out).mono ?_
            rintro e z5 ⟨rfl, hb⟩
            rw [HI3.out, ← HN.out]
            have HS5 := Lib.hid (HS4.out.bel hb)
            clear hb
            go_wp2_with fail
            go_ret
            exact ⟨rfl, HS5.out.below⟩
        | false =>
          cases p with
          | false =>
            clear hpq
            go_wp2_with fail
            refine (count_any _ _ _ _ _ HS2.out.tab (by omega)).mono ?_
            rintro e z3 ⟨rfl, hb⟩
            rw [← HM.out]
            have HS3 := Lib.hid (HS2.out.bel hb)
            clear hb
            go_wp2_with fail
            refine (sweep_any _ _ _ _ _ HS3.out.tab (by omega)).mono ?_
            rintro e z4 ⟨rfl, hA, ht⟩
            have HS4 := Lib.hid (HS3.out.turSame hA ht)
            clear hA ht
            go_wp2_with fail
            refine (is_any _ _ _ _ _ _ _ HS4.out.tab w1 w2).mono ?_
            rintro e z5 ⟨rfl, rfl⟩
            rw [HI1.out, ← HP.out]
            go_wp2_with fail
            refine (is_any _ _ _ _ _ _ _ HS4.out.tab w1 w2).mono ?_
            rintro e z5 ⟨rfl, rfl⟩
            rw [HI2.out, ← HQ.out]
            go_wp2_with fail
            refine (count_any _ _ _ _ _ HS4.out.tab HLL.out).mono ?_
            rintro e z5 ⟨rfl, hb⟩
            rw [HI3.out, ← HN.out]
            have HS5 := Lib.hid (HS4.out.bel hb)
            clear hb
            go_wp2_with fail
            go_ret
            exact ⟨rfl, HS5.out.below⟩
          | true =>
            clear hpq
            go_wp2_with fail
            refine (count_any _ _ _ _ _ HS2.out.tab (by omega)).mono ?_
            rintro e z3 ⟨rfl, hb⟩
            rw [← HM.out]
            have HS3 := Lib.hid (HS2.out.bel hb)
            clear hb
            go_wp2_with fail
            refine (sweep_any _ _ _ _ _ HS3.out.tab (by omega)).mono ?_
            rintro e z4 ⟨rfl, hA, ht⟩
            have HS4 := Lib.hid (HS3.out.turSame hA ht)
            clear hA ht
            go_wp2_with fail
            refine (is_any _ _ _ _ _ _ _ HS4.out.tab w1 w2).mono ?_
            rintro e z5 ⟨rfl, rfl⟩
            rw [HI1.out, ← HP.out]
            go_wp2_with fail
            refine (is_any _ _ _ _ _ _ _ HS4.out.tab w1 w2).mono ?_
            rintro e z5 ⟨rfl, rfl⟩
            rw [HI2.out, ← HQ.out]
            go_wp2_with fail
            refine (count_any _ _ _ _ _ HS4.out.tab HLL.out).mono ?_
            rintro e z5 ⟨rfl, hb⟩
            rw [HI3.out, ← HN.out]
            have HS5 := Lib.hid (HS4.out.bel hb)
            clear hb
            go_wp2_with fail
            go_ret
            exact ⟨rfl, HS5.out.below⟩

set_option maxRecDepth 100000 in
theorem lifted (os : Os) (started : os.Started) (H : Type) (enc : TypeId × Value → H) :
    ReturnsInHanded {} Try.checked os 5 .any (Rows.tabuEndsSpec.pre6 enc Try.prog Try.f5 Rows.tabuEndsRow.domain false) (Rows.tabuEndsSpec.post enc Try.prog Try.f5 false true false false) := by
  refine returnsInHanded_of_change (C := Try.checked) own started (by kernel_rfl) Try.func5
    (ChangeSpec.witness6 (enc := enc) (C := Try.checked) false ⟨#[], #[.slice none 0 0, .int .i64 0, .int .i64 0, .int .i64 0, .int .i64 0], []⟩ 8 (by kernel_rfl) (by kernel_rfl) (by kernel_rfl) (by kernel_rfl)) ?_
  intro W base args ds gs before hval0 hW hcnd _
  have hval : ∀ (j : Nat) t v, Try.f5.params[j]? = some t → args[j]? = some v → Value.okWide Try.prog W .any base t v := hval0
  have hW' := hW
  obtain ⟨p, q, hA0, hV, rfl, hfz, hnd⟩ := hW
  have hA : DataW.TrodAll enc Try.prog W 0 (fun _ => true) true Try.f5.params.toList args.toList ds p := hA0
  rw [Try.params5] at hA hval
  obtain ⟨v0, vs0, d0, ds0, p0, q0, hargs, rfl, rfl, h0, r0⟩ := trodAll_cons hA
  obtain ⟨v1, vs1, d1, ds1, p1, q1, rfl, rfl, rfl, h1, r1⟩ := trodAll_cons r0
  obtain ⟨v2, vs2, d2, ds2, p2, q2, rfl, rfl, rfl, h2, r2⟩ := trodAll_cons r1
  obtain ⟨v3, vs3, d3, ds3, p3, q3, rfl, rfl, rfl, h3, r3⟩ := trodAll_cons r2
  obtain ⟨v4, vs4, d4, ds4, p4, q4, rfl, rfl, rfl, h4, r4⟩ := trodAll_cons r3
  obtain ⟨rfl, rfl, rfl⟩ := trodAll_nil r4
  obtain rfl : args = #[v0, v1, v2, v3, v4] := by cases args; simp_all
  obtain ⟨rfl, rfl⟩ := trodVars_none hV
  have k0 := h0
  have lt0 : ∀ x ∈ p0, x.block < W.heap.size := by obtain ⟨m, hm⟩ := k0; exact DataW.trod_lt m _ _ _ hm
  obtain ⟨b0, len0, cap0, rfl⟩ := okWide_slice Try.underlying22 (hval 0 22 v0 rfl rfl)
  obtain ⟨K0, X0, Y0, Z0, w0⟩ := isOps_of Try.underlying22 Try.underlying29 cellsOp Try.underlying3 cellsInt h0
  have x0 : len0 ≤ maxLen := by
    rcases w0 with h | ⟨_, _, _, _, h, _⟩
    · rw [h]; exact Nat.zero_le _
    · exact h
  obtain ⟨a1, rfl, rfl, rfl, w1⟩ := open_int Try.underlying3 (hval 1 3 v1 rfl rfl) h1
  obtain ⟨a2, rfl, rfl, rfl, w2⟩ := open_int Try.underlying3 (hval 2 3 v2 rfl rfl) h2
  obtain ⟨a3, rfl, rfl, rfl, w3⟩ := open_int Try.underlying3 (hval 3 3 v3 rfl rfl) h3
  obtain ⟨a4, rfl, rfl, rfl, w4⟩ := open_int Try.underlying3 (hval 4 3 v4 rfl rfl) h4
  clear hA0 hval0
  refine (walk W b0 len0 cap0 K0 X0 Y0 Z0 w0 x0 a1 w1 a2 w2 a3 w3 a4 w4).mono fun e W' ⟨he, bel⟩ => ?_
  subst he
  exact ⟨_, rfl, _, _, _, [], _, [], hW', trodAll_mk1 (shut_bool Try.underlying4 _), (trodAll_cons_mk (Below.trod laidOut (by kernel_rfl) (of_decide_eq_true (by kernel_rfl)) k0 bel lt0) (trodAll_cons_mk (shut_int Try.underlying3 w1) (trodAll_cons_mk (shut_int Try.underlying3 w2) (trodAll_cons_mk (shut_int Try.underlying3 w3) (trodAll_cons_mk (shut_int Try.underlying3 w4) trodAll_mk0))))), rfl, bel.frame _, fun h => by cases h⟩

theorem over : Rows.tabuEndsRow.holds Try.pinned (OpenSpec.ofChange Rows.tabuEndsSpec) :=
  OpenClaim.holds_of_wide 5 Try.f5 rfl rfl rfl rfl rfl rfl rfl ⟨rfl, rfl, rfl, rfl, rfl⟩ rfl rfl rfl rfl rfl (by kernel_rfl) Try.func5 (by kernel_rfl)
    (of_decide_eq_true (by kernel_rfl)) (by unfold Func.isWrapper; first | (rw [if_pos (by decide +kernel)]; kernel_rfl) | (rw [if_neg (by decide +kernel)]; exact ⟨rfl, rfl⟩))
    (fun os started H enc _ => lifted os started H enc)

/-- THE STATEMENT -/
theorem proved : Rows.TabuEndsSaid := over
#print axioms proved
end Go.Proofs.Ytjfagekdeapiaaa.tabuEnds
