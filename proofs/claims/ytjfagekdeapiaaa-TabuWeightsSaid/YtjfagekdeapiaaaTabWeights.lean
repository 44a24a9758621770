/- TabuWeights: whatever the input, the law returns true, and each argument reads as it read before. No conditions but the row's own. -/
import Derived.Test.YtjfagekdeapiaaaRows
import Derived.WalkKit
import Derived.ProofKit
import Derived.ShutString
import Derived.ChangeOld
import Derived.Below
import Derived.OpenShut
import Derived.Lib.SmallJoins
import Derived.Test.YtjfagekdeapiaaaTabOpen
namespace Go.Proofs.Ytjfagekdeapiaaa.tabuWeights
open Go.ChangeShapes Go.WideShapes Go.ChangeAt Go.RowKit Go.Joins
open Go.ChangeMaps (open_string shut_string)
set_option linter.unusedVariables false

theorem own : ownKnob Try.prog.godebug = none := by kernel_rfl
theorem laidOut : laidOutB Try.prog = true := by kernel_rfl
open Tab Go.Lib
/-- a weight that the call has made -/
structure Ws (w : World) (V : Nat) (x : Int) (wr : World) : Prop where
  wt : Wt wr V x
  below : Below w.heap.size w wr
  hV : w.heap.size ≤ V
theorem Ws.set {w wr w' : World} {V : Nat} {x y : Int} (h : Ws w V x wr) (hw : w' = wr.setCell ⟨V, 0, none⟩ (.int .i64 (y - 1000))) (hy : 1 ≤ y ∧ y ≤ 1000000) : Ws w V y w' := by
  subst hw
  exact ⟨h.wt.set hy, h.below.setCell (p := ⟨V, 0, none⟩) h.hV _, h.hV⟩
set_option maxHeartbeats 4000000 in
set_option maxRecDepth 100000 in
theorem walk (w : World) (b0 : Option Addr) (len0 cap0 : Nat) (g0 : Nat → Bool) (w0 : IsBs w b0 len0 g0) (x0 : len0 ≤ maxLen) (a1 : Int) (w1 : (Lit.int .i64 a1).wf = true) (a2 : Int) (w2 : (Lit.int .i64 a2).wf = true) :
    Calls Try.prog 4 #[.slice b0 len0 cap0, .int .i64 a1, .int .i64 a2] w fun e w' => e = .returned (.bool true) ∧ Below w.heap.size w w' := by
  by_cases hl : 200 < len0
  · go_enter Try.func4, Try.ntmps4
    go_wp2_with fail
    refine (alive_any _).mono ?_
    rintro e w1 ⟨rfl, hb⟩
    have HB := Lib.hid hb; clear hb
    go_wp2_with fail
    go_ret
    exact ⟨rfl, HB.out⟩
  · have HG := Lib.hid w0; clear w0
    go_enter Try.func4, Try.ntmps4
    go_wp2_with fail
    refine (alive_any _).mono ?_
    rintro e w1 ⟨rfl, hb⟩
    have HS0 := Lib.hid (show Ws w w1.heap.size 1000 (w1.alloc (.cells #[.int .i64 0] 39)) from ⟨Wt.made w1, hb.alloc hb.size _, hb.size⟩)
    clear hb
    go_wp2_with fail
    obtain ⟨V, hV⟩ : ∃ V, V = w1.heap.size := ⟨_, rfl⟩
    rw [← hV] at HS0 ⊢
    clear hV
    go_loopg [8, 10, 18] len0 (fun gg s8 _ s18 wr => ∃ (k : Nat) (x : Int), k ≤ len0 ∧ len0 - k ≤ gg ∧ s8 = .int .i64 x ∧ s18 = .int .i64 k ∧ Hid (Ws w V x wr))
    case atStart => exact ⟨0, 1000, Nat.zero_le _, by omega, rfl, rfl, HS0⟩
    case round =>
      obtain ⟨k, x, hk, hg, rfl, rfl, HS⟩ := hrel
      have hx := HS.out.wt.ok
      by_cases hlt : k < len0
      · rcases HG.out with h0 | ⟨b, off, rfl, hb, hmx, hc⟩
        · omega
        have d0 := (HS.out.below.cell hb).trans (hc k hlt)
        clear hc hmx
        obtain ⟨good, hgd⟩ : ∃ good, good = g0 k := ⟨_, rfl⟩
        rw [← hgd] at d0
        clear hgd
        obtain ⟨y, hy⟩ : ∃ y, y = turnV x good := ⟨_, rfl⟩
        have hyi := turnV_in hx good
        rw [← hy] at hyi
        have HY := Lib.hid hy
        clear hy
        go_wp2_with fail
        refine (refTurn_any _ _ _ hx).mono ?_
        rintro e w2 ⟨rfl, rfl⟩
        rw [← HY.out]
        clear d0
        go_wp2_with fail
        refine (turn_any _ _ _ _ HS.out.wt).mono ?_
        rintro e w2 ⟨rfl, hw⟩
        rw [← HY.out] at hw ⊢
        have HS2 := Lib.hid (HS.out.set hw hyi)
        clear hw
        go_wp2_with fail
        refine (value_any _ _ _ HS2.out.wt).mono ?_
        rintro e w3 ⟨rfl, rfl⟩
        go_wp2_with fail
        go_roundg (len0 - (k + 1))
        case measure => omega
        case rel => exact ⟨k + 1, y, by omega, by omega, rfl, by go_num, HS2⟩
      · have hkm : k = len0 := by omega
        rw [hkm] at hk ⊢
        clear hlt hkm
        have h1 := heldV_le (n := a1) (show (0 : Int) ≤ 1048576 by omega)
        have h2 := heldV_le (n := a2) (show (0 : Int) ≤ 1048576 by omega)
        have HA := Lib.hid (fun w => refHeld_any a1 0 1048576 (by omega) w)
        have HB := Lib.hid (fun w => refHeld_any a2 0 1048576 (by omega) w)
        have HO := Lib.hid (of_any V x a1 a2 wr HS.out.wt)
        obtain ⟨p, hp⟩ : ∃ p, p = heldV a1 0 1048576 := ⟨_, rfl⟩
        obtain ⟨q, hq⟩ : ∃ q, q = heldV a2 0 1048576 := ⟨_, rfl⟩
        rw [← hp] at h1 HA HO
        rw [← hq] at h2 HB HO
        obtain ⟨s, hs⟩ : ∃ s, s = p + q := ⟨_, rfl⟩
        have hs1 : p + q = s := hs.symm
        have hsb : 0 ≤ s ∧ s ≤ 2097152 := by omega
        have hm0 : 0 ≤ x * s := Int.mul_nonneg (by omega) hsb.1
        have hm1 : x * s ≤ 1000000 * 2097152 := Int.mul_le_mul hx.2 hsb.2 hsb.1 (by omega)
        rw [hs1] at HO
        clear hp hq hs
        go_wp2_with fail
        refine HO.out.mono ?_
        rintro e w2 ⟨rfl, rfl⟩
        go_wp2_with fail
        refine (HA.out _).mono ?_
        rintro e w2 ⟨rfl, rfl⟩
        go_wp2_with fail
        refine (HB.out _).mono ?_
        rintro e w2 ⟨rfl, rfl⟩
        go_wp2_with fail
        go_ret
        exact ⟨rfl, HS.out.below⟩

set_option maxRecDepth 100000 in
theorem lifted (os : Os) (started : os.Started) (H : Type) (enc : TypeId × Value → H) :
    ReturnsInHanded {} Try.checked os 4 .any (Rows.tabuWeightsSpec.pre6 enc Try.prog Try.f4 Rows.tabuWeightsRow.domain false) (Rows.tabuWeightsSpec.post enc Try.prog Try.f4 false true false false) := by
  refine returnsInHanded_of_change (C := Try.checked) own started (by kernel_rfl) Try.func4
    (ChangeSpec.witness6 (enc := enc) (C := Try.checked) false ⟨#[], #[.slice none 0 0, .int .i64 0, .int .i64 0], []⟩ 8 (by kernel_rfl) (by kernel_rfl) (by kernel_rfl) (by kernel_rfl)) ?_
  intro W base args ds gs before hval0 hW hcnd _
  have hval : ∀ (j : Nat) t v, Try.f4.params[j]? = some t → args[j]? = some v → Value.okWide Try.prog W .any base t v := hval0
  have hW' := hW
  obtain ⟨p, q, hA0, hV, rfl, hfz, hnd⟩ := hW
  have hA : DataW.TrodAll enc Try.prog W 0 (fun _ => true) true Try.f4.params.toList args.toList ds p := hA0
  rw [Try.params4] at hA hval
  obtain ⟨v0, vs0, d0, ds0, p0, q0, hargs, rfl, rfl, h0, r0⟩ := trodAll_cons hA
  obtain ⟨v1, vs1, d1, ds1, p1, q1, rfl, rfl, rfl, h1, r1⟩ := trodAll_cons r0
  obtain ⟨v2, vs2, d2, ds2, p2, q2, rfl, rfl, rfl, h2, r2⟩ := trodAll_cons r1
  obtain ⟨rfl, rfl, rfl⟩ := trodAll_nil r2
  obtain rfl : args = #[v0, v1, v2] := by cases args; simp_all
  obtain ⟨rfl, rfl⟩ := trodVars_none hV
  have k0 := h0
  have lt0 : ∀ x ∈ p0, x.block < W.heap.size := by obtain ⟨m, hm⟩ := k0; exact DataW.trod_lt m _ _ _ hm
  obtain ⟨b0, len0, cap0, rfl⟩ := okWide_slice Try.underlying37 (hval 0 37 v0 rfl rfl)
  obtain ⟨g0, w0⟩ := isBs_of Try.underlying37 Try.underlying4 cellsBool h0
  have x0 : len0 ≤ maxLen := by
    rcases w0 with h | ⟨_, _, _, _, h, _⟩
    · rw [h]; exact Nat.zero_le _
    · exact h
  obtain ⟨a1, rfl, rfl, rfl, w1⟩ := open_int Try.underlying2 (hval 1 2 v1 rfl rfl) h1
  obtain ⟨a2, rfl, rfl, rfl, w2⟩ := open_int Try.underlying2 (hval 2 2 v2 rfl rfl) h2
  clear hA0 hval0
  refine (walk W b0 len0 cap0 g0 w0 x0 a1 w1 a2 w2).mono fun e W' ⟨he, bel⟩ => ?_
  subst he
  exact ⟨_, rfl, _, _, _, [], _, [], hW', trodAll_mk1 (shut_bool Try.underlying4 _), (trodAll_cons_mk (Below.trod laidOut (by kernel_rfl) (of_decide_eq_true (by kernel_rfl)) k0 bel lt0) (trodAll_cons_mk (shut_int Try.underlying2 w1) (trodAll_cons_mk (shut_int Try.underlying2 w2) trodAll_mk0))), rfl, bel.frame _, fun h => by cases h⟩

theorem over : Rows.tabuWeightsRow.holds Try.pinned (OpenSpec.ofChange Rows.tabuWeightsSpec) :=
  OpenClaim.holds_of_wide 4 Try.f4 rfl rfl rfl rfl rfl rfl rfl ⟨rfl, rfl, rfl, rfl, rfl⟩ rfl rfl rfl rfl rfl (by kernel_rfl) Try.func4 (by kernel_rfl)
    (of_decide_eq_true (by kernel_rfl)) (by unfold Func.isWrapper; first | (rw [if_pos (by decide +kernel)]; kernel_rfl) | (rw [if_neg (by decide +kernel)]; exact ⟨rfl, rfl⟩))
    (fun os started H enc _ => lifted os started H enc)

/-- THE STATEMENT -/
theorem proved : Rows.TabuWeightsSaid := over
#print axioms proved
end Go.Proofs.Ytjfagekdeapiaaa.tabuWeights
