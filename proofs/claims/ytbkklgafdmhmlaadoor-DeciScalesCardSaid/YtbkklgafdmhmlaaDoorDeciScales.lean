/- DeciScales: whatever the input, the law returns true, and each argument reads as it read before; the library's tables hold what the program's text lays. No other conditions. -/
import Derived.Test.YtbkklgafdmhmlaaDoorCards
import Derived.Test.YtbkklgafdmhmlaaDoorTie
import Derived.WalkKit
import Derived.ProofKit
import Derived.ShutString
import Derived.ChangeOld
import Derived.Below
import Derived.OpenShut
import Derived.Lib.SmallJoins
import Derived.Deep.DeepHandedRow
import Derived.SevenTiedAt
import Derived.Test.YtbkklgafdmhmlaaDoorDeciWorld
import Derived.Test.YtbkklgafdmhmlaaDoorDeciAlive
import Derived.Test.YtbkklgafdmhmlaaDoorDeciMath
namespace Go.Proofs.YtbkklgafdmhmlaaDoor.deciScales
open Go.ChangeShapes Go.WideShapes Go.ChangeAt Go.RowKit Go.Joins
open Go.ChangeMaps (open_string shut_string)
open Deci
set_option linter.unusedVariables false

theorem wf64 {n : Int} (h : (Lit.int .i64 n).wf = true) : -9223372036854775808 ≤ n ∧ n ≤ 9223372036854775807 := by
  simp [Lit.wf] at h
  exact h
theorem own : ownKnob Tryd.prog.godebug = none := by kernel_rfl
theorem low_seven (n : Int) : 0 ≤ bits .and .i64 n 7 ∧ bits .and .i64 n 7 ≤ 7 := by
  have hm : (BitVec.ofInt 64 7).toNat = 2 ^ 3 - 1 := by decide
  have hlt : (BitVec.ofInt 64 n &&& BitVec.ofInt 64 7).toNat < 8 := by
    rw [BitVec.toNat_and, hm, Nat.and_two_pow_sub_one_eq_mod]; omega
  have hb : bits .and .i64 n 7 = IntKind.i64.wrap ((BitVec.ofInt 64 n &&& BitVec.ofInt 64 7).toNat : Nat) := rfl
  rw [hb, IntKind.wrap_i64]
  omega
theorem tmod_bd (n k : Int) (hk : 0 < k) : -k < n.tmod k ∧ n.tmod k < k :=
  ⟨by have := Int.tmod_lt_of_pos (-n) hk; rw [Int.neg_tmod] at this; omega, Int.tmod_lt_of_pos n hk⟩
theorem pow_bd (x : Int) (j : Nat) (hx : -1000 < x ∧ x < 1000) (hj : j ≤ 5) : -100000000 < x * 10 ^ j ∧ x * 10 ^ j < 100000000 := by
  have h : j = 0 ∨ j = 1 ∨ j = 2 ∨ j = 3 ∨ j = 4 ∨ j = 5 := by omega
  rcases h with rfl | rfl | rfl | rfl | rfl | rfl <;> simp <;> omega
set_option maxHeartbeats 4000000 in
set_option maxRecDepth 100000 in
theorem walk (w : World) (hE : Env w) (a0 : Int) (w0 : (Lit.int .i64 a0).wf = true) (a1 : Int) (w1 : (Lit.int .i64 a1).wf = true) :
    Calls Tryd.prog 6 #[.int .i64 a0, .int .i64 a1] w fun e w' => e = .returned (.bool true) ∧ Below w.heap.size w w' := by
  have n0 := wf64 w0
  obtain ⟨r1, r2⟩ := low_seven a1
  obtain ⟨m1, m2⟩ := tmod_bd a0 68719476736 (by omega)
  have HE := Lib.hid hE; clear hE w0 w1
  generalize hr : bits .and .i64 a1 7 = r at r1 r2
  generalize hm : a0.tmod 68719476736 = m at m1 m2
  obtain ⟨k1, k2⟩ := tmod_bd m 1000 (by omega)
  generalize hq : m.tmod 1000 = q at k1 k2
  by_cases hbig : 5 < r
  · clear hq hm
    go_enter Tryd.func6, Tryd.ntmps6
    go_wp2_with fail
    refine (alive_any _ HE.out).mono ?_
    rintro e W1 ⟨rfl, hb⟩
    go_wp2_with fail
    go_ret
    exact ⟨rfl, hb⟩
  · obtain ⟨j, rfl⟩ : ∃ j : Nat, r = j := ⟨r.toNat, by omega⟩
    have hj : j ≤ 5 := by omega
    have hdl : (Lib.decDigits m.natAbs).length ≤ 13 := dig_len 12 _ (by have : (10 : Nat) ^ (12 + 1) = 10000000000000 := by decide
                                                                        omega)
    obtain ⟨e1, e2⟩ := read_write m j 1 (by omega) (by omega) hdl
    have e3 := write_ten m j (by omega)
    have e4 := write_tens q j (by omega)
    have hcast : ((j + 1 : Nat) : Int) = (j : Int) + 1 := by omega
    rw [hcast] at e1 e2 e3
    have e1' : readV (writeV m j) ((j : Int) + 1) = 10 * m := by rw [e1]; omega
    have hpb : ∀ i, i ≤ j → -100000000 < q * 10 ^ i ∧ q * 10 ^ i < 100000000 := fun i hi => pow_bd q i ⟨k1, k2⟩ (by omega)
    have HPB := Lib.hid hpb; clear hpb
    have c1 := fun w hE => write_any m j w hE (by omega) (by omega)
    have hlen : (strOf (writeV m j)).size ≤ 4294967000 := by
      show (writeV m j).length ≤ _
      have hp := parts m j (by omega)
      have h1 := hp.hlen
      have h2 := hp.plen
      rw [write_eq]
      simp only [List.length_append]
      split <;> split <;> simp <;> omega
    have c2 := fun w hE => read_any (strOf (writeV m j)) ((j : Int) + 1) w hE hlen
    rw [data_strOf, e1', e2] at c2
    have c3 := fun w hE => write_any (10 * m) ((j : Int) + 1) w hE (by omega) (by omega)
    rw [e3] at c3
    have c4 := fun w hE => write_any (q * 10 ^ j) j w hE (by have := (HPB.out j (Nat.le_refl _)).1; omega) (by have := (HPB.out j (Nat.le_refl _)).2; omega)
    rw [e4] at c4
    have c5 := fun w hE => write_any q 0 w hE (by omega) (by omega)
    generalize strOf (writeV m j) = S at c1 c2 c3
    generalize strOf (writeV q 0) = S2 at c4 c5
    have C1 := Lib.hid c1; clear c1
    have C2 := Lib.hid c2; clear c2
    have C3 := Lib.hid c3; clear c3
    have C4 := Lib.hid c4; clear c4
    have C5 := Lib.hid c5; clear c5
    clear e1 e2 e3 e4 e1' hcast hdl hlen
    go_enter Tryd.func6, Tryd.ntmps6
    go_wp2_with fail
    refine (alive_any _ HE.out).mono ?_
    rintro e W1 ⟨rfl, hb⟩
    have HB1 := Lib.hid hb; clear hb
    go_wp2_with fail
    refine (C1.out _ (HE.out.below HB1.out)).mono ?_
    rintro e W2 ⟨rfl, hb⟩
    have HB2 := Lib.hid (HB1.out.trans (hb.mono HB1.out.size)); clear hb
    go_wp2_with fail
    refine (C2.out _ (HE.out.below HB2.out)).mono ?_
    rintro e W3 ⟨rfl, hb⟩
    have HB3 := Lib.hid (HB2.out.trans (hb.mono HB2.out.size)); clear hb
    go_wp2_with fail
    refine (C3.out _ (HE.out.below HB3.out)).mono ?_
    rintro e W4 ⟨rfl, hb⟩
    have HB4 := Lib.hid (HB3.out.trans (hb.mono HB3.out.size)); clear hb
    go_wp2_with fail
    go_loop [9, 48] (fun t i => ∃ x : Nat, x ≤ j ∧ i = .int .i64 x ∧ t = .int .i64 (q * 10 ^ x)) (fun _ i => j - (intOf i).toNat)
    case atStart => exact ⟨0, Nat.zero_le _, rfl, by simp⟩
    case round =>
      obtain ⟨x, hx, rfl, rfl⟩ := hrel
      by_cases hlt : x < j
      · have hp1 := HPB.out x (by omega)
        obtain ⟨p1, p2⟩ := hp1
        have hnx : q * 10 ^ x * 10 = q * 10 ^ (x + 1) := by rw [Int.pow_succ, Int.mul_assoc]
        obtain ⟨y, hy⟩ : ∃ y, y = q * 10 ^ x := ⟨_, rfl⟩
        rw [← hy] at hnx p1 p2 ⊢
        have HNX := Lib.hid hnx; clear hnx hy
        go_wp2
        go_round
        case rel => exact ⟨x + 1, by omega, by go_num, by rw [HNX.out]⟩
        case measure => simp [intOf]; omega
      · obtain rfl : x = j := by omega
        go_wp2_with fail
        refine (C4.out _ (HE.out.below HB4.out)).mono ?_
        rintro e W5 ⟨rfl, hb⟩
        have HB5 := Lib.hid (HB4.out.trans (hb.mono HB4.out.size)); clear hb
        go_wp2_with fail
        refine (C5.out _ (HE.out.below HB5.out)).mono ?_
        rintro e W6 ⟨rfl, hb⟩
        have HB6 := Lib.hid (HB5.out.trans (hb.mono HB5.out.size)); clear hb
        go_wp2_with fail
        go_ret
        exact ⟨rfl, HB6.out⟩

set_option maxRecDepth 100000 in
theorem contract (H : Type) (enc : TypeId × Value → H) (W : World) (base : Nat) (args : Array Value) (ds gs : List (DataW H)) (before : List MemPlace)
    (hval0 : ∀ (j : Nat) t v, Tryd.f6.params[j]? = some t → args[j]? = some v → Value.okWide Tryd.prog W .any base t v)
    (hW : DataW.Whole enc Tryd.prog Tryd.f6.params.toList Rows.deciScalesSpec.vars false W args.toList ds gs before) (hL : laidMetH Tryd.prog Rows.deciScalesRow.laid W) (hS : W.ShapedOpen Tryd.prog) :
    Calls Tryd.prog 6 args W fun e W' => ∃ v, e = .returned v ∧ Rows.deciScalesSpec.post enc Tryd.prog Tryd.f6 false true false false W args v W' := by
  have hval : ∀ (j : Nat) t v, Tryd.f6.params[j]? = some t → args[j]? = some v → Value.okWide Tryd.prog W .any base t v := hval0
  have hE : Env W := env_of hL hS
  have hW' := hW
  obtain ⟨p, q, hA0, hV, rfl, hfz, hnd⟩ := hW
  have hA : DataW.TrodAll enc Tryd.prog W 0 (fun _ => true) true Tryd.f6.params.toList args.toList ds p := hA0
  rw [Tryd.params6] at hA hval
  obtain ⟨v0, vs0, d0, ds0, p0, q0, hargs, rfl, rfl, h0, r0⟩ := trodAll_cons hA
  obtain ⟨v1, vs1, d1, ds1, p1, q1, rfl, rfl, rfl, h1, r1⟩ := trodAll_cons r0
  obtain ⟨rfl, rfl, rfl⟩ := trodAll_nil r1
  obtain rfl : args = #[v0, v1] := by cases args; simp_all
  obtain ⟨rfl, rfl⟩ := trodVars_none hV
  obtain ⟨a0, rfl, rfl, rfl, w0⟩ := open_int Tryd.underlying2 (hval 0 2 v0 rfl rfl) h0
  obtain ⟨a1, rfl, rfl, rfl, w1⟩ := open_int Tryd.underlying3 (hval 1 3 v1 rfl rfl) h1
  clear hA0 hval0
  refine (walk W hE a0 w0 a1 w1).mono fun e W' ⟨he, bel⟩ => ?_
  subst he
  exact ⟨_, rfl, _, _, _, [], _, [], hW', trodAll_mk1 (shut_bool Tryd.underlying4 _), (trodAll_cons_mk (shut_int Tryd.underlying2 w0) (trodAll_cons_mk (shut_int Tryd.underlying3 w1) trodAll_mk0)), rfl, bel.frame _, fun h => by cases h⟩

theorem reads (os : Os) {H : Type} (enc : TypeId × Value → H) : ∃ places, DataW.whole enc Tryd.prog ((laidWorld os).forCall (fun _ _ => 0) ⟨#[], #[.int .i64 0, .int .i64 0], []⟩).memory Tryd.f6.params.toList Rows.deciScalesSpec.vars false (#[.int .i64 0, .int .i64 0] : Array Value).toList 8 = some ([.lit (.int .i64 0), .lit (.int .i64 0)], [], places) :=
  ⟨[], by kernel_rfl⟩
set_option maxRecDepth 100000 in
theorem lifted (os : Os) (started : os.Started) (H : Type) (enc : TypeId × Value → H) (F : Stop.Interp) :
    ReturnsInHanded {} Tryd.checked os 6 .any ((OpenSpec.ofChange Rows.deciScalesSpec).preRow enc Tryd.prog Tryd.f6 Rows.deciScalesRow.domain false Rows.deciScalesRow.laid) (((OpenSpec.ofChange Rows.deciScalesSpec).at F).post enc Tryd.prog Tryd.f6 false true false false) := by
  obtain ⟨places, hx⟩ := reads os enc
  refine returnsInHanded_of_row (C := Tryd.checked) (s := OpenSpec.ofChange Rows.deciScalesSpec) own started (by kernel_rfl) Tryd.func6
    (witness_row_at (enc := enc) (C := Tryd.checked) false (laidWorld os) #[.int .i64 0, .int .i64 0] rfl (by kernel_rfl) (by kernel_rfl) (by kernel_rfl)
      (OpenSpec.preRow_of_cond 8 hx (by kernel_rfl) (fun k hk => by cases hk) (by kernel_rfl) (laid_met os _))) ?_
  intro W base args ds gs before hval hW _ _ _ hL hS _
  exact contract H enc W base args ds gs before hval hW hL hS

theorem said : Rows.DeciScalesSaid :=
  OpenClaim.holds_of_cond 6 Tryd.f6 rfl rfl rfl rfl rfl rfl rfl ⟨rfl, rfl, rfl, rfl, rfl⟩ rfl rfl rfl rfl rfl (by kernel_rfl) Tryd.func6 (by kernel_rfl)
    (of_decide_eq_true (by kernel_rfl)) (by unfold Func.isWrapper; first | (rw [if_pos (by decide +kernel)]; kernel_rfl) | (rw [if_neg (by decide +kernel)]; exact ⟨rfl, rfl⟩))
    (fun os started H enc _ F => by rw [OpenClaim.pre_eq_preRow]; exact lifted os started H enc F)

theorem plain (f : FuncId) (fn : Func) (hf : Tryd.pinned.checked.prog.funcNamed "jitney/jitneylaw03.DeciScales" = some f) (hfn : Tryd.pinned.checked.prog.funcs[f]? = some fn) :
    false = Tryd.pinned.checked.prog.looks [] ∧ ∀ (j : Nat) t, fn.params[j]? = some t → Tryd.pinned.checked.prog.wantsStandIn t = false := by
  obtain rfl : f = 6 := Option.some.inj ((show Tryd.prog.funcNamed "jitney/jitneylaw03.DeciScales" = some 6 by kernel_rfl).symm.trans hf) |>.symm
  obtain rfl : fn = Tryd.f6 := (Option.some.inj (Tryd.func6.symm.trans hfn)).symm
  refine ⟨by kernel_rfl, fun j t ht => ?_⟩
  rw [Tryd.params6] at ht
  have hm := Array.mem_of_getElem? ht
  simp only [List.mem_toArray, List.mem_cons, List.not_mem_nil, or_false] at hm
  rcases hm with rfl | rfl
  · exact (show Tryd.prog.wantsStandIn 2 = false by kernel_rfl)
  · exact (show Tryd.prog.wantsStandIn 3 = false by kernel_rfl)

/-- THE CARD -/
theorem card : Rows.DeciScalesCardSaid :=
  Claim7.holds_tied_plain_at .later [] _ _ _ _ said (fun _ h => by cases h) (by kernel_rfl) (fun _ h => by cases h) deciScales_row_tie rfl ⟨rfl, rfl⟩ (by kernel_rfl) rfl plain (by kernel_rfl)
#print axioms card
end Go.Proofs.YtbkklgafdmhmlaaDoor.deciScales
