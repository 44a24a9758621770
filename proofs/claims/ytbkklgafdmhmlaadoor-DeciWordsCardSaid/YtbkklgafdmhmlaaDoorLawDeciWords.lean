/- DeciWords: whatever the input, the law returns true, and each argument reads as it read before; the library's tables hold what the program's text lays. No other conditions. -/
import Derived.Test.YtbkklgafdmhmlaaDoorCards
import Derived.Test.YtbkklgafdmhmlaaDoorTie
import Derived.WalkKit
import Derived.ProofKit
import Derived.ShutString
import Derived.ChangeOld
import Derived.Below
import Derived.OpenShut
import Derived.Lib.SmallJoins
import Derived.Deep.DeepHandedRow
import Derived.SevenTiedAt
import Derived.Test.YtbkklgafdmhmlaaDoorDeciWorld
import Derived.Test.YtbkklgafdmhmlaaDoorDeciAlive
import Derived.Test.YtbkklgafdmhmlaaDoorDeciRefRead
import Derived.Test.YtbkklgafdmhmlaaDoorDeciRefWrite
import Derived.Test.YtbkklgafdmhmlaaDoorDeciRefWords
import Derived.Test.YtbkklgafdmhmlaaDoorDeciSame
namespace Go.Proofs.YtbkklgafdmhmlaaDoor.deciWords
open Go.ChangeShapes Go.WideShapes Go.ChangeAt Go.RowKit Go.Joins
open Go.ChangeMaps (open_string shut_string)
open Deci
set_option linter.unusedVariables false

theorem wf64 {n : Int} (h : (Lit.int .i64 n).wf = true) : -9223372036854775808 ≤ n ∧ n ≤ 9223372036854775807 := by
  simp [Lit.wf] at h
  exact h
theorem own : ownKnob Tryd.prog.godebug = none := by kernel_rfl
theorem wordsP_length (l : List UInt8) : (wordsP l).length ≤ l.length + 1 := by
  unfold wordsP
  split
  · simp
  · split
    · have := pcs_length 32 l []; simpa using this
    · simp
theorem linesP_length (l : List UInt8) : (linesP l).length ≤ 1048577 := by
  unfold linesP
  split
  · simp
  · split
    · have := pcs_length 10 l []; simp; omega
    · simp
set_option maxHeartbeats 4000000 in
set_option maxRecDepth 100000 in
theorem walk (w : World) (hE : Env w) (s0 : ByteArray) (w0 : s0.size ≤ maxLen) (s1 : ByteArray) (w1 : s1.size ≤ maxLen) :
    Calls Tryd.prog 4 #[.string s0, .string s1] w fun e w' => e = .returned (.bool true) ∧ Below w.heap.size w w' := by
  have HE := Lib.hid hE; clear hE
  have hl0 : s0.data.toList.length = s0.size := by simp
  have hl1 : s1.data.toList.length = s1.size := by simp
  by_cases hbig : 2000 < s0.size ∨ (2000 < s1.size ∧ s1.size ≤ 1048576)
  · clear hl0 hl1
    by_cases h0 : 2000 < s0.size
    · clear hbig
      go_enter Tryd.func4, Tryd.ntmps4
      go_wp2_with fail
      refine (alive_any _ HE.out).mono ?_
      rintro e W1 ⟨rfl, hb⟩
      go_wp2_with fail
      go_ret
      exact ⟨rfl, hb⟩
    · obtain ⟨h1, h2⟩ := hbig.resolve_left h0
      clear hbig
      go_enter Tryd.func4, Tryd.ntmps4
      go_wp2_with fail
      refine (alive_any _ HE.out).mono ?_
      rintro e W1 ⟨rfl, hb⟩
      go_wp2_with fail
      go_ret
      exact ⟨rfl, hb⟩
  · have h0 : ¬ 2000 < s0.size := fun h => hbig (.inl h)
    have c1 := fun w => words_any s0 w (by omega)
    have c2 := fun w => refWords_any s0 w (by omega)
    have c3 := fun w hE => lines_any s1 w hE w1
    have c4 := fun w => refLines_any s1 w w1
    have k1 := wordsP_length s0.data.toList
    have k2 := linesP_length s1.data.toList
    rw [hl0] at k1
    generalize wordsP s0.data.toList = ps at c1 c2 k1
    generalize wordsE s0.data.toList = pe at c1 c2
    generalize linesP s1.data.toList = qs at c3 c4 k2
    generalize linesE s1.data.toList = qe at c3 c4
    have K1 : Hid (ps.length ≤ 9223372036854775000) := Lib.hid (by omega)
    have K2 : Hid (qs.length ≤ 9223372036854775000) := Lib.hid (by omega)
    clear k1 k2 hl0 hl1
    have C1 := Lib.hid c1; clear c1
    have C2 := Lib.hid c2; clear c2
    have C3 := Lib.hid c3; clear c3
    have C4 := Lib.hid c4; clear c4
    have hg : s1.size ≤ 2000 ∨ (2000 < s1.size ∧ 1048576 < s1.size) := by
      by_cases h : s1.size ≤ 2000
      · exact .inl h
      · exact .inr ⟨by omega, by
          refine Decidable.byContradiction fun h2 => hbig (.inr ⟨by omega, by omega⟩)⟩
    clear hbig w0 w1
    rcases hg with h1 | ⟨h1, h2⟩
    all_goals
      go_enter Tryd.func4, Tryd.ntmps4
      go_wp2_with fail
      refine (alive_any _ HE.out).mono ?_
      rintro e W1 ⟨rfl, hb⟩
      have HB1 := Lib.hid hb; clear hb
      go_wp2_with fail
      refine (C1.out _).mono ?_
      rintro e W2 ⟨v1, rfl, ho, hb⟩
      have HB2 := Lib.hid (HB1.out.trans (hb.mono HB1.out.size)); clear hb
      have P1 := Lib.hid (hasStrs_of ho); clear ho
      obtain ⟨x1, y1, rfl⟩ := P1.out.slice
      go_wp2_with fail
      refine (C2.out _).mono ?_
      rintro e W3 ⟨v2, rfl, ho, hb⟩
      have HB3 := Lib.hid (HB2.out.trans (hb.mono HB2.out.size))
      have P1 := Lib.hid (P1.out.below hb); clear hb
      have P2 := Lib.hid (hasStrs_of ho); clear ho
      obtain ⟨x2, y2, rfl⟩ := P2.out.slice
      go_wp2_with fail
      refine (C3.out _ (HE.out.below HB3.out)).mono ?_
      rintro e W4 ⟨v3, rfl, ho, hb⟩
      have HB4 := Lib.hid (HB3.out.trans (hb.mono HB3.out.size))
      have P1 := Lib.hid (P1.out.below hb)
      have P2 := Lib.hid (P2.out.below hb); clear hb
      have P3 := Lib.hid (hasStrs_of ho); clear ho
      obtain ⟨x3, y3, rfl⟩ := P3.out.slice
      go_wp2_with fail
      refine (C4.out _).mono ?_
      rintro e W5 ⟨v4, rfl, ho, hb⟩
      have HB5 := Lib.hid (HB4.out.trans (hb.mono HB4.out.size))
      have P1 := Lib.hid (P1.out.below hb)
      have P2 := Lib.hid (P2.out.below hb)
      have P3 := Lib.hid (P3.out.below hb); clear hb
      have P4 := Lib.hid (hasStrs_of ho); clear ho
      obtain ⟨x4, y4, rfl⟩ := P4.out.slice
      go_wp2_with fail
      refine (same_yes _ _ ps _ P1.out P2.out K1.out).mono ?_
      rintro e w' ⟨rfl, n1, rfl⟩
      have HD := Lib.hid (below_drewN (Below.refl W5.heap.size W5) n1)
      have P3 := Lib.hid (P3.out.below HD.out)
      have P4 := Lib.hid (P4.out.below HD.out)
      go_wp2_with fail
      refine (same_yes _ _ qs _ P3.out P4.out K2.out).mono ?_
      rintro e w' ⟨rfl, n2, rfl⟩
      go_wp2_with fail
      go_ret
      exact ⟨rfl, below_drewN HB5.out _⟩

set_option maxRecDepth 100000 in
theorem contract (H : Type) (enc : TypeId × Value → H) (W : World) (base : Nat) (args : Array Value) (ds gs : List (DataW H)) (before : List MemPlace)
    (hval0 : ∀ (j : Nat) t v, Tryd.f4.params[j]? = some t → args[j]? = some v → Value.okWide Tryd.prog W .any base t v)
    (hW : DataW.Whole enc Tryd.prog Tryd.f4.params.toList Rows.deciWordsSpec.vars false W args.toList ds gs before) (hL : laidMetH Tryd.prog Rows.deciWordsRow.laid W) (hS : W.ShapedOpen Tryd.prog) :
    Calls Tryd.prog 4 args W fun e W' => ∃ v, e = .returned v ∧ Rows.deciWordsSpec.post enc Tryd.prog Tryd.f4 false true false false W args v W' := by
  have hval : ∀ (j : Nat) t v, Tryd.f4.params[j]? = some t → args[j]? = some v → Value.okWide Tryd.prog W .any base t v := hval0
  have hE : Env W := env_of hL hS
  have hW' := hW
  obtain ⟨p, q, hA0, hV, rfl, hfz, hnd⟩ := hW
  have hA : DataW.TrodAll enc Tryd.prog W 0 (fun _ => true) true Tryd.f4.params.toList args.toList ds p := hA0
  rw [Tryd.params4] at hA hval
  obtain ⟨v0, vs0, d0, ds0, p0, q0, hargs, rfl, rfl, h0, r0⟩ := trodAll_cons hA
  obtain ⟨v1, vs1, d1, ds1, p1, q1, rfl, rfl, rfl, h1, r1⟩ := trodAll_cons r0
  obtain ⟨rfl, rfl, rfl⟩ := trodAll_nil r1
  obtain rfl : args = #[v0, v1] := by cases args; simp_all
  obtain ⟨rfl, rfl⟩ := trodVars_none hV
  obtain ⟨s0, rfl, rfl, rfl, w0⟩ := open_string Tryd.underlying9 (hval 0 9 v0 rfl rfl) h0
  obtain ⟨s1, rfl, rfl, rfl, w1⟩ := open_string Tryd.underlying9 (hval 1 9 v1 rfl rfl) h1
  clear hA0 hval0
  refine (walk W hE s0 w0 s1 w1).mono fun e W' ⟨he, bel⟩ => ?_
  subst he
  exact ⟨_, rfl, _, _, _, [], _, [], hW', trodAll_mk1 (shut_bool Tryd.underlying4 _), (trodAll_cons_mk (shut_string Tryd.underlying9 w0) (trodAll_cons_mk (shut_string Tryd.underlying9 w1) trodAll_mk0)), rfl, bel.frame _, fun h => by cases h⟩

theorem reads (os : Os) {H : Type} (enc : TypeId × Value → H) : ∃ places, DataW.whole enc Tryd.prog ((laidWorld os).forCall (fun _ _ => 0) ⟨#[], #[.string ⟨#[]⟩, .string ⟨#[]⟩], []⟩).memory Tryd.f4.params.toList Rows.deciWordsSpec.vars false (#[.string ⟨#[]⟩, .string ⟨#[]⟩] : Array Value).toList 8 = some ([.lit (.string []), .lit (.string [])], [], places) :=
  ⟨[], by kernel_rfl⟩
set_option maxRecDepth 100000 in
theorem lifted (os : Os) (started : os.Started) (H : Type) (enc : TypeId × Value → H) (F : Stop.Interp) :
    ReturnsInHanded {} Tryd.checked os 4 .any ((OpenSpec.ofChange Rows.deciWordsSpec).preRow enc Tryd.prog Tryd.f4 Rows.deciWordsRow.domain false Rows.deciWordsRow.laid) (((OpenSpec.ofChange Rows.deciWordsSpec).at F).post enc Tryd.prog Tryd.f4 false true false false) := by
  obtain ⟨places, hx⟩ := reads os enc
  refine returnsInHanded_of_row (C := Tryd.checked) (s := OpenSpec.ofChange Rows.deciWordsSpec) own started (by kernel_rfl) Tryd.func4
    (witness_row_at (enc := enc) (C := Tryd.checked) false (laidWorld os) #[.string ⟨#[]⟩, .string ⟨#[]⟩] rfl (by kernel_rfl) (by kernel_rfl) (by kernel_rfl)
      (OpenSpec.preRow_of_cond 8 hx (by kernel_rfl) (fun k hk => by cases hk) (by kernel_rfl) (laid_met os _))) ?_
  intro W base args ds gs before hval hW _ _ _ hL hS _
  exact contract H enc W base args ds gs before hval hW hL hS

theorem said : Rows.DeciWordsSaid :=
  OpenClaim.holds_of_cond 4 Tryd.f4 rfl rfl rfl rfl rfl rfl rfl ⟨rfl, rfl, rfl, rfl, rfl⟩ rfl rfl rfl rfl rfl (by kernel_rfl) Tryd.func4 (by kernel_rfl)
    (of_decide_eq_true (by kernel_rfl)) (by unfold Func.isWrapper; first | (rw [if_pos (by decide +kernel)]; kernel_rfl) | (rw [if_neg (by decide +kernel)]; exact ⟨rfl, rfl⟩))
    (fun os started H enc _ F => by rw [OpenClaim.pre_eq_preRow]; exact lifted os started H enc F)

theorem plain (f : FuncId) (fn : Func) (hf : Tryd.pinned.checked.prog.funcNamed "jitney/jitneylaw03.DeciWords" = some f) (hfn : Tryd.pinned.checked.prog.funcs[f]? = some fn) :
    false = Tryd.pinned.checked.prog.looks [] ∧ ∀ (j : Nat) t, fn.params[j]? = some t → Tryd.pinned.checked.prog.wantsStandIn t = false := by
  obtain rfl : f = 4 := Option.some.inj ((show Tryd.prog.funcNamed "jitney/jitneylaw03.DeciWords" = some 4 by kernel_rfl).symm.trans hf) |>.symm
  obtain rfl : fn = Tryd.f4 := (Option.some.inj (Tryd.func4.symm.trans hfn)).symm
  refine ⟨by kernel_rfl, fun j t ht => ?_⟩
  rw [Tryd.params4] at ht
  have hm := Array.mem_of_getElem? ht
  simp only [List.mem_toArray, List.mem_cons, List.not_mem_nil, or_false, or_self] at hm
  rcases hm with rfl
  · exact (show Tryd.prog.wantsStandIn 9 = false by kernel_rfl)

/-- THE CARD -/
theorem card : Rows.DeciWordsCardSaid :=
  Claim7.holds_tied_plain_at .later [] _ _ _ _ said (fun _ h => by cases h) (by kernel_rfl) (fun _ h => by cases h) deciWords_row_tie rfl ⟨rfl, rfl⟩ (by kernel_rfl) rfl plain (by kernel_rfl)
#print axioms card
end Go.Proofs.YtbkklgafdmhmlaaDoor.deciWords
