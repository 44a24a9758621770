/- FilePrints: whatever the input, the law returns true, and each argument reads as it read before; the library's tables hold what the program's text lays. No other conditions. -/
import Derived.Test.YtkggahoadeeajaaGreatDoorCards
import Derived.Test.YtkggahoadeeajaaGreatDoorTie
import Derived.WalkKit
import Derived.ProofKit
import Derived.ShutString
import Derived.ChangeOld
import Derived.Below
import Derived.OpenShut
import Derived.Lib.SmallJoins
import Derived.Deep.DeepHandedRow
import Derived.SevenTiedAt
import Derived.Test.YtkggahoadeeajaaGreatDoorDeciWorld
import Derived.Test.YtkggahoadeeajaaGreatDoorFilOpen
import Derived.Test.YtkggahoadeeajaaGreatDoorFilAlive
import Derived.Test.YtkggahoadeeajaaGreatDoorFilLaw
import Derived.Test.YtkggahoadeeajaaGreatDoorFilRefW
namespace Go.Proofs.YtkggahoadeeajaaGreatDoor.filePrints
open Go.ChangeShapes Go.WideShapes Go.ChangeAt Go.RowKit Go.Joins
open Go.ChangeMaps (open_string shut_string)
open Deci
set_option linter.unusedVariables false

theorem wf64 {n : Int} (h : (Lit.int .i64 n).wf = true) : -9223372036854775808 ≤ n ∧ n ≤ 9223372036854775807 := by
  simp [Lit.wf] at h
  exact h
theorem own : ownKnob Tryz.prog.godebug = none := by kernel_rfl
theorem laidOut : laidOutB Tryz.prog = true := by kernel_rfl
set_option maxHeartbeats 4000000 in
set_option maxRecDepth 100000 in
theorem walk (w : World) (hE : Env w) (v0 : Value) (pl0 : Fil.PL) (w0 : Fil.Came w v0 pl0) :
    Calls Tryz.prog 4 #[v0] w fun e w' => e = .returned (.bool true) ∧ Below w.heap.size w w' := by
  have hE' : ∀ W, Below w.heap.size w W → Env W := fun W hb => hE.below hb
  have hEA : Fil.EnvAt w.heap.size w := Fil.env_at hE
  obtain ⟨hi, n1, n2, n3, n4, l1, l2, l3, l4, l5⟩ := w0
  have hi0 := hi
  obtain ⟨va, vb, vc, rfl, i1, i2, i3⟩ := hi0
  obtain ⟨a1, c1, rfl⟩ := i1.form
  obtain ⟨a2, c2, rfl⟩ := i2.form
  obtain ⟨a3, c3, rfl⟩ := i3.form
  clear i1 i2 i3
  have h64 := (⟨n1, n2, n3, n4⟩ : (∀ r ∈ pl0.routes, ∀ x ∈ r, Fil.W64 x) ∧ (∀ r ∈ pl0.times, ∀ x ∈ r, Fil.W64 x) ∧ (∀ x ∈ pl0.left, Fil.W64 x) ∧ Fil.W64 pl0.cost)
  have K0 := fun W (hb : Below w.heap.size w W) => Fil.alive_any W (hE' W hb)
  have K1 := fun W (hb : Below w.heap.size w W) => Fil.few_any _ pl0 W (hi.below hb) ⟨l1, l2, l3, l4, l5⟩
  have K2 := fun (hf : Fil.fewB pl0 = true) W (hb : Below w.heap.size w W) => Fil.print_any _ pl0 W (Fil.env_at (hE' W hb)) (Fil.few_fit hf) (hi.below hb)
  have K3 := fun W (hb : Below w.heap.size w W) => Fil.as_any _ pl0 W (hi.below hb)
  have K4 := fun (hf : Fil.fewB pl0 = true) W (hb : Below w.heap.size w W) => Fil.refPrint_any _ pl0 W (Fil.env_at (hE' W hb)) hf h64 (hi.below hb)
  unfold Fil.PrintOut at K2 K4
  generalize strOf (if Fil.checkE pl0 = 0 then Fil.planT pl0 else []) = S at *
  generalize Fil.checkE pl0 = er at *
  generalize Fil.fewB pl0 = fb at *
  generalize pl0.routes.length = nr at *
  generalize pl0.times.length = nt at *
  generalize pl0.left.length = nl at *
  generalize pl0.cost = cost at *
  clear hi hE hE' hEA n1 n2 n3 n4 l1 l2 l3 l4 l5 h64
  have H0 := Lib.hid K0; clear K0
  have H1 := Lib.hid K1; clear K1
  have H2 := Lib.hid K2; clear K2
  have H3 := Lib.hid K3; clear K3
  have H4 := Lib.hid K4; clear K4
  obtain ⟨X, hX⟩ : ∃ X, X = w.heap.size := ⟨_, rfl⟩
  obtain ⟨U0, hU0⟩ : ∃ U, U = w.alloc (.cells #[.slice a1 nr c1, .slice a2 nt c2, .slice a3 nl c3, .int .i64 cost] 27) := ⟨_, rfl⟩
  obtain ⟨ST, hST⟩ : ∃ ST : World → Prop, ST = fun W => Below w.heap.size w W ∧ W.heap[X]? = some (.cells #[.slice a1 nr c1, .slice a2 nt c2, .slice a3 nl c3, .int .i64 cost] 27) := ⟨_, rfl⟩
  have S0 : Hid (ST U0) := Lib.hid (by rw [hST, hU0, hX]; exact ⟨(Below.refl _ _).alloc (Nat.le_refl _) _, World.alloc_heap_new w _⟩)
  have SB : Hid (∀ W W', ST W → Below W.heap.size W W' → ST W') := Lib.hid fun W W' h hb => by
    rw [hST] at h ⊢
    exact ⟨h.1.trans (hb.mono h.1.size), (hb.block X (Fil.own_lt h.2)).trans h.2⟩
  have SC : Hid (∀ W, ST W → Below w.heap.size w W ∧ W.cell? ⟨X, 0, none⟩ = some (.slice a1 nr c1) ∧ W.cell? ⟨X, 1, none⟩ = some (.slice a2 nt c2) ∧ W.cell? ⟨X, 2, none⟩ = some (.slice a3 nl c3) ∧ W.cell? ⟨X, 3, none⟩ = some (.int .i64 cost)) := Lib.hid fun W h => by
    rw [hST] at h
    exact ⟨h.1, (Fil.own_cell h.2).trans rfl, (Fil.own_cell h.2).trans rfl, (Fil.own_cell h.2).trans rfl, (Fil.own_cell h.2).trans rfl⟩
  have HX := Lib.hid hX; clear hX
  have HU := Lib.hid hU0; clear hU0
  clear hST
  go_enter Tryz.func4, Tryz.ntmps4
  go_wp2_with fail
  rw [← HU.out, ← HX.out]
  refine (H0.out _ (SC.out _ S0.out).1).mono ?_
  rintro e W1 ⟨rfl, hb⟩
  have S1 := Lib.hid (SB.out _ _ S0.out hb); clear hb
  obtain ⟨b1, x0, x1, x2, x3⟩ := SC.out _ S1.out
  go_wp2_with fail
  refine (H1.out _ b1).mono ?_
  rintro e W2 ⟨rfl, hb⟩
  have S2 := Lib.hid (SB.out _ _ S1.out hb); clear hb b1 x0 x1 x2 x3
  obtain ⟨b2, x0, x1, x2, x3⟩ := SC.out _ S2.out
  cases fb with
  | false =>
    go_wp2_with fail
    go_ret
    exact ⟨rfl, b2⟩
  | true =>
    go_wp2_with fail
    refine (H2.out (by trivial) _ b2).mono ?_
    rintro e W3 ⟨rfl, hb⟩
    have S3 := Lib.hid (SB.out _ _ S2.out hb); clear hb b2 x0 x1 x2 x3
    obtain ⟨b3, x0, x1, x2, x3⟩ := SC.out _ S3.out
    go_wp2_with fail
    refine (H3.out _ b3).mono ?_
    rintro e W4 ⟨rfl, hb⟩
    have S4 := Lib.hid (SB.out _ _ S3.out hb); clear hb b3 x0 x1 x2 x3
    obtain ⟨b4, x0, x1, x2, x3⟩ := SC.out _ S4.out
    go_wp2_with fail
    refine (H4.out (by trivial) _ b4).mono ?_
    rintro e W5 ⟨rfl, hb⟩
    have S5 := Lib.hid (SB.out _ _ S4.out hb); clear hb b4 x0 x1 x2 x3
    obtain ⟨b5, x0, x1, x2, x3⟩ := SC.out _ S5.out
    go_wp2_with fail
    go_ret
    exact ⟨rfl, b5⟩

set_option maxRecDepth 100000 in
theorem contract (H : Type) (enc : TypeId × Value → H) (W : World) (base : Nat) (args : Array Value) (ds gs : List (DataW H)) (before : List MemPlace)
    (hval0 : ∀ (j : Nat) t v, Tryz.f4.params[j]? = some t → args[j]? = some v → Value.okWide Tryz.prog W .any base t v)
    (hW : DataW.Whole enc Tryz.prog Tryz.f4.params.toList Rows.filePrintsSpec.vars false W args.toList ds gs before) (hL : laidMetH Tryz.prog Rows.filePrintsRow.laid W) (hS : W.ShapedOpen Tryz.prog) :
    Calls Tryz.prog 4 args W fun e W' => ∃ v, e = .returned v ∧ Rows.filePrintsSpec.post enc Tryz.prog Tryz.f4 false true false false W args v W' := by
  have hval : ∀ (j : Nat) t v, Tryz.f4.params[j]? = some t → args[j]? = some v → Value.okWide Tryz.prog W .any base t v := hval0
  have hE : Env W := env_of hL hS
  have hW' := hW
  obtain ⟨p, q, hA0, hV, rfl, hfz, hnd⟩ := hW
  have hA : DataW.TrodAll enc Tryz.prog W 0 (fun _ => true) true Tryz.f4.params.toList args.toList ds p := hA0
  rw [Tryz.params4] at hA hval
  obtain ⟨v0, vs0, d0, ds0, p0, q0, hargs, rfl, rfl, h0, r0⟩ := trodAll_cons hA
  obtain ⟨rfl, rfl, rfl⟩ := trodAll_nil r0
  obtain rfl : args = #[v0] := by cases args; simp_all
  obtain ⟨rfl, rfl⟩ := trodVars_none hV
  have k0 := h0
  have lt0 : ∀ x ∈ p0, x.block < W.heap.size := by obtain ⟨m, hm⟩ := k0; exact DataW.trod_lt m _ _ _ hm
  obtain ⟨pl0, w0⟩ := Fil.plan_open (hval 0 27 v0 rfl rfl) h0
  clear hA0 hval0
  refine (walk W hE v0 pl0 w0).mono fun e W' ⟨he, bel⟩ => ?_
  subst he
  exact ⟨_, rfl, _, _, _, [], _, [], hW', trodAll_mk1 (shut_bool Tryz.underlying4 _), (trodAll_cons_mk (Below.trod laidOut (by kernel_rfl) (of_decide_eq_true (by kernel_rfl)) k0 bel lt0) trodAll_mk0), rfl, bel.frame _, fun h => by cases h⟩

theorem reads (os : Os) {H : Type} (enc : TypeId × Value → H) : ∃ places, DataW.whole enc Tryz.prog ((laidWorld os).forCall (fun _ _ => 0) ⟨#[], #[.agg #[.slice none 0 0, .slice none 0 0, .slice none 0 0, .int .i64 0]], []⟩).memory Tryz.f4.params.toList Rows.filePrintsSpec.vars false (#[.agg #[.slice none 0 0, .slice none 0 0, .slice none 0 0, .int .i64 0]] : Array Value).toList 8 = some ([.agg [.nil, .nil, .nil, .lit (.int .i64 0)]], [], places) :=
  ⟨[], by kernel_rfl⟩
set_option maxRecDepth 100000 in
theorem lifted (os : Os) (started : os.Started) (H : Type) (enc : TypeId × Value → H) (F : Stop.Interp) :
    ReturnsInHanded {} Tryz.checked os 4 .any ((OpenSpec.ofChange Rows.filePrintsSpec).preRow enc Tryz.prog Tryz.f4 Rows.filePrintsRow.domain false Rows.filePrintsRow.laid) (((OpenSpec.ofChange Rows.filePrintsSpec).at F).post enc Tryz.prog Tryz.f4 false true false false) := by
  obtain ⟨places, hx⟩ := reads os enc
  refine returnsInHanded_of_row (C := Tryz.checked) (s := OpenSpec.ofChange Rows.filePrintsSpec) own started (by kernel_rfl) Tryz.func4
    (witness_row_at (enc := enc) (C := Tryz.checked) false (laidWorld os) #[.agg #[.slice none 0 0, .slice none 0 0, .slice none 0 0, .int .i64 0]] rfl (by kernel_rfl) (by kernel_rfl) (by kernel_rfl)
      (OpenSpec.preRow_of_cond 8 hx (by kernel_rfl) (fun k hk => by cases hk) (by kernel_rfl) (laid_met os _))) ?_
  intro W base args ds gs before hval hW _ _ _ hL hS _
  exact contract H enc W base args ds gs before hval hW hL hS

theorem said : Rows.FilePrintsSaid :=
  OpenClaim.holds_of_cond 4 Tryz.f4 rfl rfl rfl rfl rfl rfl rfl ⟨rfl, rfl, rfl, rfl, rfl⟩ rfl rfl rfl rfl rfl (by kernel_rfl) Tryz.func4 (by kernel_rfl)
    (of_decide_eq_true (by kernel_rfl)) (by unfold Func.isWrapper; first | (rw [if_pos (by decide +kernel)]; kernel_rfl) | (rw [if_neg (by decide +kernel)]; exact ⟨rfl, rfl⟩))
    (fun os started H enc _ F => by rw [OpenClaim.pre_eq_preRow]; exact lifted os started H enc F)

theorem plain (f : FuncId) (fn : Func) (hf : Tryz.pinned.checked.prog.funcNamed "jitney/jitneylaw23.FilePrints" = some f) (hfn : Tryz.pinned.checked.prog.funcs[f]? = some fn) :
    true = Tryz.pinned.checked.prog.looks [] ∧ ∀ (j : Nat) t, fn.params[j]? = some t → Tryz.pinned.checked.prog.wantsStandIn t = false := by
  obtain rfl : f = 4 := Option.some.inj ((show Tryz.prog.funcNamed "jitney/jitneylaw23.FilePrints" = some 4 by kernel_rfl).symm.trans hf) |>.symm
  obtain rfl : fn = Tryz.f4 := (Option.some.inj (Tryz.func4.symm.trans hfn)).symm
  refine ⟨by kernel_rfl, fun j t ht => ?_⟩
  rw [Tryz.params4] at ht
  have hm := Array.mem_of_getElem? ht
  simp only [List.mem_toArray, List.mem_cons, List.not_mem_nil, or_false] at hm
  rcases hm with rfl
  · exact (show Tryz.prog.wantsStandIn 27 = false by kernel_rfl)

/-- THE CARD -/
theorem card : Rows.FilePrintsCardSaid :=
  Claim7.holds_tied_plain_at .later [] _ _ _ _ said (fun _ h => by cases h) (by kernel_rfl) (fun _ h => by cases h) filePrints_row_tie rfl ⟨rfl, rfl⟩ (by kernel_rfl) rfl plain (by kernel_rfl)
#print axioms card
end Go.Proofs.YtkggahoadeeajaaGreatDoor.filePrints
