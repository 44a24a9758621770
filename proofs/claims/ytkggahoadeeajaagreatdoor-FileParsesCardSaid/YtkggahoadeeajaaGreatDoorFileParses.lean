/- FileParses: whatever the input, the law returns true, and each argument reads as it read before; the library's tables hold what the program's text lays. No other conditions. -/
import Derived.Test.YtkggahoadeeajaaGreatDoorCards
import Derived.Test.YtkggahoadeeajaaGreatDoorTie
import Derived.WalkKit
import Derived.ProofKit
import Derived.ShutString
import Derived.ChangeOld
import Derived.Below
import Derived.OpenShut
import Derived.Lib.SmallJoins
import Derived.Deep.DeepHandedRow
import Derived.SevenTiedAt
import Derived.Test.YtkggahoadeeajaaGreatDoorDeciWorld
import Derived.Test.YtkggahoadeeajaaGreatDoorFilLaw
import Derived.Test.YtkggahoadeeajaaGreatDoorFilRefP
namespace Go.Proofs.YtkggahoadeeajaaGreatDoor.fileParses
open Go.ChangeShapes Go.WideShapes Go.ChangeAt Go.RowKit Go.Joins
open Go.ChangeMaps (open_string shut_string)
open Deci
set_option linter.unusedVariables false

theorem wf64 {n : Int} (h : (Lit.int .i64 n).wf = true) : -9223372036854775808 ≤ n ∧ n ≤ 9223372036854775807 := by
  simp [Lit.wf] at h
  exact h
theorem own : ownKnob Tryz.prog.godebug = none := by kernel_rfl
set_option maxHeartbeats 4000000 in
set_option maxRecDepth 100000 in
theorem walk (w : World) (hE : Env w) (s0 : ByteArray) (w0 : s0.size ≤ maxLen) :
    Calls Tryz.prog 3 #[.string s0] w fun e w' => e = .returned (.bool true) ∧ Below w.heap.size w w' := by
  have HE := Lib.hid hE; clear hE
  by_cases hbig : 3000 < s0.size
  · go_enter Tryz.func3, Tryz.ntmps3
    go_wp2_with fail
    refine (Fil.alive_any _ HE.out).mono ?_
    rintro e W1 ⟨rfl, hb⟩
    go_wp2_with fail
    go_ret
    exact ⟨rfl, hb⟩
  · have hfit := Fil.parse_fit s0.data.toList (by simp; omega)
    have c1 := fun (W : World) (hb : Below w.heap.size w W) => Fil.parse_any s0 W (by omega) (Fil.env_at (HE.out.below hb))
    have c2 := fun (W : World) => Fil.refParse_any s0 W (by omega)
    unfold Fil.ParseOut at c1 c2
    generalize Fil.parseP s0.data.toList = p at *
    generalize (((Fil.readF s0.data.toList).1 : Nat) : Int) = ln at *
    generalize (Fil.readF s0.data.toList).2 = er at *
    have C1 := Lib.hid c1; clear c1
    have C2 := Lib.hid c2; clear c2
    go_enter Tryz.func3, Tryz.ntmps3
    go_wp2_with fail
    refine (Fil.alive_any _ HE.out).mono ?_
    rintro e W1 ⟨rfl, hb⟩
    have HB1 := Lib.hid hb; clear hb
    go_wp2_with fail
    refine (C1.out _ HB1.out).mono ?_
    rintro e W2 ⟨hb, v, rfl, hp⟩
    have HB2 := Lib.hid (HB1.out.trans (hb.mono HB1.out.size)); clear hb
    have hi := hp.isPlan
    obtain ⟨a1, n1, c1, a2, n2, c2, a3, n3, c3, rfl⟩ := hp.form
    clear hp
    have HI := Lib.hid hi; clear hi
    obtain ⟨X, hX⟩ : ∃ X, X = W2.heap.size := ⟨_, rfl⟩
    obtain ⟨U2, hU2⟩ : ∃ U2, U2 = W2.alloc (.cells #[.slice a1 n1 c1, .slice a2 n2 c2, .slice a3 n3 c3, .int .i64 p.cost] 27) := ⟨_, rfl⟩
    have hba : Below W2.heap.size W2 U2 := by rw [hU2]; exact (Below.refl _ _).alloc (Nat.le_refl _) _
    have hx : U2.heap[X]? = some (.cells #[.slice a1 n1 c1, .slice a2 n2 c2, .slice a3 n3 c3, .int .i64 p.cost] 27) := by rw [hX, hU2]; exact World.alloc_heap_new W2 _
    have HI2 := Lib.hid (HI.out.below hba)
    have HB3 := Lib.hid (HB2.out.trans (hba.mono HB2.out.size)); clear hba
    have HX := Lib.hid hX; clear hX
    have HU := Lib.hid hU2; clear hU2
    have HXX := Lib.hid hx; clear hx
    generalize hcost : p.cost = cost at *
    have HCO := Lib.hid hcost; clear hcost
    go_wp2_with fail
    rw [← HX.out, ← HU.out]
    refine (C2.out U2).mono ?_
    rintro e W4 ⟨hb, v', rfl, hp'⟩
    have hi' := hp'.isPlan
    obtain ⟨b1, m1, d1, b2, m2, d2, b3, m3, d3, rfl⟩ := hp'.form
    rw [HCO.out] at *
    clear hp'
    have HI' := Lib.hid hi'; clear hi'
    have HI4 := Lib.hid (HI2.out.below hb)
    have hx4 := (hb.block X (Fil.own_lt HXX.out)).trans HXX.out
    have hba4 : Below W4.heap.size W4 (W4.alloc (.cells #[.slice b1 m1 d1, .slice b2 m2 d2, .slice b3 m3 d3, .int .i64 cost] 31)) := (Below.refl _ _).alloc (Nat.le_refl _) _
    have htwo : Fil.Two w p X W4.heap.size (.slice a1 n1 c1) (.slice a2 n2 c2) (.slice a3 n3 c3) (.slice b1 m1 d1) (.slice b2 m2 d2) (.slice b3 m3 d3) cost (W4.alloc (.cells #[.slice b1 m1 d1, .slice b2 m2 d2, .slice b3 m3 d3, .int .i64 cost] 31)) :=
      ⟨HB3.out.trans ((hb.trans (hba4.mono hb.size)).mono HB3.out.size), HI4.out.below hba4, HI'.out.below hba4, (hba4.block X (Fil.own_lt hx4)).trans hx4, World.alloc_heap_new W4 _⟩
    have HTW := Lib.hid htwo; clear htwo hba4 hx4 hb
    go_wp2_with fail
    generalize W4.alloc (.cells #[.slice b1 m1 d1, .slice b2 m2 d2, .slice b3 m3 d3, .int .i64 cost] 31) = U4 at *
    obtain ⟨Y, hY⟩ : ∃ Y, Y = W4.heap.size := ⟨_, rfl⟩
    rw [← hY] at HTW ⊢
    clear hY
    have HAS : Hid (∀ W, Fil.Two w p X Y (.slice a1 n1 c1) (.slice a2 n2 c2) (.slice a3 n3 c3) (.slice b1 m1 d1) (.slice b2 m2 d2) (.slice b3 m3 d3) cost W → Calls Tryz.prog 12 #[.agg #[.slice a1 n1 c1, .slice a2 n2 c2, .slice a3 n3 c3, .int .i64 cost]] W fun e w' => e = .returned (.agg #[.slice a1 n1 c1, .slice a2 n2 c2, .slice a3 n3 c3, .int .i64 cost]) ∧ Below W.heap.size W w') := Lib.hid fun W h => Fil.as_any _ p W h.ix
    have HSM : Hid (∀ W, Fil.Two w p X Y (.slice a1 n1 c1) (.slice a2 n2 c2) (.slice a3 n3 c3) (.slice b1 m1 d1) (.slice b2 m2 d2) (.slice b3 m3 d3) cost W → Calls Tryz.prog 11 #[.agg #[.slice a1 n1 c1, .slice a2 n2 c2, .slice a3 n3 c3, .int .i64 cost], .agg #[.slice b1 m1 d1, .slice b2 m2 d2, .slice b3 m3 d3, .int .i64 cost]] W fun e w' => e = .returned (.bool true) ∧ Below W.heap.size W w') := Lib.hid fun W h => Fil.refSame_any _ _ p W hfit h.ix h.iy
    have HDR := Lib.hid fun W (h : Fil.Two w p X Y (.slice a1 n1 c1) (.slice a2 n2 c2) (.slice a3 n3 c3) (.slice b1 m1 d1) (.slice b2 m2 d2) (.slice b3 m3 d3) cost W) => h.drew
    have HBE := Lib.hid fun W W' (h : Fil.Two w p X Y (.slice a1 n1 c1) (.slice a2 n2 c2) (.slice a3 n3 c3) (.slice b1 m1 d1) (.slice b2 m2 d2) (.slice b3 m3 d3) cost W) (hb : Below W.heap.size W W') => h.bel hb
    have HAL := Lib.hid fun W (h : Fil.Two w p X Y (.slice a1 n1 c1) (.slice a2 n2 c2) (.slice a3 n3 c3) (.slice b1 m1 d1) (.slice b2 m2 d2) (.slice b3 m3 d3) cost W) => h.all
    have HLO := Lib.hid fun W (h : Fil.Two w p X Y (.slice a1 n1 c1) (.slice a2 n2 c2) (.slice a3 n3 c3) (.slice b1 m1 d1) (.slice b2 m2 d2) (.slice b3 m3 d3) cost W) => h.low
    generalize Fil.Two w p X Y (.slice a1 n1 c1) (.slice a2 n2 c2) (.slice a3 n3 c3) (.slice b1 m1 d1) (.slice b2 m2 d2) (.slice b3 m3 d3) cost = P2 at *
    have hall := HAL.out _ HTW.out
    obtain ⟨hP2, ⟨k0, k1, k2, k3⟩, l0, l1, l2, l3⟩ := hall
    clear HI HI2 HI4 HI' HCO HXX HU HX HB1 HB2 HB3 C1 C2
    go_region_held3 (fun w' => P2 w' ∧ (w'.cell? ⟨X, 0, none⟩ = some (.slice a1 n1 c1) ∧ w'.cell? ⟨X, 1, none⟩ = some (.slice a2 n2 c2) ∧ w'.cell? ⟨X, 2, none⟩ = some (.slice a3 n3 c3) ∧ w'.cell? ⟨X, 3, none⟩ = some (.int .i64 cost)) ∧ w'.cell? ⟨Y, 0, none⟩ = some (.slice b1 m1 d1) ∧ w'.cell? ⟨Y, 1, none⟩ = some (.slice b2 m2 d2) ∧ w'.cell? ⟨Y, 2, none⟩ = some (.slice b3 m3 d3) ∧ w'.cell? ⟨Y, 3, none⟩ = some (.int .i64 cost))
      (first
        | exact HAL.out _ ‹P2 _›
        | exact HAL.out _ (HDR.out _ (And.left ‹P2 _ ∧ _›))
        | exact HAL.out _ (HDR.out _ ‹P2 _›))
      (first
        | (go_at_call 12; (with_reducible refine (HAS.out _ (And.left ‹P2 _ ∧ _›)).mono ?_); rintro e w' ⟨rfl, hb⟩; have hka := HBE.out _ _ (And.left ‹P2 _ ∧ _›) hb; clear hb)
        | (go_at_call 11; (with_reducible refine (HSM.out _ (And.left ‹P2 _ ∧ _›)).mono ?_); rintro e w' ⟨rfl, hb⟩; have hka := HBE.out _ _ (And.left ‹P2 _ ∧ _›) hb; clear hb))
    all_goals
      go_wp2_with fail
      go_ret
      exact ⟨rfl, HLO.out _ (And.left ‹P2 _ ∧ _›)⟩

set_option maxRecDepth 100000 in
theorem contract (H : Type) (enc : TypeId × Value → H) (W : World) (base : Nat) (args : Array Value) (ds gs : List (DataW H)) (before : List MemPlace)
    (hval0 : ∀ (j : Nat) t v, Tryz.f3.params[j]? = some t → args[j]? = some v → Value.okWide Tryz.prog W .any base t v)
    (hW : DataW.Whole enc Tryz.prog Tryz.f3.params.toList Rows.fileParsesSpec.vars false W args.toList ds gs before) (hL : laidMetH Tryz.prog Rows.fileParsesRow.laid W) (hS : W.ShapedOpen Tryz.prog) :
    Calls Tryz.prog 3 args W fun e W' => ∃ v, e = .returned v ∧ Rows.fileParsesSpec.post enc Tryz.prog Tryz.f3 false true false false W args v W' := by
  have hval : ∀ (j : Nat) t v, Tryz.f3.params[j]? = some t → args[j]? = some v → Value.okWide Tryz.prog W .any base t v := hval0
  have hE : Env W := env_of hL hS
  have hW' := hW
  obtain ⟨p, q, hA0, hV, rfl, hfz, hnd⟩ := hW
  have hA : DataW.TrodAll enc Tryz.prog W 0 (fun _ => true) true Tryz.f3.params.toList args.toList ds p := hA0
  rw [Tryz.params3] at hA hval
  obtain ⟨v0, vs0, d0, ds0, p0, q0, hargs, rfl, rfl, h0, r0⟩ := trodAll_cons hA
  obtain ⟨rfl, rfl, rfl⟩ := trodAll_nil r0
  obtain rfl : args = #[v0] := by cases args; simp_all
  obtain ⟨rfl, rfl⟩ := trodVars_none hV
  obtain ⟨s0, rfl, rfl, rfl, w0⟩ := open_string Tryz.underlying9 (hval 0 9 v0 rfl rfl) h0
  clear hA0 hval0
  refine (walk W hE s0 w0).mono fun e W' ⟨he, bel⟩ => ?_
  subst he
  exact ⟨_, rfl, _, _, _, [], _, [], hW', trodAll_mk1 (shut_bool Tryz.underlying4 _), (trodAll_cons_mk (shut_string Tryz.underlying9 w0) trodAll_mk0), rfl, bel.frame _, fun h => by cases h⟩

theorem reads (os : Os) {H : Type} (enc : TypeId × Value → H) : ∃ places, DataW.whole enc Tryz.prog ((laidWorld os).forCall (fun _ _ => 0) ⟨#[], #[.string ⟨#[]⟩], []⟩).memory Tryz.f3.params.toList Rows.fileParsesSpec.vars false (#[.string ⟨#[]⟩] : Array Value).toList 8 = some ([.lit (.string [])], [], places) :=
  ⟨[], by kernel_rfl⟩
set_option maxRecDepth 100000 in
theorem lifted (os : Os) (started : os.Started) (H : Type) (enc : TypeId × Value → H) (F : Stop.Interp) :
    ReturnsInHanded {} Tryz.checked os 3 .any ((OpenSpec.ofChange Rows.fileParsesSpec).preRow enc Tryz.prog Tryz.f3 Rows.fileParsesRow.domain false Rows.fileParsesRow.laid) (((OpenSpec.ofChange Rows.fileParsesSpec).at F).post enc Tryz.prog Tryz.f3 false true false false) := by
  obtain ⟨places, hx⟩ := reads os enc
  refine returnsInHanded_of_row (C := Tryz.checked) (s := OpenSpec.ofChange Rows.fileParsesSpec) own started (by kernel_rfl) Tryz.func3
    (witness_row_at (enc := enc) (C := Tryz.checked) false (laidWorld os) #[.string ⟨#[]⟩] rfl (by kernel_rfl) (by kernel_rfl) (by kernel_rfl)
      (OpenSpec.preRow_of_cond 8 hx (by kernel_rfl) (fun k hk => by cases hk) (by kernel_rfl) (laid_met os _))) ?_
  intro W base args ds gs before hval hW _ _ _ hL hS _
  exact contract H enc W base args ds gs before hval hW hL hS

theorem said : Rows.FileParsesSaid :=
  OpenClaim.holds_of_cond 3 Tryz.f3 rfl rfl rfl rfl rfl rfl rfl ⟨rfl, rfl, rfl, rfl, rfl⟩ rfl rfl rfl rfl rfl (by kernel_rfl) Tryz.func3 (by kernel_rfl)
    (of_decide_eq_true (by kernel_rfl)) (by unfold Func.isWrapper; first | (rw [if_pos (by decide +kernel)]; kernel_rfl) | (rw [if_neg (by decide +kernel)]; exact ⟨rfl, rfl⟩))
    (fun os started H enc _ F => by rw [OpenClaim.pre_eq_preRow]; exact lifted os started H enc F)

theorem plain (f : FuncId) (fn : Func) (hf : Tryz.pinned.checked.prog.funcNamed "jitney/jitneylaw23.FileParses" = some f) (hfn : Tryz.pinned.checked.prog.funcs[f]? = some fn) :
    true = Tryz.pinned.checked.prog.looks [] ∧ ∀ (j : Nat) t, fn.params[j]? = some t → Tryz.pinned.checked.prog.wantsStandIn t = false := by
  obtain rfl : f = 3 := Option.some.inj ((show Tryz.prog.funcNamed "jitney/jitneylaw23.FileParses" = some 3 by kernel_rfl).symm.trans hf) |>.symm
  obtain rfl : fn = Tryz.f3 := (Option.some.inj (Tryz.func3.symm.trans hfn)).symm
  refine ⟨by kernel_rfl, fun j t ht => ?_⟩
  rw [Tryz.params3] at ht
  have hm := Array.mem_of_getElem? ht
  simp only [List.mem_toArray, List.mem_cons, List.not_mem_nil, or_false] at hm
  rcases hm with rfl
  · exact (show Tryz.prog.wantsStandIn 9 = false by kernel_rfl)

/-- THE CARD -/
theorem card : Rows.FileParsesCardSaid :=
  Claim7.holds_tied_plain_at .later [] _ _ _ _ said (fun _ h => by cases h) (by kernel_rfl) (fun _ h => by cases h) fileParses_row_tie rfl ⟨rfl, rfl⟩ (by kernel_rfl) rfl plain (by kernel_rfl)
#print axioms card
end Go.Proofs.YtkggahoadeeajaaGreatDoor.fileParses
