/- SheetParses: whatever the input, the law returns true, and each argument reads as it read before; the library's tables hold what the program's text lays. No other conditions. -/
import Derived.Test.YtjmhlabgoegeoaaGreatDoorCards
import Derived.Test.YtjmhlabgoegeoaaGreatDoorTie
import Derived.WalkKit
import Derived.ProofKit
import Derived.ShutString
import Derived.ChangeOld
import Derived.Below
import Derived.OpenShut
import Derived.Lib.SmallJoins
import Derived.Deep.DeepHandedRow
import Derived.SevenTiedAt
import Derived.Test.YtjmhlabgoegeoaaGreatDoorDeciWorld
import Derived.Test.YtjmhlabgoegeoaaGreatDoorSheetAlive
import Derived.Test.YtjmhlabgoegeoaaGreatDoorSheetSame
import Derived.Test.YtjmhlabgoegeoaaGreatDoorSheetRefParse
namespace Go.Proofs.YtjmhlabgoegeoaaGreatDoor.sheetParses
open Go.ChangeShapes Go.WideShapes Go.ChangeAt Go.RowKit Go.Joins
open Go.ChangeMaps (open_string shut_string)
open Deci
set_option linter.unusedVariables false

theorem wf64 {n : Int} (h : (Lit.int .i64 n).wf = true) : -9223372036854775808 ≤ n ∧ n ≤ 9223372036854775807 := by
  simp [Lit.wf] at h
  exact h
theorem own : ownKnob Tryz.prog.godebug = none := by kernel_rfl
set_option maxHeartbeats 4000000 in
set_option maxRecDepth 100000 in
theorem walk (w : World) (hE : Env w) (s0 : ByteArray) (w0 : s0.size ≤ maxLen) :
    Calls Tryz.prog 3 #[.string s0] w fun e w' => e = .returned (.bool true) ∧ Below w.heap.size w w' := by
  have HE := Lib.hid hE; clear hE
  have HB0 := Lib.hid (Below.refl w.heap.size w)
  by_cases hbig : 3000 < s0.size
  · go_enter Tryz.func3, Tryz.ntmps3
    go_wp2_with fail
    refine (Sheet.alive_any _ HE.out).mono ?_
    rintro e W1 ⟨rfl, hb⟩
    go_wp2_with fail
    go_ret
    exact ⟨rfl, hb⟩
  · obtain ⟨ck, hck⟩ : ∃ ck, ck = (Sheet.parOf (linesP s0.data.toList)).chk := ⟨_, rfl⟩
    have c1 := fun (W : World) (hb : Below w.heap.size w W) => Sheet.parse_any s0 W ck (by omega) (Sheet.env_at (HE.out.below hb)) (by rw [hck]; exact Sheet.checks_any _)
    have c2 := fun (W : World) => Sheet.refParse_any s0 W (by omega)
    rw [← hck] at c2
    have hok : Sheet.headE (linesP s0.data.toList) = 0 → (Sheet.parOf (linesP s0.data.toList)).Ok := fun h => (Sheet.parOf_ok h).1
    have hhd : (Sheet.readF s0 ck).2 = 0 → Sheet.headE (linesP s0.data.toList) = 0 := by
      intro h
      unfold Sheet.readF at h
      split at h
      · rename_i h1; exact absurd h h1
      · split at h
        · rename_i h1; exact absurd h h1
        · rename_i h1; exact Decidable.not_not.1 h1
    clear hck
    have C1 := Lib.hid c1; clear c1
    have C2 := Lib.hid c2; clear c2
    have HOK := Lib.hid hok; clear hok
    have HHD := Lib.hid hhd; clear hhd
    go_enter Tryz.func3, Tryz.ntmps3
    go_wp2_with fail
    refine (Sheet.alive_any _ HE.out).mono ?_
    rintro e W1 ⟨rfl, hb⟩
    have HB1 := Lib.hid hb; clear hb
    go_wp2_with fail
    refine (C1.out _ HB1.out).mono ?_
    rintro e W2 ⟨hb, v, sc, rfl, hr⟩
    have HB2 := Lib.hid (HB1.out.trans (hb.mono HB1.out.size)); clear hb
    generalize hln : (((Sheet.readF s0 ck).1 : Nat) : Int) = ln at *
    have HLN := Lib.hid hln; clear hln
    by_cases he : (Sheet.readF s0 ck).2 = 0
    · rw [he] at hr ⊢
      obtain ⟨hi, rfl⟩ := Sheet.yes_form hr
      clear hr
      obtain ⟨a1, n1, c1, a2, n2, c2, a3, n3, c3, a4, n4, c4, rfl⟩ := hi.form
      have HI := Lib.hid hi; clear hi
      go_wp2_with fail
      obtain ⟨X, hX⟩ : ∃ X, X = W2.heap.size := ⟨_, rfl⟩
      obtain ⟨U2, hU2⟩ : ∃ U2, U2 = W2.alloc (.cells #[.slice a1 n1 c1, .slice a2 n2 c2, .slice a3 n3 c3, .slice a4 n4 c4] 28) := ⟨_, rfl⟩
      have hba : Below W2.heap.size W2 U2 := by rw [hU2]; exact (Below.refl _ _).alloc (Nat.le_refl _) _
      have hx : U2.heap[X]? = some (.cells #[.slice a1 n1 c1, .slice a2 n2 c2, .slice a3 n3 c3, .slice a4 n4 c4] 28) := by rw [hX, hU2]; exact World.alloc_heap_new W2 _
      rw [← hX, ← hU2]
      have HI2 := Lib.hid (HI.out.below hba)
      have HB3 := Lib.hid (HB2.out.trans (hba.mono HB2.out.size)); clear hba hX hU2
      refine (C2.out U2).mono ?_
      rintro e W4 ⟨hb, v', sc', rfl, hr⟩
      rw [HLN.out]; rw [he] at hr ⊢
      obtain ⟨hi', rfl⟩ := Sheet.yes_form hr
      obtain ⟨b1, m1, d1, b2, m2, d2, b3, m3, d3, b4, m4, d4, rfl⟩ := hi'.form
      have HI' := Lib.hid hi'; clear hi' hr
      have HI4 := Lib.hid (HI2.out.below hb)
      have hx4 : W4.heap[X]? = _ := (hb.block X (Array.getElem?_eq_some_iff.1 hx).1).trans hx
      have xl : X < W4.heap.size := (Array.getElem?_eq_some_iff.1 hx4).1
      have x0 : W4.cell? ⟨X, 0, none⟩ = some (.slice a1 n1 c1) := (Sheet.own_cell hx4).trans rfl
      have x1 : W4.cell? ⟨X, 1, none⟩ = some (.slice a2 n2 c2) := (Sheet.own_cell hx4).trans rfl
      have x2 : W4.cell? ⟨X, 2, none⟩ = some (.slice a3 n3 c3) := (Sheet.own_cell hx4).trans rfl
      have x3 : W4.cell? ⟨X, 3, none⟩ = some (.slice a4 n4 c4) := (Sheet.own_cell hx4).trans rfl
      have HB4 := Lib.hid (HB3.out.trans (hb.mono HB3.out.size)); clear hb hx hx4
      go_wp2_with fail
      have hz : Below W4.heap.size W4 (W4.alloc (.cells #[.slice b1 m1 d1, .slice b2 m2 d2, .slice b3 m3 d3, .slice b4 m4 d4] 28)) := (Below.refl _ _).alloc (Nat.le_refl _) _
      refine (Sheet.same_any _ (HOK.out (HHD.out he)) _ _ _ _ _ (HI4.out.below hz) (HI'.out.below hz)).mono ?_
      rintro e W5 ⟨rfl, hb5⟩
      have HB5 := Lib.hid (HB4.out.trans ((hz.trans (hb5.mono hz.size)).mono HB4.out.size)); clear hb5 hz
      go_wp2_with fail
      go_ret
      exact ⟨rfl, HB5.out⟩
    · obtain ⟨rfl, rfl⟩ := Sheet.no_form hr he
      clear hr
      go_wp2_with fail
      obtain ⟨X, hX⟩ : ∃ X, X = W2.heap.size := ⟨_, rfl⟩
      obtain ⟨U2, hU2⟩ : ∃ U2, U2 = W2.alloc (.cells #[.slice none 0 0, .slice none 0 0, .slice none 0 0, .slice none 0 0] 28) := ⟨_, rfl⟩
      have hba : Below W2.heap.size W2 U2 := by rw [hU2]; exact (Below.refl _ _).alloc (Nat.le_refl _) _
      have hx : U2.heap[X]? = some (.cells #[.slice none 0 0, .slice none 0 0, .slice none 0 0, .slice none 0 0] 28) := by rw [hX, hU2]; exact World.alloc_heap_new W2 _
      rw [← hX, ← hU2]
      have HB3 := Lib.hid (HB2.out.trans (hba.mono HB2.out.size)); clear hba hX hU2
      refine (C2.out U2).mono ?_
      rintro e W4 ⟨hb, v', sc', rfl, hr⟩
      rw [HLN.out]
      obtain ⟨rfl, rfl⟩ := Sheet.no_form hr he
      clear hr
      have hx4 : W4.heap[X]? = _ := (hb.block X (Array.getElem?_eq_some_iff.1 hx).1).trans hx
      have xl : X < W4.heap.size := (Array.getElem?_eq_some_iff.1 hx4).1
      have x0 : W4.cell? ⟨X, 0, none⟩ = some (.slice none 0 0) := (Sheet.own_cell hx4).trans rfl
      have x1 : W4.cell? ⟨X, 1, none⟩ = some (.slice none 0 0) := (Sheet.own_cell hx4).trans rfl
      have x2 : W4.cell? ⟨X, 2, none⟩ = some (.slice none 0 0) := (Sheet.own_cell hx4).trans rfl
      have x3 : W4.cell? ⟨X, 3, none⟩ = some (.slice none 0 0) := (Sheet.own_cell hx4).trans rfl
      have HB4 := Lib.hid (HB3.out.trans (hb.mono HB3.out.size)); clear hb hx hx4
      go_wp2_with fail
      have hz : Below W4.heap.size W4 (W4.alloc (.cells #[.slice none 0 0, .slice none 0 0, .slice none 0 0, .slice none 0 0] 28)) := (Below.refl _ _).alloc (Nat.le_refl _) _
      refine (Sheet.same_none _).mono ?_
      rintro e W5 ⟨rfl, hb5⟩
      have HB5 := Lib.hid (HB4.out.trans ((hz.trans (hb5.mono hz.size)).mono HB4.out.size)); clear hb5 hz
      go_wp2_with fail
      go_ret
      exact ⟨rfl, HB5.out⟩

set_option maxRecDepth 100000 in
theorem contract (H : Type) (enc : TypeId × Value → H) (W : World) (base : Nat) (args : Array Value) (ds gs : List (DataW H)) (before : List MemPlace)
    (hval0 : ∀ (j : Nat) t v, Tryz.f3.params[j]? = some t → args[j]? = some v → Value.okWide Tryz.prog W .any base t v)
    (hW : DataW.Whole enc Tryz.prog Tryz.f3.params.toList Rows.sheetParsesSpec.vars false W args.toList ds gs before) (hL : laidMetH Tryz.prog Rows.sheetParsesRow.laid W) (hS : W.ShapedOpen Tryz.prog) :
    Calls Tryz.prog 3 args W fun e W' => ∃ v, e = .returned v ∧ Rows.sheetParsesSpec.post enc Tryz.prog Tryz.f3 false true false false W args v W' := by
  have hval : ∀ (j : Nat) t v, Tryz.f3.params[j]? = some t → args[j]? = some v → Value.okWide Tryz.prog W .any base t v := hval0
  have hE : Env W := env_of hL hS
  have hW' := hW
  obtain ⟨p, q, hA0, hV, rfl, hfz, hnd⟩ := hW
  have hA : DataW.TrodAll enc Tryz.prog W 0 (fun _ => true) true Tryz.f3.params.toList args.toList ds p := hA0
  rw [Tryz.params3] at hA hval
  obtain ⟨v0, vs0, d0, ds0, p0, q0, hargs, rfl, rfl, h0, r0⟩ := trodAll_cons hA
  obtain ⟨rfl, rfl, rfl⟩ := trodAll_nil r0
  obtain rfl : args = #[v0] := by cases args; simp_all
  obtain ⟨rfl, rfl⟩ := trodVars_none hV
  obtain ⟨s0, rfl, rfl, rfl, w0⟩ := open_string Tryz.underlying9 (hval 0 9 v0 rfl rfl) h0
  clear hA0 hval0
  refine (walk W hE s0 w0).mono fun e W' ⟨he, bel⟩ => ?_
  subst he
  exact ⟨_, rfl, _, _, _, [], _, [], hW', trodAll_mk1 (shut_bool Tryz.underlying4 _), (trodAll_cons_mk (shut_string Tryz.underlying9 w0) trodAll_mk0), rfl, bel.frame _, fun h => by cases h⟩

theorem reads (os : Os) {H : Type} (enc : TypeId × Value → H) : ∃ places, DataW.whole enc Tryz.prog ((laidWorld os).forCall (fun _ _ => 0) ⟨#[], #[.string ⟨#[]⟩], []⟩).memory Tryz.f3.params.toList Rows.sheetParsesSpec.vars false (#[.string ⟨#[]⟩] : Array Value).toList 8 = some ([.lit (.string [])], [], places) :=
  ⟨[], by kernel_rfl⟩
set_option maxRecDepth 100000 in
theorem lifted (os : Os) (started : os.Started) (H : Type) (enc : TypeId × Value → H) (F : Stop.Interp) :
    ReturnsInHanded {} Tryz.checked os 3 .any ((OpenSpec.ofChange Rows.sheetParsesSpec).preRow enc Tryz.prog Tryz.f3 Rows.sheetParsesRow.domain false Rows.sheetParsesRow.laid) (((OpenSpec.ofChange Rows.sheetParsesSpec).at F).post enc Tryz.prog Tryz.f3 false true false false) := by
  obtain ⟨places, hx⟩ := reads os enc
  refine returnsInHanded_of_row (C := Tryz.checked) (s := OpenSpec.ofChange Rows.sheetParsesSpec) own started (by kernel_rfl) Tryz.func3
    (witness_row_at (enc := enc) (C := Tryz.checked) false (laidWorld os) #[.string ⟨#[]⟩] rfl (by kernel_rfl) (by kernel_rfl) (by kernel_rfl)
      (OpenSpec.preRow_of_cond 8 hx (by kernel_rfl) (fun k hk => by cases hk) (by kernel_rfl) (laid_met os _))) ?_
  intro W base args ds gs before hval hW _ _ _ hL hS _
  exact contract H enc W base args ds gs before hval hW hL hS

theorem said : Rows.SheetParsesSaid :=
  OpenClaim.holds_of_cond 3 Tryz.f3 rfl rfl rfl rfl rfl rfl rfl ⟨rfl, rfl, rfl, rfl, rfl⟩ rfl rfl rfl rfl rfl (by kernel_rfl) Tryz.func3 (by kernel_rfl)
    (of_decide_eq_true (by kernel_rfl)) (by unfold Func.isWrapper; first | (rw [if_pos (by decide +kernel)]; kernel_rfl) | (rw [if_neg (by decide +kernel)]; exact ⟨rfl, rfl⟩))
    (fun os started H enc _ F => by rw [OpenClaim.pre_eq_preRow]; exact lifted os started H enc F)

theorem plain (f : FuncId) (fn : Func) (hf : Tryz.pinned.checked.prog.funcNamed "jitney/jitneylaw06.SheetParses" = some f) (hfn : Tryz.pinned.checked.prog.funcs[f]? = some fn) :
    true = Tryz.pinned.checked.prog.looks [] ∧ ∀ (j : Nat) t, fn.params[j]? = some t → Tryz.pinned.checked.prog.wantsStandIn t = false := by
  obtain rfl : f = 3 := Option.some.inj ((show Tryz.prog.funcNamed "jitney/jitneylaw06.SheetParses" = some 3 by kernel_rfl).symm.trans hf) |>.symm
  obtain rfl : fn = Tryz.f3 := (Option.some.inj (Tryz.func3.symm.trans hfn)).symm
  refine ⟨by kernel_rfl, fun j t ht => ?_⟩
  rw [Tryz.params3] at ht
  have hm := Array.mem_of_getElem? ht
  simp only [List.mem_toArray, List.mem_cons, List.not_mem_nil, or_false] at hm
  rcases hm with rfl
  · exact (show Tryz.prog.wantsStandIn 9 = false by kernel_rfl)

/-- THE CARD -/
theorem card : Rows.SheetParsesCardSaid :=
  Claim7.holds_tied_plain_at .later [] _ _ _ _ said (fun _ h => by cases h) (by kernel_rfl) (fun _ h => by cases h) sheetParses_row_tie rfl ⟨rfl, rfl⟩ (by kernel_rfl) rfl plain (by kernel_rfl)
#print axioms card
end Go.Proofs.YtjmhlabgoegeoaaGreatDoor.sheetParses
