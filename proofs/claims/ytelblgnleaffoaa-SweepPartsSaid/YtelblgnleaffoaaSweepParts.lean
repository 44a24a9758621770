/- SweepParts: whatever the input, the law returns true, and each argument reads as it read before. No conditions but the row's own. -/
import Derived.Test.YtelblgnleaffoaaRows
import Derived.WalkKit
import Derived.ProofKit
import Derived.ShutString
import Derived.ChangeOld
import Derived.Below
import Derived.OpenShut
import Derived.Lib.SmallJoins
import Derived.Test.YtelblgnleaffoaaSwOpen
import Derived.Test.YtelblgnleaffoaaSwRefP
import Derived.Test.YtelblgnleaffoaaSwAl4
namespace Go.Proofs.Ytelblgnleaffoaa.sweepParts
open Go.ChangeShapes Go.WideShapes Go.ChangeAt Go.RowKit Go.Joins
open Go.ChangeMaps (open_string shut_string)
set_option linter.unusedVariables false

theorem own : ownKnob Try.prog.godebug = none := by kernel_rfl
theorem laidOut : laidOutB Try.prog = true := by kernel_rfl
open Sw Go.Lib
theorem intsV_more (n M k : Nat) (x : Nat → Int) : intsV (offN n M k) x ++ intsV (lenN n M k) (fun i => x (offN n M k + i)) = intsV (offN n M (k + 1)) x := by
  unfold intsV
  rw [offN_succ, List.range_add, List.map_append, List.map_map]
  rfl
/-- A slice's numbers as cells of an append's source. -/
theorem src_xs {w w' : World} {B n : Nat} {b off : Nat} {x : Nat → Int} (hb : w'.heap.size = w'.heap.size) (hc : ∀ j, j < n → w'.cell? ⟨b, off + j, none⟩ = some (.int .i64 (x j))) : ∀ j u, (intsV n x)[j]? = some u → w'.cell? ((⟨b, off, none⟩ : Addr).add j) = some u := by
  intro j u hu
  have hj : j < n := by
    rcases Nat.lt_or_ge j n with h | h
    · exact h
    · rw [List.getElem?_eq_none (by rw [intsV_len]; exact h)] at hu; cases hu
  simp [intsV, hj] at hu
  rw [Addr.add_lit, ← hu]
  exact hc j hj
set_option maxHeartbeats 4000000 in
set_option maxRecDepth 100000 in
theorem walk (w : World) (b0 : Option Addr) (len0 cap0 : Nat) (x0 : Nat → Int) (w0 : IsXs w b0 len0 x0) (y0 : len0 ≤ cap0) (z0 : cap0 ≤ maxLen) (n0 : b0 = none → len0 = 0 ∧ cap0 = 0) (a1 : Int) (w1 : (Lit.int .i64 a1).wf = true) :
    Calls Try.prog 3 #[.slice b0 len0 cap0, .int .i64 a1] w fun e w' => e = .returned (.bool true) ∧ Below w.heap.size w w' := by
  have hal := fun W => alive_any W
  have HAL := Lib.hid hal; clear hal
  have HN0 := Lib.hid n0; clear n0
  have HW0 := Lib.hid w0; clear w0
  go_enter Try.func3, Try.ntmps3
  go_wp2_with fail
  refine (HAL.out _).mono ?_
  rintro e wa ⟨rfl, hb⟩
  have HBA := Lib.hid hb; clear hb
  by_cases h1 : 100 < len0
  · have h1' : (100 : Int) < (len0 : Int) := by omega
    go_wp2_with fail
    go_ret
    exact ⟨rfl, HBA.out⟩
  have h1' : ¬ (100 : Int) < (len0 : Int) := by omega
  by_cases h2 : 100 < a1
  · go_wp2_with fail
    go_ret
    exact ⟨rfl, HBA.out⟩
  obtain ⟨M, hM⟩ : ∃ M : Nat, (M : Int) = max a1 1 := ⟨(max a1 1).toNat, by omega⟩
  have hM1 : 1 ≤ M := by omega
  have hM2 : M ≤ 100 := by omega
  have hmax : max a1 1 = (M : Int) := hM.symm
  have HM := Lib.hid hM; clear hM
  have hpa := fun W h => parts_any b0 len0 cap0 x0 a1 M W h y0 z0 (by omega) (by omega) HM.out
  have HPA := Lib.hid hpa; clear hpa
  go_wp2_with fail
  refine (HPA.out _ (HW0.out.below HBA.out)).mono ?_
  rintro e w2 ⟨g, cg, rfl, hr, hb⟩
  have HR := Lib.hid hr; have HB2 := Lib.hid (HBA.out.trans (hb.mono HBA.out.size)); clear hr hb
  obtain ⟨i0, hi, hz0, hz1, hz2⟩ := info_parts info_int
  obtain ⟨L0, hL0⟩ : ∃ L0, L0 = lenN len0 M 0 := ⟨_, rfl⟩
  obtain ⟨a0, d0, f0, _⟩ := HR.out.2 0 (by omega)
  rw [← hL0] at f0
  have HF0 := Lib.hid f0; clear f0
  have HL0 := Lib.hid hL0; clear hL0
  go_wp2_with fail
  go_loopg [6, 8, 24] M (fun gg s6 _ s24 wr => ∃ k : Nat, k ≤ M ∧ M - k ≤ gg ∧ s24 = .int .i64 k ∧ Hid (wr.ownsRow w2.heap.size 3 1 s6 (offN len0 M k) (intsV (offN len0 M k) x0)) ∧ Hid (Below w2.heap.size w2 wr))
  case atStart =>
    exact ⟨0, Nat.zero_le _, by omega, rfl, Lib.hid (by rw [offN_zero]; exact World.ownsRow_made w2 #[] 0 (Nat.le_refl _) (Nat.zero_le _) (by simp)), Lib.hid ((Below.refl _ _).alloc (Nat.le_refl _) _)⟩
  case round =>
    obtain ⟨k, hk, hgk, rfl, HO, HB⟩ := hrel
    have hgl : g < wr.heap.size := Nat.lt_of_lt_of_le HR.out.1 HB.out.size
    by_cases hlt : k < M
    · obtain ⟨ak, dk, fk, hd1, hnk, hxk⟩ := (HR.out.below HB.out).2 k hlt
      have fk0 := (HB.out.cell (p := ⟨g, 0, none⟩) (by exact HR.out.1)).trans HF0.out
      have u1 := lenN_up len0 M k
      have u2 := lenN_down len0 M k
      have u3 : offN len0 M k + lenN len0 M k ≤ len0 := by rw [← offN_succ]; exact offN_le hM1 (by omega)
      rw [← HL0.out] at u1 u2
      replace hxk : IsXs wr ak (lenN len0 M k) (fun i => x0 (offN len0 M k + i)) := hxk
      have hmore := intsV_more len0 M k x0
      have hnext := offN_succ len0 M k
      generalize hlk : lenN len0 M k = lk at *
      generalize hok : offN len0 M k = ok at *
      have HMO := Lib.hid hmore; have HNX := Lib.hid hnext; have HXK := Lib.hid hxk; clear hmore hnext hxk
      have HLK := Lib.hid (And.intro hlk hok); clear hlk hok
      have v1 : ¬ (L0 : Int) < (lk : Int) := by omega
      have v2 : ¬ ((lk : Int) + 1) < (L0 : Int) := by omega
      have v3 : IntKind.i64.wrap ((lk : Int) + 1) = (lk : Int) + 1 := IntWalk.i64_in _ (by omega)
      have hkM : (k : Int) < (M : Int) := by omega
      have hM0 : (0 : Int) < (M : Int) := by omega
      have hM0' : 0 < M := by omega
      rcases ak with _ | ad
      · obtain ⟨e1, e2⟩ := hnk rfl
        subst e1 e2
        go_wp2_with (at_builtin; refine wpList_append_own_none rfl _ _ 22 rfl w2.heap.size 3 i0 1 Try.underlying22 hi _ _ _ rfl HO.out rfl ?_)
        go_roundg (M - (k + 1))
        case measure => omega
        case rel =>
          refine ⟨k + 1, by omega, Nat.le_refl _, by go_num, Lib.hid ?_, HB⟩
          have h := HO.out
          rw [HNX.out, Nat.add_zero]
          exact h
      · have hsrc : ∀ j u, (intsV lk (fun i => x0 (ok + i)))[j]? = some u → wr.cell? (ad.add j) = some u := by
          rcases HXK.out with h0 | ⟨b, off, e1, _, e3⟩
          · exact src_none h0
          · cases e1; exact src_xs (w := wr) (B := 0) rfl e3
        have HSRC := Lib.hid hsrc; clear hsrc hnk fk0
        go_wp2_with (at_builtin; refine wpList_append_own _ rfl _ _ 22 rfl w2.heap.size 3 i0 (.int .i64 0) 1 8 Try.underlying22 hi hz0 hz1 hz2 rfl (by decide) _ _ _ rfl HO.out ad lk _ (intsV lk (fun i => x0 (ok + i))) rfl ?d1 ?d2 ?d3 ?d4 ?d5 ?d6 ?_)
        case d1 => simp [intsV_len]
        case d2 => exact HSRC.out
        case d3 => intro u hu; simp [intsV] at hu; obtain ⟨_, _, rfl⟩ := hu; rfl
        case d4 => unfold maxLen; omega
        case d5 => omega
        case d6 => exact HB.out.size
        intro v' w4 hown' hgrow _
        have HB4 := Lib.hid (below_grew HB.out HB.out.size (Nat.le_refl _) HO.out hgrow)
        rw [HMO.out, ← HNX.out] at hown'
        have HO4 := Lib.hid hown'; clear hown' hgrow fk
        have fk4 := (HB4.out.cell (p := ⟨g, 0, none⟩) (by exact HR.out.1)).trans HF0.out
        have hgl4 : g < w4.heap.size := Nat.lt_of_lt_of_le HR.out.1 HB4.out.size
        go_wp2_with fail
        go_roundg (M - (k + 1))
        case measure => omega
        case rel => exact ⟨k + 1, by omega, Nat.le_refl _, by go_num, HO4, HB4⟩
    · have hkM : k = M := by omega
      rw [hkM] at HO hk ⊢
      have hok := offN_end len0 M hM1
      rw [hok] at HO
      clear hlt hok
      obtain ⟨a6, c6, rfl, _, _, hx6⟩ := isXs_own HO.out
      have HX6 := Lib.hid hx6; clear hx6
      have HXW := Lib.hid ((HW0.out.below HB2.out).below HB.out)
      go_wp2_with fail
      refine (same_xs (by omega) HX6.out HXW.out (fun j _ => rfl)).mono ?_
      rintro e w3 ⟨rfl, hd⟩
      have HB3 := Lib.hid (below_drew HB.out hd); clear hd
      have hrp := refParts_any b0 len0 cap0 x0 a1 M w3 ((HW0.out.below HB2.out).below HB3.out) y0 z0 HN0.out (by omega) (by omega) HM.out
      have HRP := Lib.hid hrp; clear hrp
      go_wp2_with fail
      refine HRP.out.mono ?_
      rintro e w4 ⟨g4, c4, rfl, hr, hb⟩
      have HR4 := Lib.hid hr
      have HB4 := Lib.hid (HB3.out.trans (hb.mono HB3.out.size)); clear hr hb
      go_wp2_with fail
      refine (same_rows (by omega) (fun j hj => ?_) (HR.out.below HB4.out) HR4.out (fun _ _ _ _ => rfl)).mono ?_
      · have h3 : offN len0 M j + lenN len0 M j ≤ len0 := by rw [← offN_succ]; exact offN_le hM1 (by omega)
        omega
      rintro e w5 ⟨rfl, hd⟩
      have HB5 := Lib.hid (HB2.out.trans ((below_drew HB4.out hd).mono HB2.out.size)); clear hd
      go_wp2_with fail
      go_ret
      exact ⟨rfl, HB5.out⟩

set_option maxRecDepth 100000 in
theorem lifted (os : Os) (started : os.Started) (H : Type) (enc : TypeId × Value → H) :
    ReturnsInHanded {} Try.checked os 3 .any (Rows.sweepPartsSpec.pre6 enc Try.prog Try.f3 Rows.sweepPartsRow.domain false) (Rows.sweepPartsSpec.post enc Try.prog Try.f3 false true false false) := by
  refine returnsInHanded_of_change (C := Try.checked) own started (by kernel_rfl) Try.func3
    (ChangeSpec.witness6 (enc := enc) (C := Try.checked) false ⟨#[], #[.slice none 0 0, .int .i64 0], []⟩ 8 (by kernel_rfl) (by kernel_rfl) (by kernel_rfl) (by kernel_rfl)) ?_
  intro W base args ds gs before hval0 hW hcnd _
  have hval : ∀ (j : Nat) t v, Try.f3.params[j]? = some t → args[j]? = some v → Value.okWide Try.prog W .any base t v := hval0
  have hW' := hW
  obtain ⟨p, q, hA0, hV, rfl, hfz, hnd⟩ := hW
  have hA : DataW.TrodAll enc Try.prog W 0 (fun _ => true) true Try.f3.params.toList args.toList ds p := hA0
  rw [Try.params3] at hA hval
  obtain ⟨v0, vs0, d0, ds0, p0, q0, hargs, rfl, rfl, h0, r0⟩ := trodAll_cons hA
  obtain ⟨v1, vs1, d1, ds1, p1, q1, rfl, rfl, rfl, h1, r1⟩ := trodAll_cons r0
  obtain ⟨rfl, rfl, rfl⟩ := trodAll_nil r1
  obtain rfl : args = #[v0, v1] := by cases args; simp_all
  obtain ⟨rfl, rfl⟩ := trodVars_none hV
  have k0 := h0
  have lt0 : ∀ x ∈ p0, x.block < W.heap.size := by obtain ⟨m, hm⟩ := k0; exact DataW.trod_lt m _ _ _ hm
  obtain ⟨b0, len0, cap0, rfl⟩ := okWide_slice Try.underlying22 (hval 0 22 v0 rfl rfl)
  obtain ⟨⟨x0, w0⟩, y0, z0, n0⟩ := isXs_open Try.underlying22 Try.underlying3 cellsInt h0
  obtain ⟨a1, rfl, rfl, rfl, w1⟩ := open_int Try.underlying3 (hval 1 3 v1 rfl rfl) h1
  clear hA0 hval0
  refine (walk W b0 len0 cap0 x0 w0 y0 z0 n0 a1 w1).mono fun e W' ⟨he, bel⟩ => ?_
  subst he
  exact ⟨_, rfl, _, _, _, [], _, [], hW', trodAll_mk1 (shut_bool Try.underlying4 _), (trodAll_cons_mk (Below.trod laidOut (by kernel_rfl) (of_decide_eq_true (by kernel_rfl)) k0 bel lt0) (trodAll_cons_mk (shut_int Try.underlying3 w1) trodAll_mk0)), rfl, bel.frame _, fun h => by cases h⟩

theorem over : Rows.sweepPartsRow.holds Try.pinned (OpenSpec.ofChange Rows.sweepPartsSpec) :=
  OpenClaim.holds_of_wide 3 Try.f3 rfl rfl rfl rfl rfl rfl rfl ⟨rfl, rfl, rfl, rfl, rfl⟩ rfl rfl rfl rfl rfl (by kernel_rfl) Try.func3 (by kernel_rfl)
    (of_decide_eq_true (by kernel_rfl)) (by unfold Func.isWrapper; first | (rw [if_pos (by decide +kernel)]; kernel_rfl) | (rw [if_neg (by decide +kernel)]; exact ⟨rfl, rfl⟩))
    (fun os started H enc _ => lifted os started H enc)

/-- THE STATEMENT -/
theorem proved : Rows.SweepPartsSaid := over
#print axioms proved
end Go.Proofs.Ytelblgnleaffoaa.sweepParts
