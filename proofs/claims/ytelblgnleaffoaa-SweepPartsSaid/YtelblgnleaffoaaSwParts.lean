/- sweep.Parts: a list in m parts. -/
import Derived.Test.YtelblgnleaffoaaSwOrder
import Derived.Test.YtelblgnleaffoaaSwMath
import Derived.Test.YtelblgnleaffoaaSwXs
namespace Go.Proofs.Ytelblgnleaffoaa
open Go.RowKit
namespace Sw
open Go.Lib
set_option linter.unusedVariables false
/-- Numbers as values. -/
def intsV (n : Nat) (x : Nat → Int) : List Value := (List.range n).map fun i => Value.int .i64 (x i)
theorem intsV_len (n : Nat) (x : Nat → Int) : (intsV n x).length = n := by simp [intsV]
/-- Of two rows of different element types neither lies in the other's block. -/
theorem own_ne {w : World} {b1 b2 n1 n2 : Nat} {e1 e2 : TypeId} {v1 v2 : Value} {x1 x2 : List Value} (h1 : w.ownsRow b1 e1 1 v1 n1 x1) (h2 : w.ownsRow b2 e2 1 v2 n2 x2) (he : e1 ≠ e2) : v1.ownBlock = none ∨ v1.ownBlock ≠ v2.ownBlock := by
  rcases h1.2 with ⟨rfl, _⟩ | ⟨g1, c1, u1, rfl, _, k1, _⟩
  · exact .inl rfl
  · right
    rcases h2.2 with ⟨rfl, _⟩ | ⟨g2, c2, u2, rfl, _, k2, _⟩
    · simp [Value.ownBlock]
    · intro h
      simp [Value.ownBlock] at h
      subst h
      rw [k1] at k2
      injection k2 with k2
      injection k2 with _ k2
      exact he k2
/-- The first k of a row of values are slices of the call's own: part j holds L j numbers Z j. -/
def PRow (w : World) (base : Nat) (L : Nat → Nat) (Z : Nat → Nat → Int) (k : Nat) (xs : List Value) : Prop :=
  ∀ j, j < k → ∃ pv, xs[j]? = some pv ∧ w.ownsRow base 3 1 pv (L j) (intsV (L j) (Z j))
theorem PRow.below {w w' : World} {base k : Nat} {L : Nat → Nat} {Z : Nat → Nat → Int} {xs : List Value} (h : PRow w base L Z k xs) (hb : Below w.heap.size w w') : PRow w' base L Z k xs := fun j hj => by
  obtain ⟨pv, h1, h2⟩ := h j hj
  exact ⟨pv, h1, row_keep h2 hb⟩
theorem PRow.grown {w w' : World} {base b k n : Nat} {L : Nat → Nat} {Z : Nat → Nat → Int} {xs ys : List Value} {v : Value} (h : PRow w base L Z k xs) (hown : w.ownsRow b 22 1 v n ys) (hg : w.grownBy w' v.ownBlock) : PRow w' base L Z k xs := fun j hj => by
  obtain ⟨pv, h1, h2⟩ := h j hj
  exact ⟨pv, h1, h2.kept hg (own_ne h2 hown (by decide))⟩
theorem PRow.mono {w : World} {base base' k : Nat} {L : Nat → Nat} {Z : Nat → Nat → Int} {xs : List Value} (h : PRow w base L Z k xs) (hb : base' ≤ base) : PRow w base' L Z k xs := fun j hj => by
  obtain ⟨pv, h1, h2⟩ := h j hj
  exact ⟨pv, h1, own_mono h2 hb⟩
theorem isXs_own {w : World} {base n : Nat} {v : Value} {x : Nat → Int} (h : w.ownsRow base 3 1 v n (intsV n x)) : ∃ a c, v = .slice a n c ∧ n ≤ c ∧ (a = none → n = 0 ∧ c = 0) ∧ IsXs w a n x := by
  rcases h.2 with ⟨rfl, h0⟩ | ⟨g, c, u, rfl, _, k, hc, _⟩
  · exact ⟨none, 0, by rw [h0], by omega, fun _ => ⟨h0, rfl⟩, .inl h0⟩
  · exact ⟨_, c, rfl, hc, (fun h => by cases h), Or.inr ⟨g, 0, rfl, (Array.getElem?_eq_some_iff.1 k).1, fun j hj => by
      rw [Nat.zero_add, h.cellAt j (by omega)]
      simp [intsV, hj]⟩⟩
theorem rowsAt_of {w : World} {b base g M c : Nat} {L : Nat → Nat} {Z : Nat → Nat → Int} {xs : List Value} (h : w.ownsRow b 22 1 (.slice (some ⟨g, 0, none⟩) M c) M xs) (hp : PRow w base L Z M xs) : RowsAt w g M L Z :=
  ⟨(h.lt g rfl).2, fun j hj => by
    obtain ⟨pv, h1, h2⟩ := hp j hj
    obtain ⟨a, cc, rfl, h3, h4, h5⟩ := isXs_own h2
    exact ⟨a, cc, by rw [h.cellAt j (by omega)]; exact h1, h3, h4, h5⟩⟩
theorem prow_step {w1 : World} {g M c k mn : Nat} {L : Nat → Nat} {Z : Nat → Nat → Int} {xs : List Value} {v : Value} (ho : w1.ownsRow g 22 1 (.slice (some ⟨g, 0, none⟩) M c) M xs) (hp : PRow w1 (g + 1) L Z k xs)
    (hv : w1.ownsRow (g + 1) 3 1 v mn (intsV mn (Z k))) (hL : mn = L k) (hk : k < M) : PRow (w1.setCell ⟨g, k, none⟩ v) (g + 1) L Z (k + 1) (xs.set k v) := by
  have hl : xs.length = M := by simpa using ho.1
  have hg := (ho.stored k v).2
  intro j hj
  rcases Nat.lt_or_ge j k with h | h
  · obtain ⟨pv, h1, h2⟩ := hp j h
    exact ⟨pv, by rw [List.getElem?_set_ne (by omega)]; exact h1, h2.kept hg (own_ne h2 ho (by decide))⟩
  · obtain rfl : j = k := by omega
    refine ⟨v, by rw [List.getElem?_set_self (by omega)], ?_⟩
    rw [← hL]
    exact hv.kept hg (own_ne hv ho (by decide))
theorem info_ints : (Try.prog.info? 22).map (fun i => (i.zero, i.size, i.bytes)) = some (some (.slice none 0 0), 1, 24) := by kernel_rfl
/-- slices.Clone of a part. -/
theorem clone_part (b o n c : Nat) (x : Nat → Int) (w : World) (hn1 : n ≤ 1000) (hc : ∀ j, j < n → w.cell? ⟨b, o + j, none⟩ = some (.int .i64 (x j))) :
    Calls Try.prog 13 #[.slice (some ⟨b, o, none⟩) n c] w fun e w' => ∃ v, e = .returned v ∧ w'.ownsRow w.heap.size 3 1 v n (intsV n x) ∧ v ≠ .slice none 0 0 ∧ Below w.heap.size w w' := by
  have h := clone_any b o n c ((List.range n).map x) w (by simp) hn1 (fun j hj => by rw [hc j hj]; simp [List.getD, hj])
  rw [List.map_map] at h
  exact h
/-- Where sweep.Parts ends: M parts. -/
def PartsP (n M : Nat) (x : Nat → Int) (w : World) (e : Ending) (w' : World) : Prop :=
  ∃ g c, e = .returned (.slice (some ⟨g, 0, none⟩) M c) ∧ RowsAt w' g M (lenN n M) (fun j i => x (offN n M j + i)) ∧ Below w.heap.size w w'
set_option maxHeartbeats 4000000 in
set_option maxRecDepth 100000 in
theorem parts_any (a : Option Addr) (n cap : Nat) (x : Nat → Int) (m : Int) (M : Nat) (w : World) (hx : IsXs w a n x) (hcap : n ≤ cap) (hcm : cap ≤ maxLen) (hn1 : n ≤ 1000) (hm : m ≤ 1000) (hM : (M : Int) = max m 1) :
    Calls Try.prog 5 #[.slice a n cap, .int .i64 m] w (PartsP n M x w) := by
  obtain ⟨i0, hi, hz0, hz1, hz2⟩ := info_parts info_ints
  have hM1 : 1 ≤ M := by omega
  have hM2 : M ≤ 1000 := by omega
  have hmax : max m 1 = (M : Int) := hM.symm
  have HX := Lib.hid hx; clear hx
  have e1 : decide ((2147483647 : Int) < (M : Int)) = false := by simp; omega
  have HM := Lib.hid hM; clear hM
  have hz : ((M : Int) == 0) = false := by simp; omega
  have hz' : ¬ (M : Int) = 0 := by omega
  have hquo : (n : Int).tdiv (M : Int) = ((n / M : Nat) : Int) := (Int.ofNat_tdiv n M).symm
  have hrem : (n : Int).tmod (M : Int) = ((n % M : Nat) : Int) := (Int.ofNat_tmod n M).symm
  have hqn : n / M ≤ n := Nat.div_le_self _ _
  have hw1 : IntKind.i64.wrap ((n / M : Nat) : Int) = ((n / M : Nat) : Int) := IntWalk.i64_in _ ⟨Int.le_trans (by decide) (Int.natCast_nonneg _), by have := Int.ofNat_le.2 hqn; omega⟩
  go_enter Try.func5, Try.ntmps5
  go_wp2_with (at_make; refine wpList_make_full _ rfl _ _ 24 rfl w.heap.size 22 i0 (.slice none 0 0) 1 Try.underlying24 hi hz0 hz1 .i64 .i64 _ _ M rfl rfl rfl rfl (by rw [hz2]; omega) (by unfold maxLen; omega) (Nat.le_refl _) ?_; intro w0 hown0 hgrow0)
  obtain ⟨q, hq⟩ : ∃ q, q = n / M := ⟨_, rfl⟩
  obtain ⟨r, hr⟩ : ∃ r, r = n % M := ⟨_, rfl⟩
  rw [← hq] at hquo hw1 hqn
  rw [← hr] at hrem
  have HQR := Lib.hid (And.intro hq hr); clear hq hr
  obtain ⟨g, hg⟩ : ∃ g, g = w.heap.size := ⟨_, rfl⟩
  have hb0 : Below w.heap.size w w0 := (Below.refl _ _).grown hgrow0 (Nat.le_refl _) (fun _ h => by cases h)
  rw [← hg] at hown0
  have HO0 := Lib.hid hown0; clear hown0 hgrow0
  have HB0 := Lib.hid hb0; clear hb0
  rw [← hg]
  have HG := Lib.hid hg; clear hg
  go_quiet (fail)
  go_wp2_with fail
  go_loopg [0, 8, 9] M (fun gg s0 s8 _ wr => ∃ (k rem : Nat) (a' : Option Addr) (c' : Nat) (xs : List Value), k ≤ M ∧ M - k ≤ gg ∧ s8 = .int .i64 k ∧ s0 = .slice a' rem c' ∧ rem ≤ c' ∧ c' ≤ maxLen ∧ Hid (rem = n - offN n M k) ∧ Hid (IsXs w a' rem (fun i => x (offN n M k + i))) ∧
      Hid (wr.ownsRow g 22 1 (.slice (some ⟨g, 0, none⟩) M M) M xs) ∧ Hid (PRow wr (g + 1) (lenN n M) (fun j i => x (offN n M j + i)) k xs) ∧ Hid (∀ j, k ≤ j → j < M → xs[j]? = some (.slice none 0 0)) ∧ Hid (Below w.heap.size w wr))
  case atStart =>
    refine ⟨0, n, a, cap, _, Nat.zero_le _, by omega, rfl, rfl, hcap, hcm, Lib.hid (by rw [offN_zero]; rfl), Lib.hid (by simpa [offN_zero] using HX.out), Lib.hid (HO0.out), Lib.hid (fun j hj => absurd hj (by omega)), Lib.hid (fun j _ hj => ?_), Lib.hid ?_⟩
    · simp [madeCells, Value.cells, hj, Nat.mod_one]
    · exact ⟨HB0.out.os, HB0.out.tape, HB0.out.output, HB0.out.size, HB0.out.block⟩
  case round =>
    obtain ⟨k, rem, a', c', xs, hk, hgk, rfl, rfl, hrc, hc', HR, HXS, HOW, HP, HNIL, HB⟩ := hrel
    by_cases hpos : 0 < rem
    · rcases HXS.out with h0 | ⟨b, off, rfl, hbw, hcx⟩
      · omega
      · have hkM : k < M := by
          rcases Nat.lt_or_ge k M with h | h
          · exact h
          · have := HR.out
            rw [show k = M by omega, offN_end n M hM1] at this
            omega
        obtain ⟨mn, hmn⟩ : ∃ mn, mn = lenN n M k := ⟨_, rfl⟩
        have hmr : mn ≤ rem := by
          have h1 := offN_le (n := n) hM1 (show k + 1 ≤ M by omega)
          rw [offN_succ, ← hmn] at h1
          have := HR.out
          omega
        have hmv : (if k < r then q + 1 else q) = mn := by
          rw [hmn]; unfold lenN; rw [← HQR.out.1, ← HQR.out.2]; split <;> omega
        have HMN := Lib.hid hmn; clear hmn
        have hrn : rem ≤ 1000 := by have := HR.out; omega
        have hcx' : ∀ j, j < mn → wr.cell? ⟨b, off + j, none⟩ = some (.int .i64 (x (offN n M k + j))) := fun j hj => (HB.out.cell (by exact hbw)).trans (hcx j (by omega))
        have hcl := clone_part b off mn c' (fun i => x (offN n M k + i)) wr (by omega) hcx'
        have HCX := Lib.hid hcx; clear hcx hcx'
        have HCL := Lib.hid hcl; clear hcl
        have i1 : (mn : Int) ≤ (c' : Int) := by omega
        have i2 : (mn : Int) ≤ (rem : Int) := by omega
        have i3 : (k : Int) < (M : Int) := by omega
        by_cases hkr : k < r
        · rw [if_pos hkr] at hmv
          have hq1 : (q : Int) + 1 = (mn : Int) := by omega
          have hwq : IntKind.i64.wrap ((mn : Int)) = (mn : Int) := IntWalk.i64_in _ (by omega)
          go_wp2_with fail
          refine HCL.out.mono ?_
          rintro e w1 ⟨v, rfl, hv, _, hb1⟩
          obtain ⟨a2, c2, rfl, _, _, _⟩ := isXs_own hv
          have ho1 := row_keep HOW.out hb1
          have d0 := ho1.cellAt k (by omega)
          rw [HNIL.out k (Nat.le_refl _) hkM] at d0
          have d1 := ho1.frozenAt k
          have hst := ho1.stored k (.slice a2 mn c2)
          have hps := prow_step ho1 (HP.out.below hb1) (own_mono hv (HOW.out.lt g rfl).2) HMN.out hkM
          have hb2 := (HB.out.trans (hb1.mono HB.out.size)).setCell (p := ⟨g, k, none⟩) (by show w.heap.size ≤ g; rw [HG.out]; exact Nat.le_refl _) (.slice a2 mn c2)
          have HST := Lib.hid (And.intro hst.1 (And.intro hps hb2)); clear hst hps hb2 ho1 hv hb1
          go_wp2_with fail
          · go_roundg (M - (k + 1))
            case measure => omega
            case rel =>
              have e1 := HR.out
              have e2 := HMN.out
              refine ⟨k + 1, rem - mn, some ⟨b, off, none⟩, 0, xs.set k (.slice a2 mn c2), by omega, Nat.le_refl _, by go_num, rfl, by omega, by omega, Lib.hid (by rw [offN_succ]; omega), Lib.hid (Or.inl (by omega)), Lib.hid HST.out.1, Lib.hid HST.out.2.1, Lib.hid (fun j h1 h2 => ?_), Lib.hid HST.out.2.2⟩
              rw [List.getElem?_set_ne (by omega)]
              exact HNIL.out j (by omega) h2
          · go_roundg (M - (k + 1))
            case measure => omega
            case rel =>
              have e1 := HR.out
              have e2 := HMN.out
              refine ⟨k + 1, rem - mn, some ⟨b, off + mn, none⟩, c' - mn, xs.set k (.slice a2 mn c2), by omega, Nat.le_refl _, by go_num, rfl, by omega, by omega, Lib.hid (by rw [offN_succ]; omega), Lib.hid (Or.inr ⟨b, off + mn, rfl, hbw, fun j hj => ?_⟩), Lib.hid HST.out.1, Lib.hid HST.out.2.1, Lib.hid (fun j h1 h2 => ?_), Lib.hid HST.out.2.2⟩
              · have := HCX.out (mn + j) (by omega)
                simp only [offN_succ, ← e2, Nat.add_assoc]
                exact this
              · rw [List.getElem?_set_ne (by omega)]
                exact HNIL.out j (by omega) h2
        · rw [if_neg hkr] at hmv
          have hmq : mn = q := hmv.symm
          subst hmq
          go_wp2_with fail
          refine HCL.out.mono ?_
          rintro e w1 ⟨v, rfl, hv, _, hb1⟩
          obtain ⟨a2, c2, rfl, _, _, _⟩ := isXs_own hv
          have ho1 := row_keep HOW.out hb1
          have d0 := ho1.cellAt k (by omega)
          rw [HNIL.out k (Nat.le_refl _) hkM] at d0
          have d1 := ho1.frozenAt k
          have hst := ho1.stored k (.slice a2 mn c2)
          have hps := prow_step ho1 (HP.out.below hb1) (own_mono hv (HOW.out.lt g rfl).2) HMN.out hkM
          have hb2 := (HB.out.trans (hb1.mono HB.out.size)).setCell (p := ⟨g, k, none⟩) (by show w.heap.size ≤ g; rw [HG.out]; exact Nat.le_refl _) (.slice a2 mn c2)
          have HST := Lib.hid (And.intro hst.1 (And.intro hps hb2)); clear hst hps hb2 ho1 hv hb1
          go_wp2_with fail
          · go_roundg (M - (k + 1))
            case measure => omega
            case rel =>
              have e1 := HR.out
              have e2 := HMN.out
              refine ⟨k + 1, rem - mn, some ⟨b, off, none⟩, 0, xs.set k (.slice a2 mn c2), by omega, Nat.le_refl _, by go_num, rfl, by omega, by omega, Lib.hid (by rw [offN_succ]; omega), Lib.hid (Or.inl (by omega)), Lib.hid HST.out.1, Lib.hid HST.out.2.1, Lib.hid (fun j h1 h2 => ?_), Lib.hid HST.out.2.2⟩
              rw [List.getElem?_set_ne (by omega)]
              exact HNIL.out j (by omega) h2
          · go_roundg (M - (k + 1))
            case measure => omega
            case rel =>
              have e1 := HR.out
              have e2 := HMN.out
              refine ⟨k + 1, rem - mn, some ⟨b, off + mn, none⟩, c' - mn, xs.set k (.slice a2 mn c2), by omega, Nat.le_refl _, by go_num, rfl, by omega, by omega, Lib.hid (by rw [offN_succ]; omega), Lib.hid (Or.inr ⟨b, off + mn, rfl, hbw, fun j hj => ?_⟩), Lib.hid HST.out.1, Lib.hid HST.out.2.1, Lib.hid (fun j h1 h2 => ?_), Lib.hid HST.out.2.2⟩
              · have := HCX.out (mn + j) (by omega)
                simp only [offN_succ, ← e2, Nat.add_assoc]
                exact this
              · rw [List.getElem?_set_ne (by omega)]
                exact HNIL.out j (by omega) h2
    · go_wp2_with fail
      go_ret
      have hk0 : offN n M k = n := by have := HR.out; have := offN_le (n := n) hM1 hk; omega
      refine ⟨g, M, rfl, rowsAt_of HOW.out (base := g + 1) (fun j hj => ?_), HB.out⟩
      rcases Nat.lt_or_ge j k with h | h
      · exact HP.out j h
      · refine ⟨_, HNIL.out j h hj, ?_⟩
        have := lenN_zero hM1 hk0 h hj
        rw [this]
        exact World.ownsRow_nil _ _ _ _
end Sw
end Go.Proofs.Ytelblgnleaffoaa
