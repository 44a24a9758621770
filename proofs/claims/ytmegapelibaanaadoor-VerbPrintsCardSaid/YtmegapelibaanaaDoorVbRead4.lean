/- Package verb's read; over the translated program. -/
import Derived.Test.YtmegapelibaanaaDoorVbRead3
import Derived.Test.YtmegapelibaanaaDoorDeciLines
namespace Go.Proofs.YtmegapelibaanaaDoor
namespace Vb
open Go Go.RowKit Deci
set_option linter.unusedVariables false
theorem strs_of {w : World} {base : Nat} {v : Value} {ps : List ByteArray} (h : w.ownsRow base 9 1 v ps.length (ps.map Value.string)) : Strs w v ps := by
  rcases h.2 with ⟨rfl, h0⟩ | ⟨g, cap, cur, rfl, _, hg, h1, _, h2, h3⟩
  · obtain rfl := List.eq_nil_of_length_eq_zero h0
    exact ⟨none, 0, rfl, Nat.le_refl _, .inl rfl⟩
  · refine ⟨_, cap, rfl, h1, .inr ⟨g, 0, rfl, (Array.getElem?_eq_some_iff.1 hg).1, fun j hj => ?_⟩⟩
    have e : cur[j]? = some (.string ps[j]) := by
      have := congrArg (·[j]?) h3
      simp only [Nat.mul_one] at this
      rw [List.getElem?_take, if_pos hj, List.getElem?_map, List.getElem?_eq_getElem hj] at this
      simpa using this
    rw [Nat.zero_add]
    simp only [World.cell?, hg]
    exact e
theorem words_small (l : List UInt8) : ∀ p ∈ wordsP l, p.size ≤ l.length := by
  intro p hp
  unfold wordsP at hp
  split at hp
  · cases hp
  · split at hp
    · obtain ⟨q, hq, rfl⟩ := List.mem_map.1 hp
      have := pcs_mem 32 l [] q hq
      show q.length ≤ _
      simpa using this
    · cases hp
theorem lineE_bad {l : List UInt8} (h : wordsE l ≠ 0) : lineE l = wordsE l := by unfold lineE; rw [if_pos h]
theorem lineE_none {l : List UInt8} (h : wordsE l = 0) (hp : wordsP l = []) : lineE l = 50 := by unfold lineE; rw [if_neg (by omega), hp]
theorem lineE_some {l : List UInt8} {p : ByteArray} {r : List ByteArray} (h : wordsE l = 0) (hp : wordsP l = p :: r) : lineE l = (if kindV p.data.toList = 0 then 50 else if countE (kindV p.data.toList) r.length ≠ 0 then countE (kindV p.data.toList) r.length else numE (kindV p.data.toList) r) := by
  unfold lineE; rw [if_neg (by omega), hp]
theorem lineC_some {l : List UInt8} {p : ByteArray} {r : List ByteArray} (hp : wordsP l = p :: r) : lineC l = numC (kindV p.data.toList) r := by unfold lineC; rw [hp]
theorem six_own {B N X : Nat} {W : World} {v : Value} {xs : List Int} {b0 b1 b2 b3 b4 b5 : Value} (h : OwnXs N W v xs) (hx : W.heap[X]? = some (.cells #[b0, b1, b2, b3, b4, b5] 37)) (hB : B ≤ N) (a0 a1 a2 a3 a4 a5 : Value) : OwnXs B (six W X a0 a1 a2 a3 a4 a5) v xs := by
  obtain ⟨a, cap, h1, h2, h0, h3⟩ := h
  refine ⟨a, cap, h1, h2, h0, h3.imp id ?_⟩
  rintro ⟨g, o, cur, e, hb, hg, hc⟩
  refine ⟨g, o, cur, e, Nat.le_trans hB hb, six_other hg (fun e => ?_) _ _ _ _ _ _, hc⟩
  subst e
  rw [hx] at hg
  injection hg with hg
  injection hg with _ hg
  exact absurd hg (by decide)
set_option maxHeartbeats 4000000 in
set_option maxRecDepth 100000 in
theorem line_any (s : ByteArray) (w : World) (hE : EnvAt w.heap.size w) (hs : s.size ≤ 1000000) :
    Calls Tryd.prog 37 #[.string s] w (CmOut w (lineE s.data.toList) (lineC s.data.toList)) := by
  obtain ⟨X, hX⟩ : ∃ X, X = w.heap.size := ⟨_, rfl⟩
  obtain ⟨W0, hW0⟩ : ∃ W0, W0 = w.alloc (.cells #[.int .i64 0, .int .i64 0, .int .i64 0, .int .i64 0, .slice none 0 0, .string ⟨#[]⟩] 37) := ⟨_, rfl⟩
  have hb0 : Below X w W0 := by rw [hX, hW0]; exact (Below.refl _ _).alloc (Nat.le_refl _) _
  have hr0 : W0.heap[X]? = some (.cells #[.int .i64 0, .int .i64 0, .int .i64 0, .int .i64 0, .slice none 0 0, .string ⟨#[]⟩] 37) := by rw [hW0, hX]; exact World.alloc_heap_new w _
  have hwd := words_any s W0 (by omega)
  have hsm := words_small s.data.toList
  have hsl : s.data.toList.length = s.size := by simp
  rw [hsl] at hsm
  have h1 := fun h => lineE_bad (l := s.data.toList) h
  have h2 := fun h hp => lineE_none (l := s.data.toList) h hp
  have h3 := fun p r h hp => lineE_some (l := s.data.toList) (p := p) (r := r) h hp
  have h4 := fun p r hp => lineC_some (l := s.data.toList) (p := p) (r := r) hp
  have hlen : (wordsP s.data.toList).length ≤ s.size + 1 := by
    unfold wordsP
    split
    · simp
    · split
      · have := pcs_length 32 s.data.toList []; simp at this ⊢; exact this
      · simp
  generalize lineE s.data.toList = er at *
  generalize lineC s.data.toList = cm at *
  generalize wordsP s.data.toList = P at *
  generalize wordsE s.data.toList = we at *
  unfold CmOut
  rw [← hX] at hE ⊢
  have hzz : W0.heap.size = X + 1 := by rw [hW0, hX]; simp
  have HX := Lib.hid hX; clear hX
  have HW0 := Lib.hid hW0; clear hW0
  have HB0 := Lib.hid hb0; clear hb0
  have HR0 := Lib.hid hr0; clear hr0
  have HWD := Lib.hid hwd; clear hwd
  have HE := Lib.hid hE; clear hE
  clear hsl
  by_cases hwe : we ≠ 0
  · obtain rfl := h1 hwe
    clear h1 h2 h3 h4 hsm hlen
    go_enter Tryd.func37, Tryd.ntmps37
    go_wp2_with fail
    rw [← HX.out, ← HW0.out]
    refine HWD.out.mono ?_
    rintro e w1 ⟨v, rfl, -, hb1⟩
    have hr1 := (hb1.block _ (own_lt HR0.out)).trans HR0.out
    have hb01 := HB0.out.trans (hb1.mono (by omega))
    have r0 : w1.cell? ⟨X, 0, none⟩ = _ := (own_cell hr1).trans rfl
    have r1 : w1.cell? ⟨X, 1, none⟩ = _ := (own_cell hr1).trans rfl
    have r2 : w1.cell? ⟨X, 2, none⟩ = _ := (own_cell hr1).trans rfl
    have r3 : w1.cell? ⟨X, 3, none⟩ = _ := (own_cell hr1).trans rfl
    have r4 : w1.cell? ⟨X, 4, none⟩ = _ := (own_cell hr1).trans rfl
    have r5 : w1.cell? ⟨X, 5, none⟩ = _ := (own_cell hr1).trans rfl
    have f0 : ∀ j, w1.frozen? ⟨X, j, none⟩ = false := fun j => own_free hr1
    have HR1 := Lib.hid hr1; clear hr1
    have HB1 := Lib.hid hb01; clear hb01 hb1
    go_wp2_with fail
    clear r0 r1 r2 r3 r4 r5 f0
    rw [six_eq]
    have hx9 := fun a0 a1 a2 a3 a4 a5 => six_heap HR1.out a0 a1 a2 a3 a4 a5
    have hb9 := fun a0 a1 a2 a3 a4 a5 => six_below HB1.out (Nat.le_refl X) a0 a1 a2 a3 a4 a5
    refine bodyPost_ret (v := .tuple #[CM.v ⟨0, 0, 0, 0, [], ⟨#[]⟩⟩ (.slice none 0 0), .int .i64 er]) (by simp [results, Tryd.results37, go_sem, World.cell?, hx9]; rfl) rfl ?_
    exact ⟨hb9 _ _ _ _ _ _, _, _, _, _, rfl, fun h => absurd h hwe⟩
  obtain rfl : we = 0 := by simpa using hwe
  clear h1 hwe
  cases P with
  | nil =>
    obtain rfl := h2 rfl rfl
    clear h2 h3 h4 hsm hlen
    go_enter Tryd.func37, Tryd.ntmps37
    go_wp2_with fail
    rw [← HX.out, ← HW0.out]
    refine HWD.out.mono ?_
    rintro e w1 ⟨v, rfl, hown, hb1⟩
    obtain ⟨a, cap, rfl⟩ := own_slice hown
    have hr1 := (hb1.block _ (own_lt HR0.out)).trans HR0.out
    have hb01 := HB0.out.trans (hb1.mono (by omega))
    have r0 : w1.cell? ⟨X, 0, none⟩ = _ := (own_cell hr1).trans rfl
    have r1 : w1.cell? ⟨X, 1, none⟩ = _ := (own_cell hr1).trans rfl
    have r2 : w1.cell? ⟨X, 2, none⟩ = _ := (own_cell hr1).trans rfl
    have r3 : w1.cell? ⟨X, 3, none⟩ = _ := (own_cell hr1).trans rfl
    have r4 : w1.cell? ⟨X, 4, none⟩ = _ := (own_cell hr1).trans rfl
    have r5 : w1.cell? ⟨X, 5, none⟩ = _ := (own_cell hr1).trans rfl
    have f0 : ∀ j, w1.frozen? ⟨X, j, none⟩ = false := fun j => own_free hr1
    have HR1 := Lib.hid hr1; clear hr1
    have HB1 := Lib.hid hb01; clear hb01 hb1 hown
    go_wp2_with fail
    clear r0 r1 r2 r3 r4 r5 f0
    rw [six_eq]
    have hx9 := fun a0 a1 a2 a3 a4 a5 => six_heap HR1.out a0 a1 a2 a3 a4 a5
    have hb9 := fun a0 a1 a2 a3 a4 a5 => six_below HB1.out (Nat.le_refl X) a0 a1 a2 a3 a4 a5
    refine bodyPost_ret (v := .tuple #[CM.v ⟨0, 0, 0, 0, [], ⟨#[]⟩⟩ (.slice none 0 0), .int .i64 50]) (by simp [results, Tryd.results37, go_sem, World.cell?, hx9]; rfl) rfl ?_
    refine ⟨hb9 _ _ _ _ _ _, _, _, _, _, rfl, ?_⟩
    first
      | exact fun h => absurd h (by decide)
      | trivial
  | cons p r =>
    have her := h3 p r rfl rfl
    have hcm := h4 p r rfl
    subst hcm
    have hpz := hsm p (by simp)
    have hrz := fun q (hq : q ∈ r) => hsm q (by simp [hq])
    have hkd := fun W (hW : Below X w W) => kindOf_any p W (HE.out W hW)
    have hk7 := kind_le p.data.toList
    generalize kindV p.data.toList = kv at *
    clear h2 h3 h4 hsm
    obtain ⟨n, hn⟩ : ∃ n, n = r.length := ⟨_, rfl⟩
    have hck := fun W (hW : Below X w W) (hk : kv < 8) => checkCount_any kv n W (HE.out W hW) hk (by simp at hlen; omega)
    have hpl : (p :: r).length = n + 1 := by rw [hn]; rfl
    have hrn := fun v W (hW : Below X w W) (hS : Strs W v r) (h1 : 1 ≤ kv) (hc : countE kv r.length = 0) => readNums_any kv v r W ((HE.out.below hW).mono (by have := hW.size; have := HX.out; omega)) hS h1 hk7 hc (fun q hq => by have := hrz q hq; omega)
    rw [← hn] at her hrn
    generalize numE kv r = ne at *
    generalize numC kv r = cm at *
    generalize countE kv n = ck at *
    have HKD := Lib.hid hkd; clear hkd
    have HCK := Lib.hid hck; clear hck
    have HRN := Lib.hid hrn; clear hrn
    have HPL := Lib.hid hpl; clear hpl
    have HN := Lib.hid hn; clear hn
    clear hpz hrz hlen
    go_enter Tryd.func37, Tryd.ntmps37
    go_wp2_with fail
    rw [← HX.out, ← HW0.out]
    refine HWD.out.mono ?_
    rintro e w1 ⟨v, rfl, hown, hb1⟩
    obtain ⟨a, cap, rfl, hcap, hat⟩ := strs_of hown
    obtain ⟨g, o, rfl, hg, hcell⟩ := hat.resolve_left (by simp)
    have c0 : w1.cell? ⟨g, o, none⟩ = some (.string p) := hcell 0 (by simp)
    have htl : ∀ j (hj : j < r.length), w1.cell? ⟨g, o + 1 + j, none⟩ = some (.string r[j]) := fun j hj => by
      have := hcell (j + 1) (by simp; omega)
      rw [show o + (j + 1) = o + 1 + j by omega] at this
      simpa using this
    rw [HPL.out] at *
    have hr1 := (hb1.block _ (own_lt HR0.out)).trans HR0.out
    have hb01 := HB0.out.trans (hb1.mono (by omega))
    have HTL := Lib.hid htl; clear htl hcell hat hown
    have HR1 := Lib.hid hr1; clear hr1
    have HB1 := Lib.hid hb01; clear hb01 hb1
    have i0 : (0 : Int) < ((n + 1 : Nat) : Int) := by omega
    have i1 : (1 : Int) ≤ ((n + 1 : Nat) : Int) := by omega
    have i2 : ¬ ((n + 1 : Nat) : Int) = 0 := by omega
    go_wp2_with fail
    refine (HKD.out w1 HB1.out).mono ?_
    rintro e w2 ⟨rfl, rfl⟩
    have r0 : w2.cell? ⟨X, 0, none⟩ = _ := (own_cell HR1.out).trans rfl
    have r1 : w2.cell? ⟨X, 1, none⟩ = _ := (own_cell HR1.out).trans rfl
    have r2 : w2.cell? ⟨X, 2, none⟩ = _ := (own_cell HR1.out).trans rfl
    have r3 : w2.cell? ⟨X, 3, none⟩ = _ := (own_cell HR1.out).trans rfl
    have r4 : w2.cell? ⟨X, 4, none⟩ = _ := (own_cell HR1.out).trans rfl
    have r5 : w2.cell? ⟨X, 5, none⟩ = _ := (own_cell HR1.out).trans rfl
    have f0 : ∀ j, w2.frozen? ⟨X, j, none⟩ = false := fun j => own_free HR1.out
    by_cases hk0 : kv = 0
    · subst hk0
      rw [if_pos rfl] at her
      subst her
      go_wp2_with fail
      clear r0 r1 r2 r3 r4 r5 f0
      rw [six_eq]
      have hx9 := fun a0 a1 a2 a3 a4 a5 => six_heap HR1.out a0 a1 a2 a3 a4 a5
      have hb9 := fun a0 a1 a2 a3 a4 a5 => six_below HB1.out (Nat.le_refl X) a0 a1 a2 a3 a4 a5
      refine bodyPost_ret (v := .tuple #[CM.v ⟨0, 0, 0, 0, [], ⟨#[]⟩⟩ (.slice none 0 0), .int .i64 50]) (by simp [results, Tryd.results37, go_sem, World.cell?, hx9]; rfl) rfl ?_
      refine ⟨hb9 _ _ _ _ _ _, _, _, _, _, rfl, ?_⟩
      first
        | exact fun h => absurd h (by assumption)
        | exact fun h => absurd h (by decide)
        | trivial
    rw [if_neg hk0] at her
    have hk0' : ¬ (kv : Int) = 0 := by omega
    by_cases hcp : cap = 1
    · subst hcp
      obtain rfl : n = 0 := by omega
      have hst : Strs w2 (.slice (some ⟨g, o, none⟩) 0 0) r := by
        have hr : r = [] := List.eq_nil_of_length_eq_zero HN.out.symm
        rw [hr]
        exact ⟨_, 0, rfl, Nat.le_refl _, .inl rfl⟩
      have HST := Lib.hid hst; clear hst
      go_wp2_with fail
      refine (show Calls Tryd.prog 53 #[.int .i64 kv, .int .i64 0] w2 _ from HCK.out w2 HB1.out (by omega)).mono ?_
      rintro e w3 ⟨rfl, rfl⟩
      by_cases hc0 : ck ≠ 0
      · rw [if_pos hc0] at her
        subst her
        have hc0' : ¬ er = 0 := hc0
        go_wp2_with fail
        clear r0 r1 r2 r3 r4 r5 f0
        rw [six_eq]
        have hx9 := fun a0 a1 a2 a3 a4 a5 => six_heap HR1.out a0 a1 a2 a3 a4 a5
        have hb9 := fun a0 a1 a2 a3 a4 a5 => six_below HB1.out (Nat.le_refl X) a0 a1 a2 a3 a4 a5
        refine bodyPost_ret (v := .tuple #[CM.v ⟨0, 0, 0, 0, [], ⟨#[]⟩⟩ (.slice none 0 0), .int .i64 er]) (by simp [results, Tryd.results37, go_sem, World.cell?, hx9]; rfl) rfl ?_
        refine ⟨hb9 _ _ _ _ _ _, _, _, _, _, rfl, ?_⟩
        first
          | exact fun h => absurd h (by assumption)
          | exact fun h => absurd h (by decide)
          | trivial
      rw [if_neg hc0] at her
      obtain rfl : ck = 0 := by simpa using hc0
      subst her
      clear hc0 r0 r1 r2 r3 r4 r5 f0
      have hcall := HRN.out _ w3 HB1.out HST.out (by omega) rfl
      have HC := Lib.hid hcall; clear hcall
      go_wp2_with fail
      refine HC.out.mono ?_
      rintro e w4 ⟨hb4, c, da, dn, dc, rfl, hcc⟩
      have hr4 := (hb4.block _ (own_lt HR1.out)).trans HR1.out
      have hb04 := HB1.out.trans (hb4.mono (by have := own_lt HR1.out; omega))
      have hx3 : X ≤ w3.heap.size := by have := own_lt HR1.out; omega
      obtain ⟨c1, c2, c3, c4, c5, c6⟩ := c
      unfold CM.v
      simp only at hcc ⊢
      have r0 : w4.cell? ⟨X, 0, none⟩ = _ := (own_cell hr4).trans rfl
      have r1 : w4.cell? ⟨X, 1, none⟩ = _ := (own_cell hr4).trans rfl
      have r2 : w4.cell? ⟨X, 2, none⟩ = _ := (own_cell hr4).trans rfl
      have r3 : w4.cell? ⟨X, 3, none⟩ = _ := (own_cell hr4).trans rfl
      have r4 : w4.cell? ⟨X, 4, none⟩ = _ := (own_cell hr4).trans rfl
      have r5 : w4.cell? ⟨X, 5, none⟩ = _ := (own_cell hr4).trans rfl
      have f0 : ∀ j, w4.frozen? ⟨X, j, none⟩ = false := fun j => own_free hr4
      have HR4 := Lib.hid hr4; clear hr4
      have HB4 := Lib.hid hb04; clear hb04 hb4
      have HCC := Lib.hid hcc; clear hcc
      go_wp2_with fail
      clear r0 r1 r2 r3 r4 r5 f0
      rw [six_eq]
      have hx9 := fun a0 a1 a2 a3 a4 a5 => six_heap HR4.out a0 a1 a2 a3 a4 a5
      have hb9 := fun a0 a1 a2 a3 a4 a5 => six_below HB4.out (Nat.le_refl X) a0 a1 a2 a3 a4 a5
      refine bodyPost_ret (v := .tuple #[CM.v ⟨c1, c2, c3, c4, c5, c6⟩ (.slice da dn dc), .int .i64 er]) (by simp [results, Tryd.results37, go_sem, World.cell?, hx9]; rfl) rfl ?_
      refine ⟨hb9 _ _ _ _ _ _, _, _, _, _, rfl, fun h => ⟨(HCC.out h).1, ?_⟩⟩
      exact six_own ((HCC.out h).2) HR4.out hx3 _ _ _ _ _ _
    · have hst : Strs w2 (.slice (some ⟨g, o + 1, none⟩) n (cap - 1)) r := ⟨_, cap - 1, by rw [HN.out], by rw [← HN.out]; omega, .inr ⟨g, o + 1, rfl, hg, HTL.out⟩⟩
      have HST := Lib.hid hst; clear hst
      go_wp2_with fail
      refine (HCK.out w2 HB1.out (by omega)).mono ?_
      rintro e w3 ⟨rfl, rfl⟩
      by_cases hc0 : ck ≠ 0
      · rw [if_pos hc0] at her
        subst her
        have hc0' : ¬ er = 0 := hc0
        go_wp2_with fail
        clear r0 r1 r2 r3 r4 r5 f0
        rw [six_eq]
        have hx9 := fun a0 a1 a2 a3 a4 a5 => six_heap HR1.out a0 a1 a2 a3 a4 a5
        have hb9 := fun a0 a1 a2 a3 a4 a5 => six_below HB1.out (Nat.le_refl X) a0 a1 a2 a3 a4 a5
        refine bodyPost_ret (v := .tuple #[CM.v ⟨0, 0, 0, 0, [], ⟨#[]⟩⟩ (.slice none 0 0), .int .i64 er]) (by simp [results, Tryd.results37, go_sem, World.cell?, hx9]; rfl) rfl ?_
        refine ⟨hb9 _ _ _ _ _ _, _, _, _, _, rfl, ?_⟩
        first
          | exact fun h => absurd h (by assumption)
          | exact fun h => absurd h (by decide)
          | trivial
      rw [if_neg hc0] at her
      obtain rfl : ck = 0 := by simpa using hc0
      subst her
      clear hc0 r0 r1 r2 r3 r4 r5 f0
      have hcall := HRN.out _ w3 HB1.out HST.out (by omega) rfl
      have HC := Lib.hid hcall; clear hcall
      go_wp2_with fail
      refine HC.out.mono ?_
      rintro e w4 ⟨hb4, c, da, dn, dc, rfl, hcc⟩
      have hr4 := (hb4.block _ (own_lt HR1.out)).trans HR1.out
      have hb04 := HB1.out.trans (hb4.mono (by have := own_lt HR1.out; omega))
      have hx3 : X ≤ w3.heap.size := by have := own_lt HR1.out; omega
      obtain ⟨c1, c2, c3, c4, c5, c6⟩ := c
      unfold CM.v
      simp only at hcc ⊢
      have r0 : w4.cell? ⟨X, 0, none⟩ = _ := (own_cell hr4).trans rfl
      have r1 : w4.cell? ⟨X, 1, none⟩ = _ := (own_cell hr4).trans rfl
      have r2 : w4.cell? ⟨X, 2, none⟩ = _ := (own_cell hr4).trans rfl
      have r3 : w4.cell? ⟨X, 3, none⟩ = _ := (own_cell hr4).trans rfl
      have r4 : w4.cell? ⟨X, 4, none⟩ = _ := (own_cell hr4).trans rfl
      have r5 : w4.cell? ⟨X, 5, none⟩ = _ := (own_cell hr4).trans rfl
      have f0 : ∀ j, w4.frozen? ⟨X, j, none⟩ = false := fun j => own_free hr4
      have HR4 := Lib.hid hr4; clear hr4
      have HB4 := Lib.hid hb04; clear hb04 hb4
      have HCC := Lib.hid hcc; clear hcc
      go_wp2_with fail
      clear r0 r1 r2 r3 r4 r5 f0
      rw [six_eq]
      have hx9 := fun a0 a1 a2 a3 a4 a5 => six_heap HR4.out a0 a1 a2 a3 a4 a5
      have hb9 := fun a0 a1 a2 a3 a4 a5 => six_below HB4.out (Nat.le_refl X) a0 a1 a2 a3 a4 a5
      refine bodyPost_ret (v := .tuple #[CM.v ⟨c1, c2, c3, c4, c5, c6⟩ (.slice da dn dc), .int .i64 er]) (by simp [results, Tryd.results37, go_sem, World.cell?, hx9]; rfl) rfl ?_
      refine ⟨hb9 _ _ _ _ _ _, _, _, _, _, rfl, fun h => ⟨(HCC.out h).1, ?_⟩⟩
      exact six_own ((HCC.out h).2) HR4.out hx3 _ _ _ _ _ _
end Vb
end Go.Proofs.YtmegapelibaanaaDoor
