/- Package verb's check; over the translated program. -/
import Derived.Test.YtmegapelibaanaaDoorVbCheck
namespace Go.Proofs.YtmegapelibaanaaDoor
namespace Vb
open Go Go.RowKit Deci
set_option linter.unusedVariables false
theorem empty_iff (s : ByteArray) : s = ⟨#[]⟩ ↔ s.toList = [] := by
  rw [Lib.toList_data]
  constructor
  · intro h; rw [h]
  · intro h; rw [← strOf_data s, h]; rfl
set_option maxHeartbeats 4000000 in
set_option maxRecDepth 100000 in
theorem check_any (c : CM) (dv : Value) (w : World) (hE : EnvAt w.heap.size w) (hd : IsXs w dv c.draws) (hl : c.draws.length ≤ 100000) (ht : c.text.size ≤ maxLen) :
    Calls Tryd.prog 13 #[c.v dv] w fun e w' => e = .returned (.int .i64 (checkE c)) ∧ Below w.heap.size w w' := by
  obtain ⟨nums, hnums⟩ : ∃ nums, nums = numL c := ⟨_, rfl⟩
  have hnl : nums.length ≤ 100002 := by
    have : (numL c).length ≤ c.draws.length + 2 := by
      unfold numL
      repeat' split
      all_goals simp
    rw [hnums]; omega
  have hck : checkE c = if nameL c.kind.toNat = [] then 50 else if nums.any (beyB (leastV c)) then 23 else if c.kind = 5 ∧ 4096 < c.draws.length then 3 else if c.kind = 1 ∧ linesB c.text.data.toList c.n = false then 21 else 0 := by rw [hnums]; rfl
  obtain ⟨X, hX⟩ : ∃ X, X = w.heap.size := ⟨_, rfl⟩
  have hnm := fun W (hW : Below X w W) => name_any c.kind W (hE W (by rw [← hX]; exact hW))
  have hnu := fun W (hW : Below X w W) => numbers_any c dv W (hd.below (by rw [← hX]; exact hW)) (by omega)
  have hli := fun W (hW : Below X w W) => islines_any c.text c.n W (hE W (by rw [← hX]; exact hW)) ht
  rw [← hnums] at hnu
  have hle : leastV c = if c.kind = 4 then -1099511627776 else 0 := rfl
  generalize leastV c = m at *
  have hnd : (nameS c.kind.toNat).toList = nameL c.kind.toNat := by rw [Lib.toList_data]; rfl
  generalize checkE c = ck at *
  obtain ⟨da, dc, rfl⟩ := hd.form
  obtain ⟨kind, n, steps, clock, draws, text⟩ := c
  unfold CM.v at *
  simp only at hnm hnu hli hnd hle hck hl ⊢
  have hkn : kind = 4 → nameL kind.toNat ≠ [] := by rintro rfl; simp [nameL]
  generalize nameS kind.toNat = nm at *
  generalize nameL kind.toNat = nl at *
  generalize linesB text.data.toList n = lb at *
  have hcx := fun L (W : World) v (hx : OwnXs X W v nums) (hc : ∀ W', Below W.heap.size W W' → W'.cell? ⟨L, 0, none⟩ = some (.int .i64 m)) => contains_xs v nums (beyB m) 23 #[.pointer (some ⟨L, 0, none⟩)] W (fun _ _ => rfl) hx.is (by omega) (fun x hx W' hW' => beyond_any L m x W' (hc W' hW'))
  generalize nums.any (beyB m) = ab at *
  obtain ⟨W0, hW0⟩ : ∃ W0, W0 = ((w.alloc (.cells #[.int .i64 kind, .int .i64 n, .int .i64 steps, .int .i64 clock, .slice da draws.length dc, .string text] 37)).alloc (.cells #[.int .i64 m] 3)) := ⟨_, rfl⟩
  have hb0 : Below X w W0 := by rw [hX, hW0]; exact ((Below.refl _ _).alloc (Nat.le_refl _) _).alloc (by simp) _
  have hx0 : W0.heap[X]? = some (.cells #[.int .i64 kind, .int .i64 n, .int .i64 steps, .int .i64 clock, .slice da draws.length dc, .string text] 37) := by
    rw [hW0, hX]
    exact (Lib.alloc_old _ _ _ (by simp)).trans (World.alloc_heap_new w _)
  have hm0 : W0.heap[X + 1]? = some (.cells #[.int .i64 m] 3) := by
    rw [hW0, hX]
    have := World.alloc_heap_new (w.alloc (.cells #[.int .i64 kind, .int .i64 n, .int .i64 steps, .int .i64 clock, .slice da draws.length dc, .string text] 37)) (.cells #[.int .i64 m] 3)
    simpa using this
  have x00 : W0.cell? ⟨X, 0, none⟩ = some (.int .i64 kind) := (own_cell hx0).trans rfl
  have x01 : W0.cell? ⟨X, 1, none⟩ = some (.int .i64 n) := (own_cell hx0).trans rfl
  have x02 : W0.cell? ⟨X, 2, none⟩ = some (.int .i64 steps) := (own_cell hx0).trans rfl
  have x03 : W0.cell? ⟨X, 3, none⟩ = some (.int .i64 clock) := (own_cell hx0).trans rfl
  have x04 : W0.cell? ⟨X, 4, none⟩ = some (.slice da draws.length dc) := (own_cell hx0).trans rfl
  have x05 : W0.cell? ⟨X, 5, none⟩ = some (.string text) := (own_cell hx0).trans rfl
  rw [← hX]
  have HX := Lib.hid hX; clear hX
  have HW0 := Lib.hid hW0; clear hW0
  have HB0 := Lib.hid hb0; clear hb0
  have HX0 := Lib.hid hx0; clear hx0
  have HM0 := Lib.hid hm0; clear hm0
  have HNM := Lib.hid hnm; clear hnm
  have HNU := Lib.hid hnu; clear hnu
  have HLI := Lib.hid hli; clear hli
  have HCX := Lib.hid hcx; clear hcx
  clear hE hd hnums hnl
  by_cases hn : nl = []
  · have h4 : ¬ kind = 4 := fun h => hkn h hn
    rw [if_neg h4] at hle
    rw [if_pos hn] at hck
    rw [hn] at hnd
    subst hle hck
    have he : nm.toList.isEmpty = true := by rw [hnd]; rfl
    clear hkn
    go_enter Tryd.func13, Tryd.ntmps13
    go_wp2_with fail
    rw [← HX.out, ← HW0.out]
    refine (HNM.out _ HB0.out).mono ?_
    rintro e w1 ⟨rfl, rfl⟩
    go_wp2_with fail
    go_ret
    exact ⟨rfl, HB0.out⟩
  · have hne : ¬ nm.toList = [] := by rw [hnd]; exact hn
    have he : nm.toList.isEmpty = false := by simpa using hne
    rw [if_neg hn] at hck
    clear hnd hkn
    cases ab with
    | true =>
      rw [if_pos rfl] at hck
      subst hck
      by_cases h4 : kind = 4
      · rw [if_pos h4] at hle
        subst hle h4
        go_enter Tryd.func13, Tryd.ntmps13
        go_wp2_with fail
        rw [← HX.out, ← HW0.out]
        refine (HNM.out _ HB0.out).mono ?_
        rintro e w1 ⟨rfl, rfl⟩
        go_wp2_with fail
        refine (HNU.out _ HB0.out).mono ?_
        rintro e w2 ⟨v, rfl, ho2, hb2⟩
        have hm2 := (hb2.block _ (own_lt HM0.out)).trans HM0.out
        have hx2 := (hb2.block _ (own_lt HX0.out)).trans HX0.out
        have hcc := HCX.out (X + 1) w2 v (ho2.mono (by have := own_lt HX0.out; omega)) (fun W' hW' => (own_cell ((hW'.block _ (own_lt hm2)).trans hm2)).trans rfl)
        obtain ⟨va, vc, rfl⟩ := ho2.is.form
        have HC := Lib.hid hcc; clear hcc
        have HB2 := Lib.hid (HB0.out.trans (hb2.mono (by have := own_lt HX0.out; omega))); clear hb2 ho2 hm2
        have HX2 := Lib.hid hx2; clear hx2
        clear x00 x01 x02 x03 x04 x05
        go_wp2_with fail
        refine HC.out.mono ?_
        rintro e w3 ⟨rfl, hb3⟩
        have hx3 := (hb3.block _ (own_lt HX2.out)).trans HX2.out
        have HB3 := Lib.hid (HB2.out.trans (hb3.mono (by have := own_lt HX2.out; omega))); clear hb3
        have x30 : w3.cell? ⟨X, 0, none⟩ = some (.int .i64 4) := (own_cell hx3).trans rfl
        have x31 : w3.cell? ⟨X, 1, none⟩ = some (.int .i64 n) := (own_cell hx3).trans rfl
        have x34 : w3.cell? ⟨X, 4, none⟩ = some (.slice da draws.length dc) := (own_cell hx3).trans rfl
        have x35 : w3.cell? ⟨X, 5, none⟩ = some (.string text) := (own_cell hx3).trans rfl
        clear hx3
        go_wp2_with fail
        go_ret
        exact ⟨rfl, HB3.out⟩
      · rw [if_neg h4] at hle
        subst hle
        go_enter Tryd.func13, Tryd.ntmps13
        go_wp2_with fail
        rw [← HX.out, ← HW0.out]
        refine (HNM.out _ HB0.out).mono ?_
        rintro e w1 ⟨rfl, rfl⟩
        go_wp2_with fail
        refine (HNU.out _ HB0.out).mono ?_
        rintro e w2 ⟨v, rfl, ho2, hb2⟩
        have hm2 := (hb2.block _ (own_lt HM0.out)).trans HM0.out
        have hx2 := (hb2.block _ (own_lt HX0.out)).trans HX0.out
        have hcc := HCX.out (X + 1) w2 v (ho2.mono (by have := own_lt HX0.out; omega)) (fun W' hW' => (own_cell ((hW'.block _ (own_lt hm2)).trans hm2)).trans rfl)
        obtain ⟨va, vc, rfl⟩ := ho2.is.form
        have HC := Lib.hid hcc; clear hcc
        have HB2 := Lib.hid (HB0.out.trans (hb2.mono (by have := own_lt HX0.out; omega))); clear hb2 ho2 hm2
        have HX2 := Lib.hid hx2; clear hx2
        clear x00 x01 x02 x03 x04 x05
        go_wp2_with fail
        refine HC.out.mono ?_
        rintro e w3 ⟨rfl, hb3⟩
        have hx3 := (hb3.block _ (own_lt HX2.out)).trans HX2.out
        have HB3 := Lib.hid (HB2.out.trans (hb3.mono (by have := own_lt HX2.out; omega))); clear hb3
        have x30 : w3.cell? ⟨X, 0, none⟩ = some (.int .i64 kind) := (own_cell hx3).trans rfl
        have x31 : w3.cell? ⟨X, 1, none⟩ = some (.int .i64 n) := (own_cell hx3).trans rfl
        have x34 : w3.cell? ⟨X, 4, none⟩ = some (.slice da draws.length dc) := (own_cell hx3).trans rfl
        have x35 : w3.cell? ⟨X, 5, none⟩ = some (.string text) := (own_cell hx3).trans rfl
        clear hx3
        go_wp2_with fail
        go_ret
        exact ⟨rfl, HB3.out⟩
    | false =>
      rw [if_neg (by simp)] at hck
      by_cases h4 : kind = 4
      · subst h4
        rw [if_pos rfl] at hle
        rw [if_neg (by simp), if_neg (by simp)] at hck
        subst hle hck
        go_enter Tryd.func13, Tryd.ntmps13
        go_wp2_with fail
        rw [← HX.out, ← HW0.out]
        refine (HNM.out _ HB0.out).mono ?_
        rintro e w1 ⟨rfl, rfl⟩
        go_wp2_with fail
        refine (HNU.out _ HB0.out).mono ?_
        rintro e w2 ⟨v, rfl, ho2, hb2⟩
        have hm2 := (hb2.block _ (own_lt HM0.out)).trans HM0.out
        have hx2 := (hb2.block _ (own_lt HX0.out)).trans HX0.out
        have hcc := HCX.out (X + 1) w2 v (ho2.mono (by have := own_lt HX0.out; omega)) (fun W' hW' => (own_cell ((hW'.block _ (own_lt hm2)).trans hm2)).trans rfl)
        obtain ⟨va, vc, rfl⟩ := ho2.is.form
        have HC := Lib.hid hcc; clear hcc
        have HB2 := Lib.hid (HB0.out.trans (hb2.mono (by have := own_lt HX0.out; omega))); clear hb2 ho2 hm2
        have HX2 := Lib.hid hx2; clear hx2
        clear x00 x01 x02 x03 x04 x05
        go_wp2_with fail
        refine HC.out.mono ?_
        rintro e w3 ⟨rfl, hb3⟩
        have hx3 := (hb3.block _ (own_lt HX2.out)).trans HX2.out
        have HB3 := Lib.hid (HB2.out.trans (hb3.mono (by have := own_lt HX2.out; omega))); clear hb3
        have x30 : w3.cell? ⟨X, 0, none⟩ = some (.int .i64 4) := (own_cell hx3).trans rfl
        have x31 : w3.cell? ⟨X, 1, none⟩ = some (.int .i64 n) := (own_cell hx3).trans rfl
        have x34 : w3.cell? ⟨X, 4, none⟩ = some (.slice da draws.length dc) := (own_cell hx3).trans rfl
        have x35 : w3.cell? ⟨X, 5, none⟩ = some (.string text) := (own_cell hx3).trans rfl
        clear hx3
        go_wp2_with fail
        go_ret
        exact ⟨rfl, HB3.out⟩
      rw [if_neg h4] at hle
      subst hle
      by_cases h5 : kind = 5
      · subst h5
        by_cases hd : 4096 < draws.length
        · rw [if_pos ⟨rfl, hd⟩] at hck
          subst hck
          have hd' : (4096 : Int) < (draws.length : Int) := by omega
          go_enter Tryd.func13, Tryd.ntmps13
          go_wp2_with fail
          rw [← HX.out, ← HW0.out]
          refine (HNM.out _ HB0.out).mono ?_
          rintro e w1 ⟨rfl, rfl⟩
          go_wp2_with fail
          refine (HNU.out _ HB0.out).mono ?_
          rintro e w2 ⟨v, rfl, ho2, hb2⟩
          have hm2 := (hb2.block _ (own_lt HM0.out)).trans HM0.out
          have hx2 := (hb2.block _ (own_lt HX0.out)).trans HX0.out
          have hcc := HCX.out (X + 1) w2 v (ho2.mono (by have := own_lt HX0.out; omega)) (fun W' hW' => (own_cell ((hW'.block _ (own_lt hm2)).trans hm2)).trans rfl)
          obtain ⟨va, vc, rfl⟩ := ho2.is.form
          have HC := Lib.hid hcc; clear hcc
          have HB2 := Lib.hid (HB0.out.trans (hb2.mono (by have := own_lt HX0.out; omega))); clear hb2 ho2 hm2
          have HX2 := Lib.hid hx2; clear hx2
          clear x00 x01 x02 x03 x04 x05
          go_wp2_with fail
          refine HC.out.mono ?_
          rintro e w3 ⟨rfl, hb3⟩
          have hx3 := (hb3.block _ (own_lt HX2.out)).trans HX2.out
          have HB3 := Lib.hid (HB2.out.trans (hb3.mono (by have := own_lt HX2.out; omega))); clear hb3
          have x30 : w3.cell? ⟨X, 0, none⟩ = some (.int .i64 5) := (own_cell hx3).trans rfl
          have x31 : w3.cell? ⟨X, 1, none⟩ = some (.int .i64 n) := (own_cell hx3).trans rfl
          have x34 : w3.cell? ⟨X, 4, none⟩ = some (.slice da draws.length dc) := (own_cell hx3).trans rfl
          have x35 : w3.cell? ⟨X, 5, none⟩ = some (.string text) := (own_cell hx3).trans rfl
          clear hx3
          go_wp2_with fail
          go_ret
          exact ⟨rfl, HB3.out⟩
        · rw [if_neg (by simp; omega), if_neg (by simp)] at hck
          subst hck
          have hd' : ¬ (4096 : Int) < (draws.length : Int) := by omega
          go_enter Tryd.func13, Tryd.ntmps13
          go_wp2_with fail
          rw [← HX.out, ← HW0.out]
          refine (HNM.out _ HB0.out).mono ?_
          rintro e w1 ⟨rfl, rfl⟩
          go_wp2_with fail
          refine (HNU.out _ HB0.out).mono ?_
          rintro e w2 ⟨v, rfl, ho2, hb2⟩
          have hm2 := (hb2.block _ (own_lt HM0.out)).trans HM0.out
          have hx2 := (hb2.block _ (own_lt HX0.out)).trans HX0.out
          have hcc := HCX.out (X + 1) w2 v (ho2.mono (by have := own_lt HX0.out; omega)) (fun W' hW' => (own_cell ((hW'.block _ (own_lt hm2)).trans hm2)).trans rfl)
          obtain ⟨va, vc, rfl⟩ := ho2.is.form
          have HC := Lib.hid hcc; clear hcc
          have HB2 := Lib.hid (HB0.out.trans (hb2.mono (by have := own_lt HX0.out; omega))); clear hb2 ho2 hm2
          have HX2 := Lib.hid hx2; clear hx2
          clear x00 x01 x02 x03 x04 x05
          go_wp2_with fail
          refine HC.out.mono ?_
          rintro e w3 ⟨rfl, hb3⟩
          have hx3 := (hb3.block _ (own_lt HX2.out)).trans HX2.out
          have HB3 := Lib.hid (HB2.out.trans (hb3.mono (by have := own_lt HX2.out; omega))); clear hb3
          have x30 : w3.cell? ⟨X, 0, none⟩ = some (.int .i64 5) := (own_cell hx3).trans rfl
          have x31 : w3.cell? ⟨X, 1, none⟩ = some (.int .i64 n) := (own_cell hx3).trans rfl
          have x34 : w3.cell? ⟨X, 4, none⟩ = some (.slice da draws.length dc) := (own_cell hx3).trans rfl
          have x35 : w3.cell? ⟨X, 5, none⟩ = some (.string text) := (own_cell hx3).trans rfl
          clear hx3
          go_wp2_with fail
          go_ret
          exact ⟨rfl, HB3.out⟩
      rw [if_neg (by simp [h5])] at hck
      by_cases h1 : kind = 1
      · subst h1
        have hck' : ck = if lb = false then 21 else 0 := by simpa using hck
        clear hck
        cases lb with
        | true =>
          have e : ck = 0 := by simpa using hck'
          clear hck'
          subst e
          go_enter Tryd.func13, Tryd.ntmps13
          go_wp2_with fail
          rw [← HX.out, ← HW0.out]
          refine (HNM.out _ HB0.out).mono ?_
          rintro e w1 ⟨rfl, rfl⟩
          go_wp2_with fail
          refine (HNU.out _ HB0.out).mono ?_
          rintro e w2 ⟨v, rfl, ho2, hb2⟩
          have hm2 := (hb2.block _ (own_lt HM0.out)).trans HM0.out
          have hx2 := (hb2.block _ (own_lt HX0.out)).trans HX0.out
          have hcc := HCX.out (X + 1) w2 v (ho2.mono (by have := own_lt HX0.out; omega)) (fun W' hW' => (own_cell ((hW'.block _ (own_lt hm2)).trans hm2)).trans rfl)
          obtain ⟨va, vc, rfl⟩ := ho2.is.form
          have HC := Lib.hid hcc; clear hcc
          have HB2 := Lib.hid (HB0.out.trans (hb2.mono (by have := own_lt HX0.out; omega))); clear hb2 ho2 hm2
          have HX2 := Lib.hid hx2; clear hx2
          clear x00 x01 x02 x03 x04 x05
          go_wp2_with fail
          refine HC.out.mono ?_
          rintro e w3 ⟨rfl, hb3⟩
          have hx3 := (hb3.block _ (own_lt HX2.out)).trans HX2.out
          have HB3 := Lib.hid (HB2.out.trans (hb3.mono (by have := own_lt HX2.out; omega))); clear hb3
          have x30 : w3.cell? ⟨X, 0, none⟩ = some (.int .i64 1) := (own_cell hx3).trans rfl
          have x31 : w3.cell? ⟨X, 1, none⟩ = some (.int .i64 n) := (own_cell hx3).trans rfl
          have x34 : w3.cell? ⟨X, 4, none⟩ = some (.slice da draws.length dc) := (own_cell hx3).trans rfl
          have x35 : w3.cell? ⟨X, 5, none⟩ = some (.string text) := (own_cell hx3).trans rfl
          clear hx3
          go_wp2_with fail
          refine (HLI.out _ HB3.out).mono ?_
          rintro e w4 ⟨rfl, hb4⟩
          have HB4 := Lib.hid (HB3.out.trans (hb4.mono (by have := HB3.out.size; have := HX.out; omega))); clear hb4
          go_wp2_with fail
          go_ret
          exact ⟨rfl, HB4.out⟩
        | false =>
          have e : ck = 21 := by simpa using hck'
          clear hck'
          subst e
          go_enter Tryd.func13, Tryd.ntmps13
          go_wp2_with fail
          rw [← HX.out, ← HW0.out]
          refine (HNM.out _ HB0.out).mono ?_
          rintro e w1 ⟨rfl, rfl⟩
          go_wp2_with fail
          refine (HNU.out _ HB0.out).mono ?_
          rintro e w2 ⟨v, rfl, ho2, hb2⟩
          have hm2 := (hb2.block _ (own_lt HM0.out)).trans HM0.out
          have hx2 := (hb2.block _ (own_lt HX0.out)).trans HX0.out
          have hcc := HCX.out (X + 1) w2 v (ho2.mono (by have := own_lt HX0.out; omega)) (fun W' hW' => (own_cell ((hW'.block _ (own_lt hm2)).trans hm2)).trans rfl)
          obtain ⟨va, vc, rfl⟩ := ho2.is.form
          have HC := Lib.hid hcc; clear hcc
          have HB2 := Lib.hid (HB0.out.trans (hb2.mono (by have := own_lt HX0.out; omega))); clear hb2 ho2 hm2
          have HX2 := Lib.hid hx2; clear hx2
          clear x00 x01 x02 x03 x04 x05
          go_wp2_with fail
          refine HC.out.mono ?_
          rintro e w3 ⟨rfl, hb3⟩
          have hx3 := (hb3.block _ (own_lt HX2.out)).trans HX2.out
          have HB3 := Lib.hid (HB2.out.trans (hb3.mono (by have := own_lt HX2.out; omega))); clear hb3
          have x30 : w3.cell? ⟨X, 0, none⟩ = some (.int .i64 1) := (own_cell hx3).trans rfl
          have x31 : w3.cell? ⟨X, 1, none⟩ = some (.int .i64 n) := (own_cell hx3).trans rfl
          have x34 : w3.cell? ⟨X, 4, none⟩ = some (.slice da draws.length dc) := (own_cell hx3).trans rfl
          have x35 : w3.cell? ⟨X, 5, none⟩ = some (.string text) := (own_cell hx3).trans rfl
          clear hx3
          go_wp2_with fail
          refine (HLI.out _ HB3.out).mono ?_
          rintro e w4 ⟨rfl, hb4⟩
          have HB4 := Lib.hid (HB3.out.trans (hb4.mono (by have := HB3.out.size; have := HX.out; omega))); clear hb4
          go_wp2_with fail
          go_ret
          exact ⟨rfl, HB4.out⟩
      · rw [if_neg (by simp [h1])] at hck
        subst hck
        go_enter Tryd.func13, Tryd.ntmps13
        go_wp2_with fail
        rw [← HX.out, ← HW0.out]
        refine (HNM.out _ HB0.out).mono ?_
        rintro e w1 ⟨rfl, rfl⟩
        go_wp2_with fail
        refine (HNU.out _ HB0.out).mono ?_
        rintro e w2 ⟨v, rfl, ho2, hb2⟩
        have hm2 := (hb2.block _ (own_lt HM0.out)).trans HM0.out
        have hx2 := (hb2.block _ (own_lt HX0.out)).trans HX0.out
        have hcc := HCX.out (X + 1) w2 v (ho2.mono (by have := own_lt HX0.out; omega)) (fun W' hW' => (own_cell ((hW'.block _ (own_lt hm2)).trans hm2)).trans rfl)
        obtain ⟨va, vc, rfl⟩ := ho2.is.form
        have HC := Lib.hid hcc; clear hcc
        have HB2 := Lib.hid (HB0.out.trans (hb2.mono (by have := own_lt HX0.out; omega))); clear hb2 ho2 hm2
        have HX2 := Lib.hid hx2; clear hx2
        clear x00 x01 x02 x03 x04 x05
        go_wp2_with fail
        refine HC.out.mono ?_
        rintro e w3 ⟨rfl, hb3⟩
        have hx3 := (hb3.block _ (own_lt HX2.out)).trans HX2.out
        have HB3 := Lib.hid (HB2.out.trans (hb3.mono (by have := own_lt HX2.out; omega))); clear hb3
        have x30 : w3.cell? ⟨X, 0, none⟩ = some (.int .i64 kind) := (own_cell hx3).trans rfl
        have x31 : w3.cell? ⟨X, 1, none⟩ = some (.int .i64 n) := (own_cell hx3).trans rfl
        have x34 : w3.cell? ⟨X, 4, none⟩ = some (.slice da draws.length dc) := (own_cell hx3).trans rfl
        have x35 : w3.cell? ⟨X, 5, none⟩ = some (.string text) := (own_cell hx3).trans rfl
        clear hx3
        go_wp2_with fail
        go_ret
        exact ⟨rfl, HB3.out⟩
end Vb
end Go.Proofs.YtmegapelibaanaaDoor
