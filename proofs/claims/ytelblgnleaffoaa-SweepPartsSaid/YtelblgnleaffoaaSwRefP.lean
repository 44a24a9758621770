/- The document's Parts: a list in m parts. -/
import Derived.Test.YtelblgnleaffoaaSwParts
namespace Go.Proofs.Ytelblgnleaffoaa
open Go.RowKit
namespace Sw
open Go.Lib
set_option linter.unusedVariables false
theorem one_at {w : World} {B : Nat} (h : B = w.heap.size) (v : Value) (t : TypeId) : ∀ j u, [v][j]? = some u → (w.alloc (.cells #[v] t)).cell? ((⟨B, 0, none⟩ : Addr).add j) = some u := by rw [h]; exact one_cell w v t
theorem slice_cell (w : World) (v : Value) (t : TypeId) : ∀ j u, [v][j]? = some u → (w.alloc (.cells #[v] t)).cell? ((⟨w.heap.size, 0, none⟩ : Addr).add j) = some u := one_cell w v t
theorem own_new {w wr : World} {x : Nat → Int} (h : w.heap.size ≤ wr.heap.size) : (wr.alloc (.cells #[] 3)).ownsRow w.heap.size 3 1 (.slice (some ⟨wr.heap.size, 0, none⟩) 0 0) 0 (intsV 0 x) := World.ownsRow_made wr #[] 0 h (Nat.zero_le _) (by simp)
/-- One part more. -/
theorem prow_more {w w1 : World} {base k n : Nat} {L : Nat → Nat} {Z : Nat → Nat → Int} {xs : List Value} {v pv : Value} (ho : w.ownsRow base 22 1 v k xs) (hp : PRow w base L Z k xs)
    (hv : w.ownsRow base 3 1 pv n (intsV n (Z k))) (hL : n = L k) (hl : xs.length = k) (hg : w.grownBy w1 v.ownBlock) : PRow w1 base L Z (k + 1) (xs ++ [pv]) := by
  intro j hj
  rcases Nat.lt_or_ge j k with h | h
  · obtain ⟨p, h1, h2⟩ := hp j h
    exact ⟨p, by rw [List.getElem?_append_left (by omega)]; exact h1, h2.kept hg (own_ne h2 ho (by decide))⟩
  · obtain rfl : j = k := by omega
    refine ⟨pv, by rw [List.getElem?_append_right (by omega), hl, Nat.sub_self]; rfl, ?_⟩
    rw [← hL]
    exact hv.kept hg (own_ne hv ho (by decide))
theorem PRow.alloc {w : World} {base k : Nat} {L : Nat → Nat} {Z : Nat → Nat → Int} {xs : List Value} (h : PRow w base L Z k xs) (o : Obj) : PRow (w.alloc o) base L Z k xs := fun j hj => by
  obtain ⟨p, h1, h2⟩ := h j hj
  exact ⟨p, h1, h2.alloc o⟩
/-- The world a round ends in. -/
def Round (w wx : World) (M k n : Nat) (x : Nat → Int) (v : Value) (xs : List Value) : Prop :=
  wx.ownsRow w.heap.size 22 1 v k xs ∧ PRow wx w.heap.size (lenN n M) (fun j i => x (offN n M j + i)) k xs ∧ Below w.heap.size w wx
theorem stage1 {w wr w1 : World} {M k n : Nat} {x : Nat → Int} {v : Value} {xs : List Value} {o : Obj} (h : Round w wr M k n x v xs) (hg : (wr.alloc o).grownBy w1 (some wr.heap.size)) : Round w w1 M k n x v xs := by
  refine ⟨(h.1.alloc o).kept hg (Or.inr fun e => ?_), fun j hj => ?_, (h.2.2.alloc h.2.2.size o).grown hg (Nat.le_trans h.2.2.size (by simp)) (fun k hk => by injection hk with hk; rw [← hk]; exact h.2.2.size)⟩
  · have := (h.1.lt _ e).2; omega
  · obtain ⟨p, h1, h2⟩ := h.2.1 j hj
    refine ⟨p, h1, (h2.alloc o).kept hg (Or.inr fun e => ?_)⟩
    have := (h2.lt _ e).2; omega
theorem stage1n {w wr : World} {M k n : Nat} {x : Nat → Int} {v : Value} {xs : List Value} (o : Obj) (h : Round w wr M k n x v xs) : Round w (wr.alloc o) M k n x v xs :=
  ⟨h.1.alloc o, h.2.1.alloc o, h.2.2.alloc h.2.2.size o⟩
theorem stage2 {w w1 w4 : World} {M k n mn : Nat} {x : Nat → Int} {v v4 pv : Value} {xs : List Value} {o : Obj} (h : Round w w1 M k n x v xs) (hpv : w1.ownsRow w.heap.size 3 1 pv mn (intsV mn (fun i => x (offN n M k + i)))) (hmn : mn = lenN n M k)
    (ho : w4.ownsRow w.heap.size 22 1 v4 (k + 1) (xs ++ [pv])) (hg : (w1.alloc o).grownBy w4 v.ownBlock) : Round w w4 M (k + 1) n x v4 (xs ++ [pv]) := by
  have hl : xs.length = k := by simpa using h.1.1
  refine ⟨ho, prow_more (w := w1.alloc o) (h.1.alloc o) (h.2.1.alloc o) (hpv.alloc o) hmn hl hg, below_grew (h.2.2.alloc h.2.2.size o) (Nat.le_trans h.2.2.size (by simp)) (Nat.le_refl _) (h.1.alloc o) hg⟩
theorem src_none {w : World} {ad : Addr} {mn : Nat} {x : Nat → Int} (h : mn = 0) : ∀ j u, (intsV mn x)[j]? = some u → w.cell? (ad.add j) = some u := by
  intro j u hu
  rw [h] at hu
  simp [intsV] at hu
theorem src_some {w wr : World} {b off f mn n : Nat} {x : Nat → Int} {o : Obj} (hb : Below w.heap.size w wr) (hbw : b < w.heap.size) (hc : ∀ j, j < n → w.cell? ⟨b, off + j, none⟩ = some (.int .i64 (x j))) (hf : f + mn ≤ n) :
    ∀ j u, (intsV mn (fun i => x (f + i)))[j]? = some u → (wr.alloc o).cell? ((⟨b, off + f, none⟩ : Addr).add j) = some u := by
  intro j u hu
  have hj : j < mn := by
    rcases Nat.lt_or_ge j mn with h | h
    · exact h
    · rw [List.getElem?_eq_none (by rw [intsV_len]; exact h)] at hu; cases hu
  simp [intsV, hj] at hu
  rw [Addr.add_lit, World.cell?_alloc_lt _ _ _ (by show b < wr.heap.size; exact Nat.lt_of_lt_of_le hbw hb.size), hb.cell (by exact hbw), ← hu, Nat.add_assoc]
  exact hc (f + j) (by omega)
set_option maxHeartbeats 0 in
set_option maxRecDepth 100000 in
theorem refParts_one (a : Option Addr) (n cap : Nat) (x : Nat → Int) (m : Int) (M : Nat) (w : World) (hx : IsXs w a n x) (hcap : n ≤ cap) (hcm : cap ≤ maxLen) (hnil : a = none → n = 0 ∧ cap = 0) (hn1 : n ≤ 1000) (hm : m ≤ 1000) (hm1 : m < 1) (hM : M = 1) :
    Calls Try.prog 8 #[.slice a n cap, .int .i64 m] w (PartsP n M x w) := by
  obtain ⟨i0, hi, hz0, hz1, hz2⟩ := info_parts info_ints
  obtain ⟨j0, ji, jz0, jz1, jz2⟩ := info_parts info_int
  have hM1 : 1 ≤ M := by omega
  have hM2 : M ≤ 1000 := by omega
  have HMI := Lib.hid (show (M : Int) = 1 by omega)
  clear hM
  have HX := Lib.hid hx; clear hx
  have HNIL := Lib.hid hnil; clear hnil
  go_enter Try.func8, Try.ntmps8
  go_wp2_with fail
  go_loopg [5, 6, 7, 8, 9] M (fun gg s5 s6 s7 _ _ wr => ∃ (k f : Nat) (xs : List Value), k ≤ M ∧ M - k ≤ gg ∧ s7 = .int .i64 k ∧ s6 = .int .i64 f ∧ Hid (f = offN n M k) ∧ Hid (Round w wr M k n x s5 xs))
  case atStart =>
    refine ⟨0, 0, [], Nat.zero_le _, by omega, rfl, rfl, Lib.hid (offN_zero n M).symm, Lib.hid ⟨World.ownsRow_made w #[] 0 (Nat.le_refl _) (Nat.zero_le _) (by simp), fun j hj => absurd hj (by omega), (Below.refl _ _).alloc (Nat.le_refl _) _⟩⟩
  case round =>
    obtain ⟨k, f, xs, hk, hgk, rfl, rfl, HF, HR⟩ := hrel
    by_cases hlt : k < M
    · have hfn : f ≤ n := by rw [HF.out]; exact offN_le hM1 hk
      have HZ := Lib.hid HR.out.2.2.size
      obtain ⟨rem, hrem⟩ : ∃ rem, rem = n - f := ⟨_, rfl⟩
      obtain ⟨mn, hmn⟩ : ∃ mn, mn = lenN n M k := ⟨_, rfl⟩
      obtain ⟨d, hd⟩ : ∃ d, d = M - k := ⟨_, rfl⟩
      obtain ⟨s, hs⟩ : ∃ s, s = rem + M := ⟨_, rfl⟩
      obtain ⟨t, ht⟩ : ∃ t, t = s - k := ⟨_, rfl⟩
      obtain ⟨u, hu⟩ : ∃ u, u = t - 1 := ⟨_, rfl⟩
      obtain ⟨f2, hf2⟩ : ∃ f2, f2 = f + mn := ⟨_, rfl⟩
      have hmr : f2 ≤ n := by
        have h1 := offN_le (n := n) hM1 (show k + 1 ≤ M by omega)
        rw [offN_succ, ← hmn, ← HF.out] at h1
        omega
      have hfs : f2 = offN n M (k + 1) := by rw [offN_succ, ← hmn, ← HF.out]; exact hf2
      have q6 : (u : Int).tdiv (d : Int) = (mn : Int) := by
        rw [← Int.ofNat_tdiv, hmn, ← lenN_up_div hlt, ← HF.out, hu, ht, hs, hrem, hd]
        congr 2
        omega
      rcases Nat.eq_zero_or_pos mn with h0 | hp
      · rw [h0] at q6 hmn
        have q6' : (u : Int).tdiv (d : Int) = 0 := q6
        clear q6
        have HMN := Lib.hid hmn
        have HF2 := Lib.hid (show f = offN n M (k + 1) by omega)
        have q1 : (n : Int) - (f : Int) = (rem : Int) := by omega
        have q2 : (rem : Int) + (1 : Int) = (s : Int) := by have := HMI.out; omega
        have q3 : (s : Int) - (k : Int) = (t : Int) := by omega
        have q4 : (t : Int) - 1 = (u : Int) := by omega
        have q5 : (1 : Int) - (k : Int) = (d : Int) := by have := HMI.out; omega
        have r1 : IntKind.i64.wrap (rem : Int) = (rem : Int) := IntWalk.i64_in _ (by omega)
        have r2 : IntKind.i64.wrap (s : Int) = (s : Int) := IntWalk.i64_in _ (by omega)
        have r3 : IntKind.i64.wrap (t : Int) = (t : Int) := IntWalk.i64_in _ (by omega)
        have r4 : IntKind.i64.wrap (u : Int) = (u : Int) := IntWalk.i64_in _ (by omega)
        have r5 : IntKind.i64.wrap (d : Int) = (d : Int) := IntWalk.i64_in _ (by omega)
        have r7 : IntKind.i64.wrap (f : Int) = (f : Int) := IntWalk.i64_in _ (by omega)
        have d0 : ((d : Int) == 0) = false := by simp; omega
        have d1 : ¬ (d : Int) = 0 := by omega
        have c1 : (f : Int) ≤ (f : Int) := by omega
        have c2 : (f : Int) ≤ (cap : Int) := by omega
        have hl : (k : Int) < (1 : Int) := by have := HMI.out; omega
        clear hrem hmn hd hs ht hu hf2 h0 hfs hmr
        rcases a with _ | ad
        · have HPV := Lib.hid (own_new HZ.out (x := fun i => x (offN n M k + i)))
          have HR1 := Lib.hid (stage1n (.cells #[] 3) HR.out)
          have hk3 : k + 1 ≤ 1000 := by omega
          have hcf0 : cap - f = 0 := by have := HNIL.out rfl; omega
          go_wp2_with (first | (at_builtin; refine wpList_append_own_none rfl _ _ 22 rfl w.heap.size 3 j0 1 Try.underlying22 ji _ _ _ rfl (World.ownsRow_made wr #[] 0 HZ.out (Nat.zero_le _) (by simp)) rfl ?_) | (at_builtin; refine wpList_append_own _ rfl _ _ 24 rfl w.heap.size 22 i0 (.slice none 0 0) 1 24 Try.underlying24 hi hz0 hz1 hz2 rfl (by decide) _ _ _ rfl (HR1.out.1.alloc _) ⟨wr.heap.size + 1, 0, none⟩ 1 1 [.slice (some ⟨wr.heap.size, 0, none⟩) 0 0] rfl rfl ?z1e1 ?z1e2 ?z1e3 ?z1e4 ?z1e5 ?_))
          (try case z1e1 => exact one_at (by simp) _ _)
          case z1e2 => first | rfl | (intro u hu; simp at hu; subst hu; rfl)
          case z1e3 => unfold maxLen; omega
          case z1e4 => omega
          case z1e5 => first | (have := HR1.out.2.2.size; simp; omega) | (have := HZ.out; simp; omega)
          intro v4 w4 ho4 hg4 _
          have HR4 := Lib.hid (stage2 HR1.out HPV.out HMN.out ho4 hg4); clear ho4 hg4
          go_wp2_with fail
          go_roundg (M - (k + 1))
          case measure => omega
          case rel => exact ⟨k + 1, f, _, by omega, Nat.le_refl _, by go_num, rfl, HF2, HR4⟩
        · have hk3 : k + 1 ≤ 1000 := by omega
          by_cases hcf : cap = f
          · subst hcf
            go_wp2_with (at_builtin; refine wpList_append_own _ rfl _ _ 22 rfl w.heap.size 3 j0 (.int .i64 0) 1 8 Try.underlying22 ji jz0 jz1 jz2 rfl (by decide) _ _ _ rfl (World.ownsRow_made wr #[] 0 HZ.out (Nat.zero_le _) (by simp)) _ 0 _ (intsV 0 (fun i => x (offN n M k + i))) rfl ?z2d1 ?z2d2 ?z2d3 ?z2d4 ?z2d5 ?z2d6 ?_)
            case z2d1 => first | rfl | rw [intsV_len, Nat.mul_one]
            (try case z2d2 => exact src_none rfl)
            (try case z2d3 => (intro u hu; simp [intsV] at hu))
            (try case z2d4 => (unfold maxLen; omega))
            (try case z2d5 => omega)
            (try case z2d6 => (have := HZ.out; simp; omega))
            intro v' w1 hown' hgrow _
            have HPV := Lib.hid (show w1.ownsRow w.heap.size 3 1 v' 0 (intsV 0 (fun i => x (offN n M k + i))) by simpa using hown'); clear hown'
            have HR1 := Lib.hid (stage1 HR.out hgrow); clear hgrow
            obtain ⟨a2, c2, rfl, _, _, _⟩ := isXs_own HPV.out
            go_wp2_with (at_builtin; refine wpList_append_own _ rfl _ _ 24 rfl w.heap.size 22 i0 (.slice none 0 0) 1 24 Try.underlying24 hi hz0 hz1 hz2 rfl (by decide) _ _ _ rfl (HR1.out.1.alloc _) ⟨w1.heap.size, 0, none⟩ 1 1 [.slice a2 0 c2] rfl rfl ?z3e1 ?z3e2 ?z3e3 ?z3e4 ?z3e5 ?_)
            (try case z3e1 => exact one_at (by simp) _ _)
            case z3e2 => first | rfl | (intro u hu; simp at hu; subst hu; rfl)
            case z3e3 => unfold maxLen; omega
            case z3e4 => omega
            case z3e5 => first | (have := HR1.out.2.2.size; simp; omega) | (have := HZ.out; simp; omega)
            intro v4 w4 ho4 hg4 _
            have HR4 := Lib.hid (stage2 HR1.out HPV.out HMN.out ho4 hg4); clear ho4 hg4
            go_wp2_with fail
            go_roundg (M - (k + 1))
            case measure => omega
            case rel => exact ⟨k + 1, cap, _, by omega, Nat.le_refl _, by go_num, rfl, HF2, HR4⟩
          · have hff : f = f := rfl
            go_wp2_with (at_builtin; refine wpList_append_own _ rfl _ _ 22 rfl w.heap.size 3 j0 (.int .i64 0) 1 8 Try.underlying22 ji jz0 jz1 jz2 rfl (by decide) _ _ _ rfl (World.ownsRow_made wr #[] 0 HZ.out (Nat.zero_le _) (by simp)) _ 0 _ (intsV 0 (fun i => x (offN n M k + i))) rfl ?z4d1 ?z4d2 ?z4d3 ?z4d4 ?z4d5 ?z4d6 ?_)
            case z4d1 => first | rfl | rw [intsV_len, Nat.mul_one]
            (try case z4d2 => exact src_none rfl)
            (try case z4d3 => (intro u hu; simp [intsV] at hu))
            (try case z4d4 => (unfold maxLen; omega))
            (try case z4d5 => omega)
            (try case z4d6 => (have := HZ.out; simp; omega))
            intro v' w1 hown' hgrow _
            have HPV := Lib.hid (show w1.ownsRow w.heap.size 3 1 v' 0 (intsV 0 (fun i => x (offN n M k + i))) by simpa using hown'); clear hown'
            have HR1 := Lib.hid (stage1 HR.out hgrow); clear hgrow
            obtain ⟨a2, c2, rfl, _, _, _⟩ := isXs_own HPV.out
            go_wp2_with (at_builtin; refine wpList_append_own _ rfl _ _ 24 rfl w.heap.size 22 i0 (.slice none 0 0) 1 24 Try.underlying24 hi hz0 hz1 hz2 rfl (by decide) _ _ _ rfl (HR1.out.1.alloc _) ⟨w1.heap.size, 0, none⟩ 1 1 [.slice a2 0 c2] rfl rfl ?z5e1 ?z5e2 ?z5e3 ?z5e4 ?z5e5 ?_)
            (try case z5e1 => exact one_at (by simp) _ _)
            case z5e2 => first | rfl | (intro u hu; simp at hu; subst hu; rfl)
            case z5e3 => unfold maxLen; omega
            case z5e4 => omega
            case z5e5 => first | (have := HR1.out.2.2.size; simp; omega) | (have := HZ.out; simp; omega)
            intro v4 w4 ho4 hg4 _
            have HR4 := Lib.hid (stage2 HR1.out HPV.out HMN.out ho4 hg4); clear ho4 hg4
            go_wp2_with fail
            go_roundg (M - (k + 1))
            case measure => omega
            case rel => exact ⟨k + 1, f, _, by omega, Nat.le_refl _, by go_num, rfl, HF2, HR4⟩
      · rcases HX.out with hn0 | ⟨b, off, rfl, hbw, hcx⟩
        · omega
        have HMN := Lib.hid hmn
        have HF2 := Lib.hid hfs
        have HEND := Lib.hid (show f + mn ≤ n by omega)
        have HCX := Lib.hid hcx
        have HBW := Lib.hid hbw
        have q1 : (n : Int) - (f : Int) = (rem : Int) := by omega
        have q2 : (rem : Int) + (1 : Int) = (s : Int) := by have := HMI.out; omega
        have q3 : (s : Int) - (k : Int) = (t : Int) := by omega
        have q4 : (t : Int) - 1 = (u : Int) := by omega
        have q5 : (1 : Int) - (k : Int) = (d : Int) := by have := HMI.out; omega
        have r1 : IntKind.i64.wrap (rem : Int) = (rem : Int) := IntWalk.i64_in _ (by omega)
        have r2 : IntKind.i64.wrap (s : Int) = (s : Int) := IntWalk.i64_in _ (by omega)
        have r3 : IntKind.i64.wrap (t : Int) = (t : Int) := IntWalk.i64_in _ (by omega)
        have r4 : IntKind.i64.wrap (u : Int) = (u : Int) := IntWalk.i64_in _ (by omega)
        have r5 : IntKind.i64.wrap (d : Int) = (d : Int) := IntWalk.i64_in _ (by omega)
        have r7 : IntKind.i64.wrap (f2 : Int) = (f2 : Int) := IntWalk.i64_in _ (by omega)
        have d0 : ((d : Int) == 0) = false := by simp; omega
        have d1 : ¬ (d : Int) = 0 := by omega
        have c1 : (f : Int) ≤ (f2 : Int) := by omega
        have c2 : (f2 : Int) ≤ (cap : Int) := by omega
        have hl : (k : Int) < (1 : Int) := by have := HMI.out; omega
        have q7 : (f : Int) + (mn : Int) = (f2 : Int) := by omega
        have r6 : IntKind.i64.wrap (mn : Int) = (mn : Int) := IntWalk.i64_in _ (by omega)
        have qd : f2 - f = mn := by omega
        have hm3 : mn ≤ 1000 := by omega
        have hk3 : k + 1 ≤ 1000 := by omega
        have n1 : ¬ cap = f := by omega
        have n2 : ¬ mn = 0 := by omega
        clear hrem hmn hd hs ht hu hf2 hfs hmr hcx
        go_wp2_with (at_builtin; refine wpList_append_own _ rfl _ _ 22 rfl w.heap.size 3 j0 (.int .i64 0) 1 8 Try.underlying22 ji jz0 jz1 jz2 rfl (by decide) _ _ _ rfl (World.ownsRow_made wr #[] 0 HZ.out (Nat.zero_le _) (by simp)) _ mn _ (intsV mn (fun i => x (offN n M k + i))) rfl ?z6d1 ?z6d2 ?z6d3 ?z6d4 ?z6d5 ?z6d6 ?_)
        case z6d1 => first | rfl | rw [intsV_len, Nat.mul_one]
        (try case z6d2 => exact HF.out ▸ src_some HR.out.2.2 HBW.out HCX.out HEND.out)
        (try case z6d3 => (intro u hu; simp [intsV] at hu; obtain ⟨_, _, rfl⟩ := hu; rfl))
        (try case z6d4 => (unfold maxLen; omega))
        (try case z6d5 => omega)
        (try case z6d6 => (have := HZ.out; simp; omega))
        intro v' w1 hown' hgrow _
        have HPV := Lib.hid (show w1.ownsRow w.heap.size 3 1 v' mn (intsV mn (fun i => x (offN n M k + i))) by simpa using hown'); clear hown'
        have HR1 := Lib.hid (stage1 HR.out hgrow); clear hgrow
        obtain ⟨a2, c2, rfl, _, _, _⟩ := isXs_own HPV.out
        go_wp2_with (at_builtin; refine wpList_append_own _ rfl _ _ 24 rfl w.heap.size 22 i0 (.slice none 0 0) 1 24 Try.underlying24 hi hz0 hz1 hz2 rfl (by decide) _ _ _ rfl (HR1.out.1.alloc _) ⟨w1.heap.size, 0, none⟩ 1 1 [.slice a2 mn c2] rfl rfl ?z7e1 ?z7e2 ?z7e3 ?z7e4 ?z7e5 ?_)
        (try case z7e1 => exact one_at (by simp) _ _)
        case z7e2 => first | rfl | (intro u hu; simp at hu; subst hu; rfl)
        case z7e3 => unfold maxLen; omega
        case z7e4 => omega
        case z7e5 => first | (have := HR1.out.2.2.size; simp; omega) | (have := HZ.out; simp; omega)
        intro v4 w4 ho4 hg4 _
        have HR4 := Lib.hid (stage2 HR1.out HPV.out HMN.out ho4 hg4); clear ho4 hg4
        go_wp2_with fail
        go_roundg (M - (k + 1))
        case measure => omega
        case rel => exact ⟨k + 1, f2, _, by omega, Nat.le_refl _, by go_num, rfl, HF2, HR4⟩
    · have hkM : k = M := by omega
      rw [hkM] at HR hk ⊢
      have hl : ¬ (M : Int) < (1 : Int) := by have := HMI.out; omega
      clear hlt
      go_wp2_with fail
      go_ret
      obtain ⟨g, cp, rfl, _, _⟩ := HR.out.1.form (by omega)
      exact ⟨g, cp, rfl, rowsAt_of HR.out.1 HR.out.2.1, HR.out.2.2⟩
set_option maxHeartbeats 0 in
set_option maxRecDepth 100000 in
theorem refParts_some (a : Option Addr) (n cap : Nat) (x : Nat → Int) (m : Int) (M : Nat) (w : World) (hx : IsXs w a n x) (hcap : n ≤ cap) (hcm : cap ≤ maxLen) (hnil : a = none → n = 0 ∧ cap = 0) (hn1 : n ≤ 1000) (hm : m ≤ 1000) (hmM : m = (M : Int)) (hM1 : 1 ≤ M) :
    Calls Try.prog 8 #[.slice a n cap, .int .i64 m] w (PartsP n M x w) := by
  obtain ⟨i0, hi, hz0, hz1, hz2⟩ := info_parts info_ints
  obtain ⟨j0, ji, jz0, jz1, jz2⟩ := info_parts info_int
  subst hmM
  have hM2 : M ≤ 1000 := by omega
  have hm1 : ¬ (M : Int) < 1 := by omega
  have HMI := Lib.hid (show (M : Int) = (M : Int) from rfl)
  have HX := Lib.hid hx; clear hx
  have HNIL := Lib.hid hnil; clear hnil
  go_enter Try.func8, Try.ntmps8
  go_wp2_with fail
  go_loopg [5, 6, 7, 8, 9] M (fun gg s5 s6 s7 _ _ wr => ∃ (k f : Nat) (xs : List Value), k ≤ M ∧ M - k ≤ gg ∧ s7 = .int .i64 k ∧ s6 = .int .i64 f ∧ Hid (f = offN n M k) ∧ Hid (Round w wr M k n x s5 xs))
  case atStart =>
    refine ⟨0, 0, [], Nat.zero_le _, by omega, rfl, rfl, Lib.hid (offN_zero n M).symm, Lib.hid ⟨World.ownsRow_made w #[] 0 (Nat.le_refl _) (Nat.zero_le _) (by simp), fun j hj => absurd hj (by omega), (Below.refl _ _).alloc (Nat.le_refl _) _⟩⟩
  case round =>
    obtain ⟨k, f, xs, hk, hgk, rfl, rfl, HF, HR⟩ := hrel
    by_cases hlt : k < M
    · have hfn : f ≤ n := by rw [HF.out]; exact offN_le hM1 hk
      have HZ := Lib.hid HR.out.2.2.size
      obtain ⟨rem, hrem⟩ : ∃ rem, rem = n - f := ⟨_, rfl⟩
      obtain ⟨mn, hmn⟩ : ∃ mn, mn = lenN n M k := ⟨_, rfl⟩
      obtain ⟨d, hd⟩ : ∃ d, d = M - k := ⟨_, rfl⟩
      obtain ⟨s, hs⟩ : ∃ s, s = rem + M := ⟨_, rfl⟩
      obtain ⟨t, ht⟩ : ∃ t, t = s - k := ⟨_, rfl⟩
      obtain ⟨u, hu⟩ : ∃ u, u = t - 1 := ⟨_, rfl⟩
      obtain ⟨f2, hf2⟩ : ∃ f2, f2 = f + mn := ⟨_, rfl⟩
      have hmr : f2 ≤ n := by
        have h1 := offN_le (n := n) hM1 (show k + 1 ≤ M by omega)
        rw [offN_succ, ← hmn, ← HF.out] at h1
        omega
      have hfs : f2 = offN n M (k + 1) := by rw [offN_succ, ← hmn, ← HF.out]; exact hf2
      have q6 : (u : Int).tdiv (d : Int) = (mn : Int) := by
        rw [← Int.ofNat_tdiv, hmn, ← lenN_up_div hlt, ← HF.out, hu, ht, hs, hrem, hd]
        congr 2
        omega
      rcases Nat.eq_zero_or_pos mn with h0 | hp
      · rw [h0] at q6 hmn
        have q6' : (u : Int).tdiv (d : Int) = 0 := q6
        clear q6
        have HMN := Lib.hid hmn
        have HF2 := Lib.hid (show f = offN n M (k + 1) by omega)
        have q1 : (n : Int) - (f : Int) = (rem : Int) := by omega
        have q2 : (rem : Int) + (M : Int) = (s : Int) := by have := HMI.out; omega
        have q3 : (s : Int) - (k : Int) = (t : Int) := by omega
        have q4 : (t : Int) - 1 = (u : Int) := by omega
        have q5 : (M : Int) - (k : Int) = (d : Int) := by have := HMI.out; omega
        have r1 : IntKind.i64.wrap (rem : Int) = (rem : Int) := IntWalk.i64_in _ (by omega)
        have r2 : IntKind.i64.wrap (s : Int) = (s : Int) := IntWalk.i64_in _ (by omega)
        have r3 : IntKind.i64.wrap (t : Int) = (t : Int) := IntWalk.i64_in _ (by omega)
        have r4 : IntKind.i64.wrap (u : Int) = (u : Int) := IntWalk.i64_in _ (by omega)
        have r5 : IntKind.i64.wrap (d : Int) = (d : Int) := IntWalk.i64_in _ (by omega)
        have r7 : IntKind.i64.wrap (f : Int) = (f : Int) := IntWalk.i64_in _ (by omega)
        have d0 : ((d : Int) == 0) = false := by simp; omega
        have d1 : ¬ (d : Int) = 0 := by omega
        have c1 : (f : Int) ≤ (f : Int) := by omega
        have c2 : (f : Int) ≤ (cap : Int) := by omega
        have hl : (k : Int) < (M : Int) := by have := HMI.out; omega
        clear hrem hmn hd hs ht hu hf2 h0 hfs hmr
        rcases a with _ | ad
        · have HPV := Lib.hid (own_new HZ.out (x := fun i => x (offN n M k + i)))
          have HR1 := Lib.hid (stage1n (.cells #[] 3) HR.out)
          have hk3 : k + 1 ≤ 1000 := by omega
          have hcf0 : cap - f = 0 := by have := HNIL.out rfl; omega
          go_wp2_with (first | (at_builtin; refine wpList_append_own_none rfl _ _ 22 rfl w.heap.size 3 j0 1 Try.underlying22 ji _ _ _ rfl (World.ownsRow_made wr #[] 0 HZ.out (Nat.zero_le _) (by simp)) rfl ?_) | (at_builtin; refine wpList_append_own _ rfl _ _ 24 rfl w.heap.size 22 i0 (.slice none 0 0) 1 24 Try.underlying24 hi hz0 hz1 hz2 rfl (by decide) _ _ _ rfl (HR1.out.1.alloc _) ⟨wr.heap.size + 1, 0, none⟩ 1 1 [.slice (some ⟨wr.heap.size, 0, none⟩) 0 0] rfl rfl ?z8e1 ?z8e2 ?z8e3 ?z8e4 ?z8e5 ?_))
          (try case z8e1 => exact one_at (by simp) _ _)
          case z8e2 => first | rfl | (intro u hu; simp at hu; subst hu; rfl)
          case z8e3 => unfold maxLen; omega
          case z8e4 => omega
          case z8e5 => first | (have := HR1.out.2.2.size; simp; omega) | (have := HZ.out; simp; omega)
          intro v4 w4 ho4 hg4 _
          have HR4 := Lib.hid (stage2 HR1.out HPV.out HMN.out ho4 hg4); clear ho4 hg4
          go_wp2_with fail
          go_roundg (M - (k + 1))
          case measure => omega
          case rel => exact ⟨k + 1, f, _, by omega, Nat.le_refl _, by go_num, rfl, HF2, HR4⟩
        · have hk3 : k + 1 ≤ 1000 := by omega
          by_cases hcf : cap = f
          · subst hcf
            go_wp2_with (at_builtin; refine wpList_append_own _ rfl _ _ 22 rfl w.heap.size 3 j0 (.int .i64 0) 1 8 Try.underlying22 ji jz0 jz1 jz2 rfl (by decide) _ _ _ rfl (World.ownsRow_made wr #[] 0 HZ.out (Nat.zero_le _) (by simp)) _ 0 _ (intsV 0 (fun i => x (offN n M k + i))) rfl ?z9d1 ?z9d2 ?z9d3 ?z9d4 ?z9d5 ?z9d6 ?_)
            case z9d1 => first | rfl | rw [intsV_len, Nat.mul_one]
            (try case z9d2 => exact src_none rfl)
            (try case z9d3 => (intro u hu; simp [intsV] at hu))
            (try case z9d4 => (unfold maxLen; omega))
            (try case z9d5 => omega)
            (try case z9d6 => (have := HZ.out; simp; omega))
            intro v' w1 hown' hgrow _
            have HPV := Lib.hid (show w1.ownsRow w.heap.size 3 1 v' 0 (intsV 0 (fun i => x (offN n M k + i))) by simpa using hown'); clear hown'
            have HR1 := Lib.hid (stage1 HR.out hgrow); clear hgrow
            obtain ⟨a2, c2, rfl, _, _, _⟩ := isXs_own HPV.out
            go_wp2_with (at_builtin; refine wpList_append_own _ rfl _ _ 24 rfl w.heap.size 22 i0 (.slice none 0 0) 1 24 Try.underlying24 hi hz0 hz1 hz2 rfl (by decide) _ _ _ rfl (HR1.out.1.alloc _) ⟨w1.heap.size, 0, none⟩ 1 1 [.slice a2 0 c2] rfl rfl ?z10e1 ?z10e2 ?z10e3 ?z10e4 ?z10e5 ?_)
            (try case z10e1 => exact one_at (by simp) _ _)
            case z10e2 => first | rfl | (intro u hu; simp at hu; subst hu; rfl)
            case z10e3 => unfold maxLen; omega
            case z10e4 => omega
            case z10e5 => first | (have := HR1.out.2.2.size; simp; omega) | (have := HZ.out; simp; omega)
            intro v4 w4 ho4 hg4 _
            have HR4 := Lib.hid (stage2 HR1.out HPV.out HMN.out ho4 hg4); clear ho4 hg4
            go_wp2_with fail
            go_roundg (M - (k + 1))
            case measure => omega
            case rel => exact ⟨k + 1, cap, _, by omega, Nat.le_refl _, by go_num, rfl, HF2, HR4⟩
          · have hff : f = f := rfl
            go_wp2_with (at_builtin; refine wpList_append_own _ rfl _ _ 22 rfl w.heap.size 3 j0 (.int .i64 0) 1 8 Try.underlying22 ji jz0 jz1 jz2 rfl (by decide) _ _ _ rfl (World.ownsRow_made wr #[] 0 HZ.out (Nat.zero_le _) (by simp)) _ 0 _ (intsV 0 (fun i => x (offN n M k + i))) rfl ?z11d1 ?z11d2 ?z11d3 ?z11d4 ?z11d5 ?z11d6 ?_)
            case z11d1 => first | rfl | rw [intsV_len, Nat.mul_one]
            (try case z11d2 => exact src_none rfl)
            (try case z11d3 => (intro u hu; simp [intsV] at hu))
            (try case z11d4 => (unfold maxLen; omega))
            (try case z11d5 => omega)
            (try case z11d6 => (have := HZ.out; simp; omega))
            intro v' w1 hown' hgrow _
            have HPV := Lib.hid (show w1.ownsRow w.heap.size 3 1 v' 0 (intsV 0 (fun i => x (offN n M k + i))) by simpa using hown'); clear hown'
            have HR1 := Lib.hid (stage1 HR.out hgrow); clear hgrow
            obtain ⟨a2, c2, rfl, _, _, _⟩ := isXs_own HPV.out
            go_wp2_with (at_builtin; refine wpList_append_own _ rfl _ _ 24 rfl w.heap.size 22 i0 (.slice none 0 0) 1 24 Try.underlying24 hi hz0 hz1 hz2 rfl (by decide) _ _ _ rfl (HR1.out.1.alloc _) ⟨w1.heap.size, 0, none⟩ 1 1 [.slice a2 0 c2] rfl rfl ?z12e1 ?z12e2 ?z12e3 ?z12e4 ?z12e5 ?_)
            (try case z12e1 => exact one_at (by simp) _ _)
            case z12e2 => first | rfl | (intro u hu; simp at hu; subst hu; rfl)
            case z12e3 => unfold maxLen; omega
            case z12e4 => omega
            case z12e5 => first | (have := HR1.out.2.2.size; simp; omega) | (have := HZ.out; simp; omega)
            intro v4 w4 ho4 hg4 _
            have HR4 := Lib.hid (stage2 HR1.out HPV.out HMN.out ho4 hg4); clear ho4 hg4
            go_wp2_with fail
            go_roundg (M - (k + 1))
            case measure => omega
            case rel => exact ⟨k + 1, f, _, by omega, Nat.le_refl _, by go_num, rfl, HF2, HR4⟩
      · rcases HX.out with hn0 | ⟨b, off, rfl, hbw, hcx⟩
        · omega
        have HMN := Lib.hid hmn
        have HF2 := Lib.hid hfs
        have HEND := Lib.hid (show f + mn ≤ n by omega)
        have HCX := Lib.hid hcx
        have HBW := Lib.hid hbw
        have q1 : (n : Int) - (f : Int) = (rem : Int) := by omega
        have q2 : (rem : Int) + (M : Int) = (s : Int) := by have := HMI.out; omega
        have q3 : (s : Int) - (k : Int) = (t : Int) := by omega
        have q4 : (t : Int) - 1 = (u : Int) := by omega
        have q5 : (M : Int) - (k : Int) = (d : Int) := by have := HMI.out; omega
        have r1 : IntKind.i64.wrap (rem : Int) = (rem : Int) := IntWalk.i64_in _ (by omega)
        have r2 : IntKind.i64.wrap (s : Int) = (s : Int) := IntWalk.i64_in _ (by omega)
        have r3 : IntKind.i64.wrap (t : Int) = (t : Int) := IntWalk.i64_in _ (by omega)
        have r4 : IntKind.i64.wrap (u : Int) = (u : Int) := IntWalk.i64_in _ (by omega)
        have r5 : IntKind.i64.wrap (d : Int) = (d : Int) := IntWalk.i64_in _ (by omega)
        have r7 : IntKind.i64.wrap (f2 : Int) = (f2 : Int) := IntWalk.i64_in _ (by omega)
        have d0 : ((d : Int) == 0) = false := by simp; omega
        have d1 : ¬ (d : Int) = 0 := by omega
        have c1 : (f : Int) ≤ (f2 : Int) := by omega
        have c2 : (f2 : Int) ≤ (cap : Int) := by omega
        have hl : (k : Int) < (M : Int) := by have := HMI.out; omega
        have q7 : (f : Int) + (mn : Int) = (f2 : Int) := by omega
        have r6 : IntKind.i64.wrap (mn : Int) = (mn : Int) := IntWalk.i64_in _ (by omega)
        have qd : f2 - f = mn := by omega
        have hm3 : mn ≤ 1000 := by omega
        have hk3 : k + 1 ≤ 1000 := by omega
        have n1 : ¬ cap = f := by omega
        have n2 : ¬ mn = 0 := by omega
        clear hrem hmn hd hs ht hu hf2 hfs hmr hcx
        go_wp2_with (at_builtin; refine wpList_append_own _ rfl _ _ 22 rfl w.heap.size 3 j0 (.int .i64 0) 1 8 Try.underlying22 ji jz0 jz1 jz2 rfl (by decide) _ _ _ rfl (World.ownsRow_made wr #[] 0 HZ.out (Nat.zero_le _) (by simp)) _ mn _ (intsV mn (fun i => x (offN n M k + i))) rfl ?z13d1 ?z13d2 ?z13d3 ?z13d4 ?z13d5 ?z13d6 ?_)
        case z13d1 => first | rfl | rw [intsV_len, Nat.mul_one]
        (try case z13d2 => exact HF.out ▸ src_some HR.out.2.2 HBW.out HCX.out HEND.out)
        (try case z13d3 => (intro u hu; simp [intsV] at hu; obtain ⟨_, _, rfl⟩ := hu; rfl))
        (try case z13d4 => (unfold maxLen; omega))
        (try case z13d5 => omega)
        (try case z13d6 => (have := HZ.out; simp; omega))
        intro v' w1 hown' hgrow _
        have HPV := Lib.hid (show w1.ownsRow w.heap.size 3 1 v' mn (intsV mn (fun i => x (offN n M k + i))) by simpa using hown'); clear hown'
        have HR1 := Lib.hid (stage1 HR.out hgrow); clear hgrow
        obtain ⟨a2, c2, rfl, _, _, _⟩ := isXs_own HPV.out
        go_wp2_with (at_builtin; refine wpList_append_own _ rfl _ _ 24 rfl w.heap.size 22 i0 (.slice none 0 0) 1 24 Try.underlying24 hi hz0 hz1 hz2 rfl (by decide) _ _ _ rfl (HR1.out.1.alloc _) ⟨w1.heap.size, 0, none⟩ 1 1 [.slice a2 mn c2] rfl rfl ?z14e1 ?z14e2 ?z14e3 ?z14e4 ?z14e5 ?_)
        (try case z14e1 => exact one_at (by simp) _ _)
        case z14e2 => first | rfl | (intro u hu; simp at hu; subst hu; rfl)
        case z14e3 => unfold maxLen; omega
        case z14e4 => omega
        case z14e5 => first | (have := HR1.out.2.2.size; simp; omega) | (have := HZ.out; simp; omega)
        intro v4 w4 ho4 hg4 _
        have HR4 := Lib.hid (stage2 HR1.out HPV.out HMN.out ho4 hg4); clear ho4 hg4
        go_wp2_with fail
        go_roundg (M - (k + 1))
        case measure => omega
        case rel => exact ⟨k + 1, f2, _, by omega, Nat.le_refl _, by go_num, rfl, HF2, HR4⟩
    · have hkM : k = M := by omega
      rw [hkM] at HR hk ⊢
      have hl : ¬ (M : Int) < (M : Int) := by have := HMI.out; omega
      clear hlt
      go_wp2_with fail
      go_ret
      obtain ⟨g, cp, rfl, _, _⟩ := HR.out.1.form (by omega)
      exact ⟨g, cp, rfl, rowsAt_of HR.out.1 HR.out.2.1, HR.out.2.2⟩
/-- The document's Parts: M parts. -/
theorem refParts_any (a : Option Addr) (n cap : Nat) (x : Nat → Int) (m : Int) (M : Nat) (w : World) (hx : IsXs w a n x) (hcap : n ≤ cap) (hcm : cap ≤ maxLen) (hnil : a = none → n = 0 ∧ cap = 0) (hn1 : n ≤ 1000) (hm : m ≤ 1000) (hM : (M : Int) = max m 1) :
    Calls Try.prog 8 #[.slice a n cap, .int .i64 m] w (PartsP n M x w) := by
  by_cases h : m < 1
  · exact refParts_one a n cap x m M w hx hcap hcm hnil hn1 hm h (by omega)
  · exact refParts_some a n cap x m M w hx hcap hcm hnil hn1 hm (by omega) (by omega)
end Sw
end Go.Proofs.Ytelblgnleaffoaa
