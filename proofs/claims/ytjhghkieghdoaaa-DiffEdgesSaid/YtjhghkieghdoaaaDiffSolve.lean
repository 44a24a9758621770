/- Solve and Way of package diff, over the translated program. -/
import Derived.Test.YtjhghkieghdoaaaDiffReach
import Derived.Test.YtjhghkieghdoaaaDiffRight
namespace Go.Proofs.Ytjhghkieghdoaaa
open Go.RowKit Go.Lib
namespace Diff
set_option linter.unusedVariables false
/-- a cycle that is told -/
def CircP (S : Sys) (w : World) (v : Value) (w' : World) : Prop :=
  ∃ g cc k x q, v = .slice (some ⟨g, 0, none⟩) k cc ∧ IsB w' g k q ∧ 1 ≤ k ∧ k ≤ S.n ∧ w.heap.size ≤ g ∧ x < S.n ∧ IsWay S q k x x ∧ wsum S q k < 0 ∧ ∀ fin X, ¬ Closed S fin X
/-- distances that are told -/
def DistP (S : Sys) (w : World) (v : Value) (w' : World) : Prop :=
  ∃ d D, v = .slice (some ⟨d, 0, none⟩) S.n S.n ∧ IsB w' d S.n D ∧ Good S D ∧ (∀ v, v < S.n → R S (S.n - 1) v = D v) ∧ w.heap.size ≤ d
/-- what Solve leaves of a right system -/
def SolveP (S : Sys) (w : World) (e : Ending) (w' : World) : Prop :=
  Below w.heap.size w w' ∧ ∃ v, ((e = .returned (.tuple #[v, .slice none 0 0, .int .i64 0]) ∧ DistP S w v w') ∨ (e = .returned (.tuple #[.slice none 0 0, v, .int .i64 0]) ∧ CircP S w v w'))
theorem solve_no (n s : Int) (a : Option Addr) (m c : Nat) (f t g : Nat → Int) (w : World) (he : IsEs w a m f t g) (hm : m ≤ 201) (hn : n ≤ 60) (hn0 : -9223372036854775808 ≤ n) (h : (rightB n m f t g && inB s n) = false) :
    Calls Try.prog 9 #[.int .i64 n, .slice a m c, .int .i64 s] w fun e w' => e = .returned (.tuple #[.slice none 0 0, .slice none 0 0, .int .i64 1]) ∧ Below w.heap.size w w' := by
  have hr := right_any n a m c f t g w he hm hn hn0
  cases h1 : rightB n m f t g with
  | false =>
    rw [h1] at hr
    have HR := Lib.hid hr; clear hr h1 h he
    go_enter Try.func9, Try.ntmps9
    go_wp2_with fail
    refine HR.out.mono ?_
    rintro e w1 ⟨rfl, hb⟩
    have HB := Lib.hid hb; clear hb
    go_wp2_with fail
    refine bodyPost_ret (v := .tuple #[.slice none 0 0, .slice none 0 0, .int .i64 1]) (by simp [results, Try.results9, go_sem]) rfl ⟨rfl, HB.out⟩
  | true =>
    rw [h1] at hr
    have h2 : inB s n = false := by simpa [h1] using h
    have HR := Lib.hid hr; clear hr h1 h he
    go_enter Try.func9, Try.ntmps9
    go_wp2_with fail
    refine HR.out.mono ?_
    rintro e w1 ⟨rfl, hb⟩
    have HB := Lib.hid hb; clear hb
    go_wp2_with fail
    refine (isIn_any s n w1).mono ?_
    rintro e w1 ⟨rfl, rfl⟩
    rw [h2]
    go_wp2_with fail
    refine bodyPost_ret (v := .tuple #[.slice none 0 0, .slice none 0 0, .int .i64 1]) (by simp [results, Try.results9, go_sem]) rfl ⟨rfl, HB.out⟩
theorem right_ok {S : Sys} (ok : S.Ok) : rightB S.n S.m (fun i => S.F i) (fun i => S.T i) S.W = true := by
  refine rightB_iff.2 ⟨by have := ok.hs; omega, fun j hj => ?_⟩
  have := ok.hF j hj; have := ok.hT j hj; have := ok.hW j hj
  exact ⟨⟨by omega, by omega⟩, ⟨by omega, by omega⟩, this⟩
theorem isIn_ok {n s : Nat} (h : s < n) : inB s n = true := inB_iff.2 ⟨by omega, by omega⟩
set_option maxHeartbeats 1000000 in
theorem solve_yes (S : Sys) (a : Option Addr) (c : Nat) (w : World) (ok : S.Ok) (he : IsEs w a S.m (fun i => S.F i) (fun i => S.T i) S.W) :
    Calls Try.prog 9 #[.int .i64 S.n, .slice a S.m c, .int .i64 S.s] w (SolveP S w) := by
  have hr := right_any S.n a S.m c (fun i => S.F i) (fun i => S.T i) S.W w he ok.hm (by have := ok.hn; omega) (by omega)
  rw [right_ok ok] at hr
  have hi := isIn_ok ok.hs
  have HR := Lib.hid hr; clear hr
  have HE := Lib.hid he; clear he
  have HI := Lib.hid hi; clear hi
  go_enter Try.func9, Try.ntmps9
  go_wp2_with fail
  refine HR.out.mono ?_
  rintro e w1 ⟨rfl, hb⟩
  have HB := Lib.hid hb; clear hb
  go_wp2_with fail
  refine (isIn_any _ _ w1).mono ?_
  rintro e w1 ⟨rfl, rfl⟩
  rw [HI.out]
  go_wp2_with fail
  refine (reach_any S a c w1 ok (HE.out.below HB.out)).mono ?_
  rintro e w2 ⟨hb2, d, l, ⟨D, L, k, rfl, hk, hst, hs, hrw, hd, hl⟩ | ⟨g, cc, k, x, q, rfl, hB, k1, k2, hg, hx, hw1, hw2, hno⟩⟩
  · have hgood := hst.good ok hk hs
    have hR := fun v hv => hst.R_eq ok hk hs (S.n - 1) (Nat.le_refl _) v hv
    have HD := Lib.hid hrw.dist
    have HG := Lib.hid hgood
    have HRE := Lib.hid hR
    have HB2 := Lib.hid hb2
    have hld : d < w2.heap.size := hrw.dist.lt
    clear hst hs hrw hgood hR hb2
    have hne : d ≠ w2.heap.size := by omega
    go_wp2_with fail
    refine bodyPost_ret (v := .tuple #[.slice (some ⟨d, 0, none⟩) S.n S.n, .slice none 0 0, .int .i64 0]) (by simp [results, Try.results9, go_sem]) rfl ?_
    have ha : Below w2.heap.size w2 (w2.alloc (.cells #[.slice a S.m c, .slice (some ⟨d, 0, none⟩) S.n S.n, .slice (some ⟨l, 0, none⟩) S.n S.n] 48)) := (Below.refl _ _).alloc (Nat.le_refl _) _
    have hbb := HB.out.trans (HB2.out.mono HB.out.size)
    exact ⟨hbb.trans (ha.mono hbb.size), _, .inl ⟨rfl, d, D, rfl, HD.out.below ha, HG.out, HRE.out, by have := HB.out.size; omega⟩⟩
  · have HB2 := Lib.hid hb2
    have HBB := Lib.hid hB
    have HW1 := Lib.hid hw1
    have HW2 := Lib.hid hw2
    have HNO := Lib.hid hno
    have hlg := hB.lt
    clear hb2 hB hw1 hw2 hno
    have hk0 : decide (0 < k) = true := by simp; omega
    have hk3 : decide ((0 : Int) < (k : Int)) = true := by simp; omega
    go_wp2_with fail
    refine bodyPost_ret (v := .tuple #[.slice none 0 0, .slice (some ⟨g, 0, none⟩) k cc, .int .i64 0]) (by simp [results, Try.results9, go_sem]) rfl ?_
    have ha : Below w2.heap.size w2 (w2.alloc (.cells #[.slice a S.m c, .slice (some ⟨d, 0, none⟩) S.n S.n, .slice (some ⟨l, 0, none⟩) S.n S.n] 48)) := (Below.refl _ _).alloc (Nat.le_refl _) _
    have hbb := HB.out.trans (HB2.out.mono HB.out.size)
    exact ⟨hbb.trans (ha.mono hbb.size), _, .inr ⟨rfl, g, cc, k, x, q, rfl, HBB.out.below ha, k1, k2, by have := HB.out.size; omega, hx, HW1.out, HW2.out, HNO.out⟩⟩
/-- what Way leaves of a right system -/
def WayP (S : Sys) (t : Nat) (w : World) (e : Ending) (w' : World) : Prop :=
  Below w.heap.size w w' ∧ ((e = .returned (.tuple #[.slice none 0 0, .int .i64 34]) ∧ ∀ fin X, ¬ Closed S fin X) ∨
    ∃ D, Good S D ∧ (∀ v, v < S.n → R S (S.n - 1) v = D v) ∧ ((e = .returned (.tuple #[.slice none 0 0, .int .i64 4]) ∧ D t = Far) ∨ (e = .returned (.tuple #[.slice none 0 0, .int .i64 0]) ∧ t = S.s ∧ D t = 0) ∨
      (∃ g cc k q, e = .returned (.tuple #[.slice (some ⟨g, 0, none⟩) k cc, .int .i64 0]) ∧ IsB w' g k q ∧ 1 ≤ k ∧ k ≤ S.n ∧ IsWay S q k S.s t ∧ wsum S q k = D t ∧ D t < Far)))
theorem way_no (n s t' : Int) (a : Option Addr) (m c : Nat) (f t g : Nat → Int) (w : World) (he : IsEs w a m f t g) (hm : m ≤ 201) (hn : n ≤ 60) (hn0 : -9223372036854775808 ≤ n) (h : (rightB n m f t g && inB s n && inB t' n) = false) :
    Calls Try.prog 15 #[.int .i64 n, .slice a m c, .int .i64 s, .int .i64 t'] w fun e w' => e = .returned (.tuple #[.slice none 0 0, .int .i64 1]) ∧ Below w.heap.size w w' := by
  have hr := right_any n a m c f t g w he hm hn hn0
  cases h1 : rightB n m f t g with
  | false =>
    rw [h1] at hr
    have HR := Lib.hid hr; clear hr h1 h he
    go_enter Try.func15, Try.ntmps15
    go_wp2_with fail
    refine HR.out.mono ?_
    rintro e w1 ⟨rfl, hb⟩
    have HB := Lib.hid hb; clear hb
    go_wp2_with fail
    refine bodyPost_ret (v := .tuple #[.slice none 0 0, .int .i64 1]) (by simp [results, Try.results15, go_sem]) rfl ⟨rfl, HB.out⟩
  | true =>
    rw [h1] at hr
    have HR := Lib.hid hr; clear hr he
    cases h2 : inB s n with
    | false =>
      clear h1 h
      go_enter Try.func15, Try.ntmps15
      go_wp2_with fail
      refine HR.out.mono ?_
      rintro e w1 ⟨rfl, hb⟩
      have HB := Lib.hid hb; clear hb
      go_wp2_with fail
      refine (isIn_any s n w1).mono ?_
      rintro e w1 ⟨rfl, rfl⟩
      rw [h2]
      go_wp2_with fail
      refine bodyPost_ret (v := .tuple #[.slice none 0 0, .int .i64 1]) (by simp [results, Try.results15, go_sem]) rfl ⟨rfl, HB.out⟩
    | true =>
      have h3 : inB t' n = false := by simpa [h1, h2] using h
      have H2 := Lib.hid h2
      have H3 := Lib.hid h3
      clear h1 h h2 h3
      go_enter Try.func15, Try.ntmps15
      go_wp2_with fail
      refine HR.out.mono ?_
      rintro e w1 ⟨rfl, hb⟩
      have HB := Lib.hid hb; clear hb
      go_wp2_with fail
      refine (isIn_any s n w1).mono ?_
      rintro e w1 ⟨rfl, rfl⟩
      rw [H2.out]
      go_wp2_with fail
      refine (isIn_any t' n w1).mono ?_
      rintro e w1 ⟨rfl, rfl⟩
      rw [H3.out]
      go_wp2_with fail
      refine bodyPost_ret (v := .tuple #[.slice none 0 0, .int .i64 1]) (by simp [results, Try.results15, go_sem]) rfl ⟨rfl, HB.out⟩
set_option maxHeartbeats 2000000 in
theorem way_yes (S : Sys) (t : Nat) (a : Option Addr) (c : Nat) (w : World) (ok : S.Ok) (ht : t < S.n) (he : IsEs w a S.m (fun i => S.F i) (fun i => S.T i) S.W) :
    Calls Try.prog 15 #[.int .i64 S.n, .slice a S.m c, .int .i64 S.s, .int .i64 t] w (WayP S t w) := by
  have hr := right_any S.n a S.m c (fun i => S.F i) (fun i => S.T i) S.W w he ok.hm (by have := ok.hn; omega) (by omega)
  rw [right_ok ok] at hr
  have HR := Lib.hid hr; clear hr
  have HE := Lib.hid he; clear he
  have HI := Lib.hid (isIn_ok ok.hs)
  have HI2 := Lib.hid (isIn_ok ht)
  go_enter Try.func15, Try.ntmps15
  go_wp2_with fail
  refine HR.out.mono ?_
  rintro e w1 ⟨rfl, hb⟩
  have HB := Lib.hid hb; clear hb
  go_wp2_with fail
  refine (isIn_any _ _ w1).mono ?_
  rintro e w1 ⟨rfl, rfl⟩
  rw [HI.out]
  go_wp2_with fail
  refine (isIn_any _ _ w1).mono ?_
  rintro e w1 ⟨rfl, rfl⟩
  rw [HI2.out]
  go_wp2_with fail
  refine (reach_any S a c w1 ok (HE.out.below HB.out)).mono ?_
  rintro e w2 ⟨hb2, d, l, ⟨D, L, k, rfl, hk, hst, hs, hrw, hd, hl⟩ | ⟨g, cc, k, x, q, rfl, hB, k1, k2, hg, hx, hw1, hw2, hno⟩⟩
  · have hgood := hst.good ok hk hs
    have hR := fun v hv => hst.R_eq ok hk hs (S.n - 1) (Nat.le_refl _) v hv
    have hld : d < w2.heap.size := hrw.dist.lt
    have cd := hrw.dist.at ht
    simp only at cd
    have HG := Lib.hid hgood
    have HRE := Lib.hid hR
    have ha : Below w2.heap.size w2 (w2.alloc (.cells #[.slice a S.m c, .slice (some ⟨d, 0, none⟩) S.n S.n, .slice (some ⟨l, 0, none⟩) S.n S.n] 48)) := (Below.refl _ _).alloc (Nat.le_refl _) _
    have hbb := HB.out.trans (hb2.mono HB.out.size)
    have HBB := Lib.hid (hbb.trans (ha.mono hbb.size))
    have HA := Lib.hid ha
    have HRW := Lib.hid hrw
    have HST := Lib.hid hst
    have HS := Lib.hid hs
    have hne : d ≠ w2.heap.size := by omega
    clear hst hs hrw hgood hR hb2 hbb ha
    by_cases hf : D t = Far
    · have HF := Lib.hid hf
      rw [hf] at cd
      unfold Far at cd
      clear hf
      go_wp2_with fail
      refine bodyPost_ret (v := .tuple #[.slice none 0 0, .int .i64 4]) (by simp [results, Try.results15, go_sem]) rfl ?_
      exact ⟨HBB.out, .inr ⟨D, HG.out, HRE.out, .inl ⟨rfl, HF.out⟩⟩⟩
    · have hx1 : (D t == 1152921504606846976) = false := by unfold Far at hf; simp [hf]
      have hx2 : decide (D t = 1152921504606846976) = false := by unfold Far at hf; simp [hf]
      have hlt : D t < Far := by have := HG.out.far ht; omega
      have HF := Lib.hid hlt
      clear hf hlt
      by_cases hts : S.s = t
      · have HTS := Lib.hid hts
        have hy1 : ((S.s : Int) == (t : Int)) = true := by simp; omega
        clear hts
        generalize hdt : D t = dt at cd hx1 hx2
        have HDT := Lib.hid hdt; clear hdt
        go_wp2_with fail
        refine bodyPost_ret (v := .tuple #[.slice none 0 0, .int .i64 0]) (by simp [results, Try.results15, go_sem]) rfl ?_
        exact ⟨HBB.out, .inr ⟨D, HG.out, HRE.out, .inr (.inl ⟨rfl, HTS.out.symm, by rw [← HTS.out]; exact HG.out.src⟩)⟩⟩
      · have hy1 : ((S.s : Int) == (t : Int)) = false := by simp; omega
        have hy2 : decide ((S.s : Int) = (t : Int)) = false := by simp; omega
        obtain ⟨kb, b1, b2⟩ := HST.out.inv.back ok HST.out.acyc ht HF.out
        have hkb : 1 ≤ kb := by
          rcases Nat.eq_zero_or_pos kb with h0 | h0
          · subst h0; exact absurd b2.symm hts
          · exact h0
        obtain ⟨kq, q1, q2, q3, q4⟩ := least_back ⟨kb, hkb, b1, b2⟩
        have q5 := least_len HST.out.inv ok ht q2 q3 q4
        have htr := trail_any S ⟨a, c, d, l⟩ (k * S.m) D L t S.s kq (w2.alloc (.cells #[.slice a S.m c, .slice (some ⟨d, 0, none⟩) S.n S.n, .slice (some ⟨l, 0, none⟩) S.n S.n] 48)) ok (HRW.out.below HA.out) HST.out.inv ht q1 q5 q2 q3 q4
        have HTR := Lib.hid htr
        have Q2 := Lib.hid q2
        have Q3 := Lib.hid q3
        clear htr q2 q3 q4 b1 b2 hts
        generalize hdt : D t = dt at cd hx1 hx2
        have HDT := Lib.hid hdt; clear hdt
        go_wp2_with fail
        refine HTR.out.mono ?_
        rintro e w3 ⟨g, cc, rfl, hg, hB5, hb5⟩
        have HB5 := Lib.hid hB5; clear hB5
        have HB6 := Lib.hid hb5; clear hb5
        go_wp2_with fail
        refine bodyPost_ret (v := .tuple #[.slice (some ⟨g, 0, none⟩) kq cc, .int .i64 0]) (by simp [results, Try.results15, go_sem]) rfl ?_
        have hway := HST.out.inv.way ok ht Q2.out
        have hsum := HST.out.way_sum ok HS.out ht Q2.out
        rw [Q3.out] at hway hsum
        rw [HG.out.src] at hsum
        exact ⟨HBB.out.trans (HB6.out.mono HBB.out.size), .inr ⟨D, HG.out, HRE.out, .inr (.inr ⟨g, cc, kq, _, rfl, HB5.out, q1, q5, hway.1, by rw [hway.2]; omega, HF.out⟩)⟩⟩
  · have HNO := Lib.hid hno
    have hk0 : decide (0 < k) = true := by simp; omega
    have hk3 : decide ((0 : Int) < (k : Int)) = true := by simp; omega
    have ha : Below w2.heap.size w2 (w2.alloc (.cells #[.slice a S.m c, .slice (some ⟨d, 0, none⟩) S.n S.n, .slice (some ⟨l, 0, none⟩) S.n S.n] 48)) := (Below.refl _ _).alloc (Nat.le_refl _) _
    have hbb := HB.out.trans (hb2.mono HB.out.size)
    have HBB := Lib.hid (hbb.trans (ha.mono hbb.size))
    clear hb2 hB hw1 hw2 hno ha hbb
    go_wp2_with fail
    refine bodyPost_ret (v := .tuple #[.slice none 0 0, .int .i64 34]) (by simp [results, Try.results15, go_sem]) rfl ?_
    exact ⟨HBB.out, .inl ⟨rfl, HNO.out⟩⟩
end Diff
end Go.Proofs.Ytjhghkieghdoaaa
