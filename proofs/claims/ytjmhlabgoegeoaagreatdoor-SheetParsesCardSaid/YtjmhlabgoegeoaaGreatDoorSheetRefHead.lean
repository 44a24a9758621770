/- jitneyref06.head: the same answer; over the translated program. (Printed by drafts/gen_refhead.py.) -/
import Derived.Test.YtjmhlabgoegeoaaGreatDoorSheetRefA
import Derived.Deep.RegionWith
namespace Go.Proofs.YtjmhlabgoegeoaaGreatDoor
namespace Sheet
open Go Go.RowKit Deci
def tAt (s : ByteArray) (k : Nat) : ByteArray := (wordsP s.data.toList).tail.getD k ⟨#[]⟩
/-- The error of a first line. -/
def firstE (s : ByteArray) : Int :=
  twoE (lineE s wJitney 4) (twoE (wholeE (tAt s 0).data.toList) (twoE (scaleE (wholeV (tAt s 0).data.toList))
    (twoE (wholeE (tAt s 1).data.toList) (twoE (wholeE (tAt s 2).data.toList) (lastE (tAt s 3) (wholeV (tAt s 1).data.toList) (wholeV (tAt s 2).data.toList))))))
def HeadOut (er c r s : Int) (sp : Bool) (e : Ending) : Prop :=
  (er = 0 ∧ e = .returned (.tuple #[.int .i64 c, .int .i64 r, .int .i64 s, .bool sp, .int .i64 0])) ∨ (er ≠ 0 ∧ e = .returned (.tuple #[.int .i64 0, .int .i64 0, .int .i64 0, .bool false, .int .i64 er]))
theorem line_words {s name : ByteArray} {cnt : Nat} (h : lineE s name cnt = 0) : (wordsP s.data.toList).tail.length = cnt := by
  unfold lineE at h
  split at h
  · rename_i h'
    rw [List.length_tail, h'.2.1]; rfl
  · exact absurd h (by decide)
theorem strs4 {w : World} {Bad : Nat → Prop} {v : Value} {a b c d : ByteArray} (h : Strs w Bad v [a, b, c, d]) : ∃ g o cap, v = .slice (some ⟨g, o, none⟩) 4 cap ∧ w.cell? ⟨g, o, none⟩ = some (.string a) ∧ w.cell? ⟨g, o + 1, none⟩ = some (.string b) ∧ w.cell? ⟨g, o + 2, none⟩ = some (.string c) ∧ w.cell? ⟨g, o + 3, none⟩ = some (.string d) := by
  obtain ⟨x, cap, rfl, hcap, h | ⟨g, o, rfl, -, -, hc⟩⟩ := h
  · simp at h
  · exact ⟨g, o, cap, rfl, hc 0 (by simp), hc 1 (by simp), hc 2 (by simp), hc 3 (by simp)⟩
set_option maxRecDepth 100000 in
set_option maxHeartbeats 2000000 in
theorem refHead_any (s : ByteArray) (w : World) (hs : s.size ≤ 1000000) :
    Calls Tryz.prog 11 #[.string s] w fun e w' => HeadOut (firstE s) (wholeV (tAt s 1).data.toList) (wholeV (tAt s 2).data.toList) (wholeV (tAt s 0).data.toList) (decide (tAt s 3 = wSpots)) e ∧ Below w.heap.size w w' := by
  have h1 := refTail_any s wJitney 4 w (by omega) (by decide)
  have hsz : ∀ p ∈ (wordsP s.data.toList).tail, p.size ≤ 1000000 := fun p hp => by have := words_size _ p (List.mem_of_mem_tail hp); simp at this; omega
  obtain ⟨te, hte⟩ : ∃ te, te = firstE s := ⟨_, rfl⟩
  rw [← hte]
  unfold firstE tAt at hte
  unfold tAt
  by_cases he : lineE s wJitney 4 = 0
  · obtain ⟨a, b, c, d, hp⟩ := len4 (line_words he)
    rw [he, twoE_ok] at hte
    rw [hp] at h1 hsz hte ⊢
    rw [he] at h1
    have h2 : ∀ w, _ := fun w => refWhole_any a w (by have := hsz a (by simp); omega)
    have h3 : ∀ w, _ := fun w => refWhole_any b w (by have := hsz b (by simp); omega)
    have h4 : ∀ w, _ := fun w => refWhole_any c w (by have := hsz c (by simp); omega)
    have b3 := wholeV_bd c.data.toList
    have k1 : (6 < wholeV a.data.toList → scaleE (wholeV a.data.toList) = 23) ∧ (¬ 6 < wholeV a.data.toList → scaleE (wholeV a.data.toList) = 0) := ⟨fun h => if_pos h, fun h => if_neg h⟩
    simp only [List.getD_cons_zero, List.getD_cons_succ] at *
    generalize scaleE (wholeV a.data.toList) = es at *
    generalize wholeE a.data.toList = e1 at *
    generalize wholeV a.data.toList = v1 at *
    generalize wholeE b.data.toList = e2 at *
    generalize wholeV b.data.toList = v2 at *
    generalize wholeE c.data.toList = e3 at *
    generalize wholeV c.data.toList = v3 at *
    have HK1 := Lib.hid k1; clear k1
    have HT := Lib.hid hte; clear hte
    have H1 := Lib.hid h1; clear h1
    have H2 := Lib.hid h2; clear h2
    have H3 := Lib.hid h3; clear h3
    have H4 := Lib.hid h4; clear h4
    obtain ⟨p1, p2⟩ := b3
    clear hsz hp he hs
    go_enter Tryz.func11, Tryz.ntmps11
    go_wp2_with fail
    refine H1.out.mono ?_
    rintro e w1 ⟨v, rfl, hb, hst⟩
    have HB := Lib.hid hb; clear hb
    obtain ⟨g, o, cap, rfl, q0, q1, q2, q3⟩ := strs4 (hst rfl)
    clear hst H1
    by_cases he1 : e1 = 0
    · subst he1
      have HT1 := Lib.hid (HT.out.trans (twoE_ok _)); clear HT
      by_cases hv : 6 < v1
      · have HE := Lib.hid (HT1.out.trans ((congrArg (fun z => twoE z _) (HK1.out.1 hv)).trans (twoE_no _ (by decide)))); clear HT1 HK1
        go_wp2_with (first | (go_at_call_of 21 (Value.string a); refine (H2.out _).mono ?_; rintro e w' ⟨rfl, rfl⟩) | (go_at_call_of 21 (Value.string b); refine (H3.out _).mono ?_; rintro e w' ⟨rfl, rfl⟩) | (go_at_call_of 21 (Value.string c); refine (H4.out _).mono ?_; rintro e w' ⟨rfl, rfl⟩))
        refine bodyPost_ret (v := .tuple #[.int .i64 0, .int .i64 0, .int .i64 0, .bool false, .int .i64 23]) (by simp [results, Tryz.results11, go_sem]) rfl ?_
        exact ⟨.inr ⟨by rw [HE.out]; decide, by rw [HE.out]⟩, HB.out⟩
      have hes := HK1.out.2 (by omega)
      subst hes
      have HT2 := Lib.hid (HT1.out.trans (twoE_ok _)); clear HT1 HK1
      by_cases he2 : e2 = 0
      · subst he2
        have HT3 := Lib.hid (HT2.out.trans (twoE_ok _)); clear HT2
        by_cases he3 : e3 = 0
        · subst he3
          have HT4 := Lib.hid (HT3.out.trans (twoE_ok _)); clear HT3
          by_cases hd1 : d = wSpots
          · have hd : ¬ (d ≠ wSpots ∧ d ≠ wTimes) := by simp [hd1]
            have hdt : decide (d = wSpots) = true := by simp [hd1]
            have HDT := Lib.hid hdt; clear hdt
            have HLE := Lib.hid (show (v2 = 0 → lastE d v2 v3 = 1) ∧ (v2 ≠ 0 → (64 < v2 ∨ 4096 < 2 * v3 + 2) → lastE d v2 v3 = 3) ∧ (v2 ≠ 0 → ¬ (64 < v2 ∨ 4096 < 2 * v3 + 2) → lastE d v2 v3 = 0) from ⟨fun h => (if_neg hd).trans (if_pos h), fun h1 h2 => ((if_neg hd).trans (if_neg h1)).trans (if_pos h2), fun h1 h2 => ((if_neg hd).trans (if_neg h1)).trans (if_neg h2)⟩); clear hd
            unfold wSpots at hd1
            subst hd1
            by_cases hv0 : v2 = 0
            · have HE := Lib.hid (HT4.out.trans (HLE.out.1 hv0)); clear HT4 HLE; subst hv0
              go_wp2_with (first | (go_at_call_of 21 (Value.string a); refine (H2.out _).mono ?_; rintro e w' ⟨rfl, rfl⟩) | (go_at_call_of 21 (Value.string b); refine (H3.out _).mono ?_; rintro e w' ⟨rfl, rfl⟩) | (go_at_call_of 21 (Value.string c); refine (H4.out _).mono ?_; rintro e w' ⟨rfl, rfl⟩))
              refine bodyPost_ret (v := .tuple #[.int .i64 0, .int .i64 0, .int .i64 0, .bool false, .int .i64 1]) (by simp [results, Tryz.results11, go_sem]) rfl ?_
              exact ⟨.inr ⟨by rw [HE.out]; decide, by rw [HE.out]⟩, HB.out⟩
            by_cases hv1 : 64 < v2 ∨ 4096 < 2 * v3 + 2
            · have HE := Lib.hid (HT4.out.trans (HLE.out.2.1 hv0 hv1)); clear HT4 HLE
              by_cases hv2 : 64 < v2
              · clear hv1
                go_wp2_with (first | (go_at_call_of 21 (Value.string a); refine (H2.out _).mono ?_; rintro e w' ⟨rfl, rfl⟩) | (go_at_call_of 21 (Value.string b); refine (H3.out _).mono ?_; rintro e w' ⟨rfl, rfl⟩) | (go_at_call_of 21 (Value.string c); refine (H4.out _).mono ?_; rintro e w' ⟨rfl, rfl⟩))
                refine bodyPost_ret (v := .tuple #[.int .i64 0, .int .i64 0, .int .i64 0, .bool false, .int .i64 3]) (by simp [results, Tryz.results11, go_sem]) rfl ?_
                exact ⟨.inr ⟨by rw [HE.out]; decide, by rw [HE.out]⟩, HB.out⟩
              · have hv3 : 4096 < 2 * v3 + 2 := by omega
                clear hv1
                go_wp2_with (first | (go_at_call_of 21 (Value.string a); refine (H2.out _).mono ?_; rintro e w' ⟨rfl, rfl⟩) | (go_at_call_of 21 (Value.string b); refine (H3.out _).mono ?_; rintro e w' ⟨rfl, rfl⟩) | (go_at_call_of 21 (Value.string c); refine (H4.out _).mono ?_; rintro e w' ⟨rfl, rfl⟩))
                refine bodyPost_ret (v := .tuple #[.int .i64 0, .int .i64 0, .int .i64 0, .bool false, .int .i64 3]) (by simp [results, Tryz.results11, go_sem]) rfl ?_
                exact ⟨.inr ⟨by rw [HE.out]; decide, by rw [HE.out]⟩, HB.out⟩
            have HE := Lib.hid (HT4.out.trans (HLE.out.2.2 hv0 hv1)); clear HT4 HLE
            have hv2 : ¬ 64 < v2 := by omega
            have hv3 : ¬ 4096 < 2 * v3 + 2 := by omega
            clear hv1
            go_wp2_with (first | (go_at_call_of 21 (Value.string a); refine (H2.out _).mono ?_; rintro e w' ⟨rfl, rfl⟩) | (go_at_call_of 21 (Value.string b); refine (H3.out _).mono ?_; rintro e w' ⟨rfl, rfl⟩) | (go_at_call_of 21 (Value.string c); refine (H4.out _).mono ?_; rintro e w' ⟨rfl, rfl⟩))
            go_quiet (fail)
            go_wp2_with fail
            refine bodyPost_ret (v := .tuple #[.int .i64 v2, .int .i64 v3, .int .i64 v1, .bool true, .int .i64 0]) (by simp [results, Tryz.results11, go_sem]) rfl ?_
            exact ⟨.inl ⟨HE.out, by rw [HDT.out]⟩, HB.out.trans (Joins.below_draws _ _ _)⟩
          · by_cases hd2 : d = wTimes
            · have hd : ¬ (d ≠ wSpots ∧ d ≠ wTimes) := by simp [hd2]
              have hdt : decide (d = wSpots) = false := by simp [hd1]
              have HDT := Lib.hid hdt; clear hdt
              have HLE := Lib.hid (show (v2 = 0 → lastE d v2 v3 = 1) ∧ (v2 ≠ 0 → (64 < v2 ∨ 4096 < 2 * v3 + 2) → lastE d v2 v3 = 3) ∧ (v2 ≠ 0 → ¬ (64 < v2 ∨ 4096 < 2 * v3 + 2) → lastE d v2 v3 = 0) from ⟨fun h => (if_neg hd).trans (if_pos h), fun h1 h2 => ((if_neg hd).trans (if_neg h1)).trans (if_pos h2), fun h1 h2 => ((if_neg hd).trans (if_neg h1)).trans (if_neg h2)⟩); clear hd
              unfold wTimes at hd2
              subst hd2
              clear hd1
              by_cases hv0 : v2 = 0
              · have HE := Lib.hid (HT4.out.trans (HLE.out.1 hv0)); clear HT4 HLE; subst hv0
                go_wp2_with (first | (go_at_call_of 21 (Value.string a); refine (H2.out _).mono ?_; rintro e w' ⟨rfl, rfl⟩) | (go_at_call_of 21 (Value.string b); refine (H3.out _).mono ?_; rintro e w' ⟨rfl, rfl⟩) | (go_at_call_of 21 (Value.string c); refine (H4.out _).mono ?_; rintro e w' ⟨rfl, rfl⟩))
                refine bodyPost_ret (v := .tuple #[.int .i64 0, .int .i64 0, .int .i64 0, .bool false, .int .i64 1]) (by simp [results, Tryz.results11, go_sem]) rfl ?_
                exact ⟨.inr ⟨by rw [HE.out]; decide, by rw [HE.out]⟩, HB.out⟩
              by_cases hv1 : 64 < v2 ∨ 4096 < 2 * v3 + 2
              · have HE := Lib.hid (HT4.out.trans (HLE.out.2.1 hv0 hv1)); clear HT4 HLE
                by_cases hv2 : 64 < v2
                · clear hv1
                  go_wp2_with (first | (go_at_call_of 21 (Value.string a); refine (H2.out _).mono ?_; rintro e w' ⟨rfl, rfl⟩) | (go_at_call_of 21 (Value.string b); refine (H3.out _).mono ?_; rintro e w' ⟨rfl, rfl⟩) | (go_at_call_of 21 (Value.string c); refine (H4.out _).mono ?_; rintro e w' ⟨rfl, rfl⟩))
                  refine bodyPost_ret (v := .tuple #[.int .i64 0, .int .i64 0, .int .i64 0, .bool false, .int .i64 3]) (by simp [results, Tryz.results11, go_sem]) rfl ?_
                  exact ⟨.inr ⟨by rw [HE.out]; decide, by rw [HE.out]⟩, HB.out⟩
                · have hv3 : 4096 < 2 * v3 + 2 := by omega
                  clear hv1
                  go_wp2_with (first | (go_at_call_of 21 (Value.string a); refine (H2.out _).mono ?_; rintro e w' ⟨rfl, rfl⟩) | (go_at_call_of 21 (Value.string b); refine (H3.out _).mono ?_; rintro e w' ⟨rfl, rfl⟩) | (go_at_call_of 21 (Value.string c); refine (H4.out _).mono ?_; rintro e w' ⟨rfl, rfl⟩))
                  refine bodyPost_ret (v := .tuple #[.int .i64 0, .int .i64 0, .int .i64 0, .bool false, .int .i64 3]) (by simp [results, Tryz.results11, go_sem]) rfl ?_
                  exact ⟨.inr ⟨by rw [HE.out]; decide, by rw [HE.out]⟩, HB.out⟩
              have HE := Lib.hid (HT4.out.trans (HLE.out.2.2 hv0 hv1)); clear HT4 HLE
              have hv2 : ¬ 64 < v2 := by omega
              have hv3 : ¬ 4096 < 2 * v3 + 2 := by omega
              clear hv1
              go_wp2_with (first | (go_at_call_of 21 (Value.string a); refine (H2.out _).mono ?_; rintro e w' ⟨rfl, rfl⟩) | (go_at_call_of 21 (Value.string b); refine (H3.out _).mono ?_; rintro e w' ⟨rfl, rfl⟩) | (go_at_call_of 21 (Value.string c); refine (H4.out _).mono ?_; rintro e w' ⟨rfl, rfl⟩))
              go_quiet (fail)
              go_wp2_with fail
              refine bodyPost_ret (v := .tuple #[.int .i64 v2, .int .i64 v3, .int .i64 v1, .bool false, .int .i64 0]) (by simp [results, Tryz.results11, go_sem]) rfl ?_
              exact ⟨.inl ⟨HE.out, by rw [HDT.out]⟩, HB.out.trans (Joins.below_draws _ _ _)⟩
            · have HE := Lib.hid (HT4.out.trans (show lastE d v2 v3 = 21 from if_pos ⟨hd1, hd2⟩)); clear HT4
              have k1 : ¬ d.toList = [115, 112, 111, 116, 115] := ne_data hd1
              have k2 : ¬ d.toList = [116, 105, 109, 101, 115] := ne_data hd2
              have k3 : (d.toList == [115, 112, 111, 116, 115]) = false := by simpa using k1
              have k4 : (d.toList == [116, 105, 109, 101, 115]) = false := by simpa using k2
              generalize decide (d = wSpots) = dt
              clear hd1 hd2
              go_wp2_with (first | (go_at_call_of 21 (Value.string a); refine (H2.out _).mono ?_; rintro e w' ⟨rfl, rfl⟩) | (go_at_call_of 21 (Value.string b); refine (H3.out _).mono ?_; rintro e w' ⟨rfl, rfl⟩) | (go_at_call_of 21 (Value.string c); refine (H4.out _).mono ?_; rintro e w' ⟨rfl, rfl⟩))
              refine bodyPost_ret (v := .tuple #[.int .i64 0, .int .i64 0, .int .i64 0, .bool false, .int .i64 21]) (by simp [results, Tryz.results11, go_sem]) rfl ?_
              exact ⟨.inr ⟨by rw [HE.out]; decide, by rw [HE.out]⟩, HB.out⟩
        · have HE := Lib.hid (HT3.out.trans (twoE_no _ he3)); clear HT3
          generalize decide (d = wSpots) = dt
          go_wp2_with (first | (go_at_call_of 21 (Value.string a); refine (H2.out _).mono ?_; rintro e w' ⟨rfl, rfl⟩) | (go_at_call_of 21 (Value.string b); refine (H3.out _).mono ?_; rintro e w' ⟨rfl, rfl⟩) | (go_at_call_of 21 (Value.string c); refine (H4.out _).mono ?_; rintro e w' ⟨rfl, rfl⟩))
          refine bodyPost_ret (v := .tuple #[.int .i64 0, .int .i64 0, .int .i64 0, .bool false, .int .i64 e3]) (by simp [results, Tryz.results11, go_sem]) rfl ?_
          exact ⟨.inr ⟨by rw [HE.out]; exact he3, by rw [HE.out]⟩, HB.out⟩
      · have HE := Lib.hid (HT2.out.trans (twoE_no _ he2)); clear HT2
        generalize decide (d = wSpots) = dt
        go_wp2_with (first | (go_at_call_of 21 (Value.string a); refine (H2.out _).mono ?_; rintro e w' ⟨rfl, rfl⟩) | (go_at_call_of 21 (Value.string b); refine (H3.out _).mono ?_; rintro e w' ⟨rfl, rfl⟩) | (go_at_call_of 21 (Value.string c); refine (H4.out _).mono ?_; rintro e w' ⟨rfl, rfl⟩))
        refine bodyPost_ret (v := .tuple #[.int .i64 0, .int .i64 0, .int .i64 0, .bool false, .int .i64 e2]) (by simp [results, Tryz.results11, go_sem]) rfl ?_
        exact ⟨.inr ⟨by rw [HE.out]; exact he2, by rw [HE.out]⟩, HB.out⟩
    · have HE := Lib.hid (HT.out.trans (twoE_no _ he1)); clear HT
      generalize decide (d = wSpots) = dt
      go_wp2_with (first | (go_at_call_of 21 (Value.string a); refine (H2.out _).mono ?_; rintro e w' ⟨rfl, rfl⟩) | (go_at_call_of 21 (Value.string b); refine (H3.out _).mono ?_; rintro e w' ⟨rfl, rfl⟩) | (go_at_call_of 21 (Value.string c); refine (H4.out _).mono ?_; rintro e w' ⟨rfl, rfl⟩))
      refine bodyPost_ret (v := .tuple #[.int .i64 0, .int .i64 0, .int .i64 0, .bool false, .int .i64 e1]) (by simp [results, Tryz.results11, go_sem]) rfl ?_
      exact ⟨.inr ⟨by rw [HE.out]; exact he1, by rw [HE.out]⟩, HB.out⟩
  · have HE := Lib.hid (hte.trans (twoE_no _ he)); clear hte
    have H1 := Lib.hid h1; clear h1
    generalize decide (_ = wSpots) = dt
    generalize wholeV _ = v2
    generalize wholeV _ = v3
    generalize wholeV _ = v1
    generalize lineE s wJitney 4 = le at *
    clear hsz
    go_enter Tryz.func11, Tryz.ntmps11
    go_wp2_with fail
    refine H1.out.mono ?_
    rintro e w1 ⟨v, rfl, hb, hst⟩
    have HB := Lib.hid hb; clear hb hst
    go_wp2_with (first | (go_at_call_of 21 (Value.string a); refine (H2.out _).mono ?_; rintro e w' ⟨rfl, rfl⟩) | (go_at_call_of 21 (Value.string b); refine (H3.out _).mono ?_; rintro e w' ⟨rfl, rfl⟩) | (go_at_call_of 21 (Value.string c); refine (H4.out _).mono ?_; rintro e w' ⟨rfl, rfl⟩))
    refine bodyPost_ret (v := .tuple #[.int .i64 0, .int .i64 0, .int .i64 0, .bool false, .int .i64 le]) (by simp [results, Tryz.results11, go_sem]) rfl ?_
    exact ⟨.inr ⟨by rw [HE.out]; exact he, by rw [HE.out]⟩, HB.out⟩
end Sheet
end Go.Proofs.YtjmhlabgoegeoaaGreatDoor
