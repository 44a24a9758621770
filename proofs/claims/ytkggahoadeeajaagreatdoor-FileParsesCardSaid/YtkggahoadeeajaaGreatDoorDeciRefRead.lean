/- jitneyref03.Read: the document's reader, byte by byte, tells the same number and error; over the translated program. -/
import Derived.Test.YtkggahoadeeajaaGreatDoorDeciRefPlain
namespace Go.Proofs.YtkggahoadeeajaaGreatDoor
namespace Deci
open Go Go.RowKit
theorem refRead_scale (s : ByteArray) (sc : Int) (w : World) (h : sc < 0 ∨ 6 < sc) :
    Calls Tryz.prog 38 #[.string s, .int .i64 sc] w fun e w' => e = .returned (.tuple #[.int .i64 (readV s.data.toList sc), .int .i64 (readE s.data.toList sc)]) ∧ w = w' := by
  have h1 : readV s.data.toList sc = 0 := by unfold readV; rw [if_pos h]
  have h2 : readE s.data.toList sc = 1 := by unfold readE; rw [if_pos h]
  rw [h1, h2]
  clear h1 h2
  rcases h with h | h
  · go_enter Tryz.func38, Tryz.ntmps38
    go_wp2
    go_ret2
    exact ⟨rfl, rfl⟩
  · have h' : ¬ sc < 0 := by omega
    go_enter Tryz.func38, Tryz.ntmps38
    go_wp2
    go_ret2
    exact ⟨rfl, rfl⟩
theorem ret_two {a b c d : Int} (h1 : a = c) (h2 : b = d) : Ending.returned (.tuple #[.int .i64 a, .int .i64 b]) = .returned (.tuple #[.int .i64 c, .int .i64 d]) := by rw [h1, h2]
/-- How a text begins. -/
theorem starts (s : ByteArray) : (s.size = 0 ∧ minusOf s.data.toList = false ∧ s.data.toList = [] ++ restOf s.data.toList) ∨
    (∃ h : 0 < s.size, (s[0].toNat : Int) = 45 ∧ minusOf s.data.toList = true ∧ s.data.toList = [45] ++ restOf s.data.toList) ∨
    (∃ h : 0 < s.size, ¬ (s[0].toNat : Int) = 45 ∧ minusOf s.data.toList = false ∧ s.data.toList = [] ++ restOf s.data.toList) := by
  have hl : s.data.toList.length = s.size := by simp
  cases hc : s.data.toList with
  | nil => left; rw [hc] at hl; exact ⟨by simpa using hl.symm, rfl, rfl⟩
  | cons b l =>
    have hpos : 0 < s.size := by rw [← hl, hc]; simp
    have hb : s[0] = b := by
      have : s.data.toList[0]? = some b := by rw [hc]; rfl
      rw [List.getElem?_eq_getElem (by simpa using hpos)] at this
      have h2 : s.data[0] = b := by simpa using this
      exact h2
    right
    by_cases h45 : b = 45
    · left
      subst h45
      refine ⟨hpos, by rw [hb]; rfl, by unfold minusOf Lib.hasPrefix; simp [List.isPrefixOf], ?_⟩
      unfold restOf Lib.trimPrefix Lib.hasPrefix; simp [List.isPrefixOf]
    · right
      have hb' : (45 == b) = false := by simpa using fun e => h45 e.symm
      refine ⟨hpos, ?_, by unfold minusOf Lib.hasPrefix; simp [List.isPrefixOf, hb'], ?_⟩
      · rw [hb]; intro e; apply h45; apply UInt8.toNat_inj.1; have : b.toNat = 45 := by omega
        rw [this]; rfl
      · unfold restOf Lib.trimPrefix Lib.hasPrefix; simp [List.isPrefixOf, hb']
set_option maxRecDepth 100000 in
set_option maxHeartbeats 4000000 in
theorem refRead_in (s : ByteArray) (sc : Int) (w : World) (hs : s.size ≤ 4294967000) (g1 : 0 ≤ sc) (g2 : sc ≤ 6) :
    Calls Tryz.prog 38 #[.string s, .int .i64 sc] w fun e w' => e = .returned (.tuple #[.int .i64 (readV s.data.toList sc), .int .i64 (readE s.data.toList sc)]) ∧ w = w' := by
  have hrv : readV s.data.toList sc = if formB s.data.toList sc = false then 0 else if 1099511627776 < readN s.data.toList sc then 0 else if minusOf s.data.toList then -(readN s.data.toList sc : Int) else readN s.data.toList sc := by unfold readV; rw [if_neg (by omega)]
  have hre : readE s.data.toList sc = if formB s.data.toList sc = false then 21 else if 1099511627776 < readN s.data.toList sc then 23 else 0 := by unfold readE; rw [if_neg (by omega)]
  have hll : s.data.toList.length = s.size := by simp
  have hst := starts s
  obtain ⟨l, hl⟩ : ∃ l, l = s.data.toList := ⟨_, rfl⟩
  have hts : ∀ k (h : k < s.size), l.take (k + 1) = l.take k ++ [s[k]] := fun k h => by rw [hl]; exact take_snoc s k h
  rw [← hl] at hrv hre hll hst
  rw [← hl]
  clear hl
  obtain ⟨M, hM⟩ : ∃ M, M = minusOf l := ⟨_, rfl⟩
  rw [← hM] at hrv hst
  clear hM
  have HTS := Lib.hid hts; clear hts
  have HRV := Lib.hid hrv; clear hrv
  have HRE := Lib.hid hre; clear hre
  have HLL := Lib.hid hll; clear hll
  obtain ⟨k0, L0, hk0, hr, hcase⟩ : ∃ (k0 : Nat) (L0 : List UInt8), RS L0 l k0 [] [] false ∧ l = L0 ++ restOf l ∧ ((k0 = 0 ∧ M = false ∧ (s.size = 0 ∨ ∃ h : 0 < s.size, ¬ (s[0].toNat : Int) = 45)) ∨ (k0 = 1 ∧ M = true ∧ ∃ h : 0 < s.size, (s[0].toNat : Int) = 45)) := by
    rcases hst with ⟨h1, h2, h3⟩ | ⟨h1, h2, h3, h4⟩ | ⟨h1, h2, h3, h4⟩
    · exact ⟨0, [], ⟨by simp, rfl, rfl, fun _ => rfl⟩, h3, .inl ⟨rfl, h2, .inl h1⟩⟩
    · refine ⟨1, [45], ⟨?_, rfl, rfl, fun _ => rfl⟩, h4, .inr ⟨rfl, h3, h1, h2⟩⟩
      rw [h4]; simp
    · exact ⟨0, [], ⟨by simp, rfl, rfl, fun _ => rfl⟩, h4, .inl ⟨rfl, h3, .inr ⟨h1, h2⟩⟩⟩
  clear hst
  have HR := Lib.hid hr; clear hr
  have HK0 := Lib.hid hk0; clear hk0
  have hk0s : k0 ≤ s.size := by rcases hcase with ⟨h1, _⟩ | ⟨h1, _, h2, _⟩ <;> omega
  have hg1 : ¬ sc < 0 := by omega
  have hg2 : ¬ 6 < sc := by omega
  rcases hcase with ⟨h1, rfl, hz | ⟨hz, h45⟩⟩ | ⟨h1, rfl, hz, h45⟩
  all_goals (have HK := Lib.hid h1; clear h1)
  all_goals
    go_enter Tryz.func38, Tryz.ntmps38
    go_wp2
    go_loop [6, 8, 9, 10, 11] (fun at_ n big wh pt => ∃ (k : Nat) (a b : List UInt8) (dot bg : Bool) (m : Int), k ≤ s.size ∧ at_ = .int .i64 k ∧ RS L0 l k a b dot ∧ NB m bg (natV (a ++ b)) ∧ n = .int .i64 m ∧ big = .bool bg ∧ wh = .int .i64 a.length ∧ pt = .int .i64 (if dot then (b.length : Int) else -1) ∧ a.length ≤ k ∧ b.length ≤ k) (fun at_ _ _ _ _ => s.size - (intOf at_).toNat)
    case atStart => exact ⟨k0, [], [], false, false, 0, hk0s, by rw [HK.out]; rfl, HK0.out, ⟨by omega, by omega, .inl ⟨rfl, rfl⟩⟩, rfl, rfl, rfl, rfl, by simp, by simp⟩
    case round =>
      obtain ⟨k, a, b, dot, bg, m, hk, rfl, hRS, hNB, rfl, rfl, rfl, rfl, hak, hbk⟩ := hrel
      try clear h45
      try clear hz
      have HRS := Lib.hid hRS; clear hRS
      have HNB := Lib.hid hNB; clear hNB
      have m1 := HNB.out.1
      have m2 := HNB.out.2.1
      by_cases hlt : k < s.size
      · have hts := HTS.out k hlt
        have HT := Lib.hid hts; clear hts
        have x0 : (0 : Int) ≤ (s[k].toNat : Int) := by omega
        have x1 : (s[k].toNat : Int) ≤ 255 := by have := s[k].toNat_lt; omega
        by_cases h46 : s[k] = 46
        · have hx : (s[k].toNat : Int) = 46 := by rw [h46]; rfl
          cases dot with
          | false =>
            have hR2 := HRS.out.point HT.out h46
            have hnb := HRS.out.nb rfl
            subst hnb
            have HR2 := Lib.hid hR2; clear hR2 h46
            simp only [Bool.false_eq_true, if_false]
            go_wp2
            go_round
            case rel => exact ⟨k + 1, a, [], true, bg, m, by omega, by go_num, HR2.out, HNB.out, rfl, rfl, rfl, rfl, by omega, by simp⟩
            case measure => simp [intOf]; omega
          | true =>
            have hbad := HRS.out.bad HR.out HT.out (.inl (by omega)) (fun e => by cases e) sc
            have r1 := HRV.out
            have r2 := HRE.out
            rw [if_pos hbad] at r1 r2
            have R1 := Lib.hid r1; clear r1
            have R2 := Lib.hid r2; clear r2 hbad h46
            simp only [if_true]
            go_wp2
            go_ret2
            exact ⟨ret_two R1.out.symm R2.out.symm, rfl⟩
        · have hx : ¬ (s[k].toNat : Int) = 46 := by
            intro e; apply h46; apply UInt8.toNat_inj.1
            have : s[k].toNat = 46 := by omega
            rw [this]; rfl
          by_cases hd : (s[k].toNat : Int) < 48 ∨ 57 < (s[k].toNat : Int)
          · have hbad := HRS.out.bad HR.out HT.out hd (fun _ => h46) sc
            have r1 := HRV.out
            have r2 := HRE.out
            rw [if_pos hbad] at r1 r2
            have R1 := Lib.hid r1; clear r1
            have R2 := Lib.hid r2; clear r2 hbad h46
            rcases hd with hd | hd
            · cases dot <;> simp only [if_true, Bool.false_eq_true, if_false]
              all_goals
                go_wp2
                go_ret2
                exact ⟨ret_two R1.out.symm R2.out.symm, rfl⟩
            · have hd' : ¬ (s[k].toNat : Int) < 48 := by omega
              cases dot <;> simp only [if_true, Bool.false_eq_true, if_false]
              all_goals
                go_wp2
                go_ret2
                exact ⟨ret_two R1.out.symm R2.out.symm, rfl⟩
          · have hd1 : ¬ (s[k].toNat : Int) < 48 := by omega
            have hd2 : ¬ 57 < (s[k].toNat : Int) := by omega
            have hR2 := HRS.out.digit HT.out hd1 hd2
            have hdd := dig_bd (c := s[k]) (by omega)
            have hnl := HNB.out.low (d := s[k].toNat - 48)
            have hnh := HNB.out.high (d := s[k].toNat - 48)
            rw [← natV_app] at hnl hnh
            rw [← hdd] at hnl hnh
            have HNL := Lib.hid hnl; clear hnl
            have HNH := Lib.hid hnh; clear hnh
            clear hdd hd h46
            cases dot with
            | false =>
              have hnb := HRS.out.nb rfl
              subst hnb
              simp only [Bool.false_eq_true, if_false] at hR2 ⊢
              have HR2 := Lib.hid hR2; clear hR2
              by_cases hbig : 2000000000000000 < 10 * m + ((s[k].toNat : Int) - 48)
              · have hN := HNH.out hbig
                have HN := Lib.hid hN; clear hN
                go_wp2
                go_round
                case rel => exact ⟨k + 1, a ++ [s[k]], [], false, true, 2000000000000000, by omega, by go_num, HR2.out, by simpa using HN.out, rfl, rfl, by simp, rfl, by simp; omega, by simp⟩
                case measure => simp [intOf]; omega
              · have hN := HNL.out (by omega)
                have HN := Lib.hid hN; clear hN
                go_wp2
                go_round
                case rel => exact ⟨k + 1, a ++ [s[k]], [], false, bg, _, by omega, by go_num, HR2.out, by simpa using HN.out, rfl, rfl, by simp, rfl, by simp; omega, by simp⟩
                case measure => simp [intOf]; omega
            | true =>
              simp only [if_true] at hR2 ⊢
              have HR2 := Lib.hid hR2; clear hR2
              by_cases hbig : 2000000000000000 < 10 * m + ((s[k].toNat : Int) - 48)
              · have hN := HNH.out hbig
                have HN := Lib.hid hN; clear hN
                go_wp2
                go_round
                case rel => exact ⟨k + 1, a, b ++ [s[k]], true, true, 2000000000000000, by omega, by go_num, HR2.out, HN.out, rfl, rfl, rfl, by simp, by omega, by simp; omega⟩
                case measure => simp [intOf]; omega
              · have hN := HNL.out (by omega)
                have HN := Lib.hid hN; clear hN
                go_wp2
                go_round
                case rel => exact ⟨k + 1, a, b ++ [s[k]], true, bg, _, by omega, by go_num, HR2.out, HN.out, rfl, rfl, rfl, by simp, by omega, by simp; omega⟩
                case measure => simp [intOf]; omega
      · have hkk : l.length ≤ k := by rw [HLL.out]; omega
        have hform := HRS.out.form HR.out hkk sc
        have hfin := HRS.out.fin HR.out hkk
        have hnb := HRS.out.nb
        have hrn : readN l sc = natV (a ++ b) * 10 ^ (sc - (b.length : Int)).toNat := by unfold readN; rw [hfin]
        have herr : formB l sc = false → readV l sc = 0 ∧ readE l sc = 21 := fun h => ⟨by rw [HRV.out, if_pos h], by rw [HRE.out, if_pos h]⟩
        have HERR := Lib.hid herr; clear herr
        have HRN := Lib.hid hrn; clear hrn hfin hkk
        have HFORM := Lib.hid hform; clear hform
        by_cases q1 : (a.length : Int) < 1
        · obtain ⟨r1, r2⟩ := HERR.out (by rw [HFORM.out, decide_eq_false (by omega : ¬ 0 < a.length)]; simp)
          have R1 := Lib.hid r1; clear r1
          have R2 := Lib.hid r2; clear r2
          cases dot <;> simp only [if_true, Bool.false_eq_true, if_false]
          all_goals
            clear hnb
            go_wp2
            go_ret2
            exact ⟨ret_two R1.out.symm R2.out.symm, rfl⟩
        · by_cases q2 : 13 < (a.length : Int)
          · obtain ⟨r1, r2⟩ := HERR.out (by rw [HFORM.out, decide_eq_false (by omega : ¬ (a.length : Int) ≤ 13)]; simp)
            have R1 := Lib.hid r1; clear r1
            have R2 := Lib.hid r2; clear r2
            cases dot <;> simp only [if_true, Bool.false_eq_true, if_false]
            all_goals
              clear hnb
              go_wp2
              go_ret2
              exact ⟨ret_two R1.out.symm R2.out.symm, rfl⟩
          · cases dot with
            | false =>
              have hb := hnb rfl
              subst hb
              clear hnb
              have hok : formB l sc = true := by rw [HFORM.out, decide_eq_true (by omega : 0 < a.length), decide_eq_true (by omega : (a.length : Int) ≤ 13)]; rfl
              have HOK := Lib.hid hok; clear hok
              simp only [Bool.false_eq_true, if_false]
              go_wp2
              go_loop [8, 9, 13] (fun n big i => ∃ (j : Nat) (bg : Bool) (m : Int), 0 ≤ j ∧ (j : Int) ≤ sc ∧ i = .int .i64 j ∧ n = .int .i64 m ∧ big = .bool bg ∧ NB m bg (natV (a ++ []) * 10 ^ (j - ([] : List UInt8).length))) (fun _ _ i => sc.toNat - (intOf i).toNat)
              case atStart => exact ⟨([] : List UInt8).length, bg, m, Nat.le_refl _, by omega, by rfl, rfl, rfl, by simpa using HNB.out⟩
              case round =>
                obtain ⟨j, bg, m, hj1, hj2, rfl, rfl, rfl, hNB2⟩ := hrel
                have N2 := Lib.hid hNB2; clear hNB2
                have m1 := N2.out.1
                have m2 := N2.out.2.1
                by_cases hlt2 : (j : Int) < sc
                · have hn := N2.out.nought
                  have he : j - ([] : List UInt8).length + 1 = j + 1 - ([] : List UInt8).length := by simp only [List.length_nil]; omega
                  rw [he] at hn
                  have HN := Lib.hid hn; clear hn he
                  by_cases hbig : 2000000000000000 < 10 * m
                  · have h3 := HN.out.2 hbig
                    have H3 := Lib.hid h3; clear h3
                    go_wp2
                    go_round
                    case rel => exact ⟨j + 1, true, 2000000000000000, by omega, by omega, by go_num, rfl, rfl, H3.out⟩
                    case measure => simp [intOf]; omega
                  · have h3 := HN.out.1 (by omega)
                    have H3 := Lib.hid h3; clear h3
                    go_wp2
                    go_round
                    case rel => exact ⟨j + 1, bg, 10 * m, by omega, by omega, by go_num, rfl, rfl, H3.out⟩
                    case measure => simp [intOf]; omega
                · have hrn := HRN.out
                  have he : (sc - (([] : List UInt8).length : Int)).toNat = j - ([] : List UInt8).length := by simp only [List.length_nil]; omega
                  rw [he] at hrn
                  have hnf := N2.out.fin
                  rw [← hrn] at hnf
                  have r1 := HRV.out
                  have r2 := HRE.out
                  rw [if_neg (by rw [HOK.out]; simp)] at r1 r2
                  generalize readN l sc = N at *
                  clear hrn he
                  by_cases hbig : 1099511627776 < N
                  · rw [if_pos hbig] at r1 r2
                    have R1 := Lib.hid r1; clear r1
                    have R2 := Lib.hid r2; clear r2
                    rcases hnf.2 hbig with h4 | h4
                    · subst h4
                      clear hnf
                      go_wp2
                      go_ret2
                      exact ⟨ret_two R1.out.symm R2.out.symm, rfl⟩
                    · clear hnf
                      have h5 : ¬ m < -1099511627776 := by omega
                      have h6 : -m < -1099511627776 := by omega
                      cases bg
                      all_goals
                        go_wp2
                        go_ret2
                        exact ⟨ret_two R1.out.symm R2.out.symm, rfl⟩
                  · rw [if_neg hbig] at r1 r2
                    obtain ⟨h4, h5⟩ := hnf.1 (by omega)
                    subst h4 h5
                    clear hnf
                    have h6 : (N : Int) ≤ 1099511627776 := by omega
                    simp only [Bool.false_eq_true, if_false, if_true] at r1
                    have R1 := Lib.hid r1; clear r1
                    have R2 := Lib.hid r2; clear r2
                    go_wp2
                    go_ret2
                    exact ⟨ret_two R1.out.symm R2.out.symm, rfl⟩
            | true =>
              clear hnb
              simp only [if_true]
              by_cases q3 : (b.length : Int) = 0
              · obtain ⟨r1, r2⟩ := HERR.out (by rw [HFORM.out, decide_eq_false (by omega : ¬ 0 < b.length)]; simp)
                have R1 := Lib.hid r1; clear r1
                have R2 := Lib.hid r2; clear r2
                rw [q3]
                go_wp2
                go_ret2
                exact ⟨ret_two R1.out.symm R2.out.symm, rfl⟩
              · have q3' : ((b.length : Int) == 0) = false := by simpa using q3
                by_cases q4 : sc < (b.length : Int)
                · obtain ⟨r1, r2⟩ := HERR.out (by rw [HFORM.out, decide_eq_false (by omega : ¬ (b.length : Int) ≤ sc)]; simp)
                  have R1 := Lib.hid r1; clear r1
                  have R2 := Lib.hid r2; clear r2
                  go_wp2
                  go_ret2
                  exact ⟨ret_two R1.out.symm R2.out.symm, rfl⟩
                · have hok : formB l sc = true := by rw [HFORM.out, decide_eq_true (by omega : 0 < a.length), decide_eq_true (by omega : (a.length : Int) ≤ 13), decide_eq_true (by omega : 0 < b.length), decide_eq_true (by omega : (b.length : Int) ≤ sc)]; rfl
                  have HOK := Lib.hid hok; clear hok
                  go_wp2
                  go_loop [8, 9, 13] (fun n big i => ∃ (j : Nat) (bg : Bool) (m : Int), b.length ≤ j ∧ (j : Int) ≤ sc ∧ i = .int .i64 j ∧ n = .int .i64 m ∧ big = .bool bg ∧ NB m bg (natV (a ++ b) * 10 ^ (j - b.length))) (fun _ _ i => sc.toNat - (intOf i).toNat)
                  case atStart => exact ⟨b.length, bg, m, Nat.le_refl _, by omega, by rfl, rfl, rfl, by simpa using HNB.out⟩
                  case round =>
                    obtain ⟨j, bg, m, hj1, hj2, rfl, rfl, rfl, hNB2⟩ := hrel
                    have N2 := Lib.hid hNB2; clear hNB2
                    have m1 := N2.out.1
                    have m2 := N2.out.2.1
                    by_cases hlt2 : (j : Int) < sc
                    · have hn := N2.out.nought
                      have he : j - b.length + 1 = j + 1 - b.length := by omega
                      rw [he] at hn
                      have HN := Lib.hid hn; clear hn he
                      by_cases hbig : 2000000000000000 < 10 * m
                      · have h3 := HN.out.2 hbig
                        have H3 := Lib.hid h3; clear h3
                        go_wp2
                        go_round
                        case rel => exact ⟨j + 1, true, 2000000000000000, by omega, by omega, by go_num, rfl, rfl, H3.out⟩
                        case measure => simp [intOf]; omega
                      · have h3 := HN.out.1 (by omega)
                        have H3 := Lib.hid h3; clear h3
                        go_wp2
                        go_round
                        case rel => exact ⟨j + 1, bg, 10 * m, by omega, by omega, by go_num, rfl, rfl, H3.out⟩
                        case measure => simp [intOf]; omega
                    · have hrn := HRN.out
                      have he : (sc - (b.length : Int)).toNat = j - b.length := by omega
                      rw [he] at hrn
                      have hnf := N2.out.fin
                      rw [← hrn] at hnf
                      have r1 := HRV.out
                      have r2 := HRE.out
                      rw [if_neg (by rw [HOK.out]; simp)] at r1 r2
                      generalize readN l sc = N at *
                      clear hrn he
                      by_cases hbig : 1099511627776 < N
                      · rw [if_pos hbig] at r1 r2
                        have R1 := Lib.hid r1; clear r1
                        have R2 := Lib.hid r2; clear r2
                        rcases hnf.2 hbig with h4 | h4
                        · subst h4
                          clear hnf
                          go_wp2
                          go_ret2
                          exact ⟨ret_two R1.out.symm R2.out.symm, rfl⟩
                        · clear hnf
                          have h5 : ¬ m < -1099511627776 := by omega
                          have h6 : -m < -1099511627776 := by omega
                          cases bg
                          all_goals
                            go_wp2
                            go_ret2
                            exact ⟨ret_two R1.out.symm R2.out.symm, rfl⟩
                      · rw [if_neg hbig] at r1 r2
                        obtain ⟨h4, h5⟩ := hnf.1 (by omega)
                        subst h4 h5
                        clear hnf
                        have h6 : (N : Int) ≤ 1099511627776 := by omega
                        simp only [Bool.false_eq_true, if_false, if_true] at r1
                        have R1 := Lib.hid r1; clear r1
                        have R2 := Lib.hid r2; clear r2
                        go_wp2
                        go_ret2
                        exact ⟨ret_two R1.out.symm R2.out.symm, rfl⟩
theorem refRead_any (s : ByteArray) (sc : Int) (w : World) (hs : s.size ≤ 4294967000) :
    Calls Tryz.prog 38 #[.string s, .int .i64 sc] w fun e w' => e = .returned (.tuple #[.int .i64 (readV s.data.toList sc), .int .i64 (readE s.data.toList sc)]) ∧ w = w' := by
  by_cases h : sc < 0 ∨ 6 < sc
  · exact refRead_scale s sc w h
  · exact refRead_in s sc w hs (by omega) (by omega)
end Deci
end Go.Proofs.YtkggahoadeeajaaGreatDoor
