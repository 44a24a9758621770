/- deci.Read and deci.Whole: the number of a decimal, or the error; over the translated program. -/
import Derived.Test.YtmegapelibaanaaDoorDeciLines
namespace Go.Proofs.YtmegapelibaanaaDoor
namespace Deci
open Go Go.RowKit
/-- The text behind a minus; and what stands ahead of the first point, what stands behind it, and whether there is one. -/
def restOf (l : List UInt8) : List UInt8 := Lib.trimPrefix l [45]
def minusOf (l : List UInt8) : Bool := Lib.hasPrefix l [45]
def cutOf (l : List UInt8) : List UInt8 × List UInt8 × Bool := Lib.cut (restOf l) [46]
def formB (l : List UInt8) (sc : Int) : Bool := digB (cutOf l).1 13 && (!(cutOf l).2.2 || digB (cutOf l).2.1 sc)
def readN (l : List UInt8) (sc : Int) : Nat := natV ((cutOf l).1 ++ (cutOf l).2.1) * 10 ^ (sc - ((cutOf l).2.1.length : Int)).toNat
/-- The number, and the error. -/
def readV (l : List UInt8) (sc : Int) : Int :=
  if sc < 0 ∨ 6 < sc then 0 else if formB l sc = false then 0 else if 1099511627776 < readN l sc then 0 else if minusOf l then -(readN l sc : Int) else readN l sc
def readE (l : List UInt8) (sc : Int) : Int :=
  if sc < 0 ∨ 6 < sc then 1 else if formB l sc = false then 21 else if 1099511627776 < readN l sc then 23 else 0
theorem inB_append (lo hi : Int) (a b : List UInt8) : inB lo hi (a ++ b) = (inB lo hi a && inB lo hi b) := by unfold inB; rw [List.all_append]
theorem digB_true {l : List UInt8} {m : Int} (h : digB l m = true) : 0 < l.length ∧ (l.length : Int) ≤ m ∧ inB 48 57 l = true := by
  unfold digB at h; simp only [Bool.and_eq_true, decide_eq_true_eq] at h; exact h
/-- What a decimal's parts are. -/
theorem form_true {l : List UInt8} {sc : Int} (h : formB l sc = true) : inB 48 57 ((cutOf l).1 ++ (cutOf l).2.1) = true ∧ (cutOf l).1.length ≤ 13 ∧ ((cutOf l).2.1.length : Int) ≤ max sc 0 := by
  unfold formB at h
  simp only [Bool.and_eq_true, Bool.or_eq_true] at h
  obtain ⟨h1, h2⟩ := h
  obtain ⟨a1, a2, a3⟩ := digB_true h1
  rcases h2 with h2 | h2
  · have hp : (cutOf l).2.1 = [] := by
      have h2' : (cutOf l).2.2 = false := by simpa using h2
      unfold cutOf Lib.cut at h2' ⊢
      split at h2'
      · cases h2'
      · rename_i hc; rw [if_neg hc]
    rw [hp]
    exact ⟨by rw [List.append_nil]; exact a3, by omega, by simp; omega⟩
  · obtain ⟨b1, b2, b3⟩ := digB_true h2
    exact ⟨by rw [inB_append, a3, b3]; rfl, by omega, by omega⟩
theorem append_data (a b : ByteArray) : (a ++ b).data.toList = a.data.toList ++ b.data.toList := by simp
theorem strOf_append (a b : List UInt8) : (strOf a ++ strOf b) = strOf (a ++ b) := by
  rw [← strOf_data (strOf a ++ strOf b), append_data]; rfl
theorem read_scale (s : ByteArray) (sc : Int) (w : World) (h : sc < 0 ∨ 6 < sc) :
    Calls Tryd.prog 73 #[.string s, .int .i64 sc] w fun e w' => e = .returned (.tuple #[.int .i64 (readV s.data.toList sc), .int .i64 (readE s.data.toList sc)]) ∧ Below w.heap.size w w' := by
  have h1 : readV s.data.toList sc = 0 := by unfold readV; rw [if_pos h]
  have h2 : readE s.data.toList sc = 1 := by unfold readE; rw [if_pos h]
  rw [h1, h2]
  clear h1 h2
  rcases h with h | h
  · go_enter Tryd.func73, Tryd.ntmps73
    go_wp2
    go_ret2
    exact ⟨rfl, Below.refl _ _⟩
  · have h' : ¬ sc < 0 := by omega
    go_enter Tryd.func73, Tryd.ntmps73
    go_wp2
    go_ret2
    exact ⟨rfl, Below.refl _ _⟩
theorem cut_len (l : List UInt8) : (cutOf l).1.length ≤ l.length ∧ (cutOf l).2.1.length ≤ l.length := by
  have hr : (restOf l).length ≤ l.length := by unfold restOf Lib.trimPrefix; split <;> simp
  unfold cutOf Lib.cut
  split <;> simp <;> omega
set_option maxHeartbeats 1000000 in
theorem read_in (s : ByteArray) (sc : Int) (w : World) (hE : Env w) (hs : s.size ≤ 4294967000) (g1 : 0 ≤ sc) (g2 : sc ≤ 6) :
    Calls Tryd.prog 73 #[.string s, .int .i64 sc] w fun e w' => e = .returned (.tuple #[.int .i64 (readV s.data.toList sc), .int .i64 (readE s.data.toList sc)]) ∧ Below w.heap.size w w' := by
  have hcp := fun w => Sh.strings_CutPrefix s ⟨#[45]⟩ w
  change ∀ w, Calls Tryd.prog 42 #[.string s, .string ⟨#[45]⟩] w fun e w' => e = .returned (.tuple #[.string (strOf (restOf s.data.toList)), .bool (minusOf s.data.toList)]) ∧ w' = w at hcp
  obtain ⟨m, hm⟩ := hE.mlen
  have hrs : (strOf (restOf s.data.toList)).size < 4294967281 := by
    have : (restOf s.data.toList).length ≤ s.data.toList.length := by unfold restOf Lib.trimPrefix; split <;> simp
    show (restOf s.data.toList).length < _
    simp at this; omega
  have hcut := Sh.strings_Cut (strOf (restOf s.data.toList)) ⟨#[46]⟩ m w hrs hm
  change Calls Tryd.prog 88 #[.string (strOf (restOf s.data.toList)), .string ⟨#[46]⟩] w fun e w' => e = .returned (.tuple #[.string (strOf (cutOf s.data.toList).1), .string (strOf (cutOf s.data.toList).2.1), .bool (cutOf s.data.toList).2.2]) ∧ ∃ n, w' = w.drewN n at hcut
  clear hm hrs hE
  have hlen := cut_len s.data.toList
  have hft := fun h => form_true (l := s.data.toList) (sc := sc) h
  have hrv : readV s.data.toList sc = if formB s.data.toList sc = false then 0 else if 1099511627776 < readN s.data.toList sc then 0 else if minusOf s.data.toList then -(readN s.data.toList sc : Int) else readN s.data.toList sc := by unfold readV; rw [if_neg (by omega)]
  have hre : readE s.data.toList sc = if formB s.data.toList sc = false then 21 else if 1099511627776 < readN s.data.toList sc then 23 else 0 := by unfold readE; rw [if_neg (by omega)]
  have hfb : formB s.data.toList sc = (digB (cutOf s.data.toList).1 13 && (!(cutOf s.data.toList).2.2 || digB (cutOf s.data.toList).2.1 sc)) := rfl
  have hrn : readN s.data.toList sc = natV ((cutOf s.data.toList).1 ++ (cutOf s.data.toList).2.1) * 10 ^ (sc - ((cutOf s.data.toList).2.1.length : Int)).toNat := rfl
  generalize readV s.data.toList sc = V at *
  generalize readE s.data.toList sc = E at *
  generalize formB s.data.toList sc = fb at *
  generalize readN s.data.toList sc = N at *
  generalize cutOf s.data.toList = C at *
  generalize restOf s.data.toList = R at *
  generalize minusOf s.data.toList = M at *
  obtain ⟨W, P, D⟩ := C
  simp only at hcut hlen hft hfb hrn
  have hsl : s.data.toList.length = s.size := by simp
  have hdw := fun w => digits_any (strOf W) 13 w (by show W.length ≤ _; unfold maxLen; omega)
  have hdp := fun w => digits_any (strOf P) sc w (by show P.length ≤ _; unfold maxLen; omega)
  rw [data_strOf] at hdw hdp
  have hpl : (strOf P).size = P.length := rfl
  have HCP := Lib.hid hcp; clear hcp
  have HCUT := Lib.hid hcut; clear hcut
  have HPL := Lib.hid hpl; clear hpl
  clear hsl hlen
  generalize digB W 13 = dw at *
  generalize digB P sc = dp at *
  have HDW := Lib.hid hdw; clear hdw
  have HDP := Lib.hid hdp; clear hdp
  cases fb with
  | false =>
    simp only [if_true] at hrv hre
    subst hrv hre
    clear hft hrn
    cases dw with
    | false =>
      clear hfb
      go_enter Tryd.func73, Tryd.ntmps73
      go_wp2_with (first
        | (go_at_call 42; (with_reducible refine (HCP.out _).mono ?_); rintro e w' ⟨rfl, rfl⟩)
        | (go_at_call 88; (with_reducible refine HCUT.out.mono ?_); rintro e w' ⟨rfl, n, rfl⟩)
        | (go_at_call 89; (with_reducible refine (HDW.out _).mono ?_); rintro e w' ⟨rfl, rfl⟩))
      go_ret2
      exact ⟨rfl, below_drewN (Below.refl _ _) _⟩
    | true =>
      cases D with
      | false => simp at hfb
      | true =>
        obtain rfl : dp = false := by simpa using hfb.symm
        clear hfb
        go_enter Tryd.func73, Tryd.ntmps73
        go_wp2_with (first
          | (go_at_call 42; (with_reducible refine (HCP.out _).mono ?_); rintro e w' ⟨rfl, rfl⟩)
          | (go_at_call 88; (with_reducible refine HCUT.out.mono ?_); rintro e w' ⟨rfl, n, rfl⟩)
          | (go_at_call 89; (with_reducible refine (HDW.out _).mono ?_); rintro e w' ⟨rfl, rfl⟩)
          | (go_at_call 89; (with_reducible refine (HDP.out _).mono ?_); rintro e w' ⟨rfl, rfl⟩))
        go_ret2
        exact ⟨rfl, below_drewN (Below.refl _ _) _⟩
  | true =>
    obtain ⟨f1, f2, f3⟩ := hft rfl
    obtain rfl : dw = true := by cases dw; simp at hfb; rfl
    have hva := fun w => value_any (strOf (W ++ P)) (sc - ((strOf P).size : Int)) w (by show (W ++ P).length ≤ _; unfold maxLen; simp; omega) (by rw [data_strOf]; exact f1) (by omega)
    have hrn' : natV (strOf (W ++ P)).data.toList * 10 ^ (sc - ((strOf P).size : Int)).toNat = N := hrn.symm
    rw [hrn', ← strOf_append] at hva
    have hcb := capV_bd N
    have hc1 : 1099511627776 < N → capV N = 1099511627777 := fun h => by unfold capV; rw [if_neg (by omega)]
    have hc2 : N ≤ 1099511627776 → capV N = N := fun h => by unfold capV; rw [if_pos h]
    have f4 : ((strOf P).size : Int) ≤ sc := by have : (strOf P).size = P.length := rfl; omega
    have f5 : (strOf W).size + (strOf P).size ≤ 9223372036854775807 := by have h1 : (strOf P).size = P.length := rfl; have h2 : (strOf W).size = W.length := rfl; omega
    have f6 : 0 ≤ sc - ((strOf P).size : Int) := by omega
    clear hft hrn f1 f2 f3 hrn'
    simp only [Bool.true_eq_false, if_false] at hrv hre
    generalize strOf W = SW at *
    generalize strOf P = SP at *
    have HRV := Lib.hid hrv; clear hrv
    have HRE := Lib.hid hre; clear hre
    obtain ⟨c1, c2⟩ := hcb
    generalize capV N = cN at *
    have HC1 := Lib.hid hc1; clear hc1
    have HC2 := Lib.hid hc2; clear hc2
    have HVA := Lib.hid hva; clear hva HPL
    by_cases hbig : 1099511627776 < N
    · have e1 := HC1.out hbig
      have r1 := HRV.out
      have r2 := HRE.out
      rw [if_pos hbig] at r1 r2
      subst e1 r1 r2
      clear HC1 HC2 HRV HRE c1 c2 hbig
      cases D with
      | false =>
        clear hfb
        go_enter Tryd.func73, Tryd.ntmps73
        go_wp2_with (first
          | (go_at_call 42; (with_reducible refine (HCP.out _).mono ?_); rintro e w' ⟨rfl, rfl⟩)
          | (go_at_call 88; (with_reducible refine HCUT.out.mono ?_); rintro e w' ⟨rfl, n, rfl⟩)
          | (go_at_call 89; (with_reducible refine (HDW.out _).mono ?_); rintro e w' ⟨rfl, rfl⟩)
          | (go_at_call 90; (with_reducible refine (HVA.out _).mono ?_); rintro e w' ⟨rfl, rfl⟩))
        go_ret2
        exact ⟨rfl, below_drewN (Below.refl _ _) _⟩
      | true =>
        obtain rfl : dp = true := by simpa using hfb.symm
        clear hfb
        go_enter Tryd.func73, Tryd.ntmps73
        go_wp2_with (first
          | (go_at_call 42; (with_reducible refine (HCP.out _).mono ?_); rintro e w' ⟨rfl, rfl⟩)
          | (go_at_call 88; (with_reducible refine HCUT.out.mono ?_); rintro e w' ⟨rfl, n, rfl⟩)
          | (go_at_call 89; (with_reducible refine (HDW.out _).mono ?_); rintro e w' ⟨rfl, rfl⟩)
          | (go_at_call 89; (with_reducible refine (HDP.out _).mono ?_); rintro e w' ⟨rfl, rfl⟩)
          | (go_at_call 90; (with_reducible refine (HVA.out _).mono ?_); rintro e w' ⟨rfl, rfl⟩))
        go_ret2
        exact ⟨rfl, below_drewN (Below.refl _ _) _⟩
    · have e1 := HC2.out (by omega)
      have r1 := HRV.out
      have r2 := HRE.out
      rw [if_neg hbig] at r1 r2
      subst e1 r2
      have c3 : (N : Int) ≤ 1099511627776 := by omega
      clear HC1 HC2 HRV HRE c1 c2 hbig
      cases M <;> (simp only [if_true, Bool.false_eq_true, if_false] at r1; subst r1)
      all_goals
        cases D with
        | false =>
          clear hfb
          go_enter Tryd.func73, Tryd.ntmps73
          go_wp2_with (first
            | (go_at_call 42; (with_reducible refine (HCP.out _).mono ?_); rintro e w' ⟨rfl, rfl⟩)
            | (go_at_call 88; (with_reducible refine HCUT.out.mono ?_); rintro e w' ⟨rfl, n, rfl⟩)
            | (go_at_call 89; (with_reducible refine (HDW.out _).mono ?_); rintro e w' ⟨rfl, rfl⟩)
            | (go_at_call 90; (with_reducible refine (HVA.out _).mono ?_); rintro e w' ⟨rfl, rfl⟩))
          go_ret2
          exact ⟨rfl, below_drewN (Below.refl _ _) _⟩
        | true =>
          obtain rfl : dp = true := by simpa using hfb.symm
          clear hfb
          go_enter Tryd.func73, Tryd.ntmps73
          go_wp2_with (first
            | (go_at_call 42; (with_reducible refine (HCP.out _).mono ?_); rintro e w' ⟨rfl, rfl⟩)
            | (go_at_call 88; (with_reducible refine HCUT.out.mono ?_); rintro e w' ⟨rfl, n, rfl⟩)
            | (go_at_call 89; (with_reducible refine (HDW.out _).mono ?_); rintro e w' ⟨rfl, rfl⟩)
            | (go_at_call 89; (with_reducible refine (HDP.out _).mono ?_); rintro e w' ⟨rfl, rfl⟩)
            | (go_at_call 90; (with_reducible refine (HVA.out _).mono ?_); rintro e w' ⟨rfl, rfl⟩))
          go_ret2
          exact ⟨rfl, below_drewN (Below.refl _ _) _⟩
theorem read_any (s : ByteArray) (sc : Int) (w : World) (hE : Env w) (hs : s.size ≤ 4294967000) :
    Calls Tryd.prog 73 #[.string s, .int .i64 sc] w fun e w' => e = .returned (.tuple #[.int .i64 (readV s.data.toList sc), .int .i64 (readE s.data.toList sc)]) ∧ Below w.heap.size w w' := by
  by_cases h : sc < 0 ∨ 6 < sc
  · exact read_scale s sc w h
  · exact read_in s sc w hE hs (by omega) (by omega)
end Deci
end Go.Proofs.YtmegapelibaanaaDoor
