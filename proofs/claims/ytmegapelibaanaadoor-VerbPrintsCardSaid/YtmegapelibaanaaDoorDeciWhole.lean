/- deci.Whole: the number of digits alone, or the error; over the translated program. -/
import Derived.Test.YtmegapelibaanaaDoorDeciRead
namespace Go.Proofs.YtmegapelibaanaaDoor
namespace Deci
open Go Go.RowKit
def wholeBad (l : List UInt8) : Bool := Lib.hasPrefix l [45] || (Lib.hasPrefix l [48] && !(l == [48]))
def wholeV (l : List UInt8) : Int := if wholeBad l then 0 else readV l 0
def wholeE (l : List UInt8) : Int := if wholeBad l then 21 else readE l 0
set_option maxHeartbeats 1000000 in
theorem whole_any (s : ByteArray) (w : World) (hE : Env w) (hs : s.size ≤ 4294967000) :
    Calls Tryd.prog 72 #[.string s] w fun e w' => e = .returned (.tuple #[.int .i64 (wholeV s.data.toList), .int .i64 (wholeE s.data.toList)]) ∧ Below w.heap.size w w' := by
  have h1 := fun w => Sh.strings_HasPrefix s ⟨#[45]⟩ w
  have h2 := fun w => Sh.strings_HasPrefix s ⟨#[48]⟩ w
  have h3 := read_any s 0 w hE hs
  change ∀ w, Calls Tryd.prog 87 #[.string s, .string ⟨#[45]⟩] w fun e w' => e = .returned (.bool (Lib.hasPrefix s.data.toList [45])) ∧ w' = w at h1
  change ∀ w, Calls Tryd.prog 87 #[.string s, .string ⟨#[48]⟩] w fun e w' => e = .returned (.bool (Lib.hasPrefix s.data.toList [48])) ∧ w' = w at h2
  have hv : wholeV s.data.toList = if wholeBad s.data.toList then 0 else readV s.data.toList 0 := rfl
  have he : wholeE s.data.toList = if wholeBad s.data.toList then 21 else readE s.data.toList 0 := rfl
  have hb : wholeBad s.data.toList = (Lib.hasPrefix s.data.toList [45] || (Lib.hasPrefix s.data.toList [48] && !(s.toList == [48]))) := by rw [Lib.toList_data]; rfl
  clear hE
  generalize wholeV s.data.toList = V at *
  generalize wholeE s.data.toList = E at *
  generalize wholeBad s.data.toList = B at *
  generalize readV s.data.toList 0 = RV at *
  generalize readE s.data.toList 0 = RE at *
  generalize Lib.hasPrefix s.data.toList [45] = P1 at *
  generalize Lib.hasPrefix s.data.toList [48] = P2 at *
  have H1 := Lib.hid h1; clear h1
  have H2 := Lib.hid h2; clear h2
  have H3 := Lib.hid h3; clear h3
  have hz : (ByteArray.mk #[48]).toList = [48] := by rw [Lib.toList_data]
  have hz2 : (s.toList == [48]) = true ∨ (s.toList == [48]) = false := by cases (s.toList == [48]) <;> simp
  have HZ := Lib.hid hz; clear hz
  cases P1 with
  | true =>
    obtain rfl : B = true := by simpa using hb
    simp only [if_true] at hv he
    subst hv he
    clear hb hz2
    go_enter Tryd.func72, Tryd.ntmps72
    go_wp2_with (first
      | (go_at_call 87; (with_reducible refine (H1.out _).mono ?_); rintro e w' ⟨rfl, rfl⟩)
      | (go_at_call 87; (with_reducible refine (H2.out _).mono ?_); rintro e w' ⟨rfl, rfl⟩)
      | (go_at_call 73; (with_reducible refine H3.out.mono ?_); rintro e w' ⟨rfl, hb⟩))
    go_ret2
    exact ⟨rfl, Below.refl _ _⟩
  | false =>
    cases P2 with
    | false =>
      obtain rfl : B = false := by simpa using hb
      simp only [Bool.false_eq_true, if_false] at hv he
      subst hv he
      clear hb hz2
      go_enter Tryd.func72, Tryd.ntmps72
      go_wp2_with (first
        | (go_at_call 87; (with_reducible refine (H1.out _).mono ?_); rintro e w' ⟨rfl, rfl⟩)
        | (go_at_call 87; (with_reducible refine (H2.out _).mono ?_); rintro e w' ⟨rfl, rfl⟩)
        | (go_at_call 73; (with_reducible refine H3.out.mono ?_); rintro e w' ⟨rfl, hb⟩))
      go_ret2
      exact ⟨rfl, hb⟩
    | true =>
      rcases hz2 with hz | hz
      · obtain rfl : B = false := by rw [hz] at hb; simpa using hb
        simp only [Bool.false_eq_true, if_false] at hv he
        subst hv he
        clear hb
        have hz' : s.toList = [48] := by simpa using hz
        go_enter Tryd.func72, Tryd.ntmps72
        go_wp2_with (first
          | (go_at_call 87; (with_reducible refine (H1.out _).mono ?_); rintro e w' ⟨rfl, rfl⟩)
          | (go_at_call 87; (with_reducible refine (H2.out _).mono ?_); rintro e w' ⟨rfl, rfl⟩)
          | (go_at_call 73; (with_reducible refine H3.out.mono ?_); rintro e w' ⟨rfl, hb⟩))
        go_ret2
        exact ⟨rfl, hb⟩
      · obtain rfl : B = true := by rw [hz] at hb; simpa using hb
        simp only [if_true] at hv he
        subst hv he
        clear hb
        have hz' : ¬ s.toList = [48] := by simpa using hz
        go_enter Tryd.func72, Tryd.ntmps72
        go_wp2_with (first
          | (go_at_call 87; (with_reducible refine (H1.out _).mono ?_); rintro e w' ⟨rfl, rfl⟩)
          | (go_at_call 87; (with_reducible refine (H2.out _).mono ?_); rintro e w' ⟨rfl, rfl⟩)
          | (go_at_call 73; (with_reducible refine H3.out.mono ?_); rintro e w' ⟨rfl, hb⟩))
        go_ret2
        exact ⟨rfl, Below.refl _ _⟩
end Deci
end Go.Proofs.YtmegapelibaanaaDoor
