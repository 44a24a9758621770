/- slices.IndexFunc and ContainsFunc of numbers and of rows of numbers; over the translated program. (Printed by drafts/gen_filfind.py.) -/
import Derived.Test.YtkggahoadeeajaaGreatDoorFilSame
import Derived.Deep.LoopGhost
import Derived.Lib.Walk
namespace Go.Proofs.YtkggahoadeeajaaGreatDoor
namespace Fil
open Go Go.RowKit Deci
set_option linter.unusedVariables false
def anyTo (p : Nat → Bool) : Nat → Bool
  | 0 => false
  | k + 1 => anyTo p k || p k
theorem anyTo_iff {p : Nat → Bool} {k : Nat} : anyTo p k = true ↔ ∃ i, i < k ∧ p i = true := by
  induction k with
  | zero => simp [anyTo]
  | succ k ih =>
    simp only [anyTo, Bool.or_eq_true, ih]
    constructor
    · rintro (⟨i, h1, h2⟩ | h)
      · exact ⟨i, by omega, h2⟩
      · exact ⟨k, by omega, h⟩
    · rintro ⟨i, h1, h2⟩
      by_cases e : i = k
      · subst e; exact .inr h2
      · exact .inl ⟨i, by omega, h2⟩
theorem anyTo_list {α : Type} (l : List α) (d : α) (f : α → Bool) : anyTo (fun j => f (l.getD j d)) l.length = l.any f := by
  rw [Bool.eq_iff_iff, anyTo_iff, List.any_eq_true]
  constructor
  · rintro ⟨i, h1, h2⟩
    refine ⟨l[i], List.getElem_mem h1, ?_⟩
    rwa [show l.getD i d = l[i] by simp [h1]] at h2
  · rintro ⟨x, h1, h2⟩
    obtain ⟨i, hi, rfl⟩ := List.getElem_of_mem h1
    exact ⟨i, hi, by rwa [show l.getD i d = l[i] by simp [hi]]⟩
theorem ret_bool {a b : Bool} (h : a = b) : Ending.returned (.bool a) = .returned (.bool b) := by rw [h]
set_option maxHeartbeats 2000000 in
theorem index_int (v : Value) (xs : List Int) (f : Int → Bool) (fn : Nat) (lb : Array Value) (w : World) (eg : ∀ args w, (callFunc fn args).run Tryz.prog w = .ok (.enter fn args) w) (he : IsRow w v xs) (hm : xs.length ≤ 1000000)
    (hp : ∀ j, j < xs.length → ∀ W, Below w.heap.size w W → Calls Tryz.prog fn (#[.int .i64 (xs.getD j 0)] ++ lb) W fun e w' => e = .returned (.bool (f (xs.getD j 0))) ∧ Below W.heap.size W w') :
    Calls Tryz.prog 82 #[v, .func (.func fn) #[] lb] w fun e w' => ∃ i : Int, e = .returned (.int .i64 i) ∧ decide (0 ≤ i) = xs.any f ∧ Below w.heap.size w w' := by
  rw [← anyTo_list xs 0 f]
  obtain ⟨a, c, rfl, hat⟩ := row_at he
  clear he
  have HE := Lib.hid hat; clear hat
  have HP := Lib.hid hp; clear hp
  have EG := Lib.hid eg; clear eg
  obtain ⟨p, hpp⟩ : ∃ p : Nat → Bool, p = (fun j => f (xs.getD j 0)) := ⟨_, rfl⟩
  have hpk : ∀ k, f (xs.getD k 0) = p k := fun k => by rw [hpp]
  rw [← hpp]
  clear hpp
  generalize xs.length = m at *
  go_enter Tryz.func82, Tryz.ntmps82
  go_wp2_with fail
  go_loopg [5, 8] m (fun gg _ s8 wr => ∃ k : Nat, k ≤ m ∧ m - k ≤ gg ∧ s8 = .int .i64 k ∧ Hid (Below w.heap.size w wr) ∧ Hid (anyTo p k = false))
  case atStart => exact ⟨0, Nat.zero_le _, by omega, rfl, Lib.hid (Below.refl _ _), Lib.hid rfl⟩
  case round =>
    obtain ⟨k, hk, hg, rfl, BW, AN⟩ := hrel
    by_cases hlt : k < m
    · obtain ⟨g, o, rfl, hb, hc⟩ := HE.out k hlt
      have d0 := (BW.out.cell (p := ⟨g, o + k, none⟩) hb).trans hc
      have hcall := HP.out k hlt wr BW.out
      rw [hpk] at hcall
      clear hc
      have eg := EG.out
      cases hq : p k with
      | true =>
        rw [hq] at hcall
        have HQ := Lib.hid hq; clear hq
        have HC := Lib.hid hcall; clear hcall
        go_wp2_with fail
        refine HC.out.mono ?_
        rintro e w' ⟨rfl, hb⟩
        have HB := Lib.hid hb
        clear hb eg d0
        go_wp2_with fail
        go_ret
        exact ⟨_, rfl, by rw [anyTo_iff.2 ⟨k, hlt, HQ.out⟩]; simp, BW.out.trans (HB.out.mono BW.out.size)⟩
      | false =>
        rw [hq] at hcall
        have HQ := Lib.hid hq; clear hq
        have HC := Lib.hid hcall; clear hcall
        go_wp2_with fail
        refine HC.out.mono ?_
        rintro e w' ⟨rfl, hb⟩
        have HB := Lib.hid hb
        clear hb eg d0
        go_wp2_with fail
        go_roundg (m - (k + 1))
        case measure => omega
        case rel => exact ⟨k + 1, by omega, by omega, by go_num, Lib.hid (BW.out.trans (HB.out.mono BW.out.size)), Lib.hid (by unfold anyTo; rw [AN.out, HQ.out]; rfl)⟩
    · obtain rfl : k = m := by omega
      go_wp2_with fail
      go_ret
      exact ⟨_, rfl, by rw [AN.out]; rfl, BW.out⟩
theorem contains_int (v : Value) (xs : List Int) (f : Int → Bool) (fn : Nat) (lb : Array Value) (w : World) (eg : ∀ args w, (callFunc fn args).run Tryz.prog w = .ok (.enter fn args) w) (he : IsRow w v xs) (hm : xs.length ≤ 1000000)
    (hp : ∀ j, j < xs.length → ∀ W, Below w.heap.size w W → Calls Tryz.prog fn (#[.int .i64 (xs.getD j 0)] ++ lb) W fun e w' => e = .returned (.bool (f (xs.getD j 0))) ∧ Below W.heap.size W w') :
    Calls Tryz.prog 62 #[v, .func (.func fn) #[] lb] w fun e w' => e = .returned (.bool (xs.any f)) ∧ Below w.heap.size w w' := by
  have h := index_int v xs f fn lb w eg he hm hp
  obtain ⟨a, c, rfl⟩ := he.form
  have H := Lib.hid h; clear h hp he eg
  generalize xs.any f = z at *
  generalize xs.length = m at *
  go_enter Tryz.func62, Tryz.ntmps62
  go_wp2_with fail
  refine H.out.mono ?_
  rintro e w' ⟨i, rfl, h1, h2⟩
  have H1 := Lib.hid h1; clear h1
  have H2 := Lib.hid h2; clear h2
  go_wp2_with fail
  go_ret
  exact ⟨ret_bool H1.out, H2.out⟩
set_option maxHeartbeats 2000000 in
theorem index_long (v : Value) (xs : List Int) (f : Int → Bool) (fn : Nat) (lb : Array Value) (w : World) (eg : ∀ args w, (callFunc fn args).run Tryz.prog w = .ok (.enter fn args) w) (he : IsRow w v xs) (hm : xs.length ≤ 1000000)
    (hp : ∀ j, j < xs.length → ∀ W, Below w.heap.size w W → Calls Tryz.prog fn (#[.int .i64 (xs.getD j 0)] ++ lb) W fun e w' => e = .returned (.bool (f (xs.getD j 0))) ∧ Below W.heap.size W w') :
    Calls Tryz.prog 83 #[v, .func (.func fn) #[] lb] w fun e w' => ∃ i : Int, e = .returned (.int .i64 i) ∧ decide (0 ≤ i) = xs.any f ∧ Below w.heap.size w w' := by
  rw [← anyTo_list xs 0 f]
  obtain ⟨a, c, rfl, hat⟩ := row_at he
  clear he
  have HE := Lib.hid hat; clear hat
  have HP := Lib.hid hp; clear hp
  have EG := Lib.hid eg; clear eg
  obtain ⟨p, hpp⟩ : ∃ p : Nat → Bool, p = (fun j => f (xs.getD j 0)) := ⟨_, rfl⟩
  have hpk : ∀ k, f (xs.getD k 0) = p k := fun k => by rw [hpp]
  rw [← hpp]
  clear hpp
  generalize xs.length = m at *
  go_enter Tryz.func83, Tryz.ntmps83
  go_wp2_with fail
  go_loopg [5, 8] m (fun gg _ s8 wr => ∃ k : Nat, k ≤ m ∧ m - k ≤ gg ∧ s8 = .int .i64 k ∧ Hid (Below w.heap.size w wr) ∧ Hid (anyTo p k = false))
  case atStart => exact ⟨0, Nat.zero_le _, by omega, rfl, Lib.hid (Below.refl _ _), Lib.hid rfl⟩
  case round =>
    obtain ⟨k, hk, hg, rfl, BW, AN⟩ := hrel
    by_cases hlt : k < m
    · obtain ⟨g, o, rfl, hb, hc⟩ := HE.out k hlt
      have d0 := (BW.out.cell (p := ⟨g, o + k, none⟩) hb).trans hc
      have hcall := HP.out k hlt wr BW.out
      rw [hpk] at hcall
      clear hc
      have eg := EG.out
      cases hq : p k with
      | true =>
        rw [hq] at hcall
        have HQ := Lib.hid hq; clear hq
        have HC := Lib.hid hcall; clear hcall
        go_wp2_with fail
        refine HC.out.mono ?_
        rintro e w' ⟨rfl, hb⟩
        have HB := Lib.hid hb
        clear hb eg d0
        go_wp2_with fail
        go_ret
        exact ⟨_, rfl, by rw [anyTo_iff.2 ⟨k, hlt, HQ.out⟩]; simp, BW.out.trans (HB.out.mono BW.out.size)⟩
      | false =>
        rw [hq] at hcall
        have HQ := Lib.hid hq; clear hq
        have HC := Lib.hid hcall; clear hcall
        go_wp2_with fail
        refine HC.out.mono ?_
        rintro e w' ⟨rfl, hb⟩
        have HB := Lib.hid hb
        clear hb eg d0
        go_wp2_with fail
        go_roundg (m - (k + 1))
        case measure => omega
        case rel => exact ⟨k + 1, by omega, by omega, by go_num, Lib.hid (BW.out.trans (HB.out.mono BW.out.size)), Lib.hid (by unfold anyTo; rw [AN.out, HQ.out]; rfl)⟩
    · obtain rfl : k = m := by omega
      go_wp2_with fail
      go_ret
      exact ⟨_, rfl, by rw [AN.out]; rfl, BW.out⟩
theorem contains_long (v : Value) (xs : List Int) (f : Int → Bool) (fn : Nat) (lb : Array Value) (w : World) (eg : ∀ args w, (callFunc fn args).run Tryz.prog w = .ok (.enter fn args) w) (he : IsRow w v xs) (hm : xs.length ≤ 1000000)
    (hp : ∀ j, j < xs.length → ∀ W, Below w.heap.size w W → Calls Tryz.prog fn (#[.int .i64 (xs.getD j 0)] ++ lb) W fun e w' => e = .returned (.bool (f (xs.getD j 0))) ∧ Below W.heap.size W w') :
    Calls Tryz.prog 65 #[v, .func (.func fn) #[] lb] w fun e w' => e = .returned (.bool (xs.any f)) ∧ Below w.heap.size w w' := by
  have h := index_long v xs f fn lb w eg he hm hp
  obtain ⟨a, c, rfl⟩ := he.form
  have H := Lib.hid h; clear h hp he eg
  generalize xs.any f = z at *
  generalize xs.length = m at *
  go_enter Tryz.func65, Tryz.ntmps65
  go_wp2_with fail
  refine H.out.mono ?_
  rintro e w' ⟨i, rfl, h1, h2⟩
  have H1 := Lib.hid h1; clear h1
  have H2 := Lib.hid h2; clear h2
  go_wp2_with fail
  go_ret
  exact ⟨ret_bool H1.out, H2.out⟩
set_option maxHeartbeats 2000000 in
theorem index_ints (v : Value) (rs : List (List Int)) (f : List Int → Bool) (fn : Nat) (lb : Array Value) (w : World) (eg : ∀ args w, (callFunc fn args).run Tryz.prog w = .ok (.enter fn args) w) (he : IsRows w v rs) (hm : rs.length ≤ 1000000)
    (hp : ∀ j, j < rs.length → ∀ W u, Below w.heap.size w W → IsRow W u (rs.getD j []) → Calls Tryz.prog fn (#[u] ++ lb) W fun e w' => e = .returned (.bool (f (rs.getD j []))) ∧ Below W.heap.size W w') :
    Calls Tryz.prog 61 #[v, .func (.func fn) #[] lb] w fun e w' => ∃ i : Int, e = .returned (.int .i64 i) ∧ decide (0 ≤ i) = rs.any f ∧ Below w.heap.size w w' := by
  rw [← anyTo_list rs [] f]
  obtain ⟨a, c, rfl, hat⟩ := rows_at he
  clear he
  have HE := Lib.hid hat; clear hat
  have HP := Lib.hid hp; clear hp
  have EG := Lib.hid eg; clear eg
  obtain ⟨p, hpp⟩ : ∃ p : Nat → Bool, p = (fun j => f (rs.getD j [])) := ⟨_, rfl⟩
  have hpk : ∀ k, f (rs.getD k []) = p k := fun k => by rw [hpp]
  rw [← hpp]
  clear hpp
  generalize rs.length = m at *
  go_enter Tryz.func61, Tryz.ntmps61
  go_wp2_with fail
  go_loopg [5, 8] m (fun gg _ s8 wr => ∃ k : Nat, k ≤ m ∧ m - k ≤ gg ∧ s8 = .int .i64 k ∧ Hid (Below w.heap.size w wr) ∧ Hid (anyTo p k = false))
  case atStart => exact ⟨0, Nat.zero_le _, by omega, rfl, Lib.hid (Below.refl _ _), Lib.hid rfl⟩
  case round =>
    obtain ⟨k, hk, hg, rfl, BW, AN⟩ := hrel
    by_cases hlt : k < m
    · obtain ⟨g, o, u, rfl, hb, hc, hu⟩ := HE.out k hlt
      have d0 := (BW.out.cell (p := ⟨g, o + k, none⟩) hb).trans hc
      have hcall := HP.out k hlt wr u BW.out (hu.below BW.out)
      obtain ⟨ua, uc, rfl⟩ := hu.form
      clear hu
      generalize (rs.getD k []).length = rl at *
      rw [hpk] at hcall
      clear hc
      have eg := EG.out
      cases hq : p k with
      | true =>
        rw [hq] at hcall
        have HQ := Lib.hid hq; clear hq
        have HC := Lib.hid hcall; clear hcall
        go_wp2_with fail
        refine HC.out.mono ?_
        rintro e w' ⟨rfl, hb⟩
        have HB := Lib.hid hb
        clear hb eg d0
        go_wp2_with fail
        go_ret
        exact ⟨_, rfl, by rw [anyTo_iff.2 ⟨k, hlt, HQ.out⟩]; simp, BW.out.trans (HB.out.mono BW.out.size)⟩
      | false =>
        rw [hq] at hcall
        have HQ := Lib.hid hq; clear hq
        have HC := Lib.hid hcall; clear hcall
        go_wp2_with fail
        refine HC.out.mono ?_
        rintro e w' ⟨rfl, hb⟩
        have HB := Lib.hid hb
        clear hb eg d0
        go_wp2_with fail
        go_roundg (m - (k + 1))
        case measure => omega
        case rel => exact ⟨k + 1, by omega, by omega, by go_num, Lib.hid (BW.out.trans (HB.out.mono BW.out.size)), Lib.hid (by unfold anyTo; rw [AN.out, HQ.out]; rfl)⟩
    · obtain rfl : k = m := by omega
      go_wp2_with fail
      go_ret
      exact ⟨_, rfl, by rw [AN.out]; rfl, BW.out⟩
theorem contains_ints (v : Value) (rs : List (List Int)) (f : List Int → Bool) (fn : Nat) (lb : Array Value) (w : World) (eg : ∀ args w, (callFunc fn args).run Tryz.prog w = .ok (.enter fn args) w) (he : IsRows w v rs) (hm : rs.length ≤ 1000000)
    (hp : ∀ j, j < rs.length → ∀ W u, Below w.heap.size w W → IsRow W u (rs.getD j []) → Calls Tryz.prog fn (#[u] ++ lb) W fun e w' => e = .returned (.bool (f (rs.getD j []))) ∧ Below W.heap.size W w') :
    Calls Tryz.prog 41 #[v, .func (.func fn) #[] lb] w fun e w' => e = .returned (.bool (rs.any f)) ∧ Below w.heap.size w w' := by
  have h := index_ints v rs f fn lb w eg he hm hp
  obtain ⟨a, c, rfl⟩ := he.form
  have H := Lib.hid h; clear h hp he eg
  generalize rs.any f = z at *
  generalize rs.length = m at *
  go_enter Tryz.func41, Tryz.ntmps41
  go_wp2_with fail
  refine H.out.mono ?_
  rintro e w' ⟨i, rfl, h1, h2⟩
  have H1 := Lib.hid h1; clear h1
  have H2 := Lib.hid h2; clear h2
  go_wp2_with fail
  go_ret
  exact ⟨ret_bool H1.out, H2.out⟩
set_option maxHeartbeats 2000000 in
theorem index_longs (v : Value) (rs : List (List Int)) (f : List Int → Bool) (fn : Nat) (lb : Array Value) (w : World) (eg : ∀ args w, (callFunc fn args).run Tryz.prog w = .ok (.enter fn args) w) (he : IsRows w v rs) (hm : rs.length ≤ 1000000)
    (hp : ∀ j, j < rs.length → ∀ W u, Below w.heap.size w W → IsRow W u (rs.getD j []) → Calls Tryz.prog fn (#[u] ++ lb) W fun e w' => e = .returned (.bool (f (rs.getD j []))) ∧ Below W.heap.size W w') :
    Calls Tryz.prog 64 #[v, .func (.func fn) #[] lb] w fun e w' => ∃ i : Int, e = .returned (.int .i64 i) ∧ decide (0 ≤ i) = rs.any f ∧ Below w.heap.size w w' := by
  rw [← anyTo_list rs [] f]
  obtain ⟨a, c, rfl, hat⟩ := rows_at he
  clear he
  have HE := Lib.hid hat; clear hat
  have HP := Lib.hid hp; clear hp
  have EG := Lib.hid eg; clear eg
  obtain ⟨p, hpp⟩ : ∃ p : Nat → Bool, p = (fun j => f (rs.getD j [])) := ⟨_, rfl⟩
  have hpk : ∀ k, f (rs.getD k []) = p k := fun k => by rw [hpp]
  rw [← hpp]
  clear hpp
  generalize rs.length = m at *
  go_enter Tryz.func64, Tryz.ntmps64
  go_wp2_with fail
  go_loopg [5, 8] m (fun gg _ s8 wr => ∃ k : Nat, k ≤ m ∧ m - k ≤ gg ∧ s8 = .int .i64 k ∧ Hid (Below w.heap.size w wr) ∧ Hid (anyTo p k = false))
  case atStart => exact ⟨0, Nat.zero_le _, by omega, rfl, Lib.hid (Below.refl _ _), Lib.hid rfl⟩
  case round =>
    obtain ⟨k, hk, hg, rfl, BW, AN⟩ := hrel
    by_cases hlt : k < m
    · obtain ⟨g, o, u, rfl, hb, hc, hu⟩ := HE.out k hlt
      have d0 := (BW.out.cell (p := ⟨g, o + k, none⟩) hb).trans hc
      have hcall := HP.out k hlt wr u BW.out (hu.below BW.out)
      obtain ⟨ua, uc, rfl⟩ := hu.form
      clear hu
      generalize (rs.getD k []).length = rl at *
      rw [hpk] at hcall
      clear hc
      have eg := EG.out
      cases hq : p k with
      | true =>
        rw [hq] at hcall
        have HQ := Lib.hid hq; clear hq
        have HC := Lib.hid hcall; clear hcall
        go_wp2_with fail
        refine HC.out.mono ?_
        rintro e w' ⟨rfl, hb⟩
        have HB := Lib.hid hb
        clear hb eg d0
        go_wp2_with fail
        go_ret
        exact ⟨_, rfl, by rw [anyTo_iff.2 ⟨k, hlt, HQ.out⟩]; simp, BW.out.trans (HB.out.mono BW.out.size)⟩
      | false =>
        rw [hq] at hcall
        have HQ := Lib.hid hq; clear hq
        have HC := Lib.hid hcall; clear hcall
        go_wp2_with fail
        refine HC.out.mono ?_
        rintro e w' ⟨rfl, hb⟩
        have HB := Lib.hid hb
        clear hb eg d0
        go_wp2_with fail
        go_roundg (m - (k + 1))
        case measure => omega
        case rel => exact ⟨k + 1, by omega, by omega, by go_num, Lib.hid (BW.out.trans (HB.out.mono BW.out.size)), Lib.hid (by unfold anyTo; rw [AN.out, HQ.out]; rfl)⟩
    · obtain rfl : k = m := by omega
      go_wp2_with fail
      go_ret
      exact ⟨_, rfl, by rw [AN.out]; rfl, BW.out⟩
theorem contains_longs (v : Value) (rs : List (List Int)) (f : List Int → Bool) (fn : Nat) (lb : Array Value) (w : World) (eg : ∀ args w, (callFunc fn args).run Tryz.prog w = .ok (.enter fn args) w) (he : IsRows w v rs) (hm : rs.length ≤ 1000000)
    (hp : ∀ j, j < rs.length → ∀ W u, Below w.heap.size w W → IsRow W u (rs.getD j []) → Calls Tryz.prog fn (#[u] ++ lb) W fun e w' => e = .returned (.bool (f (rs.getD j []))) ∧ Below W.heap.size W w') :
    Calls Tryz.prog 43 #[v, .func (.func fn) #[] lb] w fun e w' => e = .returned (.bool (rs.any f)) ∧ Below w.heap.size w w' := by
  have h := index_longs v rs f fn lb w eg he hm hp
  obtain ⟨a, c, rfl⟩ := he.form
  have H := Lib.hid h; clear h hp he eg
  generalize rs.any f = z at *
  generalize rs.length = m at *
  go_enter Tryz.func43, Tryz.ntmps43
  go_wp2_with fail
  refine H.out.mono ?_
  rintro e w' ⟨i, rfl, h1, h2⟩
  have H1 := Lib.hid h1; clear h1
  have H2 := Lib.hid h2; clear h2
  go_wp2_with fail
  go_ret
  exact ⟨ret_bool H1.out, H2.out⟩
end Fil
end Go.Proofs.YtkggahoadeeajaaGreatDoor
