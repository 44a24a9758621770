/- Plain facts: what is printed is parsed as it; what is parsed has a text, no longer than it was; a line missing, one too many, one spoilt; where a text's lines begin. -/
import Derived.Test.YtkggahoadeeajaaGreatDoorFilMath
import Derived.Test.YtkggahoadeeajaaGreatDoorFilLaw
namespace Go.Proofs.YtkggahoadeeajaaGreatDoor
namespace Fil
open Go Go.RowKit Deci
set_option linter.unusedVariables false
theorem planT_lines {p : PL} (h : p.Ok) (hn : (planT p).length ≤ 1048576) : linesP (planT p) = (planL p).map strOf ∧ linesE (planT p) = 0 := by
  rw [planT_flat h.same] at hn ⊢
  exact lines_flat (planL_no h) hn
theorem map_at {L : List (List UInt8)} {j : Nat} {l : List UInt8} (h : L[j]? = some l) : (L.map strOf)[j]? = some (strOf l) := by rw [List.getElem?_map, h]; rfl
/-- WHAT IS PRINTED IS PARSED AS IT. -/
theorem back {p : PL} (h : p.Ok) (hn : (planT p).length ≤ 1048576) : readF (planT p) = (0, 0) ∧ parseP (planT p) = p := by
  obtain ⟨h1, h2⟩ := planT_lines h hn
  obtain ⟨a, b⟩ := planF_all (L := linesP (planT p)) h (fun j l hj => by rw [h1]; exact map_at hj) (by rw [h1, List.length_map, planL_len h]; exact Nat.le_refl _)
  rw [if_pos (by rw [h1, List.length_map, planL_len h])] at a
  have e : readF (planT p) = (0, 0) := by unfold readF; rw [h2, if_neg (by simp), a]
  refine ⟨e, ?_⟩
  unfold parseP
  rw [e, if_pos rfl, b]
theorem planT_inj {p q : PL} (hp : p.Ok) (hq : q.Ok) (np : (planT p).length ≤ 1048576) (nq : (planT q).length ≤ 1048576) : planT p = planT q ↔ p = q := by
  constructor
  · intro e
    rw [← (back hp np).2, e, (back hq nq).2]
  · rintro rfl; rfl
/-- A LINE TOO MANY. -/
theorem more {p : PL} (h : p.Ok) (x : List UInt8) (hx : ∀ b ∈ x, b ≠ 10) (hn : (planT p).length + x.length + 1 ≤ 1048576) : readF (planT p ++ (x ++ [10])) = (3 + 2 * p.routes.length, 22) := by
  have e : planT p ++ (x ++ [10]) = flat 10 (planL p ++ [x]) := by rw [flat_snoc, planT_flat h.same]
  have hl : (flat 10 (planL p ++ [x])).length ≤ 1048576 := by rw [← e]; simp; omega
  obtain ⟨h1, h2⟩ := lines_flat (ls := planL p ++ [x]) (fun l hl => by
    rcases List.mem_append.1 hl with hl | hl
    · exact planL_no h l hl
    · simp only [List.mem_cons, List.not_mem_nil, or_false] at hl; subst hl; exact hx) hl
  have hlen : ((planL p ++ [x]).map strOf).length = 3 + 2 * p.routes.length := by rw [List.length_map, List.length_append, planL_len h]; simp; omega
  obtain ⟨a, -⟩ := planF_all (L := (planL p ++ [x]).map strOf) h (fun j l hj => map_at (by rw [List.getElem?_append_left (List.getElem?_eq_some_iff.1 hj).1, hj])) (by omega)
  rw [if_neg (by omega)] at a
  rw [e]
  unfold readF
  rw [h2, if_neg (by simp), h1, a]
/-- A text without its last line. -/
def cutL (p : PL) : List (List UInt8) := lineB wPlan [(p.routes.length : Int), p.cost] :: rowsL p.routes p.times
def cutT (p : PL) : List UInt8 := flat 10 (cutL p)
theorem planL_cut (p : PL) : planL p = cutL p ++ [lineB wLeft p.left] := rfl
theorem cutL_len {p : PL} (h : p.Ok) : (cutL p).length = 1 + 2 * p.routes.length := by unfold cutL; rw [List.length_cons, rowsL_len _ _ h.same]; omega
theorem planT_cut {p : PL} (h : p.Ok) : planT p = cutT p ++ (lineB wLeft p.left ++ [10]) := by
  rw [planT_flat h.same, planL_cut, flat_snoc]; rfl
theorem bad_short {L : List ByteArray} {n : Nat} (h : L.length ≤ n) : Bad L n 20 := ⟨by decide, fun name => by unfold nextE; rw [dif_neg (by omega)]⟩
theorem short_text {p : PL} (h : p.Ok) (hn : (planT p).length ≤ 1048576) : readF (cutT p) = (2 + 2 * p.routes.length, 20) := by
  have hl : (cutT p).length ≤ 1048576 := by rw [planT_cut h] at hn; simp at hn; omega
  obtain ⟨h1, h2⟩ := lines_flat (ls := cutL p) (fun l hl => planL_no h l (by rw [planL_cut]; exact List.mem_append_left _ hl)) hl
  have hlen : ((cutL p).map strOf).length = 1 + 2 * p.routes.length := by rw [List.length_map, cutL_len h]
  have a := planF_bad (L := (cutL p).map strOf) h (m := 1 + 2 * p.routes.length) (bad_short (by omega)) (by omega) (fun j l hlt hj => map_at (by
    rw [planL_cut, List.getElem?_append_left (by rw [cutL_len h]; exact hlt)] at hj; exact hj))
  unfold readF
  unfold cutT
  rw [h2, if_neg (by simp), h1, a]
  congr 1; omega
/-- A line with a blank ahead of it. -/
theorem words_bad (l : List UInt8) : wordsE (32 :: l) = 21 := by
  unfold wordsE
  rw [if_neg (by simp), pcs_eq, if_neg]
  rw [List.all_cons]
  have : wordB [] = false := by decide
  rw [this]; simp
theorem bad_word {L : List ByteArray} {n : Nat} {l : List UInt8} (h : L[n]? = some (strOf (32 :: l))) : Bad L n 21 := by
  refine ⟨by decide, fun name => ?_⟩
  obtain ⟨hlt, e⟩ := List.getElem?_eq_some_iff.1 h
  unfold nextE lineE
  rw [dif_pos hlt, e, data_strOf, words_bad, if_neg (by simp)]
/-- The text ahead of a line, and from it on. -/
def preT (p : PL) (m : Nat) : List UInt8 := flat 10 ((planL p).take m)
def endT (p : PL) (m : Nat) : List UInt8 := flat 10 ((planL p).drop m)
theorem pre_end {p : PL} (h : p.Ok) (m : Nat) : planT p = preT p m ++ endT p m := by
  rw [planT_flat h.same]; unfold preT endT; rw [← flat_app, List.take_append_drop]
theorem spoilt {p : PL} (h : p.Ok) (m : Nat) (hm : m < 2 + 2 * p.routes.length) (hn : (planT p).length + 1 ≤ 1048576) : readF (preT p m ++ 32 :: endT p m) = (m + 1, 21) := by
  have hm' : m < (planL p).length := by rw [planL_len h]; exact hm
  have e : preT p m ++ 32 :: endT p m = flat 10 ((planL p).take m ++ (32 :: (planL p)[m]) :: (planL p).drop (m + 1)) := by
    unfold preT endT
    rw [flat_app, List.drop_eq_getElem_cons hm', flat_cons, flat_cons]; simp
  have hl : (preT p m ++ 32 :: endT p m).length ≤ 1048576 := by
    have := congrArg List.length (pre_end h m)
    simp only [List.length_append, List.length_cons] at this ⊢; omega
  rw [e] at hl
  obtain ⟨h1, h2⟩ := lines_flat (ls := (planL p).take m ++ (32 :: (planL p)[m]) :: (planL p).drop (m + 1)) (fun l hl => by
    rcases List.mem_append.1 hl with hl | hl
    · exact planL_no h l (List.mem_of_mem_take hl)
    · rcases List.mem_cons.1 hl with rfl | hl
      · intro b hb
        rcases List.mem_cons.1 hb with rfl | hb
        · decide
        · exact planL_no h _ (List.getElem_mem hm') b hb
      · exact planL_no h l (List.mem_of_mem_drop hl)) hl
  have ht : ((planL p).take m).length = m := by rw [List.length_take]; omega
  have hb : Bad (((planL p).take m ++ (32 :: (planL p)[m]) :: (planL p).drop (m + 1)).map strOf) m 21 := bad_word (l := (planL p)[m]) (map_at (by
    rw [List.getElem?_append_right (by omega), ht, Nat.sub_self]; rfl))
  have a := planF_bad h hb hm (fun j l hlt hj => map_at (by
    rw [List.getElem?_append_left (by omega), List.getElem?_take, if_pos hlt]; exact hj))
  rw [e]
  unfold readF
  rw [h2, if_neg (by simp), h1, a]
/-! ### where lines begin -/
def nl (l : List UInt8) : Nat := l.count 10
theorem nl_app (a b : List UInt8) : nl (a ++ b) = nl a + nl b := List.count_append ..
theorem nl_no {l : List UInt8} (h : ∀ b ∈ l, b ≠ 10) : nl l = 0 := List.count_eq_zero.2 fun hm => h 10 hm rfl
theorem nl_cons (b : UInt8) (l : List UInt8) : nl (b :: l) = nl l + if b = 10 then 1 else 0 := by
  unfold nl; rw [List.count_cons]; simp
theorem nl_flat : ∀ {ls : List (List UInt8)}, (∀ l ∈ ls, ∀ b ∈ l, b ≠ 10) → nl (flat 10 ls) = ls.length
  | [], _ => rfl
  | l :: ls, h => by
    rw [flat_cons, nl_app, nl_cons, nl_no (h l (List.mem_cons_self ..)), nl_flat fun x hx => h x (List.mem_cons_of_mem _ hx)]
    simp
theorem nl_take : ∀ {ls : List (List UInt8)}, (∀ l ∈ ls, ∀ b ∈ l, b ≠ 10) → ∀ i, i < (flat 10 ls).length → nl ((flat 10 ls).take i) < ls.length
  | [], _, i, hi => by simp [flat] at hi
  | l :: ls, h, i, hi => by
    have hl := h l (List.mem_cons_self ..)
    rw [flat_cons] at hi ⊢
    rw [List.take_append, nl_app, nl_no (fun b hb => hl b (List.mem_of_mem_take hb)), Nat.zero_add]
    by_cases hle : i ≤ l.length
    · rw [show i - l.length = 0 by omega]; simp [nl]
    · rw [show i - l.length = (i - l.length - 1) + 1 by omega, List.take_succ_cons, nl_cons, if_pos rfl]
      have := nl_take (ls := ls) (fun x hx => h x (List.mem_cons_of_mem _ hx)) (i - l.length - 1) (by simp at hi; omega)
      simp only [List.length_cons]; omega
theorem nl_step {l : List UInt8} {i : Nat} (hi : i < l.length) : nl (l.take (i + 1)) = nl (l.take i) + if l[i] = 10 then 1 else 0 := by
  rw [← List.take_append_getElem hi, nl_app]
  congr 1
  rw [nl_cons]; simp [nl]
section
variable {p : PL}
theorem planT_nl (h : p.Ok) : nl (planT p) = 2 + 2 * p.routes.length := by rw [planT_flat h.same, nl_flat (planL_no h), planL_len h]
theorem pre_no (h : p.Ok) (m : Nat) : ∀ l ∈ (planL p).take m, ∀ b ∈ l, b ≠ 10 := fun l hl => planL_no h l (List.mem_of_mem_take hl)
theorem pre_nl (h : p.Ok) {m : Nat} (hm : m ≤ 2 + 2 * p.routes.length) : nl ((planT p).take (preT p m).length) = m := by
  rw [pre_end h m, List.take_left]
  unfold preT
  rw [nl_flat (pre_no h m), List.length_take, planL_len h]; omega
theorem pre_lt (h : p.Ok) {m i : Nat} (hm : m ≤ 2 + 2 * p.routes.length) (hi : i < (preT p m).length) : nl ((planT p).take i) < m := by
  rw [pre_end h m, List.take_append_of_le_length (by omega)]
  unfold preT at hi ⊢
  have := nl_take (pre_no h m) i hi
  rw [List.length_take, planL_len h] at this
  omega
theorem pre_in (h : p.Ok) {m : Nat} (hm : m < 2 + 2 * p.routes.length) : (preT p m).length < (planT p).length := by
  have := congrArg List.length (pre_end h m)
  rw [List.length_append] at this
  have hm' : m < (planL p).length := by rw [planL_len h]; exact hm
  have : 0 < (endT p m).length := by unfold endT; rw [List.drop_eq_getElem_cons hm', flat_cons, List.length_append, List.length_cons]; omega
  omega
theorem cut_last (h : p.Ok) : 0 < (cutT p).length ∧ (planT p)[(cutT p).length - 1]? = some 10 ∧ (∀ j, (cutT p).length ≤ j → j + 1 < (planT p).length → ∃ b, (planT p)[j]? = some b ∧ b ≠ 10) ∧ (cutT p).length + 1 ≤ (planT p).length ∧ (planT p).take (cutT p).length = cutT p := by
  have hlast : ∃ a, cutT p = a ++ [10] := by
    rcases List.eq_nil_or_concat (cutL p) with e | ⟨ls, l, e⟩
    · unfold cutL at e; cases e
    · refine ⟨flat 10 ls ++ l, ?_⟩
      unfold cutT
      rw [e, List.concat_eq_append, flat_snoc]; simp
  have hpc := planT_cut h
  have hno := line_no nm_left h.okl
  obtain ⟨a, ha⟩ := hlast
  refine ⟨by rw [ha]; simp, ?_, fun j h1 h2 => ?_, ?_, ?_⟩
  · rw [hpc, List.getElem?_append_left (by rw [ha]; simp), ha]; simp
  · rw [hpc] at h2 ⊢
    simp only [List.length_append, List.length_cons, List.length_nil] at h2
    have hj : j - (cutT p).length < (lineB wLeft p.left).length := by omega
    rw [List.getElem?_append_right h1, List.getElem?_append_left hj]
    exact ⟨_, List.getElem?_eq_getElem hj, hno _ (List.getElem_mem hj)⟩
  · rw [hpc]; simp
  · rw [hpc, List.take_left]
end
/-! ### what is parsed has a text, no longer than it was -/
theorem nums_zero {b : Bool} : ∀ {ws : List ByteArray}, numsE b ws = 0 → ∀ s ∈ ws, oneE b s = 0
  | [], _, s, hs => by cases hs
  | s :: ws, h, u, hu => by
    obtain ⟨h1, h2⟩ := twoE_zero (show twoE (oneE b s) (numsE b ws) = 0 from h)
    rcases List.mem_cons.1 hu with rfl | hu
    · exact h1
    · exact nums_zero h2 u hu
theorem read_le {l : List UInt8} (h : readE l 0 = 0) : readV l 0 ≤ 1099511627776 := by
  unfold readE at h
  unfold readV
  split at h
  · cases h
  · rename_i h0
    split at h
    · cases h
    · rename_i h1
      split at h
      · cases h
      · rename_i h2
        rw [if_neg h0, if_neg h1, if_neg h2]
        split <;> omega
theorem read_pos {l : List UInt8} (h : minusOf l = false) : 0 ≤ readV l 0 := by
  unfold readV
  rw [h]
  split
  · exact Int.le_refl _
  · split
    · exact Int.le_refl _
    · split
      · exact Int.le_refl _
      · simp
theorem one_zero {b : Bool} {s : ByteArray} (h : oneE b s = 0) : OkN (oneV b s) ∧ (writeV (oneV b s) 0).length ≤ s.size := by
  have hsz : s.data.toList.length = s.size := by simp
  unfold oneE at h
  unfold oneV
  cases b with
  | true =>
    simp only [if_true] at h ⊢
    unfold timeE at h
    unfold timeV
    split at h
    · cases h
    · rename_i h0
      rw [if_neg h0]
      have := short s.data.toList 0 (by omega) (by simpa using h)
      refine ⟨⟨by omega, read_le h⟩, ?_⟩
      rw [← hsz]; simpa using this
  | false =>
    simp only [Bool.false_eq_true, if_false] at h ⊢
    unfold wholeE at h
    unfold wholeV
    cases hb : wholeBad s.data.toList with
    | true => rw [hb] at h; cases h
    | false =>
      rw [hb] at h
      simp only [Bool.false_eq_true, if_false] at h ⊢
      have hm : minusOf s.data.toList = false := by
        unfold wholeBad at hb
        rw [Bool.or_eq_false_iff] at hb
        unfold minusOf; exact hb.1
      have := short s.data.toList 0 (by omega) (by simpa using h)
      refine ⟨⟨read_pos hm, read_le h⟩, ?_⟩
      rw [← hsz]; simpa using this
theorem nums_okn {b : Bool} {ws : List ByteArray} (h : numsE b ws = 0) : ∀ x ∈ numsV b ws, OkN x := fun x hx => by
  unfold numsV at hx
  obtain ⟨s, hs, rfl⟩ := List.mem_map.1 hx
  exact (one_zero (nums_zero h s hs)).1
def szs (ws : List ByteArray) : Nat := (ws.map fun s => s.size + 1).sum
theorem szs_cons (s : ByteArray) (ws : List ByteArray) : szs (s :: ws) = s.size + 1 + szs ws := by unfold szs; rw [List.map_cons, List.sum_cons]
theorem nums_short {b : Bool} : ∀ {ws : List ByteArray}, numsE b ws = 0 → (numsT (numsV b ws)).length ≤ szs ws
  | [], _ => by simp [numsV, numsT]
  | s :: ws, h => by
    obtain ⟨h1, h2⟩ := twoE_zero (show twoE (oneE b s) (numsE b ws) = 0 from h)
    have h3 := (one_zero h1).2
    have h4 := nums_short h2
    have e : numsT (numsV b (s :: ws)) = 32 :: (writeV (oneV b s) 0 ++ numsT (numsV b ws)) := by unfold numsV numsT; rw [List.map_cons, List.flatMap_cons]; simp
    rw [e, szs_cons, List.length_cons, List.length_append]; omega
theorem join_len (c : UInt8) : ∀ (Q : List (List UInt8)) (q : List UInt8), (joinW c (q :: Q)).length = q.length + szs (Q.map strOf)
  | [], q => by simp [joinW, szs]
  | r :: Q, q => by
    rw [joinW_cons c q (by simp), List.length_append, List.length_cons, join_len c Q r, List.map_cons, szs_cons, str_sz]; omega
where str_sz (l : List UInt8) : (strOf l).size = l.length := rfl
/-- How long a line was, by its words. -/
theorem line_len {L : List ByteArray} {n : Nat} {name : ByteArray} (h : nextE L n name = 0) : ∃ h : n < L.length, L[n].size = name.size + szs (nextW L n) := by
  unfold nextE at h
  split at h
  · rename_i hlt
    refine ⟨hlt, ?_⟩
    unfold lineE at h
    split at h
    · rename_i hw
      obtain ⟨h1, h2⟩ := hw
      obtain ⟨Q, q1, q2, q3⟩ := words_list L[n].data.toList
      have q4 := q3 h1
      unfold nextW
      rw [dif_pos hlt, q1]
      rw [q1] at h2
      cases Q with
      | nil => simp at h2
      | cons q Q =>
        simp only [List.map_cons, List.head?_cons, Option.some.injEq] at h2
        subst h2
        have hl := congrArg List.length q4
        rw [join_len] at hl
        have : L[n].data.toList.length = L[n].size := by simp
        rw [List.map_cons, List.tail_cons]
        have : (strOf q).size = q.length := rfl
        omega
    · cases h
  · cases h
theorem list_zero {L : List ByteArray} {n : Nat} {name : ByteArray} (h : listE L n name = 0) : nextE L n name = 0 ∧ (nextW L n).length ≤ 4096 := by
  obtain ⟨h1, h2⟩ := twoE_zero h
  refine ⟨h1, ?_⟩
  split at h2
  · cases h2
  · omega
theorem lineB_len (name : ByteArray) (xs : List Int) : (lineB name xs).length = name.size + (numsT xs).length := by
  unfold lineB
  rw [List.length_append]
  simp
section
variable {L : List ByteArray} {n : Nat}
/-- A line that was read, written again. -/
theorem line_short {name : ByteArray} {b : Bool} (h1 : nextE L n name = 0) (h2 : numsE b (nextW L n) = 0) : ∃ h : n < L.length, (lineB name (numsV b (nextW L n))).length ≤ L[n].size := by
  obtain ⟨hlt, hs⟩ := line_len h1
  exact ⟨hlt, by rw [lineB_len, hs]; have := nums_short h2; omega⟩
theorem route_zero (h : routeE L n = 0) : nextE L n wRoute = 0 ∧ (nextW L n).length ≤ 4096 ∧ nextW L n ≠ [] ∧ numsE false (nextW L n) = 0 := by
  obtain ⟨h1, h2⟩ := twoE_zero h
  obtain ⟨h3, h4⟩ := list_zero h1
  split at h2
  · cases h2
  · exact ⟨h3, h4, by assumption, h2⟩
theorem times_zero {k : Nat} (h : timesE L n k = 0) : nextE L n wTimes = 0 ∧ (nextW L n).length ≤ 4096 ∧ ((nextW L n).length = 0 ∨ (nextW L n).length = k) ∧ numsE true (nextW L n) = 0 := by
  obtain ⟨h1, h2⟩ := twoE_zero h
  obtain ⟨h3, h4⟩ := list_zero h1
  split at h2
  · cases h2
  · rename_i hn
    exact ⟨h3, h4, by omega, h2⟩
theorem left_zero (h : leftE L n = 0) : nextE L n wLeft = 0 ∧ (nextW L n).length ≤ 4096 ∧ numsE false (nextW L n) = 0 := by
  obtain ⟨h1, h2⟩ := twoE_zero h
  obtain ⟨h3, h4⟩ := list_zero h1
  exact ⟨h3, h4, h2⟩
theorem numsV_len (b : Bool) (ws : List ByteArray) : (numsV b ws).length = ws.length := by unfold numsV; rw [List.length_map]
theorem drop_one (h : n < L.length) : szs (L.drop n) = L[n].size + 1 + szs (L.drop (n + 1)) := by rw [List.drop_eq_getElem_cons h, szs_cons]
end
/-- Rows that were read. -/
theorem rows_zero {L : List ByteArray} : ∀ k n, (rowsF L n k).2 = 0 → RowsOk (rowsR L n k) (rowsT L n k) ∧ (flat 10 (rowsL (rowsR L n k) (rowsT L n k))).length + szs (L.drop (n + 2 * k)) ≤ szs (L.drop n)
  | 0, n, _ => ⟨.nil, by simp [rowsR, rowsT, rowsL, flat]⟩
  | k + 1, n, h => by
    unfold rowsF at h
    split at h
    · rename_i h0; exact absurd h h0
    · rename_i h0
      split at h
      · rename_i h1; exact absurd h h1
      · rename_i h1
        have h0 : routeE L n = 0 := by simpa using h0
        have h1 : timesE L (n + 1) (nextW L n).length = 0 := by simpa using h1
        obtain ⟨a1, a2, a3, a4⟩ := route_zero h0
        obtain ⟨b1, b2, b3, b4⟩ := times_zero h1
        obtain ⟨c1, c2⟩ := rows_zero k (n + 2) h
        obtain ⟨d1, d2⟩ := line_short (b := false) a1 a4
        obtain ⟨e1, e2⟩ := line_short (b := true) b1 b4
        refine ⟨.cons ⟨by rw [numsV_len]; exact a2, fun e => a3 (by have := congrArg List.length e; rw [numsV_len] at this; exact List.eq_nil_of_length_eq_zero this), by rw [numsV_len, numsV_len]; exact b3, nums_okn a4, nums_okn b4⟩ c1, ?_⟩
        rw [rowsR, rowsT, rowsL, flat_cons, flat_cons, drop_one d1, drop_one e1, show n + 1 + 1 = n + 2 from rfl, show n + 2 * (k + 1) = n + 2 + 2 * k by omega]
        simp only [List.length_append, List.length_cons]
        omega
theorem rowsOk_all : ∀ {rs ts : List (List Int)}, RowsOk rs ts → ts.length = rs.length ∧ (∀ r ∈ rs, r.length ≤ 4096) ∧ (∀ j, j < rs.length → (rs.getD j []).length ≠ 0 ∧ ((ts.getD j []).length = 0 ∨ (ts.getD j []).length = (rs.getD j []).length)) ∧ (∀ r ∈ rs, ∀ x ∈ r, OkN x) ∧ ∀ r ∈ ts, ∀ x ∈ r, OkN x
  | [], _, .nil => by simp
  | r :: rs, _, .cons (t := t) (ts := ts) h h' => by
    obtain ⟨a1, a2, a3, a4, a5⟩ := rowsOk_all h'
    refine ⟨by simp [a1], fun x hx => ?_, fun j hj => ?_, fun x hx => ?_, fun x hx => ?_⟩
    · rcases List.mem_cons.1 hx with rfl | hx
      · exact h.long
      · exact a2 x hx
    · cases j with
      | zero => exact ⟨fun e => h.some_ (List.eq_nil_of_length_eq_zero e), h.pair⟩
      | succ j => exact a3 j (by simpa using hj)
    · rcases List.mem_cons.1 hx with rfl | hx
      · exact h.okr
      · exact a4 x hx
    · rcases List.mem_cons.1 hx with rfl | hx
      · exact h.okt
      · exact a5 x hx
theorem szs_lines {l : List UInt8} (h : linesE l = 0) : szs (linesP l) = l.length := by
  obtain ⟨L, h1, h2⟩ := lines_list l h
  rw [h1, ← h2]
  clear h1 h2
  induction L with
  | nil => rfl
  | cons x L ih =>
    rw [List.map_cons, szs_cons, ih, flat_cons]
    have : (strOf x).size = x.length := rfl
    simp; omega
theorem head_zero {L : List ByteArray} (h : headE L = 0) : nextE L 0 wPlan = 0 ∧ (∃ a b, nextW L 0 = [a, b] ∧ wAt L 0 0 = a ∧ wAt L 0 1 = b ∧ wholeE a.data.toList = 0 ∧ timeE b.data.toList = 0 ∧ wholeV a.data.toList ≤ 64) := by
  obtain ⟨h1, h2⟩ := twoE_zero h
  refine ⟨h1, ?_⟩
  split at h2
  · rename_i hl
    obtain ⟨h3, h4⟩ := twoE_zero h2
    obtain ⟨h5, h6⟩ := twoE_zero h4
    have h7 : ¬ 64 < wholeV (wAt L 0 0).data.toList := fun hc => by rw [if_pos hc] at h6; cases h6
    match hw : nextW L 0, hl with
    | [a, b], _ =>
      have e0 : wAt L 0 0 = a := by unfold wAt; rw [hw]; rfl
      have e1 : wAt L 0 1 = b := by unfold wAt; rw [hw]; rfl
      rw [e0] at h3 h7
      rw [e1] at h5
      exact ⟨a, b, rfl, e0, e1, h3, h5, by omega⟩
  · cases h2
/-- WHAT IS PARSED HAS A TEXT, WHICH IS NO LONGER. -/
theorem parse_ok {l : List UInt8} (h : (readF l).2 = 0) : (parseP l).Ok ∧ (planT (parseP l)).length ≤ l.length := by
  have he : parseP l = planP (linesP l) := by unfold parseP; rw [if_pos h]
  obtain ⟨h1, h2⟩ := read_head h
  rw [he]
  have hsz := szs_lines h1
  unfold readF at h
  rw [if_neg (by rw [h1]; simp)] at h
  generalize linesP l = L at *
  unfold planF at h
  rw [if_neg (by rw [h2]; simp)] at h
  unfold allF at h
  split at h
  · rename_i hc; exact absurd h hc
  rename_i hr
  have hr : (rowsF L 1 (rowsN L).toNat).2 = 0 := by simpa using hr
  unfold tailF at h
  split at h
  · rename_i hc; exact absurd h hc
  rename_i hl
  have hl : leftE L (1 + 2 * (rowsN L).toNat) = 0 := by simpa using hl
  clear h
  obtain ⟨a1, a, b, a2, a3, a4, a5, a6, a7⟩ := head_zero h2
  obtain ⟨r1, r2⟩ := rows_zero _ _ hr
  obtain ⟨s1, s2, s3⟩ := left_zero hl
  obtain ⟨t1, t2, t3, t4, t5⟩ := rowsOk_all r1
  have hN : rowsN L = oneV false a := by unfold rowsN oneV; rw [a3]; rfl
  have hC : costV L = oneV true b := by unfold costV oneV; rw [a4]; rfl
  obtain ⟨o1, o2⟩ := one_zero (b := false) (s := a) a5
  obtain ⟨o3, o4⟩ := one_zero (b := true) (s := b) a6
  have hNn : (((rowsN L).toNat : Nat) : Int) = rowsN L := by rw [hN]; have := o1.1; omega
  have hlen : (rowsR L 1 (rowsN L).toNat).length = (rowsN L).toNat := rowsR_len L _ _
  have hok : (planP L).Ok := by
    refine ⟨?_, t2, by show (numsV false _).length ≤ 4096; rw [numsV_len]; exact s2, t1, t3, t4, nums_okn s3, t5, by show OkN (costV L); rw [hC]; exact o3⟩
    show (rowsR L 1 (rowsN L).toNat).length ≤ 64
    rw [hlen]
    have : rowsN L ≤ 64 := by unfold rowsN; rw [a3]; exact a7
    omega
  refine ⟨hok, ?_⟩
  obtain ⟨u1, u2⟩ := line_len a1
  obtain ⟨v1, v2⟩ := line_short (b := false) s1 s3
  rw [planT_flat hok.same]
  unfold planL
  rw [flat_cons, flat_app, flat_cons]
  have e1 : (planP L).routes = rowsR L 1 (rowsN L).toNat := rfl
  have e2 : (planP L).times = rowsT L 1 (rowsN L).toNat := rfl
  have e3 : (planP L).left = numsV false (nextW L (1 + 2 * (rowsN L).toNat)) := rfl
  have e4 : (planP L).cost = costV L := rfl
  rw [e1, e2, e3, e4, hlen, show lineB wPlan [(((rowsN L).toNat : Nat) : Int), costV L] = lineB wPlan [oneV false a, oneV true b] by rw [hNn, hN, hC]]
  have d0 := drop_one u1
  rw [List.drop_zero, hsz] at d0
  have d1 := drop_one v1
  have hh : (lineB wPlan [oneV false a, oneV true b]).length ≤ L[0].size := by
    rw [lineB_len, u2, a2, szs_cons, szs_cons]
    unfold numsT
    simp only [List.flatMap_cons, List.flatMap_nil, List.length_append, List.length_cons, List.length_nil]
    have : szs [] = 0 := rfl
    omega
  have : (flat 10 ([] : List (List UInt8))).length = 0 := rfl
  rw [Nat.zero_add] at d0
  simp only [List.length_append, List.length_cons]
  omega
/-! ### a plan of few parts has a short text -/
theorem numsT_few {xs : List Int} (h : ∀ x ∈ xs, OkN x) : (numsT xs).length ≤ 14 * xs.length := by
  induction xs with
  | nil => simp [numsT]
  | cons x xs ih =>
    have h1 := (write_nat (h x (List.mem_cons_self ..))).2
    have h2 := ih fun y hy => h y (List.mem_cons_of_mem _ hy)
    have e : numsT (x :: xs) = 32 :: (writeV x 0 ++ numsT xs) := by unfold numsT; rw [List.flatMap_cons]; simp
    rw [e]
    simp only [List.length_cons, List.length_append]
    omega
theorem lineB_few {name : ByteArray} {xs : List Int} (hn : Nm name) (h : ∀ x ∈ xs, OkN x) (hl : xs.length ≤ 60) : (lineB name xs).length ≤ 850 := by
  have := numsT_few h
  have := hn.sz
  rw [lineB_len]; omega
theorem flat_few {c : UInt8} {m : Nat} : ∀ {ls : List (List UInt8)}, (∀ l ∈ ls, l.length ≤ m) → (flat c ls).length ≤ (m + 1) * ls.length
  | [], _ => by simp [flat]
  | l :: ls, h => by
    have h1 := h l (List.mem_cons_self ..)
    have h2 := flat_few (c := c) (m := m) (ls := ls) fun x hx => h x (List.mem_cons_of_mem _ hx)
    rw [flat_cons, List.length_append, List.length_cons, List.length_cons, Nat.mul_succ]
    omega
theorem rowsL_few : ∀ {rs ts : List (List Int)}, RowsOk rs ts → (∀ r ∈ rs, r.length ≤ 60) → (∀ t ∈ ts, t.length ≤ 60) → ∀ l ∈ rowsL rs ts, l.length ≤ 850
  | [], _, .nil, _, _, l, hl => by simp [rowsL] at hl
  | r :: rs, _, .cons (t := t) (ts := ts) h h', h1, h2, l, hl => by
    simp only [rowsL, List.mem_cons] at hl
    rcases hl with rfl | rfl | hl
    · exact lineB_few nm_route h.okr (h1 r (List.mem_cons_self ..))
    · exact lineB_few nm_times h.okt (h2 t (List.mem_cons_self ..))
    · exact rowsL_few h' (fun x hx => h1 x (List.mem_cons_of_mem _ hx)) (fun x hx => h2 x (List.mem_cons_of_mem _ hx)) l hl
theorem planT_few {p : PL} (h : p.Ok) (hf : fewB p = true) : (planT p).length ≤ 130000 := by
  obtain ⟨f1, f2, f3, f4, f5⟩ := fewB_iff.1 hf
  have hl : ∀ l ∈ planL p, l.length ≤ 850 := fun l hl => by
    unfold planL at hl
    simp only [List.mem_cons, List.mem_append, List.not_mem_nil, or_false] at hl
    rcases hl with rfl | hl | rfl
    · exact lineB_few nm_plan h.okn (by simp)
    · exact rowsL_few h.rowsOk f1 f2 l hl
    · exact lineB_few nm_left h.okl f5
  have := flat_few (c := 10) hl
  rw [planL_len h] at this
  have := h.many
  rw [planT_flat h.same]
  omega
/-- A parse without an error has no line. -/
theorem read_line {l : List UInt8} (h : (readF l).2 = 0) : (readF l).1 = 0 := by
  obtain ⟨h1, h2⟩ := read_head h
  unfold readF at h ⊢
  rw [if_neg (by rw [h1]; simp)] at h ⊢
  exact planF_line h
theorem parse_none {l : List UInt8} (h : (readF l).2 ≠ 0) : parseP l = PL.none := by unfold parseP; rw [if_neg h]
end Fil
end Go.Proofs.YtkggahoadeeajaaGreatDoor
