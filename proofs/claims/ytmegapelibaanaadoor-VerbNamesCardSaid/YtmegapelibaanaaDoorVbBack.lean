/- Plain facts: the commands of a text may be; what is printed of one that may be is parsed as it. -/
import Derived.Test.YtmegapelibaanaaDoorVbMath2
import Derived.Test.YtmegapelibaanaaDoorFilParts
namespace Go.Proofs.YtmegapelibaanaaDoor
namespace Vb
open Go Go.RowKit Deci
set_option linter.unusedVariables false
/-! ### lines -/
theorem pcs_no (c : UInt8) : ∀ (l cur : List UInt8), (∀ b ∈ cur, b ≠ c) → ∀ p ∈ pcs c cur l, ∀ b ∈ p, b ≠ c
  | [], cur, h, p, hp, b, hb => by
    rw [pcs_nil] at hp
    obtain rfl : p = cur := by simpa using hp
    exact h b hb
  | x :: l, cur, h, p, hp, b, hb => by
    by_cases hx : x = c
    · subst hx
      rw [pcs_eq] at hp
      rcases List.mem_cons.1 hp with rfl | hp
      · exact h b hb
      · exact pcs_no x l [] (by simp) p hp b hb
    · rw [pcs_ne hx] at hp
      refine pcs_no c l _ (fun y hy => ?_) p hp b hb
      rcases List.mem_append.1 hy with hy | hy
      · exact h y hy
      · obtain rfl : y = x := by simpa using hy
        exact hx
theorem lines_no (l : List UInt8) : ∀ p ∈ linesP l, ∀ b ∈ p.data.toList, b ≠ 10 := by
  intro p hp b hb
  unfold linesP at hp
  split at hp
  · cases hp
  · split at hp
    · obtain ⟨q, hq, rfl⟩ := List.mem_map.1 hp
      exact pcs_no 10 l [] (by simp) q ((List.dropLast_sublist _).subset hq) b hb
    · cases hp
theorem pcs_flat : ∀ (ps : List ByteArray), (∀ p ∈ ps, ∀ b ∈ p.data.toList, b ≠ 10) → pcs 10 [] (joinS ps) = ps.map (fun p => p.data.toList) ++ [[]]
  | [], _ => rfl
  | p :: ps, h => by
    have e : joinS (p :: ps) = p.data.toList ++ 10 :: joinS ps := by unfold joinS; simp
    rw [e, pcs_word _ _ (h p (List.mem_cons_self ..)), pcs_flat ps fun q hq => h q (List.mem_cons_of_mem _ hq)]
    rfl
theorem lines_of {ps : List ByteArray} (h : ∀ p ∈ ps, ∀ b ∈ p.data.toList, b ≠ 10) (hl : (joinS ps).length ≤ 1048576) : linesE (joinS ps) = 0 ∧ linesP (joinS ps) = ps := by
  have h' : ¬ 1048576 < (joinS ps).length := by omega
  unfold linesP linesE
  rw [if_neg h', if_neg h', pcs_flat ps h]
  refine ⟨by simp, ?_⟩
  rw [if_pos (by simp), List.dropLast_concat, List.map_map]
  have : (strOf ∘ fun p : ByteArray => p.data.toList) = id := by funext x; exact strOf_data x
  rw [this, List.map_id]
theorem lines_join' (l : List UInt8) (h : linesE l = 0) : joinS (linesP l) = l := by
  obtain ⟨L, h1, h2⟩ := lines_list l h
  rw [h1, joinS_map, h2]
theorem joinS_cons (p : ByteArray) (ps : List ByteArray) : joinS (p :: ps) = p.data.toList ++ 10 :: joinS ps := by unfold joinS; simp
theorem joinS_le : ∀ (ps : List ByteArray) (k : Nat), (joinS (ps.take k)).length ≤ (joinS ps).length
  | [], k => by simp
  | p :: ps, 0 => by simp [joinS]
  | p :: ps, k + 1 => by
    have := joinS_le ps k
    rw [List.take_succ_cons, joinS_cons, joinS_cons]
    simp only [List.length_append, List.length_cons] at this ⊢
    omega
/-! ### the commands of lines may be -/
/-- A command that may be, of so many draws and a text so long at most. -/
structure Fits (N : Nat) (c : CM) : Prop where
  good : Good c
  draws : c.draws.length ≤ N
  text : c.text.size ≤ N
theorem words_count (l : List UInt8) : (wordsP l).length ≤ l.length + 1 := by
  unfold wordsP
  split
  · simp
  · split
    · have := pcs_length 32 l []; simpa using this
    · simp
theorem line_draws {l : List UInt8} (h : lineE l = 0) : (lineC l).draws.length ≤ l.length := by
  obtain ⟨p, r, -, hp, -, -, -, he⟩ := line_parts h
  have := words_count l
  rw [hp, List.length_cons] at this
  rw [he]
  unfold numC wsV
  repeat' split
  all_goals simp
  omega
theorem first_good {p : ByteArray} {ps : List ByteArray} (h : firstE p ps = 0) (hno : ∀ q ∈ ps, ∀ b ∈ q.data.toList, b ≠ 10) {N : Nat} (hN : p.size + 1 + (joinS ps).length ≤ N) (hb : N ≤ 1048576) : Fits N (firstC p ps) := by
  have hE : lineE p.data.toList = 0 := by
    unfold firstE at h
    split at h
    · rename_i h0; exact absurd h h0
    · rename_i h0; simpa using h0
  have hpl : p.data.toList.length = p.size := by simp
  have hd := line_draws hE
  unfold firstE at h
  rw [if_neg (by omega)] at h
  unfold firstC
  rcases line_ok hE with ⟨n, hn1, hn2, hc⟩ | ⟨hk, hg⟩
  · rw [hc] at h ⊢
    simp only [true_and, if_true] at h ⊢
    have hnl : ¬ (ps.length : Int) < n := by
      intro hlt; rw [if_pos hlt] at h; omega
    have hlt := joinS_le ps n.toNat
    obtain ⟨h1, h2⟩ := lines_of (ps := ps.take n.toNat) (fun q hq => hno q (List.mem_of_mem_take hq)) (by omega)
    refine ⟨Good.load n _ hn1 hn2 h1 ?_, by simp, ?_⟩
    · show ((linesP (joinS (ps.take n.toNat))).length : Int) = n
      rw [h2, List.length_take]; omega
    · show (joinS (ps.take n.toNat)).length ≤ N
      omega
  · rw [if_neg hk]
    refine ⟨hg, by omega, ?_⟩
    obtain ⟨q, r, -, -, -, -, -, he⟩ := line_parts hE
    rw [he]
    unfold numC
    repeat' split
    all_goals exact Nat.zero_le _
theorem run_good : ∀ (ps : List ByteArray) (k a : Nat), (∀ q ∈ ps, ∀ b ∈ q.data.toList, b ≠ 10) → ∀ N, (joinS ps).length ≤ N → N ≤ 1048576 → (run ps k a).2.2 = 0 → ∀ c ∈ (run ps k a).1, Fits N c
  | [], _, _, _, _, _, _, _, c, hc => by cases hc
  | p :: ps, k + 1, a, hno, N, hN, hb, h0, c, hc => by
    rw [joinS_cons] at hN
    simp only [List.length_append, List.length_cons] at hN
    exact run_good ps k (a + 1) (fun q hq => hno q (List.mem_cons_of_mem _ hq)) N (by omega) hb h0 c hc
  | p :: ps, 0, a, hno, N, hN, hb, h0, c, hc => by
    rw [joinS_cons] at hN
    have hpl : p.data.toList.length = p.size := by simp
    simp only [List.length_append, List.length_cons] at hN
    have hno' := fun q hq => hno q (List.mem_cons_of_mem _ hq)
    by_cases hf : firstE p ps ≠ 0
    · rw [run_stop hf] at h0
      exact absurd h0 hf
    · have hf0 : firstE p ps = 0 := by simpa using hf
      have e : run (p :: ps) 0 a = glue [firstC p ps] (run ps (owed p) (a + 1)) := by
        show (if firstE p ps ≠ 0 then _ else _) = _
        rw [if_neg hf]
      rw [e] at h0 hc
      unfold glue at h0 hc
      split at h0
      · rename_i h1; exact absurd h0 h1
      · rename_i h1
        rw [if_neg h1] at hc
        rcases List.mem_append.1 hc with hc | hc
        · obtain rfl : c = firstC p ps := by simpa using hc
          exact first_good hf0 hno' (by omega) hb
        · exact run_good ps (owed p) (a + 1) hno' N (by omega) hb (by simpa using h1) c hc
/-- The commands of a text. -/
theorem parse_good {l : List UInt8} (h : (parseR l).2.2 = 0) (hl : l.length ≤ 1048576) : ∀ c ∈ (parseR l).1, Fits l.length c := by
  unfold parseR at h ⊢
  by_cases hE : linesE l ≠ 0
  · rw [if_pos hE]; intro c hc; cases hc
  · rw [if_neg hE] at h ⊢
    have hE' : linesE l = 0 := by simpa using hE
    exact run_good _ _ _ (lines_no l) _ (by rw [lines_join' l hE']; exact Nat.le_refl _) hl h
theorem run_count : ∀ (ps : List ByteArray) (k a : Nat), (run ps k a).1.length ≤ ps.length
  | [], _, _ => by simp [run]
  | p :: ps, k + 1, a => by
    have := run_count ps k (a + 1)
    show (run ps k (a + 1)).1.length ≤ _
    simp; omega
  | p :: ps, 0, a => by
    have := run_count ps (owed p) (a + 1)
    show (if firstE p ps ≠ 0 then (([], a + 1, firstE p ps) : List CM × Nat × Int) else glue [firstC p ps] (run ps (owed p) (a + 1))).1.length ≤ _
    split
    · simp
    · unfold glue
      split <;> simp <;> omega
theorem parse_count (l : List UInt8) : (parseR l).1.length ≤ l.length := by
  unfold parseR
  by_cases hE : linesE l ≠ 0
  · rw [if_pos hE]; simp
  · rw [if_neg hE]
    have h1 := run_count (linesP l) 0 0
    have h2 : ∀ ps : List ByteArray, ps.length ≤ (joinS ps).length := fun ps => by
      induction ps with
      | nil => simp
      | cons p ps ih => rw [joinS_cons]; simp; omega
    have h3 := h2 (linesP l)
    rw [lines_join' l (by simpa using hE)] at h3
    omega
/-! ### what is printed is parsed -/
theorem pcs_nums : ∀ (xs : List Int) (cur : List UInt8), (∀ x ∈ xs, Rng x) → pcs 32 cur (numsT xs) = cur :: xs.map fun x => writeV x 0
  | [], cur, _ => by simp [numsT, pcs]
  | x :: xs, cur, h => by
    have e : numsT (x :: xs) = 32 :: (writeV x 0 ++ numsT xs) := by unfold numsT; rw [List.flatMap_cons]; simp
    have hx := h x (List.mem_cons_self ..)
    rw [e, pcs_eq, pcs_app _ _ _ (write_no hx 32 (by decide)), List.nil_append, pcs_nums xs _ fun y hy => h y (List.mem_cons_of_mem _ hy)]
    simp
theorem name_by (k : Nat) : ∀ b ∈ nameL k, 97 ≤ b.toNat ∧ b.toNat ≤ 122 := by
  unfold nameL
  split <;> decide
theorem name_ne {k : Nat} (h1 : 1 ≤ k) (h2 : k ≤ 7) : nameL k ≠ [] := by
  rcases (show k = 1 ∨ k = 2 ∨ k = 3 ∨ k = 4 ∨ k = 5 ∨ k = 6 ∨ k = 7 by omega) with rfl | rfl | rfl | rfl | rfl | rfl | rfl <;> decide
def wdsN (xs : List Int) : List ByteArray := xs.map fun x => strOf (writeV x 0)
theorem line_words {k : Nat} {xs : List Int} (h1 : 1 ≤ k) (h2 : k ≤ 7) (h : ∀ x ∈ xs, Rng x) : wordsE (nameL k ++ numsT xs) = 0 ∧ wordsP (nameL k ++ numsT xs) = nameS k :: wdsN xs := by
  have hn := name_ne h1 h2
  have hp : pcs 32 [] (nameL k ++ numsT xs) = nameL k :: xs.map fun x => writeV x 0 := by
    rw [pcs_app _ _ _ (fun b hb => ne_of_nat (by have := name_by k b hb; have : (32 : UInt8).toNat = 32 := rfl; omega)), List.nil_append, pcs_nums xs _ h]
  have hne : nameL k ++ numsT xs ≠ [] := fun e => hn (List.append_eq_nil_iff.1 e).1
  have ha : (pcs 32 [] (nameL k ++ numsT xs)).all wordB = true := by
    rw [hp, List.all_cons, Bool.and_eq_true, List.all_eq_true]
    refine ⟨word_of hn fun b hb => by have := name_by k b hb; omega, fun l hl => ?_⟩
    obtain ⟨x, hx, rfl⟩ := List.mem_map.1 hl
    exact write_word (h x hx)
  unfold wordsE wordsP
  rw [if_neg hne, if_neg hne, if_pos ha, if_pos ha, hp]
  refine ⟨rfl, ?_⟩
  rw [List.map_cons, List.map_map]
  rfl
theorem nums_no {xs : List Int} (h : ∀ x ∈ xs, Rng x) : ∀ b ∈ numsT xs, b ≠ 10 := by
  intro b hb
  unfold numsT at hb
  obtain ⟨x, hx, hb⟩ := List.mem_flatMap.1 hb
  rcases List.mem_cons.1 hb with rfl | hb
  · decide
  · exact write_no (h x hx) 10 (by decide) b hb
theorem ws_back : ∀ {xs : List Int}, (∀ x ∈ xs, Rng x ∧ 0 ≤ x) → wsE (wdsN xs) = 0 ∧ wsV (wdsN xs) = xs
  | [], _ => ⟨rfl, rfl⟩
  | x :: xs, h => by
    obtain ⟨h1, h2⟩ := ws_back (xs := xs) fun y hy => h y (List.mem_cons_of_mem _ hy)
    obtain ⟨h3, h4⟩ := whole_ok (h x (List.mem_cons_self ..)).1 (h x (List.mem_cons_self ..)).2
    have e : wdsN (x :: xs) = strOf (writeV x 0) :: wdsN xs := rfl
    rw [e]
    constructor
    · show (if wholeE (strOf (writeV x 0)).data.toList ≠ 0 then _ else wsE (wdsN xs)) = 0
      rw [data_strOf, h4, if_neg (by simp)]; exact h1
    · show wholeV (strOf (writeV x 0)).data.toList :: wsV (wdsN xs) = _
      rw [data_strOf, h3, h2]
/-- A command without its text. -/
def CM.bare (c : CM) : CM := { c with text := ⟨#[]⟩ }
theorem line_tell {k : Nat} {xs : List Int} (h1 : 1 ≤ k) (h2 : k ≤ 7) (h : ∀ x ∈ xs, Rng x) (hc : countE k xs.length = 0) (hn : numE k (wdsN xs) = 0) : lineE (nameL k ++ numsT xs) = 0 ∧ lineC (nameL k ++ numsT xs) = numC k (wdsN xs) := by
  obtain ⟨g1, g2⟩ := line_words h1 h2 h
  have hk : kindV (nameS k).data.toList = k := kind_name h1 h2
  have hl : (wdsN xs).length = xs.length := by unfold wdsN; simp
  unfold lineE lineC
  rw [if_neg (by omega), g2]
  simp only
  rw [hk, if_neg (by omega), hl, if_neg (by omega)]
  exact ⟨hn, rfl⟩
theorem Good.line {c : CM} (h : Good c) : lineE (lineT c) = 0 ∧ lineC (lineT c) = c.bare ∧ ∀ b ∈ lineT c, b ≠ 10 := by
  have hno : ∀ b ∈ lineT c, b ≠ 10 := fun b hb => by
    unfold lineT at hb
    rcases List.mem_append.1 hb with hb | hb
    · exact ne_of_nat (by have := name_by _ b hb; have : (10 : UInt8).toNat = 10 := rfl; omega)
    · exact nums_no h.rng b hb
  cases h with
  | load n t r1 r2 r3 r4 =>
    have hw := whole_ok r1 r2
    have := line_tell (k := 1) (xs := [n]) (by omega) (by omega) (by simpa using r1) (by show countE _ ((1 : Nat) : Int) = 0; decide) (by show wholeE (writeV n 0) = 0; exact hw.2)
    refine ⟨this.1, this.2.trans ?_, hno⟩
    show CM.mk 1 (wholeV (writeV n 0)) 0 0 [] ⟨#[]⟩ = _
    rw [hw.1]; rfl
  | one k n hk r1 r2 =>
    have hw := whole_ok r1 r2
    rcases hk with rfl | rfl
    · have := line_tell (k := 2) (xs := [n]) (by omega) (by omega) (by simpa using r1) (by show countE _ ((1 : Nat) : Int) = 0; decide) (by show wholeE (writeV n 0) = 0; exact hw.2)
      refine ⟨this.1, this.2.trans ?_, hno⟩
      show CM.mk 2 (wholeV (writeV n 0)) 0 0 [] ⟨#[]⟩ = _
      rw [hw.1]; rfl
    · have := line_tell (k := 3) (xs := [n]) (by omega) (by omega) (by simpa using r1) (by show countE _ ((1 : Nat) : Int) = 0; decide) (by show wholeE (writeV n 0) = 0; exact hw.2)
      refine ⟨this.1, this.2.trans ?_, hno⟩
      show CM.mk 3 (wholeV (writeV n 0)) 0 0 [] ⟨#[]⟩ = _
      rw [hw.1]; rfl
  | tick t r1 =>
    have hw := read_ok r1
    have := line_tell (k := 4) (xs := [t]) (by omega) (by omega) (by simpa using r1) (by show countE _ ((1 : Nat) : Int) = 0; decide) (by show readE (writeV t 0) 0 = 0; exact hw.2)
    refine ⟨this.1, this.2.trans ?_, hno⟩
    show CM.mk 4 0 0 (readV (writeV t 0) 0) [] ⟨#[]⟩ = _
    rw [hw.1]; rfl
  | solve n s ds r1 r2 =>
    have hw := ws_back r1
    have hc : countE 5 (n :: s :: ds).length = 0 := by
      unfold countE
      rw [show cntN 5 = 2 from rfl]
      simp only [List.length_cons]
      rw [if_neg (by omega), if_neg (by omega)]
    have := line_tell (k := 5) (xs := n :: s :: ds) (by omega) (by omega) (fun x hx => (r1 x hx).1) hc (by show wsE _ = 0; exact hw.1)
    refine ⟨this.1, this.2.trans ?_, hno⟩
    show CM.mk 5 ((wsV (wdsN (n :: s :: ds))).getD 0 0) ((wsV (wdsN (n :: s :: ds))).getD 1 0) 0 ((wsV (wdsN (n :: s :: ds))).drop 2) ⟨#[]⟩ = _
    rw [hw.2]; rfl
  | bare k hk =>
    rcases hk with rfl | rfl
    · have := line_tell (k := 6) (xs := []) (by omega) (by omega) (by simp) (by decide) (by decide)
      exact ⟨this.1, this.2, hno⟩
    · have := line_tell (k := 7) (xs := []) (by omega) (by omega) (by simp) (by decide) (by decide)
      exact ⟨this.1, this.2, hno⟩
/-- What is printed of a command that may be is parsed as it. -/
theorem back {c : CM} (h : Good c) (hl : (cmdT c).length ≤ 1048576) : parseR (cmdT c) = ([c], 0, 0) := by
  obtain ⟨h1, h2, h3⟩ := h.line
  obtain ⟨T, hT⟩ : ∃ T, T = if c.kind = 1 then c.text.data.toList else [] := ⟨_, rfl⟩
  have hcm : cmdT c = (lineT c ++ [10]) ++ T := by unfold cmdT; rw [← hT]; simp
  have hTE : linesE T = 0 := by
    rw [hT]
    split
    · rename_i hk
      cases h with
      | load n t r1 r2 r3 r4 => exact r3
      | one k n hk' => rcases hk' with rfl | rfl <;> simp at hk
      | tick t => simp at hk
      | solve => simp at hk
      | bare k hk' => rcases hk' with rfl | rfl <;> simp at hk
    · exact lines_nil.2
  have hlen : (lineT c).length + 1 + T.length ≤ 1048576 := by rw [hcm] at hl; simp at hl; omega
  obtain ⟨g1, g2⟩ := lines_nl (lineT c) (by omega)
  have hb := lines_both (lineT c ++ [10]) T g2 (by simp; omega)
  have hE : linesE (cmdT c) = 0 := by rw [hcm, hb.1, hTE]
  have hP : linesP (cmdT c) = strOf (lineT c) :: linesP T := by
    rw [hcm, hb.2 hTE, g1, pcs_end _ h3]; rfl
  have hd : (strOf (lineT c)).data.toList = lineT c := rfl
  unfold parseR
  rw [if_neg (by omega), hP]
  have hfe : firstE (strOf (lineT c)) (linesP T) = 0 ∧ firstC (strOf (lineT c)) (linesP T) = c ∧ owed (strOf (lineT c)) = (linesP T).length := by
    unfold firstE firstC owed
    rw [hd, h1, h2]
    cases h with
    | load n t r1 r2 r3 r4 =>
      have e : T = t.data.toList := by rw [hT]; rfl
      have hj := lines_join' _ r3
      subst e
      refine ⟨?_, ?_, ?_⟩
      · simp [CM.bare]; omega
      · simp only [CM.bare, if_true]
        rw [← r4, Int.toNat_natCast, List.take_length, hj, strOf_data]
      · simp only [CM.bare, if_true]
        omega
    | one k n hk r1 r2 => rcases hk with rfl | rfl <;> (subst hT; simp [CM.bare, lines_nil.1])
    | tick t r1 => subst hT; simp [CM.bare, lines_nil.1]
    | solve n s ds r1 r2 => subst hT; simp [CM.bare, lines_nil.1]
    | bare k hk => rcases hk with rfl | rfl <;> (subst hT; simp [CM.bare, lines_nil.1])
  obtain ⟨f1, f2, f3⟩ := hfe
  rw [run_step f1 (by omega), f2, f3, List.drop_length]
  rfl
/-- How long what is printed is. -/
theorem cmd_short {N : Nat} {c : CM} (h : Fits N c) : (cmdT c).length ≤ 22 * N + 60 := by
  have h1 := numsT_len (xs := numL c) fun x hx => (rng_row (h.good.rng x hx)).2
  have h2 : (numL c).length ≤ c.draws.length + 2 := by
    unfold numL
    repeat' split
    all_goals simp
  have h3 : (nameL c.kind.toNat).length ≤ 7 := by unfold nameL; split <;> simp
  have h4 : c.text.data.toList.length = c.text.size := by simp
  have h5 := h.draws
  have h6 := h.text
  unfold cmdT lineT
  split
  all_goals
    simp only [List.length_append, List.length_cons, List.length_nil]
    omega
end Vb
end Go.Proofs.YtmegapelibaanaaDoor
