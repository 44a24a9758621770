/- Plain facts: what a text's commands are, what their text is; what is printed is parsed as it. -/
import Derived.Test.YtmegapelibaanaaDoorVbA
import Derived.Test.YtmegapelibaanaaDoorDeciMath
import Derived.Test.YtmegapelibaanaaDoorFilShort
namespace Go.Proofs.YtmegapelibaanaaDoor
namespace Vb
open Go Go.RowKit Deci
set_option linter.unusedVariables false
/-- A number that may be. -/
def Rng (x : Int) : Prop := -1099511627776 ≤ x ∧ x ≤ 1099511627776
theorem write_sgn {x : Int} (h : Rng x) : writeV x 0 = (if x < 0 then [45] else []) ++ Lib.decDigits x.natAbs ∧ (writeV x 0).length ≤ 14 ∧ (Lib.decDigits x.natAbs).length ≤ 13 := by
  have hlen : (Lib.decDigits x.natAbs).length ≤ 13 := dig_len 12 x.natAbs (by have := h.1; have := h.2; omega)
  have hne := dig_ne x.natAbs
  have hpad : padL (scV 0).toNat (Lib.decDigits x.natAbs) = Lib.decDigits x.natAbs := by
    unfold padL
    have : (scV 0).toNat = 0 := by unfold scV heldV; decide
    have hl : 0 < (Lib.decDigits x.natAbs).length := List.length_pos_iff.2 hne
    rw [this, show 0 + 1 - (Lib.decDigits x.natAbs).length = 0 by omega]; rfl
  have hsc : (scV 0).toNat = 0 := by unfold scV heldV; decide
  have hpart : partV x 0 = [] := by
    unfold partV
    rw [hpad, hsc, Nat.sub_zero, List.drop_length]
    unfold Lib.trimRightB
    simp
  have hhead : headV x 0 = Lib.decDigits x.natAbs := by
    unfold headV
    rw [hpad, hsc, Nat.sub_zero, List.take_length]
  have : writeV x 0 = (if x < 0 then [45] else []) ++ Lib.decDigits x.natAbs := by
    unfold writeV
    rw [hhead, hpart]; simp
  rw [this]
  refine ⟨rfl, ?_, hlen⟩
  rw [List.length_append]
  split <;> simp <;> omega
theorem rng_row {x : Int} (h : Rng x) : (-9223372036854775808 ≤ x ∧ x ≤ 9223372036854775807) ∧ (strOf (writeV x 0)).size ≤ 20 := by
  have := (write_sgn h).2.1
  have h1 := h.1
  have h2 := h.2
  exact ⟨⟨by omega, by omega⟩, by show (writeV x 0).length ≤ 20; omega⟩
theorem dig_byte {l : List UInt8} (h : inB 48 57 l = true) : ∀ b ∈ l, 48 ≤ b.toNat ∧ b.toNat ≤ 57 := fun b hb => by
  unfold inB at h
  have := List.all_eq_true.1 h b hb
  simp only [Bool.and_eq_true, decide_eq_true_eq] at this
  omega
theorem write_byte {x : Int} (h : Rng x) : ∀ b ∈ writeV x 0, 45 ≤ b.toNat ∧ b.toNat ≤ 57 := by
  rw [(write_sgn h).1]
  intro b hb
  rcases List.mem_append.1 hb with hb | hb
  · split at hb
    · simp only [List.mem_cons, List.not_mem_nil, or_false] at hb
      subst hb; decide
    · cases hb
  · have := dig_byte (dig_in _) b hb
    omega
theorem write_ne {x : Int} (h : Rng x) : writeV x 0 ≠ [] := by
  rw [(write_sgn h).1]
  intro e
  exact dig_ne _ (List.append_eq_nil_iff.1 e).2
theorem ne_of_nat {b c : UInt8} (h : b.toNat ≠ c.toNat) : b ≠ c := fun e => h (by rw [e])
theorem write_no {x : Int} (h : Rng x) (c : UInt8) (hc : c.toNat < 45) : ∀ b ∈ writeV x 0, b ≠ c := fun b hb => ne_of_nat (by have := write_byte h b hb; omega)
theorem read_ok {x : Int} (h : Rng x) : readV (writeV x 0) 0 = x ∧ readE (writeV x 0) 0 = 0 := by
  have := read_write x 0 0 (by omega) (by have := h.1; have := h.2; omega) (write_sgn h).2.2
  simpa using this
theorem dec_head (n : Nat) (hn : 0 < n) : ∀ b t, Lib.decDigits n = b :: t → b ≠ 48 := by
  induction n using Nat.strongRecOn with
  | _ n ih =>
    intro b t e
    unfold Lib.decDigits at e
    by_cases h10 : n < 10
    · rw [dif_pos h10] at e
      have h1 := of_dig h10
      injection e with e1 e2
      rw [← e1]
      intro e3
      have h48 : (48 : UInt8).toNat = 48 := rfl
      rw [e3, h48] at h1
      omega
    · rw [dif_neg h10] at e
      have hne := dig_ne (n / 10)
      obtain ⟨b', t', e'⟩ : ∃ b' t', Lib.decDigits (n / 10) = b' :: t' := by
        cases hh : Lib.decDigits (n / 10) with
        | nil => exact absurd hh hne
        | cons b' t' => exact ⟨b', t', rfl⟩
      have := ih (n / 10) (by omega) (by omega) b' t' e'
      rw [e', List.cons_append] at e
      injection e with e1 e2
      rw [← e1]; exact this
theorem whole_fine {x : Int} (h : Rng x) (h0 : 0 ≤ x) : wholeBad (writeV x 0) = false := by
  have hw := (write_sgn h).1
  rw [if_neg (by omega), List.nil_append] at hw
  rw [hw]
  unfold wholeBad Lib.hasPrefix
  have hi := dig_in x.natAbs
  cases e : Lib.decDigits x.natAbs with
  | nil => exact absurd e (dig_ne _)
  | cons b t =>
    rw [e] at hi
    have hb := dig_byte hi b (List.mem_cons_self ..)
    have h1 : (45 == b) = false := by
      have : ¬ 45 = b := fun e => by rw [← e] at hb; have h : (45 : UInt8).toNat = 45 := rfl; omega
      simpa using this
    by_cases hz : x.natAbs = 0
    · rw [hz, Lib.decDigits_one (by decide)] at e
      injection e with e1 e2
      subst e1 e2
      decide
    · have h2 : (48 == b) = false := by
        have := dec_head x.natAbs (by omega) b t e
        simpa using fun e => this e.symm
      simp [List.isPrefixOf, h1, h2]
theorem whole_ok {x : Int} (h : Rng x) (h0 : 0 ≤ x) : wholeV (writeV x 0) = x ∧ wholeE (writeV x 0) = 0 := by
  unfold wholeV wholeE
  rw [whole_fine h h0]
  simpa using read_ok h
theorem pcs_app {c : UInt8} : ∀ (a l cur : List UInt8), (∀ b ∈ a, b ≠ c) → pcs c cur (a ++ l) = pcs c (cur ++ a) l
  | [], l, cur, _ => by simp
  | b :: a, l, cur, h => by
    rw [List.cons_append, pcs_ne (h b (List.mem_cons_self ..)), pcs_app a l _ fun x hx => h x (List.mem_cons_of_mem _ hx)]
    simp
theorem pcs_end {c : UInt8} (a : List UInt8) (h : ∀ b ∈ a, b ≠ c) : pcs c [] a = [a] := by
  have := pcs_app a [] [] h
  rw [List.append_nil, List.nil_append] at this
  rw [this]; rfl
theorem pcs_word {c : UInt8} (a l : List UInt8) (h : ∀ b ∈ a, b ≠ c) : pcs c [] (a ++ c :: l) = a :: pcs c [] l := by
  rw [pcs_app a _ _ h, List.nil_append, pcs_eq]
theorem word_of {l : List UInt8} (h0 : l ≠ []) (h : ∀ b ∈ l, 33 ≤ b.toNat ∧ b.toNat ≤ 126) : wordB l = true := by
  unfold wordB inB
  simp only [Bool.and_eq_true, List.all_eq_true, decide_eq_true_eq]
  refine ⟨by simpa using h0, fun b hb => ?_⟩
  have := h b hb
  omega
theorem write_word {x : Int} (h : Rng x) : wordB (writeV x 0) = true := word_of (write_ne h) fun b hb => by have := write_byte h b hb; omega
/-! ### one line -/
/-- The kind that has a name; 0 of another word. -/
def kindV (l : List UInt8) : Nat :=
  if l = nameL 1 then 1 else if l = nameL 2 then 2 else if l = nameL 3 then 3 else if l = nameL 4 then 4 else if l = nameL 5 then 5 else if l = nameL 6 then 6 else if l = nameL 7 then 7 else 0
theorem kind_name {k : Nat} (h1 : 1 ≤ k) (h2 : k ≤ 7) : kindV (nameL k) = k := by
  rcases (show k = 1 ∨ k = 2 ∨ k = 3 ∨ k = 4 ∨ k = 5 ∨ k = 6 ∨ k = 7 by omega) with rfl | rfl | rfl | rfl | rfl | rfl | rfl <;> decide
theorem kind_le (l : List UInt8) : kindV l ≤ 7 := by unfold kindV; repeat' split
                                                     all_goals omega
theorem kind_of {l : List UInt8} (h : kindV l ≠ 0) : l = nameL (kindV l) := by
  unfold kindV at h ⊢
  by_cases h1 : l = nameL 1
  · rw [if_pos h1]; exact h1
  by_cases h2 : l = nameL 2
  · rw [if_neg h1, if_pos h2]; exact h2
  by_cases h3 : l = nameL 3
  · rw [if_neg h1, if_neg h2, if_pos h3]; exact h3
  by_cases h4 : l = nameL 4
  · rw [if_neg h1, if_neg h2, if_neg h3, if_pos h4]; exact h4
  by_cases h5 : l = nameL 5
  · rw [if_neg h1, if_neg h2, if_neg h3, if_neg h4, if_pos h5]; exact h5
  by_cases h6 : l = nameL 6
  · rw [if_neg h1, if_neg h2, if_neg h3, if_neg h4, if_neg h5, if_pos h6]; exact h6
  by_cases h7 : l = nameL 7
  · rw [if_neg h1, if_neg h2, if_neg h3, if_neg h4, if_neg h5, if_neg h6, if_pos h7]; exact h7
  · rw [if_neg h1, if_neg h2, if_neg h3, if_neg h4, if_neg h5, if_neg h6, if_neg h7] at h; exact absurd rfl h
theorem kind_no {l : List UInt8} (h : ∀ j, j < 8 → nameL j ≠ l) : kindV l = 0 := by
  unfold kindV
  rw [if_neg fun e => h 1 (by decide) e.symm, if_neg fun e => h 2 (by decide) e.symm, if_neg fun e => h 3 (by decide) e.symm, if_neg fun e => h 4 (by decide) e.symm, if_neg fun e => h 5 (by decide) e.symm, if_neg fun e => h 6 (by decide) e.symm, if_neg fun e => h 7 (by decide) e.symm]
theorem kind_at {l : List UInt8} {i : Nat} (hi : i < 8) (h : nameL i = l) : kindV l = i := by
  rcases Nat.eq_zero_or_pos i with rfl | h0
  · rw [← h]; decide
  · rw [← h]; exact kind_name h0 (by omega)
/-- May so many numbers stand behind a kind's name? -/
def countE (k : Nat) (m : Int) : Int := if m - cntN k < 0 ∨ (0 < m - cntN k ∧ k ≠ 5) then 21 else if 4096 < m - cntN k then 3 else 0
/-- The numbers of words, each Whole. -/
def wsE : List ByteArray → Int
  | [] => 0
  | s :: r => if wholeE s.data.toList ≠ 0 then wholeE s.data.toList else wsE r
def wsV (ws : List ByteArray) : List Int := ws.map fun s => wholeV s.data.toList
def hdL (ws : List ByteArray) : List UInt8 := (ws.headD ⟨#[]⟩).data.toList
def numE (k : Nat) (ws : List ByteArray) : Int := if k = 4 then readE (hdL ws) 0 else if k = 5 then wsE ws else if 1 ≤ k ∧ k ≤ 3 then wholeE (hdL ws) else 0
def numC (k : Nat) (ws : List ByteArray) : CM :=
  if k = 4 then ⟨4, 0, 0, readV (hdL ws) 0, [], ⟨#[]⟩⟩ else if k = 5 then ⟨5, (wsV ws).getD 0 0, (wsV ws).getD 1 0, 0, (wsV ws).drop 2, ⟨#[]⟩⟩ else if 1 ≤ k ∧ k ≤ 3 then ⟨k, wholeV (hdL ws), 0, 0, [], ⟨#[]⟩⟩ else ⟨k, 0, 0, 0, [], ⟨#[]⟩⟩
/-- A line's error, its command. -/
def lineE (l : List UInt8) : Int :=
  if wordsE l ≠ 0 then wordsE l else match wordsP l with
    | [] => 50
    | w :: r => if kindV w.data.toList = 0 then 50 else if countE (kindV w.data.toList) r.length ≠ 0 then countE (kindV w.data.toList) r.length else numE (kindV w.data.toList) r
def lineC (l : List UInt8) : CM := match wordsP l with
  | [] => CM.none
  | w :: r => numC (kindV w.data.toList) r
/-! ### the lines -/
def joinS (ps : List ByteArray) : List UInt8 := ps.flatMap fun p => p.data.toList ++ [10]
theorem joinS_snoc (ps : List ByteArray) (p : ByteArray) : joinS (ps ++ [p]) = joinS ps ++ (p.data.toList ++ [10]) := by unfold joinS; simp
theorem joinS_map (L : List (List UInt8)) : joinS (L.map strOf) = flat 10 L := by unfold joinS flat; rw [List.flatMap_map]; rfl
/-- The first line's error, its command, how many lines behind it belong to it. -/
def firstE (p : ByteArray) (ps : List ByteArray) : Int :=
  if lineE p.data.toList ≠ 0 then lineE p.data.toList else if (lineC p.data.toList).kind = 1 ∧ (ps.length : Int) < (lineC p.data.toList).n then 20 else 0
def firstC (p : ByteArray) (ps : List ByteArray) : CM :=
  if (lineC p.data.toList).kind = 1 then { lineC p.data.toList with text := strOf (joinS (ps.take (lineC p.data.toList).n.toNat)) } else lineC p.data.toList
def owed (p : ByteArray) : Nat := if (lineC p.data.toList).kind = 1 then (lineC p.data.toList).n.toNat else 0
def glue (cs : List CM) (r : List CM × Nat × Int) : List CM × Nat × Int := if r.2.2 ≠ 0 then ([], r.2.1, r.2.2) else (cs ++ r.1, 0, 0)
def run : List ByteArray → Nat → Nat → List CM × Nat × Int
  | [], _, _ => ([], 0, 0)
  | _ :: ps, k + 1, at_ => run ps k (at_ + 1)
  | p :: ps, 0, at_ => if firstE p ps ≠ 0 then ([], at_ + 1, firstE p ps) else glue [firstC p ps] (run ps (owed p) (at_ + 1))
theorem glue_glue (a b : List CM) (r : List CM × Nat × Int) : glue a (glue b r) = glue (a ++ b) r := by
  unfold glue
  by_cases h : r.2.2 ≠ 0
  · simp [h]
  · simp only [ne_eq, Decidable.not_not] at h
    simp [h]
theorem glue_nil (r : List CM × Nat × Int) (h : r.2.2 = 0 → r.2.1 = 0) (h2 : r.2.2 ≠ 0 → r.1 = []) : glue [] r = r := by
  obtain ⟨a, b, c⟩ := r
  unfold glue
  by_cases hc : c = 0
  · subst hc; simp at h; subst h; simp
  · simp [hc] at h2 ⊢; exact h2
theorem run_shape : ∀ (ps : List ByteArray) (k a : Nat), ((run ps k a).2.2 = 0 → (run ps k a).2.1 = 0) ∧ ((run ps k a).2.2 ≠ 0 → (run ps k a).1 = [])
  | [], _, _ => ⟨fun _ => rfl, fun _ => rfl⟩
  | _ :: ps, k + 1, a => run_shape ps k (a + 1)
  | p :: ps, 0, a => by
    unfold run
    by_cases h : firstE p ps ≠ 0
    · rw [if_pos h]; exact ⟨fun e => absurd e h, fun _ => rfl⟩
    · rw [if_neg h]
      unfold glue
      split
      · rename_i h'; exact ⟨fun e => absurd e h', fun _ => rfl⟩
      · exact ⟨fun _ => rfl, fun e => absurd rfl e⟩
theorem run_skip : ∀ (ps : List ByteArray) (k a : Nat), k ≤ ps.length → run ps k a = run (ps.drop k) 0 (a + k)
  | ps, 0, a, _ => by simp
  | [], k + 1, a, h => by simp at h
  | p :: ps, k + 1, a, h => by
    have := run_skip ps k (a + 1) (by simpa using h)
    show run ps k (a + 1) = run (ps.drop k) 0 (a + (k + 1))
    rw [this, show a + 1 + k = a + (k + 1) by omega]
/-- One step of Parse. -/
theorem run_step {p : ByteArray} {ps : List ByteArray} {a : Nat} (h : firstE p ps = 0) (ho : owed p ≤ ps.length) : run (p :: ps) 0 a = glue [firstC p ps] (run (ps.drop (owed p)) 0 (a + 1 + owed p)) := by
  rw [← run_skip ps _ _ ho]
  show (if firstE p ps ≠ 0 then _ else _) = _
  rw [if_neg (by omega)]
theorem run_stop {p : ByteArray} {ps : List ByteArray} {a : Nat} (h : firstE p ps ≠ 0) : run (p :: ps) 0 a = ([], a + 1, firstE p ps) := by
  show (if firstE p ps ≠ 0 then _ else _) = _
  rw [if_pos h]
/-- What Parse answers. -/
def parseR (l : List UInt8) : List CM × Nat × Int := if linesE l ≠ 0 then ([], 0, linesE l) else run (linesP l) 0 0
/-! ### what is printed -/
def numL (c : CM) : List Int := if 1 ≤ c.kind ∧ c.kind ≤ 3 then [c.n] else if c.kind = 4 then [c.clock] else if c.kind = 5 then c.n :: c.steps :: c.draws else []
def leastV (c : CM) : Int := if c.kind = 4 then -1099511627776 else 0
def beyB (m x : Int) : Bool := decide (x < m) || decide (1099511627776 < x)
def linesB (l : List UInt8) (n : Int) : Bool := decide (linesE l = 0) && decide (((linesP l).length : Int) = n)
def checkE (c : CM) : Int :=
  if nameL c.kind.toNat = [] then 50 else if (numL c).any (beyB (leastV c)) then 23 else if c.kind = 5 ∧ 4096 < c.draws.length then 3 else if c.kind = 1 ∧ linesB c.text.data.toList c.n = false then 21 else 0
def numsT (xs : List Int) : List UInt8 := xs.flatMap fun x => 32 :: writeV x 0
theorem numsT_snoc (xs : List Int) (x : Int) : numsT (xs ++ [x]) = numsT xs ++ 32 :: writeV x 0 := by unfold numsT; simp
theorem numsT_len {xs : List Int} (h : ∀ x ∈ xs, (writeV x 0).length ≤ 20) : (numsT xs).length ≤ xs.length * 21 := by
  unfold numsT
  induction xs with
  | nil => simp
  | cons x xs ih =>
    have h1 := ih fun y hy => h y (List.mem_cons_of_mem _ hy)
    have h2 := h x (List.mem_cons_self ..)
    simp only [List.flatMap_cons, List.length_append, List.length_cons] at *
    omega
def lineT (c : CM) : List UInt8 := nameL c.kind.toNat ++ numsT (numL c)
def cmdT (c : CM) : List UInt8 := lineT c ++ 10 :: (if c.kind = 1 then c.text.data.toList else [])
def printE : List CM → Int
  | [] => 0
  | c :: cs => if checkE c ≠ 0 then checkE c else printE cs
def printT (cs : List CM) : List UInt8 := if printE cs ≠ 0 then [] else cs.flatMap cmdT
/-! ### commands that a text may have -/
inductive Good : CM → Prop
  | load (n : Int) (t : ByteArray) : Rng n → 0 ≤ n → linesE t.data.toList = 0 → ((linesP t.data.toList).length : Int) = n → Good ⟨1, n, 0, 0, [], t⟩
  | one (k n : Int) : (k = 2 ∨ k = 3) → Rng n → 0 ≤ n → Good ⟨k, n, 0, 0, [], ⟨#[]⟩⟩
  | tick (t : Int) : Rng t → Good ⟨4, 0, 0, t, [], ⟨#[]⟩⟩
  | solve (n s : Int) (ds : List Int) : (∀ x ∈ n :: s :: ds, Rng x ∧ 0 ≤ x) → ds.length ≤ 4096 → Good ⟨5, n, s, 0, ds, ⟨#[]⟩⟩
  | bare (k : Int) : (k = 6 ∨ k = 7) → Good ⟨k, 0, 0, 0, [], ⟨#[]⟩⟩
theorem bey_rng {m x : Int} (h : Rng x) (hm : m ≤ x) : beyB m x = false := by
  unfold beyB; have := h.2; simp; omega
theorem Good.check {c : CM} (h : Good c) : checkE c = 0 := by
  cases h with
  | load n t h1 h2 h3 h4 =>
    have hb := bey_rng h1 (m := 0) h2
    simp [checkE, numL, leastV, linesB, nameL, hb, h3, h4]
  | one k n hk h1 h2 =>
    have hb := bey_rng h1 (m := 0) h2
    rcases hk with rfl | rfl <;> simp [checkE, numL, leastV, nameL, hb]
  | tick t h1 =>
    have hb := bey_rng h1 (m := -1099511627776) h1.1
    simp [checkE, numL, leastV, nameL, hb]
  | solve n s ds h1 h2 =>
    have hb : ∀ x ∈ n :: s :: ds, beyB 0 x = false := fun x hx => bey_rng (h1 x hx).1 (h1 x hx).2
    have h0 : (n :: s :: ds).any (beyB 0) = false := by
      rw [List.any_eq_false]; intro x hx; rw [hb x hx]; simp
    have : ¬ 4096 < ds.length := by omega
    simp only [checkE, numL, leastV]
    simp [nameL, this]
    simpa using h0
  | bare k hk => rcases hk with rfl | rfl <;> simp [checkE, numL, nameL]
theorem Good.kind {c : CM} (h : Good c) : 1 ≤ c.kind ∧ c.kind ≤ 7 := by
  cases h with
  | load => simp
  | one k n hk => rcases hk with rfl | rfl <;> simp
  | tick => simp
  | solve => simp
  | bare k hk => rcases hk with rfl | rfl <;> simp
theorem Good.rng {c : CM} (h : Good c) : ∀ x ∈ numL c, Rng x := by
  cases h with
  | load n t h1 h2 h3 h4 => simp [numL]; exact h1
  | one k n hk h1 h2 => rcases hk with rfl | rfl <;> (simp [numL]; exact h1)
  | tick t h1 => simp [numL]; exact h1
  | solve n s ds h1 h2 => intro x hx; simp only [numL] at hx; simp at hx; exact (h1 x (by simpa using hx)).1
  | bare k hk => rcases hk with rfl | rfl <;> simp [numL]
end Vb
end Go.Proofs.YtmegapelibaanaaDoor
