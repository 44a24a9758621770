/- Plain facts: a line's text and its words; the lines of a text; a number that is written is read. -/
import Derived.Test.YtjmingdlfihmaaaDoorTkA
import Derived.Test.YtjmingdlfihmaaaDoorDeciMath
namespace Go.Proofs.YtjmingdlfihmaaaDoor
namespace Tk
open Go Go.RowKit Deci
set_option linter.unusedVariables false
/-- A number that may be. -/
def Rng (x : Int) : Prop := -1099511627776 ≤ x ∧ x ≤ 1099511627776
theorem write_sgn {x : Int} (h : Rng x) : writeV x 0 = (if x < 0 then [45] else []) ++ Lib.decDigits x.natAbs ∧ (writeV x 0).length ≤ 14 ∧ (Lib.decDigits x.natAbs).length ≤ 13 := by
  have hlen : (Lib.decDigits x.natAbs).length ≤ 13 := dig_len 12 x.natAbs (by have := h.1; have := h.2; omega)
  have hne := dig_ne x.natAbs
  have hpad : padL (scV 0).toNat (Lib.decDigits x.natAbs) = Lib.decDigits x.natAbs := by
    unfold padL
    have : (scV 0).toNat = 0 := by unfold scV heldV; decide
    have hl : 0 < (Lib.decDigits x.natAbs).length := List.length_pos_iff.2 hne
    rw [this, show 0 + 1 - (Lib.decDigits x.natAbs).length = 0 by omega]; rfl
  have hsc : (scV 0).toNat = 0 := by unfold scV heldV; decide
  have hpart : partV x 0 = [] := by
    unfold partV
    rw [hpad, hsc, Nat.sub_zero, List.drop_length]
    unfold Lib.trimRightB
    simp
  have hhead : headV x 0 = Lib.decDigits x.natAbs := by
    unfold headV
    rw [hpad, hsc, Nat.sub_zero, List.take_length]
  have : writeV x 0 = (if x < 0 then [45] else []) ++ Lib.decDigits x.natAbs := by
    unfold writeV
    rw [hhead, hpart]; simp
  rw [this]
  refine ⟨rfl, ?_, hlen⟩
  rw [List.length_append]
  split <;> simp <;> omega
theorem rng_row {x : Int} (h : Rng x) : (-9223372036854775808 ≤ x ∧ x ≤ 9223372036854775807) ∧ (strOf (writeV x 0)).size ≤ 20 := by
  have := (write_sgn h).2.1
  have h1 := h.1
  have h2 := h.2
  exact ⟨⟨by omega, by omega⟩, by show (writeV x 0).length ≤ 20; omega⟩
theorem dig_byte {l : List UInt8} (h : inB 48 57 l = true) : ∀ b ∈ l, 48 ≤ b.toNat ∧ b.toNat ≤ 57 := fun b hb => by
  unfold inB at h
  have := List.all_eq_true.1 h b hb
  simp only [Bool.and_eq_true, decide_eq_true_eq] at this
  omega
theorem write_byte {x : Int} (h : Rng x) : ∀ b ∈ writeV x 0, 45 ≤ b.toNat ∧ b.toNat ≤ 57 := by
  rw [(write_sgn h).1]
  intro b hb
  rcases List.mem_append.1 hb with hb | hb
  · split at hb
    · simp only [List.mem_cons, List.not_mem_nil, or_false] at hb
      subst hb; decide
    · cases hb
  · have := dig_byte (dig_in _) b hb
    omega
theorem write_ne {x : Int} (h : Rng x) : writeV x 0 ≠ [] := by
  rw [(write_sgn h).1]
  intro e
  exact dig_ne _ (List.append_eq_nil_iff.1 e).2
theorem ne_of_nat {b c : UInt8} (h : b.toNat ≠ c.toNat) : b ≠ c := fun e => h (by rw [e])
theorem write_no {x : Int} (h : Rng x) (c : UInt8) (hc : c.toNat < 45) : ∀ b ∈ writeV x 0, b ≠ c := fun b hb => ne_of_nat (by have := write_byte h b hb; omega)
theorem read_ok {x : Int} (h : Rng x) : readV (writeV x 0) 0 = x ∧ readE (writeV x 0) 0 = 0 := by
  have := read_write x 0 0 (by omega) (by have := h.1; have := h.2; omega) (write_sgn h).2.2
  simpa using this
theorem dec_head (n : Nat) (hn : 0 < n) : ∀ b t, Lib.decDigits n = b :: t → b ≠ 48 := by
  induction n using Nat.strongRecOn with
  | _ n ih =>
    intro b t e
    unfold Lib.decDigits at e
    by_cases h10 : n < 10
    · rw [dif_pos h10] at e
      have h1 := of_dig h10
      injection e with e1 e2
      rw [← e1]
      intro e3
      have h48 : (48 : UInt8).toNat = 48 := rfl
      rw [e3, h48] at h1
      omega
    · rw [dif_neg h10] at e
      have hne := dig_ne (n / 10)
      obtain ⟨b', t', e'⟩ : ∃ b' t', Lib.decDigits (n / 10) = b' :: t' := by
        cases hh : Lib.decDigits (n / 10) with
        | nil => exact absurd hh hne
        | cons b' t' => exact ⟨b', t', rfl⟩
      have := ih (n / 10) (by omega) (by omega) b' t' e'
      rw [e', List.cons_append] at e
      injection e with e1 e2
      rw [← e1]; exact this
theorem whole_fine {x : Int} (h : Rng x) (h0 : 0 ≤ x) : wholeBad (writeV x 0) = false := by
  have hw := (write_sgn h).1
  rw [if_neg (by omega), List.nil_append] at hw
  rw [hw]
  unfold wholeBad Lib.hasPrefix
  have hi := dig_in x.natAbs
  cases e : Lib.decDigits x.natAbs with
  | nil => exact absurd e (dig_ne _)
  | cons b t =>
    rw [e] at hi
    have hb := dig_byte hi b (List.mem_cons_self ..)
    have h1 : (45 == b) = false := by
      have : ¬ 45 = b := fun e => by rw [← e] at hb; have h : (45 : UInt8).toNat = 45 := rfl; omega
      simpa using this
    by_cases hz : x.natAbs = 0
    · rw [hz, Lib.decDigits_one (by decide)] at e
      injection e with e1 e2
      subst e1 e2
      decide
    · have h2 : (48 == b) = false := by
        have := dec_head x.natAbs (by omega) b t e
        simpa using fun e => this e.symm
      simp [List.isPrefixOf, h1, h2]
theorem whole_ok {x : Int} (h : Rng x) (h0 : 0 ≤ x) : wholeV (writeV x 0) = x ∧ wholeE (writeV x 0) = 0 := by
  unfold wholeV wholeE
  rw [whole_fine h h0]
  simpa using read_ok h
/-! ### a line -/
/-- A line that may be. -/
structure LN.Ok (l : LN) : Prop where
  rid : Rng l.id
  rcar : Rng l.car
  rpick : Rng l.pick
  rdrop : Rng l.drop
  rride : Rng l.ride
  zid : 0 ≤ l.id
  zcar : 0 ≤ l.car
  idle : l.served = false → l.car = 0 ∧ l.pick = 0 ∧ l.drop = 0 ∧ l.ride = 0
/-- The word of who isn't served. -/
def unsL : List UInt8 := [117, 110, 115, 101, 114, 118, 101, 100]
def unsS : ByteArray := ⟨#[117, 110, 115, 101, 114, 118, 101, 100]⟩
theorem uns_str : strOf unsL = unsS := rfl
/-- The words of a line. -/
def wordsL (l : LN) : List (List UInt8) := if l.served then [writeV l.id 0, writeV l.car 0, writeV l.pick 0, writeV l.drop 0, writeV l.ride 0] else [writeV l.id 0, unsL]
/-- A line's text. -/
def lineB (l : LN) : List UInt8 := if l.served then writeV l.id 0 ++ 32 :: (writeV l.car 0 ++ 32 :: (writeV l.pick 0 ++ 32 :: (writeV l.drop 0 ++ 32 :: writeV l.ride 0))) else writeV l.id 0 ++ 32 :: unsL
theorem pcs_app {c : UInt8} : ∀ (a l cur : List UInt8), (∀ b ∈ a, b ≠ c) → pcs c cur (a ++ l) = pcs c (cur ++ a) l
  | [], l, cur, _ => by simp
  | b :: a, l, cur, h => by
    rw [List.cons_append, pcs_ne (h b (List.mem_cons_self ..)), pcs_app a l _ fun x hx => h x (List.mem_cons_of_mem _ hx)]
    simp
theorem pcs_end {c : UInt8} (a : List UInt8) (h : ∀ b ∈ a, b ≠ c) : pcs c [] a = [a] := by
  have := pcs_app a [] [] h
  rw [List.append_nil, List.nil_append] at this
  rw [this]; rfl
theorem pcs_word {c : UInt8} (a l : List UInt8) (h : ∀ b ∈ a, b ≠ c) : pcs c [] (a ++ c :: l) = a :: pcs c [] l := by
  rw [pcs_app a _ _ h, List.nil_append, pcs_eq]
theorem word_of {l : List UInt8} (h0 : l ≠ []) (h : ∀ b ∈ l, 33 ≤ b.toNat ∧ b.toNat ≤ 126) : wordB l = true := by
  unfold wordB inB
  simp only [Bool.and_eq_true, List.all_eq_true, decide_eq_true_eq]
  refine ⟨by simpa using h0, fun b hb => ?_⟩
  have := h b hb
  omega
theorem write_word {x : Int} (h : Rng x) : wordB (writeV x 0) = true := word_of (write_ne h) fun b hb => by have := write_byte h b hb; omega
theorem uns_by : ∀ b ∈ unsL, 100 ≤ b.toNat ∧ b.toNat ≤ 122 := by decide
section
variable {l : LN}
theorem line_pcs (h : l.Ok) : pcs 32 [] (lineB l) = wordsL l := by
  have w := fun {x : Int} (hx : Rng x) => write_no hx 32 (by decide)
  unfold lineB wordsL
  cases l.served with
  | true =>
    simp only [if_true]
    rw [pcs_word _ _ (w h.rid), pcs_word _ _ (w h.rcar), pcs_word _ _ (w h.rpick), pcs_word _ _ (w h.rdrop), pcs_end _ (w h.rride)]
  | false =>
    simp only [Bool.false_eq_true, if_false]
    rw [pcs_word _ _ (w h.rid), pcs_end _ (fun b hb => ne_of_nat (by have := uns_by b hb; have : (32 : UInt8).toNat = 32 := rfl; omega))]
theorem words_fine (h : l.Ok) : (wordsL l).all wordB = true := by
  unfold wordsL
  cases l.served with
  | true => simp [write_word h.rid, write_word h.rcar, write_word h.rpick, write_word h.rdrop, write_word h.rride]
  | false => simp [write_word h.rid, show wordB unsL = true by decide]
theorem line_ne (h : l.Ok) : lineB l ≠ [] := by
  unfold lineB
  split <;> simp
theorem line_words (h : l.Ok) : wordsE (lineB l) = 0 ∧ wordsP (lineB l) = (wordsL l).map strOf := by
  have ha : (pcs 32 [] (lineB l)).all wordB = true := by rw [line_pcs h]; exact words_fine h
  unfold wordsE wordsP
  rw [if_neg (line_ne h), if_neg (line_ne h), if_pos ha, if_pos ha, line_pcs h]
  exact ⟨rfl, rfl⟩
theorem line_no (h : l.Ok) : ∀ b ∈ lineB l, b ≠ 10 := by
  have w := fun {x : Int} (hx : Rng x) => write_no hx 10 (by decide)
  have u : ∀ b ∈ unsL, b ≠ 10 := by decide
  have d : (32 : UInt8) ≠ 10 := by decide
  unfold lineB
  intro b hb
  split at hb
  · simp only [List.mem_append, List.mem_cons] at hb
    rcases hb with hb | rfl | hb | rfl | hb | rfl | hb | rfl | hb
    · exact w h.rid b hb
    · exact d
    · exact w h.rcar b hb
    · exact d
    · exact w h.rpick b hb
    · exact d
    · exact w h.rdrop b hb
    · exact d
    · exact w h.rride b hb
  · simp only [List.mem_append, List.mem_cons] at hb
    rcases hb with hb | rfl | hb
    · exact w h.rid b hb
    · exact d
    · exact u b hb
theorem line_len (h : l.Ok) : (lineB l).length ≤ 74 := by
  have h1 := (write_sgn h.rid).2.1
  have h2 := (write_sgn h.rcar).2.1
  have h3 := (write_sgn h.rpick).2.1
  have h4 := (write_sgn h.rdrop).2.1
  have h5 := (write_sgn h.rride).2.1
  unfold lineB unsL
  split <;> simp <;> omega
end
/-! ### a text -/
def textT (L : List LN) : List UInt8 := L.flatMap fun l => lineB l ++ [10]
theorem textT_cons (l : LN) (L : List LN) : textT (l :: L) = lineB l ++ 10 :: textT L := by unfold textT; simp
theorem textT_snoc (L : List LN) (l : LN) : textT (L ++ [l]) = textT L ++ (lineB l ++ [10]) := by unfold textT; simp
theorem textT_len : ∀ {L : List LN}, (∀ l ∈ L, l.Ok) → (textT L).length ≤ L.length * 75
  | [], _ => by simp [textT]
  | l :: L, h => by
    have h1 := line_len (h l (List.mem_cons_self ..))
    have h2 := textT_len (L := L) fun x hx => h x (List.mem_cons_of_mem _ hx)
    rw [textT_cons]
    simp only [List.length_append, List.length_cons] at *
    omega
theorem textT_pcs : ∀ {L : List LN}, (∀ l ∈ L, l.Ok) → pcs 10 [] (textT L) = L.map lineB ++ [[]]
  | [], _ => rfl
  | l :: L, h => by
    rw [textT_cons, pcs_word _ _ (line_no (h l (List.mem_cons_self ..))), textT_pcs fun x hx => h x (List.mem_cons_of_mem _ hx)]
    rfl
theorem textT_lines {L : List LN} (h : ∀ l ∈ L, l.Ok) (hn : L.length ≤ 1000) : linesP (textT L) = L.map (fun l => strOf (lineB l)) ∧ linesE (textT L) = 0 := by
  have hl := textT_len h
  have h' : ¬ 1048576 < (textT L).length := by omega
  unfold linesP linesE
  rw [if_neg h', if_neg h', textT_pcs h]
  simp
end Tk
end Go.Proofs.YtjmingdlfihmaaaDoor
