/- Plain facts: the lines of a plan's text; they are read as the plan; what is read is written no longer; a line that is missing, one too many, one that is spoilt. -/
import Derived.Test.YtkggahoadeeajaaGreatDoorFilPrint
import Derived.Test.YtkggahoadeeajaaGreatDoorFilShort
namespace Go.Proofs.YtkggahoadeeajaaGreatDoor
namespace Fil
open Go Go.RowKit Deci
set_option linter.unusedVariables false
/-! ### the words of one line -/
/-- A line without its end. -/
def lineB (name : ByteArray) (xs : List Int) : List UInt8 := name.data.toList ++ numsT xs
def wds (xs : List Int) : List ByteArray := xs.map fun x => strOf (writeV x 0)
theorem pcs_app {c : UInt8} : ∀ (a l cur : List UInt8), (∀ b ∈ a, b ≠ c) → pcs c cur (a ++ l) = pcs c (cur ++ a) l
  | [], l, cur, _ => by simp
  | b :: a, l, cur, h => by
    rw [List.cons_append, pcs_ne (h b (List.mem_cons_self ..)), pcs_app a l _ fun x hx => h x (List.mem_cons_of_mem _ hx)]
    simp
theorem write_in {x : Int} (h : OkN x) : inB 48 57 (writeV x 0) = true ∧ writeV x 0 ≠ [] := by
  rw [(write_nat h).1]
  exact ⟨dig_in _, dig_ne _⟩
theorem dig_byte {l : List UInt8} (h : inB 48 57 l = true) : ∀ b ∈ l, 48 ≤ b.toNat ∧ b.toNat ≤ 57 := fun b hb => by
  unfold inB at h
  have := List.all_eq_true.1 h b hb
  simp only [Bool.and_eq_true, decide_eq_true_eq] at this
  omega
theorem write_byte {x : Int} (h : OkN x) : ∀ b ∈ writeV x 0, 48 ≤ b.toNat ∧ b.toNat ≤ 57 := dig_byte (write_in h).1
theorem ne_of_nat {b c : UInt8} (h : b.toNat ≠ c.toNat) : b ≠ c := fun e => h (by rw [e])
theorem pcs_nums : ∀ (xs : List Int) (cur : List UInt8), (∀ x ∈ xs, OkN x) → pcs 32 cur (numsT xs) = cur :: xs.map fun x => writeV x 0
  | [], cur, _ => by simp [numsT, pcs]
  | x :: xs, cur, h => by
    have e : numsT (x :: xs) = 32 :: (writeV x 0 ++ numsT xs) := by unfold numsT; rw [List.flatMap_cons]; simp
    have hx := h x (List.mem_cons_self ..)
    rw [e, pcs_eq, pcs_app _ _ _ (fun b hb => ne_of_nat (by have := write_byte hx b hb; simp; omega)), List.nil_append, pcs_nums xs _ fun y hy => h y (List.mem_cons_of_mem _ hy)]
    simp
/-- A line's name: at least one letter. -/
structure Nm (name : ByteArray) : Prop where
  ne : name.data.toList ≠ []
  by_ : ∀ b ∈ name.data.toList, 97 ≤ b.toNat ∧ b.toNat ≤ 122
  sz : name.size ≤ 10
theorem nm_plan : Nm wPlan := ⟨by decide, by decide, by decide⟩
theorem nm_route : Nm wRoute := ⟨by decide, by decide, by decide⟩
theorem nm_times : Nm wTimes := ⟨by decide, by decide, by decide⟩
theorem nm_left : Nm wLeft := ⟨by decide, by decide, by decide⟩
theorem word_of {l : List UInt8} (h0 : l ≠ []) (h : ∀ b ∈ l, 33 ≤ b.toNat ∧ b.toNat ≤ 126) : wordB l = true := by
  unfold wordB inB
  simp only [Bool.and_eq_true, List.all_eq_true, decide_eq_true_eq]
  refine ⟨by simpa using h0, fun b hb => ?_⟩
  have := h b hb
  omega
theorem line_words {name : ByteArray} {xs : List Int} (hn : Nm name) (h : ∀ x ∈ xs, OkN x) : wordsE (lineB name xs) = 0 ∧ wordsP (lineB name xs) = name :: wds xs := by
  have hp : pcs 32 [] (lineB name xs) = name.data.toList :: xs.map fun x => writeV x 0 := by
    unfold lineB
    rw [pcs_app _ _ _ (fun b hb => ne_of_nat (by have := hn.by_ b hb; simp; omega)), List.nil_append, pcs_nums xs _ h]
  have hne : lineB name xs ≠ [] := by unfold lineB; intro e; exact hn.ne (List.append_eq_nil_iff.1 e).1
  have ha : (pcs 32 [] (lineB name xs)).all wordB = true := by
    rw [hp, List.all_cons, Bool.and_eq_true, List.all_eq_true]
    refine ⟨word_of hn.ne fun b hb => by have := hn.by_ b hb; omega, fun l hl => ?_⟩
    obtain ⟨x, hx, rfl⟩ := List.mem_map.1 hl
    exact word_of (write_in (h x hx)).2 fun b hb => by have := write_byte (h x hx) b hb; omega
  unfold wordsE wordsP
  rw [if_neg hne, if_neg hne, if_pos ha, if_pos ha, hp]
  refine ⟨rfl, ?_⟩
  rw [List.map_cons, strOf_data, List.map_map]
  rfl
/-! ### a number that is written is read -/
theorem read_ok {x : Int} (h : OkN x) : readV (writeV x 0) 0 = x ∧ readE (writeV x 0) 0 = 0 := by
  have hd : (Lib.decDigits x.natAbs).length ≤ 13 := by have := (write_nat h); rw [this.1] at this; exact this.2
  have := read_write x 0 0 (by omega) (by have := h.1; have := h.2; omega) hd
  simpa using this
theorem dec_head (n : Nat) (hn : 0 < n) : ∀ b t, Lib.decDigits n = b :: t → b ≠ 48 := by
  induction n using Nat.strongRecOn with
  | _ n ih =>
    intro b t e
    unfold Lib.decDigits at e
    by_cases h10 : n < 10
    · rw [dif_pos h10] at e
      have h1 := of_dig h10
      injection e with e1 e2
      rw [← e1]
      intro e3
      have h48 : (48 : UInt8).toNat = 48 := rfl
      rw [e3, h48] at h1
      omega
    · rw [dif_neg h10] at e
      have hne := dig_ne (n / 10)
      obtain ⟨b', t', e'⟩ : ∃ b' t', Lib.decDigits (n / 10) = b' :: t' := by
        cases hh : Lib.decDigits (n / 10) with
        | nil => exact absurd hh hne
        | cons b' t' => exact ⟨b', t', rfl⟩
      have := ih (n / 10) (by omega) (by omega) b' t' e'
      rw [e', List.cons_append] at e
      injection e with e1 e2
      rw [← e1]; exact this
theorem whole_fine {x : Int} (h : OkN x) : wholeBad (writeV x 0) = false := by
  have hw := write_in h
  rw [(write_nat h).1] at hw ⊢
  unfold wholeBad Lib.hasPrefix
  cases e : Lib.decDigits x.natAbs with
  | nil => exact absurd e hw.2
  | cons b t =>
    rw [e] at hw
    have hb := dig_byte hw.1 b (List.mem_cons_self ..)
    have h1 : (45 == b) = false := by
      have : ¬ 45 = b := fun e => by rw [← e] at hb; have h : (45 : UInt8).toNat = 45 := rfl; omega
      simpa using this
    by_cases h0 : x.natAbs = 0
    · rw [h0, Lib.decDigits_one (by decide)] at e
      injection e with e1 e2
      subst e1 e2
      decide
    · have h2 : (48 == b) = false := by
        have := dec_head x.natAbs (by omega) b t e
        simpa using fun e => this e.symm
      simp [List.isPrefixOf, h1, h2]
theorem whole_ok {x : Int} (h : OkN x) : wholeV (writeV x 0) = x ∧ wholeE (writeV x 0) = 0 := by
  unfold wholeV wholeE
  rw [whole_fine h]
  simpa using read_ok h
theorem time_ok {x : Int} (h : OkN x) : timeV (writeV x 0) = x ∧ timeE (writeV x 0) = 0 := by
  unfold timeV timeE
  obtain ⟨h1, h2⟩ := read_ok h
  have h0 := h.1
  rw [h1, h2, if_neg (by omega), if_neg (by omega)]
  exact ⟨rfl, rfl⟩
theorem one_ok (b : Bool) {x : Int} (h : OkN x) : oneV b (strOf (writeV x 0)) = x ∧ oneE b (strOf (writeV x 0)) = 0 := by
  unfold oneV oneE
  rw [data_strOf]
  cases b
  · simpa using whole_ok h
  · simpa using time_ok h
theorem nums_ok (b : Bool) : ∀ {xs : List Int}, (∀ x ∈ xs, OkN x) → numsV b (wds xs) = xs ∧ numsE b (wds xs) = 0
  | [], _ => ⟨rfl, rfl⟩
  | x :: xs, h => by
    obtain ⟨h1, h2⟩ := one_ok b (h x (List.mem_cons_self ..))
    obtain ⟨h3, h4⟩ := nums_ok b (xs := xs) fun y hy => h y (List.mem_cons_of_mem _ hy)
    have e : wds (x :: xs) = strOf (writeV x 0) :: wds xs := rfl
    rw [e]
    constructor
    · unfold numsV at h3 ⊢
      rw [List.map_cons, h1, h3]
    · show twoE (oneE b (strOf (writeV x 0))) (numsE b (wds xs)) = 0
      rw [h2, twoE_ok, h4]
theorem wds_len (xs : List Int) : (wds xs).length = xs.length := by unfold wds; rw [List.length_map]
/-! ### lines that are as they should be -/
/-- Line n is of this name, and of these numbers. -/
def Good (L : List ByteArray) (n : Nat) (name : ByteArray) (xs : List Int) : Prop := nextE L n name = 0 ∧ nextW L n = wds xs
theorem good_of {L : List ByteArray} {n : Nat} {name : ByteArray} {xs : List Int} (hn : Nm name) (h : ∀ x ∈ xs, OkN x) (hL : L[n]? = some (strOf (lineB name xs))) : Good L n name xs := by
  obtain ⟨hlt, e⟩ := List.getElem?_eq_some_iff.1 hL
  obtain ⟨h1, h2⟩ := line_words hn h
  unfold Good nextE nextW lineE
  rw [dif_pos hlt, dif_pos hlt, e, data_strOf, h1, h2]
  simp
structure RowOk (r t : List Int) : Prop where
  long : r.length ≤ 4096
  some_ : r ≠ []
  pair : t.length = 0 ∨ t.length = r.length
  okr : ∀ x ∈ r, OkN x
  okt : ∀ x ∈ t, OkN x
section
variable {L : List ByteArray} {n : Nat} {r t : List Int}
theorem Good.list {name : ByteArray} (h : Good L n name r) (hl : r.length ≤ 4096) : listE L n name = 0 := by
  unfold listE
  rw [h.1, twoE_ok, h.2, wds_len, if_neg (by omega)]
theorem Good.route (h : Good L n wRoute r) (hl : r.length ≤ 4096) (h0 : r ≠ []) (hr : ∀ x ∈ r, OkN x) : routeE L n = 0 ∧ numsV false (nextW L n) = r := by
  have hw : wds r ≠ [] := fun e => h0 (by have := congrArg List.length e; rw [wds_len] at this; exact List.eq_nil_of_length_eq_zero this)
  unfold routeE
  rw [h.list hl, twoE_ok, h.2, if_neg hw]
  exact ⟨(nums_ok false hr).2, (nums_ok false hr).1⟩
theorem Good.times (h : Good L n wTimes t) {k : Nat} (hl : t.length ≤ 4096) (hk : t.length = 0 ∨ t.length = k) (ht : ∀ x ∈ t, OkN x) : timesE L n k = 0 ∧ numsV true (nextW L n) = t := by
  unfold timesE
  rw [h.list hl, twoE_ok, h.2, wds_len, if_neg (by omega)]
  exact ⟨(nums_ok true ht).2, (nums_ok true ht).1⟩
theorem Good.left (h : Good L n wLeft t) (hl : t.length ≤ 4096) (ht : ∀ x ∈ t, OkN x) : leftE L n = 0 ∧ numsV false (nextW L n) = t := by
  unfold leftE
  rw [h.list hl, twoE_ok, h.2]
  exact ⟨(nums_ok false ht).2, (nums_ok false ht).1⟩
theorem Good.head {m : Nat} {c : Int} (h : Good L 0 wPlan [(m : Int), c]) (hm : m ≤ 64) (hc : OkN c) : headE L = 0 ∧ rowsN L = m ∧ costV L = c := by
  have hmo : OkN (m : Int) := ⟨by omega, by omega⟩
  have w0 : wAt L 0 0 = strOf (writeV m 0) := by unfold wAt; rw [h.2]; rfl
  have w1 : wAt L 0 1 = strOf (writeV c 0) := by unfold wAt; rw [h.2]; rfl
  obtain ⟨a1, a2⟩ := whole_ok hmo
  obtain ⟨b1, b2⟩ := time_ok hc
  unfold headE rowsN costV
  rw [w0, w1, data_strOf, data_strOf, a1, a2, b1, b2, h.1, h.2, wds_len, twoE_ok, twoE_ok, twoE_ok, if_pos (by rfl), if_neg (by omega)]
  exact ⟨rfl, rfl, rfl⟩
end
/-- The lines of rows. -/
def rowsL : List (List Int) → List (List Int) → List (List UInt8)
  | r :: rs, t :: ts => lineB wRoute r :: lineB wTimes t :: rowsL rs ts
  | _, _ => []
/-- Lines from n on that are good rows. -/
inductive GoodRows (L : List ByteArray) : Nat → List (List Int) → List (List Int) → Prop
  | nil (n : Nat) : GoodRows L n [] []
  | cons {n : Nat} {r t : List Int} {rs ts : List (List Int)} (h : RowOk r t) (h1 : Good L n wRoute r) (h2 : Good L (n + 1) wTimes t) (h3 : GoodRows L (n + 2) rs ts) : GoodRows L n (r :: rs) (t :: ts)
theorem rows_good {L : List ByteArray} : ∀ {n : Nat} {rs ts : List (List Int)}, GoodRows L n rs ts → rowsF L n rs.length = (0, 0) ∧ rowsR L n rs.length = rs ∧ rowsT L n rs.length = ts
  | n, [], _, .nil _ => ⟨rfl, rfl, rfl⟩
  | n, r :: rs, _, .cons (t := t) (ts := ts) h h1 h2 h3 => by
    obtain ⟨a1, a2⟩ := h1.route h.long h.some_ h.okr
    obtain ⟨b1, b2⟩ := h2.times (k := (nextW L n).length) (by have := h.pair; have := h.long; omega) (by rw [h1.2, wds_len]; exact h.pair) h.okt
    obtain ⟨c1, c2, c3⟩ := rows_good h3
    rw [List.length_cons, rowsF, rowsR, rowsT, c1, c2, c3, a1, a2, b1, b2]
    simp
/-- A line that is missing, or isn't as said, whatever name it should have. -/
def Bad (L : List ByteArray) (n : Nat) (er : Int) : Prop := er ≠ 0 ∧ ∀ name, nextE L n name = er
section
variable {L : List ByteArray} {n : Nat} {er : Int}
theorem Bad.list (h : Bad L n er) (name : ByteArray) : listE L n name = er := by unfold listE; rw [h.2 name, twoE_no _ h.1]
theorem Bad.route (h : Bad L n er) : routeE L n = er := by unfold routeE; rw [h.list, twoE_no _ h.1]
theorem Bad.times (h : Bad L n er) (k : Nat) : timesE L n k = er := by unfold timesE; rw [h.list, twoE_no _ h.1]
theorem Bad.left (h : Bad L n er) : leftE L n = er := by unfold leftE; rw [h.list, twoE_no _ h.1]
theorem Bad.head (h : Bad L 0 er) : headE L = er := by unfold headE; rw [h.2 wPlan, twoE_no _ h.1]
end
/-- Rows that are good up to a line that is bad. -/
inductive BadRows (L : List ByteArray) (m : Nat) : Nat → List (List Int) → List (List Int) → Prop
  | route {r t : List Int} {rs ts : List (List Int)} : BadRows L m m (r :: rs) (t :: ts)
  | times {n : Nat} {r t : List Int} {rs ts : List (List Int)} (h : RowOk r t) (h1 : Good L n wRoute r) (hm : m = n + 1) : BadRows L m n (r :: rs) (t :: ts)
  | cons {n : Nat} {r t : List Int} {rs ts : List (List Int)} (h : RowOk r t) (h1 : Good L n wRoute r) (h2 : Good L (n + 1) wTimes t) (h3 : BadRows L m (n + 2) rs ts) : BadRows L m n (r :: rs) (t :: ts)
theorem rows_bad {L : List ByteArray} {m : Nat} {er : Int} (hb : Bad L m er) : ∀ {n : Nat} {rs ts : List (List Int)}, BadRows L m n rs ts → rowsF L n rs.length = (m + 1, er)
  | _, r :: rs, _, .route => by
    rw [List.length_cons, rowsF, hb.route, if_pos hb.1]
  | n, r :: rs, _, .times h h1 hm => by
    obtain ⟨a1, a2⟩ := h1.route h.long h.some_ h.okr
    subst hm
    rw [List.length_cons, rowsF, a1, hb.times, if_neg (by simp), if_pos hb.1]
  | n, r :: rs, _, .cons (t := t) (ts := ts) h h1 h2 h3 => by
    obtain ⟨a1, a2⟩ := h1.route h.long h.some_ h.okr
    obtain ⟨b1, b2⟩ := h2.times (k := (nextW L n).length) (by have := h.pair; have := h.long; omega) (by rw [h1.2, wds_len]; exact h.pair) h.okt
    have c := rows_bad hb h3
    rw [List.length_cons, rowsF, a1, b1, c, if_neg (by simp), if_neg (by simp)]
/-! ### the lines of a plan -/
/-- A plan's lines. -/
def planL (p : PL) : List (List UInt8) := lineB wPlan [(p.routes.length : Int), p.cost] :: (rowsL p.routes p.times ++ [lineB wLeft p.left])
theorem rowsL_len : ∀ (rs ts : List (List Int)), ts.length = rs.length → (rowsL rs ts).length = 2 * rs.length
  | [], _, _ => by simp [rowsL]
  | r :: rs, [], h => by simp at h
  | r :: rs, t :: ts, h => by
    have := rowsL_len rs ts (by simpa using h)
    simp only [rowsL, List.length_cons]; omega
theorem planL_len {p : PL} (h : p.Ok) : (planL p).length = 2 + 2 * p.routes.length := by
  unfold planL
  rw [List.length_cons, List.length_append, rowsL_len _ _ h.same]; simp; omega
theorem flat_cons (c : UInt8) (l : List UInt8) (ls : List (List UInt8)) : flat c (l :: ls) = l ++ c :: flat c ls := by unfold flat; simp
theorem flat_app (c : UInt8) (a b : List (List UInt8)) : flat c (a ++ b) = flat c a ++ flat c b := by unfold flat; rw [List.flatMap_append]
theorem rowsL_snoc : ∀ (rs ts : List (List Int)) (r t : List Int), ts.length = rs.length → rowsL (rs ++ [r]) (ts ++ [t]) = rowsL rs ts ++ [lineB wRoute r, lineB wTimes t]
  | [], [], r, t, _ => rfl
  | [], _ :: _, _, _, h => by simp at h
  | _ :: _, [], _, _, h => by simp at h
  | a :: rs, b :: ts, r, t, h => by
    simp only [List.cons_append, rowsL]
    rw [rowsL_snoc rs ts r t (by simpa using h)]
theorem body_flat (rs ts : List (List Int)) (h : ts.length = rs.length) : ∀ k, k ≤ rs.length → bodyT rs ts k = flat 10 (rowsL (rs.take k) (ts.take k))
  | 0, _ => by simp [bodyT, rowsL, flat]
  | k + 1, hk => by
    have e1 : rs.take (k + 1) = rs.take k ++ [rs.getD k []] := by
      rw [← List.take_append_getElem (by omega : k < rs.length)]; simp [show k < rs.length by omega]
    have e2 : ts.take (k + 1) = ts.take k ++ [ts.getD k []] := by
      rw [← List.take_append_getElem (by omega : k < ts.length)]; simp [show k < ts.length by omega]
    rw [bodyT, body_flat rs ts h k (by omega), e1, e2, rowsL_snoc _ _ _ _ (by simp; omega), flat_app]
    congr 1
    unfold lineT lineB flat
    simp
theorem planT_flat {p : PL} (h : p.times.length = p.routes.length) : planT p = flat 10 (planL p) := by
  have e := body_flat p.routes p.times h _ (Nat.le_refl _)
  rw [List.take_length, ← h, List.take_length, h] at e
  unfold planT planL
  rw [e, flat_cons, flat_app]
  unfold lineT lineB flat
  simp
/-- No line of a text holds a newline. -/
theorem line_no {name : ByteArray} {xs : List Int} (hn : Nm name) (h : ∀ x ∈ xs, OkN x) : ∀ b ∈ lineB name xs, b ≠ 10 := by
  intro b hb
  unfold lineB at hb
  rcases List.mem_append.1 hb with hb | hb
  · exact ne_of_nat (by have := hn.by_ b hb; simp; omega)
  · unfold numsT at hb
    obtain ⟨x, hx, hb⟩ := List.mem_flatMap.1 hb
    rcases List.mem_cons.1 hb with rfl | hb
    · decide
    · exact ne_of_nat (by have := write_byte (h x hx) b hb; simp; omega)
theorem pcs_flat : ∀ (ls : List (List UInt8)), (∀ l ∈ ls, ∀ b ∈ l, b ≠ 10) → pcs 10 [] (flat 10 ls) = ls ++ [[]]
  | [], _ => rfl
  | l :: ls, h => by
    rw [flat_cons, pcs_app l _ _ (h l (List.mem_cons_self ..)), List.nil_append, pcs_eq, pcs_flat ls fun x hx => h x (List.mem_cons_of_mem _ hx)]
    rfl
theorem lines_flat {ls : List (List UInt8)} (h : ∀ l ∈ ls, ∀ b ∈ l, b ≠ 10) (hn : (flat 10 ls).length ≤ 1048576) : linesP (flat 10 ls) = ls.map strOf ∧ linesE (flat 10 ls) = 0 := by
  have h' : ¬ 1048576 < (flat 10 ls).length := by omega
  unfold linesP linesE
  rw [if_neg h', if_neg h', pcs_flat ls h]
  simp
theorem rowsL_no : ∀ (rs ts : List (List Int)), (∀ r ∈ rs, ∀ x ∈ r, OkN x) → (∀ t ∈ ts, ∀ x ∈ t, OkN x) → ∀ l ∈ rowsL rs ts, ∀ b ∈ l, b ≠ 10
  | [], _, _, _ => by simp [rowsL]
  | _ :: _, [], _, _ => by simp [rowsL]
  | r :: rs, t :: ts, h1, h2 => fun l hl => by
    simp only [rowsL, List.mem_cons] at hl
    rcases hl with rfl | rfl | hl
    · exact line_no nm_route (h1 r (List.mem_cons_self ..))
    · exact line_no nm_times (h2 t (List.mem_cons_self ..))
    · exact rowsL_no rs ts (fun x hx => h1 x (List.mem_cons_of_mem _ hx)) (fun x hx => h2 x (List.mem_cons_of_mem _ hx)) l hl
theorem PL.Ok.okn {p : PL} (h : p.Ok) : ∀ x ∈ [(p.routes.length : Int), p.cost], OkN x := fun x hx => by
  simp only [List.mem_cons, List.not_mem_nil, or_false] at hx
  rcases hx with rfl | rfl
  · exact ⟨by omega, by have := h.many; omega⟩
  · exact h.okc
theorem planL_no {p : PL} (h : p.Ok) : ∀ l ∈ planL p, ∀ b ∈ l, b ≠ 10 := fun l hl => by
  unfold planL at hl
  simp only [List.mem_cons, List.mem_append, List.not_mem_nil, or_false] at hl
  rcases hl with rfl | hl | rfl
  · exact line_no nm_plan h.okn
  · exact rowsL_no _ _ h.okr h.okt l hl
  · exact line_no nm_left h.okl
/-! ### what stands at which line -/
theorem PL.Ok.rows {p : PL} (h : p.Ok) : ∀ j, j < p.routes.length → RowOk (p.routes.getD j []) (p.times.getD j []) := fun j hj =>
  ⟨list_at (d := []) h.long hj, fun e => (h.pair j hj).1 (by rw [e]; rfl), (h.pair j hj).2, list_at (d := []) h.okr hj, list_at (d := []) h.okt (by rw [h.same]; exact hj)⟩
/-- Rows, one by one. -/
inductive RowsOk : List (List Int) → List (List Int) → Prop
  | nil : RowsOk [] []
  | cons {r t : List Int} {rs ts : List (List Int)} (h : RowOk r t) (h' : RowsOk rs ts) : RowsOk (r :: rs) (t :: ts)
theorem rowsOk_of : ∀ (rs ts : List (List Int)), ts.length = rs.length → (∀ j, j < rs.length → RowOk (rs.getD j []) (ts.getD j [])) → RowsOk rs ts
  | [], [], _, _ => .nil
  | [], _ :: _, h, _ => by simp at h
  | _ :: _, [], h, _ => by simp at h
  | r :: rs, t :: ts, h, hj => .cons (hj 0 (by simp)) (rowsOk_of rs ts (by simpa using h) fun j h' => hj (j + 1) (by simpa using h'))
theorem PL.Ok.rowsOk {p : PL} (h : p.Ok) : RowsOk p.routes p.times := rowsOk_of _ _ h.same h.rows
theorem goodRows_of {L : List ByteArray} : ∀ {rs ts : List (List Int)} {n : Nat}, RowsOk rs ts → (∀ j l, (rowsL rs ts)[j]? = some l → L[n + j]? = some (strOf l)) → GoodRows L n rs ts
  | [], _, n, .nil, _ => .nil n
  | r :: rs, _, n, .cons (t := t) (ts := ts) h h', hL => by
    refine .cons h (good_of nm_route h.okr (hL 0 _ rfl)) (good_of nm_times h.okt (hL 1 _ rfl)) (goodRows_of h' fun j l hj => ?_)
    have := hL (j + 2) l hj
    rw [show n + 2 + j = n + (j + 2) by omega]; exact this
theorem badRows_of {L : List ByteArray} {m : Nat} : ∀ {rs ts : List (List Int)} {n : Nat}, RowsOk rs ts → (∀ j l, n + j < m → (rowsL rs ts)[j]? = some l → L[n + j]? = some (strOf l)) → n ≤ m → m < n + 2 * rs.length → BadRows L m n rs ts
  | [], _, n, .nil, _, h1, h2 => by simp at h2; omega
  | r :: rs, _, n, .cons (t := t) (ts := ts) h h', hL, h1, h2 => by
    by_cases e0 : n = m
    · subst e0; exact .route
    have g1 := good_of nm_route h.okr (hL 0 _ (by omega) rfl)
    by_cases e1 : m = n + 1
    · exact .times h g1 e1
    refine .cons h g1 (good_of nm_times h.okt (hL 1 _ (by omega) rfl)) (badRows_of h' (fun j l hlt hj => ?_) (by omega) (by simp at h2; omega))
    have := hL (j + 2) l (by omega) hj
    rw [show n + 2 + j = n + (j + 2) by omega]; exact this
section
variable {p : PL} {L : List ByteArray}
theorem planL_zero (p : PL) : (planL p)[0]? = some (lineB wPlan [(p.routes.length : Int), p.cost]) := rfl
theorem planL_row (h : p.Ok) {j : Nat} {l : List UInt8} (hj : (rowsL p.routes p.times)[j]? = some l) : (planL p)[1 + j]? = some l := by
  unfold planL
  rw [Nat.add_comm, List.getElem?_cons_succ, List.getElem?_append_left (List.getElem?_eq_some_iff.1 hj).1, hj]
theorem planL_left (h : p.Ok) : (planL p)[1 + 2 * p.routes.length]? = some (lineB wLeft p.left) := by
  unfold planL
  rw [Nat.add_comm, List.getElem?_cons_succ, List.getElem?_append_right (by rw [rowsL_len _ _ h.same]; exact Nat.le_refl _), rowsL_len _ _ h.same]; simp
/-- All lines of a plan, and maybe more behind them. -/
theorem planF_all (h : p.Ok) (hL : ∀ (j : Nat) (l : List UInt8), (planL p)[j]? = some l → L[j]? = some (strOf l)) (hn : 2 + 2 * p.routes.length ≤ L.length) :
    planF L = (if L.length = 2 + 2 * p.routes.length then (0, 0) else (3 + 2 * p.routes.length, 22)) ∧ planP L = p := by
  obtain ⟨a1, a2, a3⟩ := (good_of nm_plan h.okn (hL 0 _ rfl)).head h.many h.okc
  obtain ⟨b1, b2, b3⟩ := rows_good (goodRows_of h.rowsOk fun j l hj => hL _ l (planL_row h hj))
  obtain ⟨c1, c2⟩ := (good_of nm_left h.okl (hL _ _ (planL_left h))).left h.left h.okl
  have hN : (rowsN L).toNat = p.routes.length := by rw [a2]; simp
  constructor
  · unfold planF allF tailF endE
    rw [a1, hN, b1, c1]
    simp only [ne_eq, not_true_eq_false, if_false]
    by_cases e : L.length = 2 + 2 * p.routes.length
    · rw [if_pos e, if_neg (by omega)]
    · rw [if_neg e, if_pos (by omega)]
      simp; try omega
  · unfold planP
    rw [hN, b2, b3, c2, a3]
/-- A plan's lines up to one that is bad. -/
theorem planF_bad (h : p.Ok) {m : Nat} {er : Int} (hb : Bad L m er) (hm : m < 2 + 2 * p.routes.length) (hL : ∀ (j : Nat) (l : List UInt8), j < m → (planL p)[j]? = some l → L[j]? = some (strOf l)) : planF L = (m + 1, er) := by
  by_cases h0 : m = 0
  · subst h0
    unfold planF
    rw [hb.head, if_pos hb.1]
  obtain ⟨a1, a2, a3⟩ := (good_of nm_plan h.okn (hL 0 _ (by omega) rfl)).head h.many h.okc
  have hN : (rowsN L).toNat = p.routes.length := by rw [a2]; simp
  by_cases hl : m = 1 + 2 * p.routes.length
  · obtain ⟨b1, b2, b3⟩ := rows_good (goodRows_of h.rowsOk fun j l hj => hL _ l (by have := (List.getElem?_eq_some_iff.1 hj).1; rw [rowsL_len _ _ h.same] at this; omega) (planL_row h hj))
    unfold planF allF tailF
    rw [a1, hN, b1, ← hl, hb.left]
    simp [hb.1]
  · have b1 := rows_bad hb (badRows_of (n := 1) h.rowsOk (fun j l hlt hj => hL _ l hlt (planL_row h hj)) (by omega) (by omega))
    unfold planF allF
    rw [a1, hN, b1]
    simp [hb.1]
end
end Fil
end Go.Proofs.YtkggahoadeeajaaGreatDoor
