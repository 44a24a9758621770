/- Plain facts for the document's reader of decimals, byte by byte. -/
import Derived.Test.YtmegapelibaanaaDoorDeciRead
namespace Go.Proofs.YtmegapelibaanaaDoor
namespace Deci
open Go
theorem index_no {a : List UInt8} (h : ∀ x ∈ a, x ≠ 46) : Lib.indexByte a 46 = -1 := by
  rcases index_cases a 46 with h1 | ⟨i, h1, hlt⟩
  · exact h1
  · have := (Lib.indexByte_some h1).1
    exact absurd rfl (h 46 (List.mem_of_getElem? this))
theorem index_at {a b : List UInt8} (h : ∀ x ∈ a, x ≠ 46) : Lib.indexByte (a ++ 46 :: b) 46 = (a.length : Int) := by
  induction a with
  | nil => simp [Lib.indexByte]
  | cons x a ih =>
    have hx : (x == 46) = false := by simpa using h x (by simp)
    have := ih (fun y hy => h y (by simp [hy]))
    unfold Lib.indexByte
    simp only [List.cons_append, hx, Bool.false_eq_true, if_false]
    rw [this]
    have h2 : ((a.length : Int) == -1) = false := by simp
    rw [h2]; simp
theorem cut_no {a : List UInt8} (h : ∀ x ∈ a, x ≠ 46) : Lib.cut a [46] = (a, [], false) := by
  unfold Lib.cut
  rw [index_one, index_no h]; simp
theorem cut_dot {a b : List UInt8} (h : ∀ x ∈ a, x ≠ 46) : Lib.cut (a ++ 46 :: b) [46] = (a, b, true) := by
  unfold Lib.cut
  rw [index_one, index_at h, if_pos (by omega)]
  simp
theorem dig_no_dot {a : List UInt8} (h : inB 48 57 a = true) : ∀ x ∈ a, x ≠ 46 := by
  intro x hx e
  unfold inB at h
  rw [List.all_eq_true] at h
  have := h x hx
  subst e
  revert this; decide
theorem inB_cons_bad {lo hi : Int} {c : UInt8} (a r : List UInt8) (hc : (c.toNat : Int) < lo ∨ hi < (c.toNat : Int)) : inB lo hi (a ++ c :: r) = false := by
  rw [inB_append]
  have : inB lo hi (c :: r) = false := by
    unfold inB
    simp only [List.all_cons, Bool.and_eq_false_iff, decide_eq_false_iff_not]
    left; omega
  rw [this]; simp
/-- What stands ahead of the first point where a byte ahead of it is no digit. -/
theorem cut_bad (a r : List UInt8) (c : UInt8) (ha : ∀ x ∈ a, x ≠ 46) (hc : c ≠ 46) : ∃ q, (Lib.cut (a ++ c :: r) [46]).1 = a ++ c :: q := by
  rcases index_cases r 46 with h1 | ⟨i, h1, hlt⟩
  · have h : ∀ x ∈ r, x ≠ 46 := by
      intro x hx e
      obtain ⟨k, hk, he⟩ := List.getElem_of_mem hx
      exact Lib.indexByte_none h1 k (by rw [List.getElem?_eq_getElem hk, he, e])
    rw [cut_no (a := a ++ c :: r) (by
      intro x hx
      rcases List.mem_append.1 hx with h1 | h1
      · exact ha x h1
      · rcases List.mem_cons.1 h1 with rfl | h1
        · exact hc
        · exact h x h1)]
    exact ⟨r, rfl⟩
  · obtain ⟨h2, h3⟩ := Lib.indexByte_some h1
    have hr : r = r.take i ++ 46 :: r.drop (i + 1) := by
      obtain ⟨hk, he⟩ := List.getElem?_eq_some_iff.1 h2
      rw [← he]
      rw [← List.drop_eq_getElem_cons hk]
      exact (List.take_append_drop i r).symm
    have hn : ∀ x ∈ r.take i, x ≠ 46 := by
      intro x hx e
      obtain ⟨k, hk, he⟩ := List.getElem_of_mem hx
      have hki : k < i := by simp at hk; omega
      refine h3 k hki ?_
      rw [List.getElem_take] at he
      rw [List.getElem?_eq_getElem (by simp at hk; omega), he, e]
    have e2 : a ++ c :: r = (a ++ c :: r.take i) ++ 46 :: r.drop (i + 1) := by
      rw [List.append_assoc, List.cons_append, ← hr]
    rw [e2, cut_dot (a := a ++ c :: r.take i) (by
      intro x hx
      rcases List.mem_append.1 hx with h1 | h1
      · exact ha x h1
      · rcases List.mem_cons.1 h1 with rfl | h1
        · exact hc
        · exact hn x h1)]
    exact ⟨_, rfl⟩
/-- WHERE THE READER STANDS: behind the digits a, the point (if dot), the digits b. -/
structure RS (L0 l : List UInt8) (k : Nat) (a b : List UInt8) (dot : Bool) : Prop where
  pre : l.take k = L0 ++ (if dot then a ++ 46 :: b else a)
  da : inB 48 57 a = true
  db : inB 48 57 b = true
  nb : dot = false → b = []
/-- The number so far, and whether it is too great. -/
def NB (n : Int) (big : Bool) (v : Nat) : Prop := 0 ≤ n ∧ n ≤ 2000000000000000 ∧ ((big = false ∧ n = v) ∨ (big = true ∧ 2000000000000000 < v))
theorem NB.low {n : Int} {big : Bool} {v d : Nat} (h : NB n big v) (hd : 10 * n + d ≤ 2000000000000000) : NB (10 * n + d) big (10 * v + d) := by
  obtain ⟨h1, h2, h3⟩ := h
  refine ⟨by omega, hd, ?_⟩
  rcases h3 with ⟨h3, h4⟩ | ⟨h3, h4⟩
  · exact .inl ⟨h3, by omega⟩
  · exact .inr ⟨h3, by omega⟩
theorem NB.high {n : Int} {big : Bool} {v d : Nat} (h : NB n big v) (hd : 2000000000000000 < 10 * n + d) : NB 2000000000000000 true (10 * v + d) := by
  obtain ⟨h1, h2, h3⟩ := h
  refine ⟨by omega, by omega, .inr ⟨rfl, ?_⟩⟩
  rcases h3 with ⟨h3, h4⟩ | ⟨h3, h4⟩ <;> omega
theorem natV_app (a b : List UInt8) (c : UInt8) : natV (a ++ (b ++ [c])) = 10 * natV (a ++ b) + (c.toNat - 48) := by rw [← List.append_assoc, natV_snoc]
theorem inB_snoc_yes {a : List UInt8} {c : UInt8} (h : inB 48 57 a = true) (h1 : ¬ (c.toNat : Int) < 48) (h2 : ¬ 57 < (c.toNat : Int)) : inB 48 57 (a ++ [c]) = true := by
  rw [inB_snoc, h]; simp; omega
/-- One digit more. -/
theorem RS.digit {L0 l : List UInt8} {k : Nat} {a b : List UInt8} {dot : Bool} {c : UInt8} (h : RS L0 l k a b dot) (hc : l.take (k + 1) = l.take k ++ [c]) (h1 : ¬ (c.toNat : Int) < 48) (h2 : ¬ 57 < (c.toNat : Int)) :
    if dot then RS L0 l (k + 1) a (b ++ [c]) true else RS L0 l (k + 1) (a ++ [c]) [] false := by
  cases dot with
  | true =>
    simp only [if_true]
    exact ⟨by rw [hc, h.pre]; simp, h.da, inB_snoc_yes h.db h1 h2, fun e => by cases e⟩
  | false =>
    simp only [Bool.false_eq_true, if_false]
    exact ⟨by rw [hc, h.pre]; simp, inB_snoc_yes h.da h1 h2, rfl, fun _ => rfl⟩
/-- The point. -/
theorem RS.point {L0 l : List UInt8} {k : Nat} {a b : List UInt8} {c : UInt8} (h : RS L0 l k a b false) (hc : l.take (k + 1) = l.take k ++ [c]) (h1 : c = 46) : RS L0 l (k + 1) a [] true :=
  ⟨by rw [hc, h.pre, h1]; simp, h.da, rfl, fun e => by cases e⟩
/-- A byte that is none of both: no decimal. -/
theorem RS.bad {L0 l : List UInt8} {k : Nat} {a b : List UInt8} {dot : Bool} {c : UInt8} (h : RS L0 l k a b dot) (hr : l = L0 ++ restOf l) (hc : l.take (k + 1) = l.take k ++ [c])
    (h1 : (c.toNat : Int) < 48 ∨ 57 < (c.toNat : Int)) (h2 : dot = false → c ≠ 46) (sc : Int) : formB l sc = false := by
  have e1 : l = l.take k ++ c :: l.drop (k + 1) := by
    have := List.take_append_drop (k + 1) l
    rw [hc, List.append_assoc] at this
    exact this.symm
  rw [h.pre, List.append_assoc] at e1
  have e2 : restOf l = (if dot then a ++ 46 :: b else a) ++ c :: l.drop (k + 1) := List.append_cancel_left (hr.symm.trans e1)
  cases dot with
  | false =>
    simp only [Bool.false_eq_true, if_false] at e2
    obtain ⟨q, hq⟩ := cut_bad a (l.drop (k + 1)) c (dig_no_dot h.da) (h2 rfl)
    have e3 : (cutOf l).1 = a ++ c :: q := by unfold cutOf; rw [e2]; exact hq
    unfold formB digB
    rw [e3, inB_cons_bad a q h1]; simp
  | true =>
    simp only [if_true] at e2
    have e3 : cutOf l = (a, b ++ c :: l.drop (k + 1), true) := by
      unfold cutOf; rw [e2, List.append_assoc, List.cons_append]; exact cut_dot (dig_no_dot h.da)
    unfold formB
    rw [e3]
    unfold digB
    simp only [Bool.not_true, Bool.false_or]
    rw [inB_cons_bad b _ h1]; simp
/-- WHAT THE READER HAS FOUND AT THE END. -/
theorem RS.fin {L0 l : List UInt8} {k : Nat} {a b : List UInt8} {dot : Bool} (h : RS L0 l k a b dot) (hr : l = L0 ++ restOf l) (hk : l.length ≤ k) : cutOf l = (a, b, dot) := by
  have e1 := h.pre
  rw [List.take_of_length_le hk] at e1
  have e2 : restOf l = if dot then a ++ 46 :: b else a := List.append_cancel_left (hr.symm.trans e1)
  unfold cutOf
  rw [e2]
  cases dot with
  | false => simp only [Bool.false_eq_true, if_false]; rw [cut_no (dig_no_dot h.da), h.nb rfl]
  | true => simp only [if_true]; exact cut_dot (dig_no_dot h.da)
theorem RS.form {L0 l : List UInt8} {k : Nat} {a b : List UInt8} {dot : Bool} (h : RS L0 l k a b dot) (hr : l = L0 ++ restOf l) (hk : l.length ≤ k) (sc : Int) :
    formB l sc = (decide (0 < a.length) && (decide ((a.length : Int) ≤ 13) && (!dot || (decide (0 < b.length) && decide ((b.length : Int) ≤ sc))))) := by
  have := h.fin hr hk
  unfold formB digB
  rw [this]
  simp only [h.da, h.db, Bool.and_true, Bool.and_assoc]
/-- The number behind so many noughts more. -/
theorem NB.nought {n : Int} {big : Bool} {v e : Nat} (h : NB n big (v * 10 ^ e)) : (10 * n ≤ 2000000000000000 → NB (10 * n) big (v * 10 ^ (e + 1))) ∧ (2000000000000000 < 10 * n → NB 2000000000000000 true (v * 10 ^ (e + 1))) := by
  have he : v * 10 ^ (e + 1) = 10 * (v * 10 ^ e) + 0 := by rw [Nat.pow_succ, Nat.add_zero, ← Nat.mul_assoc, Nat.mul_comm 10]
  rw [he]
  refine ⟨fun h1 => ?_, fun h1 => ?_⟩
  · have := h.low (d := 0) (by omega)
    simpa using this
  · exact h.high (d := 0) (by omega)
theorem NB.fin {n : Int} {big : Bool} {v : Nat} (h : NB n big v) : (v ≤ 1099511627776 → big = false ∧ n = v) ∧ (1099511627776 < v → big = true ∨ 1099511627776 < n) := by
  obtain ⟨h1, h2, h3⟩ := h
  refine ⟨fun h4 => ?_, fun h4 => ?_⟩
  · rcases h3 with ⟨h3, h5⟩ | ⟨h3, h5⟩
    · exact ⟨h3, h5⟩
    · omega
  · rcases h3 with ⟨h3, h5⟩ | ⟨h3, h5⟩
    · exact .inr (by omega)
    · exact .inl h3
end Deci
end Go.Proofs.YtmegapelibaanaaDoor
