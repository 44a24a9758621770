/- Plain facts: what is written of a number, read again, is it; with another scale; and it is the shortest. -/
import Derived.Test.YtmegapelibaanaaDoorDeciRefPlain
import Derived.Test.YtmegapelibaanaaDoorDeciWrite
namespace Go.Proofs.YtmegapelibaanaaDoor
namespace Deci
open Go
/-! ## digits and their number -/
theorem natV_rep (j : Nat) (l : List UInt8) : natV (l ++ List.replicate j 48) = natV l * 10 ^ j := by
  induction j with
  | zero => simp
  | succ j ih =>
    have h48 : (48 : UInt8).toNat - 48 = 0 := rfl
    rw [List.replicate_succ', ← List.append_assoc, natV_snoc, ih, h48, Nat.add_zero, Nat.pow_succ, Nat.mul_left_comm, Nat.mul_comm 10]
theorem natV_zero (j : Nat) (l : List UInt8) : natV (List.replicate j 48 ++ l) = natV l := by
  induction j with
  | zero => simp
  | succ j ih =>
    unfold natV at ih ⊢
    rw [List.replicate_succ, List.cons_append, List.foldl_cons]
    exact ih
theorem natV_dec (u : Nat) : natV (Lib.decDigits u) = u := by
  induction u using Nat.strongRecOn with
  | _ u ih =>
    unfold Lib.decDigits
    by_cases h10 : u < 10
    · rw [dif_pos h10]
      have := of_dig h10
      unfold natV; simp only [List.foldl_cons, List.foldl_nil]; rw [this]; omega
    · rw [dif_neg h10, natV_snoc, ih (u / 10) (by omega), of_dig (by omega)]; omega
theorem padL_val (k u : Nat) : natV (padL k (Lib.decDigits u)) = u := by unfold padL; rw [natV_zero, natV_dec]
theorem inB_rep (j : Nat) : inB 48 57 (List.replicate j 48) = true := by
  unfold inB; rw [List.all_eq_true]; intro x hx; rw [List.eq_of_mem_replicate hx]; decide
theorem padL_in (k u : Nat) : inB 48 57 (padL k (Lib.decDigits u)) = true := by unfold padL; rw [inB_append, inB_rep, dig_in]; rfl
theorem inB_take {lo hi : Int} {l : List UInt8} (h : inB lo hi l = true) (n : Nat) : inB lo hi (l.take n) = true ∧ inB lo hi (l.drop n) = true := by
  have := inB_append lo hi (l.take n) (l.drop n)
  rw [List.take_append_drop, h] at this
  simpa using this.symm
/-- Digits of one length and one number are the same. -/
theorem dig_unique : ∀ (n : Nat) (a b : List UInt8), a.length = n → b.length = n → inB 48 57 a = true → inB 48 57 b = true → natV a = natV b → a = b
  | 0, a, b, ha, hb, _, _, _ => by rw [List.eq_nil_of_length_eq_zero ha, List.eq_nil_of_length_eq_zero hb]
  | n + 1, a, b, ha, hb, ia, ib, hv => by
    rcases snoc_cases a with rfl | ⟨a', x, rfl⟩
    · simp at ha
    rcases snoc_cases b with rfl | ⟨b', y, rfl⟩
    · simp at hb
    rw [inB_snoc] at ia ib
    simp only [Bool.and_eq_true, decide_eq_true_eq] at ia ib
    rw [natV_snoc, natV_snoc] at hv
    have h1 := dig_unique n a' b' (by simpa using ha) (by simpa using hb) ia.1 ib.1 (by omega)
    have h2 : x = y := UInt8.toNat_inj.1 (by subst h1; omega)
    rw [h1, h2]
/-- A row that ends with noughts cut off. -/
theorem trim_rep (l : List UInt8) : ∀ j, Lib.trimRightB (l ++ List.replicate j 48) 48 = Lib.trimRightB l 48
  | 0 => by simp
  | j + 1 => by
    have h : Lib.trimRightB ((l ++ List.replicate j 48) ++ [48]) 48 = Lib.trimRightB (l ++ List.replicate j 48) 48 := by
      unfold Lib.trimRightB; simp
    rw [List.replicate_succ', ← List.append_assoc, h, trim_rep l j]
theorem trim_split (l : List UInt8) : ∃ j, l = Lib.trimRightB l 48 ++ List.replicate j 48 ∧ (Lib.trimRightB l 48).length + j = l.length := by
  have key : ∀ n (l : List UInt8), l.length = n → ∃ j, l = Lib.trimRightB l 48 ++ List.replicate j 48 := by
    intro n
    induction n with
    | zero => intro l hl; rw [List.eq_nil_of_length_eq_zero hl]; exact ⟨0, rfl⟩
    | succ n ih =>
      intro l hl
      rcases snoc_cases l with rfl | ⟨a, x, rfl⟩
      · simp at hl
      by_cases hx : x = 48
      · subst hx
        obtain ⟨j, hj⟩ := ih a (by simpa using hl)
        have ht : Lib.trimRightB (a ++ [48]) 48 = Lib.trimRightB a 48 := trim_rep a 1
        refine ⟨j + 1, ?_⟩
        rw [ht, List.replicate_succ', ← List.append_assoc, ← hj]
      · refine ⟨0, ?_⟩
        have : (x == 48) = false := by simpa using hx
        unfold Lib.trimRightB; simp [this]
  obtain ⟨j, hj⟩ := key l.length l rfl
  refine ⟨j, hj, ?_⟩
  have := congrArg List.length hj
  simp at this; omega
/-! ## what is written -/
theorem scV_in {k : Nat} (h : k ≤ 6) : (scV (k : Int)).toNat = k := by unfold scV; rw [heldV_in (by omega) (by omega)]; simp
/-- The parts of what is written of n with scale k. -/
structure Parts (n : Int) (k : Nat) (H P : List UInt8) : Prop where
  eH : headV n k = H
  eP : partV n k = P
  inH : inB 48 57 H = true
  inP : inB 48 57 P = true
  hlen : H.length + k = max (k + 1) (Lib.decDigits n.natAbs).length
  plen : P.length ≤ k
  val : natV (H ++ P) * 10 ^ (k - P.length) = n.natAbs
theorem parts (n : Int) (k : Nat) (hk : k ≤ 6) : Parts n k (headV n k) (partV n k) := by
  have hs := scV_in hk
  obtain ⟨D, hD⟩ : ∃ D, D = padL k (Lib.decDigits n.natAbs) := ⟨_, rfl⟩
  have hl : D.length = max (k + 1) (Lib.decDigits n.natAbs).length := by rw [hD]; exact padL_length _ _
  have hv : natV D = n.natAbs := by rw [hD]; exact padL_val _ _
  have hi : inB 48 57 D = true := by rw [hD]; exact padL_in _ _
  have e1 : headV n k = D.take (D.length - k) := by unfold headV; rw [hs, hD]
  have e2 : partV n k = Lib.trimRightB (D.drop (D.length - k)) 48 := by unfold partV; rw [hs, hD]
  obtain ⟨j, hj, hjl⟩ := trim_split (D.drop (D.length - k))
  have hdl : (D.drop (D.length - k)).length = k := by rw [List.length_drop]; omega
  obtain ⟨i1, i2⟩ := inB_take hi (D.length - k)
  refine ⟨rfl, rfl, by rw [e1]; exact i1, ?_, ?_, ?_, ?_⟩
  · rw [e2]
    have := inB_append 48 57 (Lib.trimRightB (D.drop (D.length - k)) 48) (List.replicate j 48)
    rw [← hj, i2, inB_rep] at this
    simpa using this.symm
  · rw [e1, List.length_take]; omega
  · rw [e2]; omega
  · have hj2 : k - (partV n k).length = j := by rw [e2]; omega
    rw [hj2, ← natV_rep, List.append_assoc, e1, e2, ← hj, List.take_append_drop, hv]
theorem Parts.hpos {n : Int} {k : Nat} {H P : List UInt8} (h : Parts n k H P) : 0 < H.length := by have := h.hlen; omega
theorem write_eq (n : Int) (k : Nat) : writeV n k = (if n < 0 then [45] else []) ++ (headV n k ++ (if partV n k = [] then [] else 46 :: partV n k)) := rfl
theorem rest_write (n : Int) (k : Nat) (hk : k ≤ 6) : restOf (writeV n k) = headV n k ++ (if partV n k = [] then [] else 46 :: partV n k) ∧ minusOf (writeV n k) = decide (n < 0) := by
  have hp := parts n k hk
  rw [write_eq]
  by_cases hn : n < 0
  · rw [if_pos hn]
    have hpre : Lib.hasPrefix ([45] ++ (headV n k ++ (if partV n k = [] then [] else 46 :: partV n k))) [45] = true := by unfold Lib.hasPrefix; simp [List.isPrefixOf]
    unfold restOf minusOf Lib.trimPrefix
    rw [hpre]
    exact ⟨by simp, by simp [hn]⟩
  · rw [if_neg hn, List.nil_append]
    have hpre : Lib.hasPrefix (headV n k ++ (if partV n k = [] then [] else 46 :: partV n k)) [45] = false := by
      cases hH : headV n k with
      | nil => have := hp.hpos; rw [hH] at this; simp at this
      | cons b t =>
        have hi := hp.inH
        rw [hH] at hi
        unfold inB at hi
        simp only [List.all_cons, Bool.and_eq_true, decide_eq_true_eq] at hi
        have hb : (45 == b) = false := by
          have : ¬ 45 = b := by intro e; rw [← e] at hi; have := hi.1.1; revert this; decide
          simpa using this
        unfold Lib.hasPrefix
        simp [List.isPrefixOf, hb]
    unfold restOf minusOf Lib.trimPrefix
    rw [hpre]
    exact ⟨by simp, by simp [hn]⟩
theorem cut_write (n : Int) (k : Nat) (hk : k ≤ 6) : cutOf (writeV n k) = (headV n k, partV n k, !(partV n k).isEmpty) := by
  have hp := parts n k hk
  unfold cutOf
  rw [(rest_write n k hk).1]
  by_cases hP : partV n k = []
  · rw [if_pos hP, List.append_nil, cut_no (dig_no_dot hp.inH), hP]; rfl
  · rw [if_neg hP, cut_dot (dig_no_dot hp.inH)]
    cases h : partV n k with
    | nil => exact absurd h hP
    | cons b t => rfl
/-- WHAT IS WRITTEN WITH A SCALE, READ WITH ANOTHER ONE THAT IS NOT LESS. -/
theorem read_write (n : Int) (k e : Nat) (hk : k + e ≤ 6) (hb : n.natAbs * 10 ^ e ≤ 1099511627776) (hd : (Lib.decDigits n.natAbs).length ≤ 13) :
    readV (writeV n k) ((k + e : Nat) : Int) = n * 10 ^ e ∧ readE (writeV n k) ((k + e : Nat) : Int) = 0 := by
  have hk6 : k ≤ 6 := by omega
  have hp := parts n k hk6
  have hc := cut_write n k hk6
  have hf : formB (writeV n k) ((k + e : Nat) : Int) = true := by
    have h1 := hp.hpos
    have h2 := hp.hlen
    have h3 := hp.plen
    unfold formB digB
    rw [hc]
    simp only [hp.inH, hp.inP, Bool.and_true]
    cases hP : partV n k with
    | nil => simp; omega
    | cons b t =>
      rw [hP] at h3
      simp only [List.length_cons] at h3
      simp; omega
  have hN : readN (writeV n k) ((k + e : Nat) : Int) = n.natAbs * 10 ^ e := by
    have h3 := hp.plen
    unfold readN
    rw [hc]
    have e1 : (((k + e : Nat) : Int) - ((partV n k).length : Int)).toNat = (k - (partV n k).length) + e := by omega
    simp only
    rw [e1, Nat.pow_add, ← Nat.mul_assoc, hp.val]
  have hm := (rest_write n k hk6).2
  have hsc : ¬ (((k + e : Nat) : Int) < 0 ∨ 6 < ((k + e : Nat) : Int)) := by omega
  have hf' : ¬ formB (writeV n k) ((k + e : Nat) : Int) = false := by rw [hf]; simp
  have hN' : ¬ 1099511627776 < readN (writeV n k) ((k + e : Nat) : Int) := by rw [hN]; omega
  unfold readV readE
  rw [if_neg hsc, if_neg hf', if_neg hN', if_neg hsc, if_neg hf', if_neg hN', hm, hN]
  refine ⟨?_, rfl⟩
  by_cases hn : n < 0
  · rw [decide_eq_true hn, if_pos rfl]
    rw [Int.natCast_mul, ← Int.neg_mul]
    have : -((n.natAbs : Nat) : Int) = n := by omega
    rw [this]; simp
  · rw [decide_eq_false hn, if_neg (by simp)]
    rw [Int.natCast_mul]
    have : ((n.natAbs : Nat) : Int) = n := by omega
    rw [this]; simp
/-- Ten times as much, with a scale of one more, is written the same. -/
theorem dec_ten (v : Nat) (h : 0 < v) : Lib.decDigits (10 * v) = Lib.decDigits v ++ [48] := by
  rw [Lib.decDigits, dif_neg (by omega)]
  have h1 : 10 * v / 10 = v := by omega
  have h2 : 10 * v % 10 = 0 := by omega
  rw [h1, h2]; rfl
theorem pad_ten (k v : Nat) : padL (k + 1) (Lib.decDigits (10 * v)) = padL k (Lib.decDigits v) ++ [48] := by
  by_cases h : 0 < v
  · rw [dec_ten v h]
    unfold padL
    rw [← List.append_assoc]
    congr 3
    simp
  · obtain rfl : v = 0 := by omega
    have h0 : Lib.decDigits 0 = [48] := by rw [Lib.decDigits_one (by decide)]; rfl
    rw [Nat.mul_zero, h0]
    unfold padL
    simp only [List.length_cons, List.length_nil]
    have : k + 1 + 1 - (0 + 1) = (k + 1 - (0 + 1)) + 1 := by omega
    rw [this, List.replicate_succ']
theorem write_ten (n : Int) (k : Nat) (hk : k + 1 ≤ 6) : writeV (10 * n) ((k + 1 : Nat) : Int) = writeV n k := by
  have hs := scV_in (k := k) (by omega)
  have hs1 := scV_in hk
  have ha : (10 * n).natAbs = 10 * n.natAbs := by rw [Int.natAbs_mul]; rfl
  have hp := pad_ten k n.natAbs
  have hl := padL_length k (Lib.decDigits n.natAbs)
  obtain ⟨D, hD⟩ : ∃ D, D = padL k (Lib.decDigits n.natAbs) := ⟨_, rfl⟩
  rw [← hD] at hp hl
  have eH : headV (10 * n) ((k + 1 : Nat) : Int) = headV n k := by
    unfold headV
    rw [hs, hs1, ha, hp, ← hD]
    have : (D ++ [48]).length - (k + 1) = D.length - k := by simp
    rw [this, List.take_append_of_le_length (by omega)]
  have eP : partV (10 * n) ((k + 1 : Nat) : Int) = partV n k := by
    unfold partV
    rw [hs, hs1, ha, hp, ← hD]
    have : (D ++ [48]).length - (k + 1) = D.length - k := by simp
    rw [this, List.drop_append_of_le_length (by omega)]
    exact trim_rep _ 1
  rw [write_eq, write_eq, eH, eP]
  by_cases hn : n < 0
  · rw [if_pos hn, if_pos (by omega)]
  · rw [if_neg hn, if_neg (by omega)]
theorem write_tens (n : Int) : ∀ k : Nat, k ≤ 6 → writeV (n * 10 ^ k) (k : Int) = writeV n 0
  | 0, _ => by simp
  | k + 1, h => by
    have : n * 10 ^ (k + 1) = 10 * (n * 10 ^ k) := by rw [Int.pow_succ, ← Int.mul_assoc, Int.mul_comm]
    rw [this, write_ten _ k h, write_tens n k (by omega)]
end Deci
end Go.Proofs.YtmegapelibaanaaDoor
