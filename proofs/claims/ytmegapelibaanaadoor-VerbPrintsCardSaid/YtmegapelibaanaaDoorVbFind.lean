/- Package verb's numbers and what is beyond their bounds; slices.ContainsFunc of ints; over the translated program. -/
import Derived.Test.YtmegapelibaanaaDoorVbKind
import Derived.Test.YtmegapelibaanaaDoorFilParts
import Derived.Laws.AppendOwn
import Derived.Laws.AppendOwnNone
namespace Go.Proofs.YtmegapelibaanaaDoor
namespace Vb
open Go Go.RowKit Deci
set_option linter.unusedVariables false
theorem isXs_own {w : World} {base : Nat} {v : Value} {xs : List Int} (h : w.ownsRow base 3 1 v xs.length (xs.map (Value.int .i64))) : OwnXs base w v xs := by
  rcases h.2 with ⟨rfl, h0⟩ | ⟨g, cap, cur, rfl, hb, hg, hc, _, _, ht⟩
  · rw [List.eq_nil_of_length_eq_zero h0]; exact OwnXs.nil _ _
  · refine ⟨_, cap, rfl, hc, by simp, .inr ⟨g, 0, cur, rfl, hb, hg, fun j hj => ?_⟩⟩
    have e : (cur.toList.take (xs.length * 1))[j]? = (xs.map (Value.int .i64))[j]? := by rw [ht]
    rw [Nat.mul_one, List.getElem?_take_of_lt hj, List.getElem?_map, List.getElem?_eq_getElem hj] at e
    rw [Nat.zero_add]; simpa using e
/-- AN APPEND OF A SLICE THAT HOLDS NUMBERS, nil or not. -/
theorem wpList_append_ints {P : Program} {w : World} {ops : Array Oper} {rest : List Oper} {o : Oper} {a : Act} {Q : Exit → Act → World → Prop} (hw : Region.wanted o (yielded ops a.tmps) = true) (s x : Operand) (t : TypeId)
    (ho : o.op = .call { callee := .builtin .append, args := #[s, x], argTypes := #[t, t] })
    (base : Nat) (e : TypeId) (i : TypeInfo) (z : Value) (bytes : Nat) (ht : P.underlying t = some (.slice e)) (hi : P.info? e = some i) (hz : i.zero = some z)
    (hsize : i.size = 1) (hby : i.bytes = bytes) (hzs : z.cells.size = 1)
    (v : Value) (n : Nat) (xs : List Value) (hs : a.eval s = v) (hown : w.ownsRow base e 1 v n xs)
    (y : Value) (ps : List Int) (hx : a.eval x = y) (hy : IsXs w y ps)
    (h63 : n + ps.length ≤ maxLen) (hbytes : (n + ps.length) * bytes ≤ 140737488355328) (hbase : base ≤ w.heap.size)
    (h : ∀ v' w', w'.ownsRow base e 1 v' (n + ps.length) (xs ++ ps.map (Value.int .i64)) → w.grownBy w' v.ownBlock → wpList P ops Q rest (a.put o.dst v') w') : wpList P ops Q (o :: rest) a w := by
  refine wpList_step fun K hK => ?_
  rw [if_pos hw]
  obtain ⟨ad, cap, rfl, hc, h0, hat⟩ := hy
  cases ad with
  | none =>
    obtain rfl : cap = 0 := h0 rfl
    have hps : ps = [] := List.eq_nil_of_length_eq_zero (by omega)
    subst hps
    have hrun := run_append_owned_none (P := P) (w := w) base t o.type e i 1 ht hi v n xs hown
    unfold Oper.wp
    simp [execOp, ho, resolve, invoke, builtin, hs, hx, hrun, Result.andThen]
    exact hK _ _ (h v w (by simpa using hown) (World.grownBy.refl w _))
  | some ad =>
    exact wp_append_own w s x t ho base e i z 1 bytes ht hi hz hsize hby hzs (by decide) v n xs hs hown ad ps.length cap (ps.map (Value.int .i64)) hx (by simp)
      (fun j u hu => by
        rw [List.getElem?_map] at hu
        cases hj : ps[j]? with
        | none => rw [hj] at hu; cases hu
        | some q =>
          rw [hj] at hu
          obtain ⟨hjl, hje⟩ := List.getElem?_eq_some_iff.1 hj
          obtain ⟨g, off, e2, hg, hcell⟩ := hat.resolve_left (by intro e; rw [e] at hjl; simp at hjl)
          obtain rfl : ad = ⟨g, off, none⟩ := by simpa using e2
          have := hcell j hjl
          rw [hje] at this
          cases hu
          rw [Go.WideShapes.add_plain]; exact this)
      (by intro u hu; obtain ⟨q, _, rfl⟩ := List.mem_map.1 hu; rfl) h63 hbytes hbase (fun v' w' h2 h3 _ => hK _ _ (h v' w' h2 h3))
theorem beyond_any (L : Nat) (m x : Int) (w : World) (hc : w.cell? ⟨L, 0, none⟩ = some (.int .i64 m)) :
    Calls Tryd.prog 23 #[.int .i64 x, .pointer (some ⟨L, 0, none⟩)] w fun e w' => e = .returned (.bool (beyB m x)) ∧ Below w.heap.size w w' := by
  by_cases h1 : x < m
  · have hr : beyB m x = true := by unfold beyB; simp [h1]
    rw [hr]
    go_enter Tryd.func23, Tryd.ntmps23
    go_wp2
    go_ret
    exact ⟨rfl, Below.refl _ _⟩
  · by_cases h2 : 1099511627776 < x
    · have hr : beyB m x = true := by unfold beyB; simp [h2]
      rw [hr]
      go_enter Tryd.func23, Tryd.ntmps23
      go_wp2
      go_ret
      exact ⟨rfl, Below.refl _ _⟩
    · have hr : beyB m x = false := by unfold beyB; simp [h1, h2]
      rw [hr]
      go_enter Tryd.func23, Tryd.ntmps23
      go_wp2
      go_ret
      exact ⟨rfl, Below.refl _ _⟩
theorem any_take (p : Int → Bool) (xs : List Int) (k : Nat) (hk : k < xs.length) : (xs.take (k + 1)).any p = ((xs.take k).any p || p xs[k]) := by
  rw [List.take_succ_eq_append_getElem hk, List.any_append]; simp
set_option maxHeartbeats 1000000 in
theorem index_xs (v : Value) (xs : List Int) (p : Int → Bool) (fn : Nat) (lb : Array Value) (w : World) (eg : ∀ args w, (callFunc fn args).run Tryd.prog w = .ok (.enter fn args) w) (hx : IsXs w v xs) (hm : xs.length ≤ 100000000)
    (hp : ∀ x ∈ xs, ∀ W, Below w.heap.size w W → Calls Tryd.prog fn (#[.int .i64 x] ++ lb) W fun e w' => e = .returned (.bool (p x)) ∧ Below W.heap.size W w') :
    Calls Tryd.prog 39 #[v, .func (.func fn) #[] lb] w fun e w' => ∃ i : Int, e = .returned (.int .i64 i) ∧ decide (0 ≤ i) = xs.any p ∧ Below w.heap.size w w' := by
  obtain ⟨a, c, rfl, hcap, -, hat⟩ := hx
  obtain ⟨m, hmm⟩ : ∃ m, m = xs.length := ⟨_, rfl⟩
  rw [← hmm] at hm hcap ⊢
  have HAT := Lib.hid hat; clear hat
  have HP := Lib.hid hp; clear hp
  have EG := Lib.hid eg; clear eg
  have HM := Lib.hid hmm; clear hmm
  go_enter Tryd.func39, Tryd.ntmps39
  go_wp2_with fail
  go_loopg [5, 8] m (fun gg _ s8 wr => ∃ k : Nat, k ≤ m ∧ m - k ≤ gg ∧ s8 = .int .i64 k ∧ Hid (Below w.heap.size w wr) ∧ Hid ((xs.take k).any p = false))
  case atStart => exact ⟨0, Nat.zero_le _, by omega, rfl, Lib.hid (Below.refl _ _), Lib.hid rfl⟩
  case round =>
    obtain ⟨k, hk, hg, rfl, BW, AN⟩ := hrel
    by_cases hlt : k < m
    · have hkl : k < xs.length := by rw [← HM.out]; exact hlt
      rcases HAT.out with h0 | ⟨b, off, rfl, hb, hc⟩
      · rw [h0] at hkl; simp at hkl
      · have d0 := (BW.out.cell (p := ⟨b, off + k, none⟩) hb).trans (hc k hkl)
        have hcall := HP.out xs[k] (List.getElem_mem hkl) wr BW.out
        have hat := any_take p xs k hkl
        rw [AN.out, Bool.false_or] at hat
        have hin : p xs[k] = true → xs.any p = true := fun h => List.any_eq_true.2 ⟨_, List.getElem_mem hkl, h⟩
        generalize xs[k] = x at *
        clear hc
        have eg := EG.out
        cases hq : p x with
        | true =>
          rw [hq] at hcall
          have HQ := Lib.hid (hin hq); clear hq hin hat
          have HC := Lib.hid hcall; clear hcall
          go_wp2_with fail
          refine HC.out.mono ?_
          rintro e w' ⟨rfl, hb⟩
          have HB := Lib.hid hb
          clear hb eg d0
          go_wp2_with fail
          go_ret
          exact ⟨_, rfl, by rw [HQ.out]; simp, BW.out.trans (HB.out.mono BW.out.size)⟩
        | false =>
          rw [hq] at hcall hat
          have HQ := Lib.hid hat; clear hq hin hat
          have HC := Lib.hid hcall; clear hcall
          go_wp2_with fail
          refine HC.out.mono ?_
          rintro e w' ⟨rfl, hb⟩
          have HB := Lib.hid hb
          clear hb eg d0
          go_wp2_with fail
          go_roundg (m - (k + 1))
          case measure => omega
          case rel => exact ⟨k + 1, by omega, by omega, by go_num, Lib.hid (BW.out.trans (HB.out.mono BW.out.size)), HQ⟩
    · obtain rfl : k = m := by omega
      have ha : xs.any p = false := by have := AN.out; rwa [HM.out, List.take_length] at this
      have HA := Lib.hid ha; clear ha
      go_wp2_with fail
      go_ret
      exact ⟨_, rfl, by rw [HA.out]; rfl, BW.out⟩
theorem contains_xs (v : Value) (xs : List Int) (p : Int → Bool) (fn : Nat) (lb : Array Value) (w : World) (eg : ∀ args w, (callFunc fn args).run Tryd.prog w = .ok (.enter fn args) w) (hx : IsXs w v xs) (hm : xs.length ≤ 100000000)
    (hp : ∀ x ∈ xs, ∀ W, Below w.heap.size w W → Calls Tryd.prog fn (#[.int .i64 x] ++ lb) W fun e w' => e = .returned (.bool (p x)) ∧ Below W.heap.size W w') :
    Calls Tryd.prog 24 #[v, .func (.func fn) #[] lb] w fun e w' => e = .returned (.bool (xs.any p)) ∧ Below w.heap.size w w' := by
  have h := index_xs v xs p fn lb w eg hx hm hp
  have H := Lib.hid h; clear h hp hx eg
  go_enter Tryd.func24, Tryd.ntmps24
  go_wp2_with fail
  refine H.out.mono ?_
  rintro e w' ⟨i, rfl, h1, h2⟩
  have H1 := Lib.hid h1; clear h1
  have H2 := Lib.hid h2; clear h2
  go_wp2_with fail
  go_ret
  exact ⟨ret_bool H1.out, H2.out⟩
end Vb
end Go.Proofs.YtmegapelibaanaaDoor
