/- A map keyed by pairs of numbers (a struct of two ints), with numbers: what its keys read as; a row of bans as what such a map reads as. -/
import Derived.Test.YtjfagekdeapiaaaChecked
import Derived.Test.YtjfagekdeapiaaaTabMath
import Derived.WalkKit
import Derived.Maps.RangeWalk
import Derived.DeepKeys4
import Derived.Lib.Hide
namespace Go.Proofs.Ytjfagekdeapiaaa
open Go.RowKit Go.Lib
namespace Tab
open Go.Maps (Keyed)
set_option linter.unusedVariables false
theorem laid : laidOutB Try.prog = true := by kernel_rfl
theorem row_pair : (51 : TypeId) < Try.prog.types.size := of_decide_eq_true (by kernel_rfl)
theorem wide_pair : (match Try.prog.underlying 51 with | some (.array _ _) | some (.struct _) => true | _ => false) = true := by kernel_rfl
theorem law : Keyed Try.prog 51 := Keyed.of_law (deep_law_laid laid (m := 3) (by omega) row_pair (by kernel_rfl) wide_pair)
theorem zeroInt (w : World) : (zeroValue 3).run Try.prog w = .ok (.int .i64 0) w := by kernel_rfl
abbrev I (n : Int) : Value := .int .i64 n
abbrev pr (r t : Int) : Value := .agg #[.int .i64 r, .int .i64 t]
abbrev Wf (n : Int) : Prop := (Lit.int .i64 n).wf = true
theorem keyT : Try.prog.keyType 51 = true := by kernel_rfl
theorem cells_pair : Try.prog.cellsOf 51 = 2 := by kernel_rfl
theorem cells_int : Try.prog.cellsOf 3 = 1 := by kernel_rfl
theorem size_types : ∃ n, Try.prog.types.size = n + 1 := ⟨Try.prog.types.size - 1, (Nat.succ_pred (Nat.pos_iff_ne_zero.1 (Nat.lt_of_le_of_lt (Nat.zero_le _) row_pair))).symm⟩
theorem lits_int (d : Nat) (v : Value) : Try.prog.keyLits (d + 1) 3 [v] = match v with | .int q n => if q = .i64 ∧ (Lit.int .i64 n).wf = true then some [.int .i64 n] else none | _ => none := by
  have h := Try.underlying3
  cases v <;> simp [Program.keyLits, h]
/-- what a pair reads as -/
def key (r t : Int) : Lit := .string (keyBytes [.int .i64 r, .int .i64 t])
theorem lits_pair (d : Nat) (a b : Value) : Try.prog.keyLits (d + 2) 51 [a, b] = (do let x ← Try.prog.keyLits (d + 1) 3 [a]; let y ← Try.prog.keyLits (d + 1) 3 [b]; pure (x ++ y)) := by
  have h := Try.underlying51
  conv => lhs; unfold Program.keyLits
  simp only [h]
  simp [cells_pair, cells_int]
  cases Try.prog.keyLits (d + 1) 3 [a] <;> cases Try.prog.keyLits (d + 1) 3 [b] <;> simp
theorem key_of {r t : Int} (hr : Wf r) (ht : Wf t) : keyOf Try.prog 51 (pr r t) = some (key r t) := by
  have h := Try.underlying51
  obtain ⟨n, hn⟩ := size_types
  have hf : (pr r t).formed Try.prog 51 = true := by simp [Value.formed, h, cells_pair]
  unfold keyOf
  simp only [h, hf, keyT, hn, Bool.and_self, if_true]
  have e : (pr r t).cells.toList = [.int .i64 r, .int .i64 t] := rfl
  rw [e, lits_pair, lits_int, lits_int]
  simp only [hr, ht, and_self, if_true]
  rfl
theorem key_inv {v : Value} {kl : Lit} (h : keyOf Try.prog 51 v = some kl) : ∃ r t, v = pr r t ∧ Wf r ∧ Wf t ∧ kl = key r t := by
  have hu := Try.underlying51
  obtain ⟨n, hn⟩ := size_types
  have h0 := h
  unfold keyOf at h
  simp only [hu, keyT, Bool.true_and, hn] at h
  split at h
  · rename_i hf
    unfold Value.formed at hf
    simp only [hu] at hf
    split at hf
    · rename_i cs
      simp only [cells_pair, beq_iff_eq] at hf
      obtain ⟨l⟩ := cs
      match l, hf with
      | [a, b], _ =>
        have e : (Value.agg #[a, b]).cells.toList = [a, b] := rfl
        rw [e, lits_pair, lits_int, lits_int] at h
        cases a with
        | int q m =>
          simp only at h
          split at h
          · rename_i hq
            obtain ⟨rfl, hw⟩ := hq
            cases b with
            | int q' m' =>
              simp only at h
              split at h
              · rename_i hq'
                obtain ⟨rfl, hw'⟩ := hq'
                refine ⟨m, m', rfl, hw, hw', ?_⟩
                have h1 := key_of hw hw'
                rw [h0] at h1
                exact Option.some.inj h1
              · cases h
            | _ => cases h
          · cases h
        | _ => cases h
    · cases hf
    · cases hf
  · cases h
theorem key_inj {r t r' t' : Int} (hr : Wf r) (ht : Wf t) (hr' : Wf r') (ht' : Wf t') (h : key r t = key r' t') : r = r' ∧ t = t' := by
  have h1 := key_of hr ht
  have h2 := key_of hr' ht'
  rw [h] at h1
  have h3 := law.inj h1 h2
  simp only [Value.agg.injEq] at h3
  have h4 := congrArg Array.toList h3
  simp at h4
  exact h4
theorem key_ok {r t : Int} (hr : Wf r) (ht : Wf t) : WideAt.IsKeyLit (key r t) := law.key (key_of hr ht)
theorem key_sm {r t : Int} {e : E} (hr : Wf r) (ht : Wf t) (hr' : Wf e.r) (ht' : Wf e.t) : (key e.r e.t).sameKey (key r t) = sm r t e := by
  cases h : sm r t e with
  | true =>
    obtain ⟨h1, h2⟩ := sm_iff.1 h
    rw [h1, h2]
    exact WideAt.sameKey_self (key_ok hr ht)
  | false =>
    refine Maps.sameKey_ne fun hc => ?_
    obtain ⟨h1, h2⟩ := key_inj hr' ht' hr ht hc
    rw [sm_iff.2 ⟨h1, h2⟩] at h
    cases h
/-! ### a row of bans as a map that is read -/
abbrev Dt := DataW Unit
abbrev D64 (u : Int) : Dt := .lit (.int .i64 u)
noncomputable abbrev El : Value → Option (Dt × List MemPlace) := plainElem (H := Unit) Try.prog 3
structure Rep (D : Dt) (l : List E) : Prop where
  apart : Apart l
  wf : ∀ e ∈ l, Wf e.r ∧ Wf e.t ∧ Wf e.u
  has : ∀ r t, Wf r → Wf t → Maps.has D (key r t) = l.any (sm r t)
  elem : ∀ e ∈ l, ∀ z, D.atKey (key e.r e.t) z = D64 e.u
  size : Maps.size D = l.length
theorem Rep.nil : Rep (.map []) [] := ⟨List.Pairwise.nil, fun e he => (by cases he), fun _ _ _ _ => rfl, fun e he => (by cases he), rfl⟩
theorem un_wf {r t : Int} {l : List E} {u : Int} (hl : ∀ e ∈ l, Wf e.u) (hu : Wf u) : Wf (un r t l u) := by
  induction l generalizing u with
  | nil => exact hu
  | cons e l ih =>
    rw [un]
    refine ih (fun x hx => hl x (by simp [hx])) ?_
    split
    · exact hl e (by simp)
    · exact hu
theorem ban_wf {l : List E} (h : ∀ e ∈ l, Wf e.r ∧ Wf e.t ∧ Wf e.u) {r t u : Int} (hr : Wf r) (ht : Wf t) (hu : Wf u) : ∀ e ∈ ban l r t u, Wf e.r ∧ Wf e.t ∧ Wf e.u := by
  intro e he
  unfold ban oth at he
  rcases List.mem_append.1 he with h1 | h1
  · exact h e (List.mem_filter.1 h1).1
  · rw [List.mem_singleton] at h1; subst h1
    exact ⟨hr, ht, un_wf (fun x hx => (h x hx).2.2) hu⟩
theorem any_oth_same (l : List E) (r t : Int) : (oth r t l).any (sm r t) = false := by
  rw [List.any_eq_false]
  intro x hx
  have := (List.mem_filter.1 hx).2
  simpa using this
theorem any_oth_other {l : List E} {r t r' t' : Int} (h : ¬ (r = r' ∧ t = t')) : (oth r t l).any (sm r' t') = l.any (sm r' t') := by
  rw [Bool.eq_iff_iff, List.any_eq_true, List.any_eq_true]
  constructor
  · rintro ⟨e, he, h1⟩; exact ⟨e, (List.mem_filter.1 he).1, h1⟩
  · rintro ⟨e, he, h1⟩
    refine ⟨e, List.mem_filter.2 ⟨he, ?_⟩, h1⟩
    cases hs : sm r t e with
    | false => rfl
    | true =>
      obtain ⟨a, b⟩ := sm_iff.1 hs
      obtain ⟨c, d⟩ := sm_iff.1 h1
      exact absurd ⟨by omega, by omega⟩ h
theorem Rep.put {D : Dt} {l : List E} (h : Rep D l) (hD : Maps.Tidy D) {r t u : Int} (hr : Wf r) (ht : Wf t) (hu : Wf u) : Rep (D.put (key r t) (D64 (un r t l u))) (ban l r t u) := by
  refine ⟨apart_ban h.apart r t u, ban_wf h.wf hr ht hu, fun r' t' hr' ht' => ?_, fun e he z => ?_, ?_⟩
  · unfold ban
    rw [List.any_append]
    by_cases hs : r = r' ∧ t = t'
    · obtain ⟨rfl, rfl⟩ := hs
      rw [Maps.has_put_same hD.isMap (key_ok hr ht)]
      have : sm r t ⟨r, t, un r t l u⟩ = true := sm_iff.2 ⟨rfl, rfl⟩
      simp [this]
    · rw [Maps.has_put_other (fun hc => hs (by obtain ⟨a, b⟩ := key_inj hr' ht' hr ht hc; exact ⟨a.symm, b.symm⟩)), h.has r' t' hr' ht', any_oth_other hs]
      have : sm r' t' ⟨r, t, un r t l u⟩ = false := by
        cases hz : sm r' t' ⟨r, t, un r t l u⟩ with
        | false => rfl
        | true => exact absurd (sm_iff.1 hz) hs
      simp [this]
  · unfold ban at he
    rcases List.mem_append.1 he with h1 | h1
    · obtain ⟨h2, h3⟩ := List.mem_filter.1 h1
      obtain ⟨w1, w2, _⟩ := h.wf e h2
      rw [Maps.atKey_put_other (fun hc => by
        obtain ⟨a, b⟩ := key_inj w1 w2 hr ht hc
        rw [sm_iff.2 ⟨a, b⟩] at h3; cases h3)]
      exact h.elem e h2 z
    · rw [List.mem_singleton] at h1; subst h1
      exact Maps.atKey_put_same hD.isMap (key_ok hr ht) _ _
  · rw [Maps.size_put hD, h.has r t hr ht, h.size]
    have := oth_length h.apart r t
    unfold ban
    rw [List.length_append, List.length_singleton]
    split
    · rename_i hc; rw [if_pos hc] at this; omega
    · rename_i hc; rw [if_neg hc] at this; omega
theorem Rep.del {D : Dt} {l : List E} (h : Rep D l) (hD : Maps.Tidy D) {e : E} (he : e ∈ l) : Rep (D.del (key e.r e.t)) (oth e.r e.t l) := by
  obtain ⟨w1, w2, _⟩ := h.wf e he
  refine ⟨h.apart.filter _, fun x hx => h.wf x (List.mem_filter.1 hx).1, fun r' t' hr' ht' => ?_, fun x hx z => ?_, ?_⟩
  · by_cases hs : e.r = r' ∧ e.t = t'
    · obtain ⟨rfl, rfl⟩ := hs
      rw [Maps.has_del_same, any_oth_same]
    · rw [Maps.has_del_other (fun hc => hs (by obtain ⟨a, b⟩ := key_inj hr' ht' w1 w2 hc; exact ⟨a.symm, b.symm⟩)), h.has r' t' hr' ht', any_oth_other hs]
  · obtain ⟨h2, h3⟩ := List.mem_filter.1 hx
    obtain ⟨v1, v2, _⟩ := h.wf x h2
    rw [Maps.atKey_del_other (fun hc => by
      obtain ⟨a, b⟩ := key_inj v1 v2 w1 w2 hc
      rw [sm_iff.2 ⟨a, b⟩] at h3; cases h3)]
    exact h.elem x h2 z
  · have h1 := Maps.size_del (k := key e.r e.t) hD
    have h2 := oth_length h.apart e.r e.t
    rw [h.has _ _ w1 w2, h.size] at h1
    omega
/-- What stands at a pair of the map stands in the row. -/
theorem Rep.find {D : Dt} {l : List E} (h : Rep D l) {r t c : Int} (hr : Wf r) (ht : Wf t) (hat : ∀ z, D.atKey (key r t) z = D64 c) : ∃ e ∈ l, e.r = r ∧ e.t = t ∧ e.u = c := by
  have h1 := Maps.has_true_of_atKey hat
  rw [h.has r t hr ht, List.any_eq_true] at h1
  obtain ⟨e, he, hs⟩ := h1
  obtain ⟨a, b⟩ := sm_iff.1 hs
  refine ⟨e, he, a, b, ?_⟩
  have h2 := h.elem e he .nil
  rw [a, b, hat .nil] at h2
  simp only [DataW.lit.injEq, Lit.int.injEq] at h2
  exact h2.2.symm
/-! ### what is left to come -/
/-- those that are left to come, and those that stay anyway -/
def stay (now : Int) (left : Lit → Bool) (l : List E) : List E := l.filter (fun e => decide (now < e.u) || left (key e.r e.t))
def cnt (now : Int) (left : Lit → Bool) (l : List E) : List E := l.filter (fun e => decide (now < e.u) && left (key e.r e.t))
theorem stay_start {D : Dt} {l : List E} (h : Rep D l) (now : Int) : stay now (Maps.has D) l = l := by
  refine List.filter_eq_self.2 fun e he => ?_
  obtain ⟨w1, w2, _⟩ := h.wf e he
  have : Maps.has D (key e.r e.t) = true := by rw [h.has _ _ w1 w2, List.any_eq_true]; exact ⟨e, he, sm_iff.2 ⟨rfl, rfl⟩⟩
  simp [this]
theorem stay_end {left : Lit → Bool} (h : ∀ kl, left kl = false) (now : Int) (l : List E) : stay now left l = live now l := by
  refine List.filter_congr fun e _ => by simp [h]
theorem cnt_start {D : Dt} {l : List E} (h : Rep D l) (now : Int) : cnt now (Maps.has D) l = live now l := by
  refine List.filter_congr fun e he => ?_
  obtain ⟨w1, w2, _⟩ := h.wf e he
  have : Maps.has D (key e.r e.t) = true := by rw [h.has _ _ w1 w2, List.any_eq_true]; exact ⟨e, he, sm_iff.2 ⟨rfl, rfl⟩⟩
  simp [this]
theorem cnt_end {left : Lit → Bool} (h : ∀ kl, left kl = false) (now : Int) (l : List E) : cnt now left l = [] := by
  unfold cnt
  rw [List.filter_eq_nil_iff]
  intro e _; simp [h]
def less (left : Lit → Bool) (kl : Lit) : Lit → Bool := fun z => left z && !z.sameKey kl
theorem stay_struck {l : List E} (hw : ∀ e ∈ l, Wf e.r ∧ Wf e.t ∧ Wf e.u) (ha : Apart l) {left : Lit → Bool} {now : Int} {e : E} (he : e ∈ l) (hn : ¬ now < e.u) : oth e.r e.t (stay now left l) = stay now (less left (key e.r e.t)) l := by
  unfold oth stay less
  rw [List.filter_filter]
  refine List.filter_congr fun x hx => ?_
  obtain ⟨w1, w2, _⟩ := hw e he
  obtain ⟨v1, v2, _⟩ := hw x hx
  rw [key_sm w1 w2 v1 v2]
  cases hs : sm e.r e.t x with
  | false => simp
  | true =>
    have : x = e := by
      obtain ⟨a, b⟩ := sm_iff.1 hs
      by_cases hc : x = e
      · exact hc
      · exfalso
        have key2 : ∀ {l : List E}, Apart l → x ∈ l → e ∈ l → False := by
          intro l hl
          induction l with
          | nil => intro h; cases h
          | cons y l ih =>
            obtain ⟨h1, h2⟩ := List.pairwise_cons.1 hl
            intro m1 m2
            rcases List.mem_cons.1 m1 with rfl | n1
            · rcases List.mem_cons.1 m2 with e2 | n2
              · exact hc e2.symm
              · exact h1 e n2 ⟨a, b⟩
            · rcases List.mem_cons.1 m2 with rfl | n2
              · exact h1 x n1 ⟨a.symm, b.symm⟩
              · exact ih h2 n1 n2
        exact key2 ha hx he
    subst this
    simp [hn]
theorem stay_stays {l : List E} (hw : ∀ e ∈ l, Wf e.r ∧ Wf e.t ∧ Wf e.u) (ha : Apart l) {left : Lit → Bool} {now : Int} {e : E} (he : e ∈ l) (hn : now < e.u) : stay now (less left (key e.r e.t)) l = stay now left l := by
  unfold stay less
  refine List.filter_congr fun x hx => ?_
  obtain ⟨w1, w2, _⟩ := hw e he
  obtain ⟨v1, v2, _⟩ := hw x hx
  rw [key_sm w1 w2 v1 v2]
  cases hs : sm e.r e.t x with
  | false => simp
  | true =>
    have h1 := un_one ha he (e.u - 1)
    have h2 := un_one ha hx (e.u - 1)
    obtain ⟨a, b⟩ := sm_iff.1 hs
    rw [a, b] at h2
    rw [h1] at h2
    rw [if_pos (by omega)] at h2
    have h3 : now < x.u := by
      split at h2
      · omega
      · omega
    simp [h3]
theorem cnt_step {l : List E} (hw : ∀ e ∈ l, Wf e.r ∧ Wf e.t ∧ Wf e.u) (ha : Apart l) {left : Lit → Bool} {now : Int} {e : E} (he : e ∈ l) (hl : left (key e.r e.t) = true) :
    (cnt now (less left (key e.r e.t)) l).length + (if now < e.u then 1 else 0) = (cnt now left l).length := by
  have h1 : cnt now (less left (key e.r e.t)) l = oth e.r e.t (cnt now left l) := by
    unfold cnt oth less
    rw [List.filter_filter]
    refine List.filter_congr fun x hx => ?_
    obtain ⟨w1, w2, _⟩ := hw e he
    obtain ⟨v1, v2, _⟩ := hw x hx
    rw [key_sm w1 w2 v1 v2]
    cases sm e.r e.t x <;> simp
  have h2 : Apart (cnt now left l) := ha.filter _
  have h3 := oth_length h2 e.r e.t
  rw [h1]
  by_cases hn : now < e.u
  · have : (cnt now left l).any (sm e.r e.t) = true := List.any_eq_true.2 ⟨e, List.mem_filter.2 ⟨he, by simp [hn, hl]⟩, sm_iff.2 ⟨rfl, rfl⟩⟩
    rw [if_pos this] at h3
    rw [if_pos hn]; exact h3
  · have : (cnt now left l).any (sm e.r e.t) = false := by
      rw [List.any_eq_false]
      intro x hx hs
      obtain ⟨h4, h5⟩ := List.mem_filter.1 hx
      have h6 := un_one ha he (x.u - 1)
      have h7 := un_one ha h4 (x.u - 1)
      obtain ⟨a, b⟩ := sm_iff.1 hs
      rw [a, b, h6] at h7
      rw [if_pos (show x.u - 1 < x.u by omega)] at h7
      simp at h5
      split at h7 <;> omega
    rw [this, if_neg (by decide)] at h3
    rw [if_neg hn]; exact h3
end Tab
end Go.Proofs.Ytjfagekdeapiaaa
