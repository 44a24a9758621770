/- A row of bans (a request, a tour, until when), told plainly: what is forbidden, what is live, how many. -/
namespace Go.Proofs.Ytjfagekdeapiaaa
namespace Tab
set_option linter.unusedVariables false
/-- a ban -/
structure E where
  r : Int
  t : Int
  u : Int
def sm (r t : Int) (e : E) : Bool := decide (e.r = r) && decide (e.t = t)
theorem sm_iff {r t : Int} {e : E} : sm r t e = true ↔ e.r = r ∧ e.t = t := by unfold sm; simp
/-- the greater of a step and all those of a pair -/
def un (r t : Int) : List E → Int → Int
  | [], u => u
  | e :: l, u => un r t l (if sm r t e = true ∧ u < e.u then e.u else u)
/-- all others -/
def oth (r t : Int) (l : List E) : List E := l.filter (fun e => !sm r t e)
def ban (l : List E) (r t u : Int) : List E := oth r t l ++ [⟨r, t, un r t l u⟩]
def isB (l : List E) (r t now : Int) : Bool := l.any (fun e => sm r t e && decide (now < e.u))
def live (now : Int) (l : List E) : List E := l.filter (fun e => decide (now < e.u))
def Apart (l : List E) : Prop := l.Pairwise (fun a b => ¬ (a.r = b.r ∧ a.t = b.t))
theorem un_append (r t : Int) (l m : List E) (u : Int) : un r t (l ++ m) u = un r t m (un r t l u) := by
  induction l generalizing u with
  | nil => rfl
  | cons e l ih => simp only [List.cons_append, un, ih]
theorem un_lt {r t now : Int} {l : List E} {u : Int} : now < un r t l u ↔ now < u ∨ ∃ e ∈ l, sm r t e = true ∧ now < e.u := by
  induction l generalizing u with
  | nil => simp [un]
  | cons e l ih =>
    rw [un, ih]
    by_cases h : sm r t e = true
    · by_cases h2 : u < e.u
      · simp only [h, h2, and_self, if_true, List.mem_cons]
        constructor
        · rintro (h3 | ⟨x, hx, h3⟩)
          · exact .inr ⟨e, .inl rfl, h, h3⟩
          · exact .inr ⟨x, .inr hx, h3⟩
        · rintro (h3 | ⟨x, rfl | hx, h3⟩)
          · exact .inl (by omega)
          · exact .inl h3.2
          · exact .inr ⟨x, hx, h3⟩
      · simp only [h, h2, and_false, if_false, List.mem_cons]
        constructor
        · rintro (h3 | ⟨x, hx, h3⟩)
          · exact .inl h3
          · exact .inr ⟨x, .inr hx, h3⟩
        · rintro (h3 | ⟨x, rfl | hx, h3⟩)
          · exact .inl h3
          · exact .inl (by omega)
          · exact .inr ⟨x, hx, h3⟩
    · simp only [h, List.mem_cons]
      constructor
      · rintro (h3 | ⟨x, hx, h3⟩)
        · exact .inl h3
        · exact .inr ⟨x, .inr hx, h3⟩
      · rintro (h3 | ⟨x, rfl | hx, h3⟩)
        · exact .inl h3
        · exact absurd h3.1 h
        · exact .inr ⟨x, hx, h3⟩
theorem isB_iff {l : List E} {r t now : Int} : isB l r t now = true ↔ ∃ e ∈ l, sm r t e = true ∧ now < e.u := by
  unfold isB; simp [List.any_eq_true]
theorem isB_ban {l : List E} {r t u r' t' now : Int} : isB (ban l r t u) r' t' now = true ↔ (r = r' ∧ t = t' ∧ now < u) ∨ isB l r' t' now = true := by
  rw [isB_iff, isB_iff]
  unfold ban oth
  simp only [List.mem_append, List.mem_filter, List.mem_singleton]
  constructor
  · rintro ⟨e, ⟨he, hn⟩ | rfl, h1, h2⟩
    · exact .inr ⟨e, he, h1, h2⟩
    · obtain ⟨h3, h4⟩ := sm_iff.1 h1
      simp only at h3 h4
      subst h3 h4
      rcases un_lt.1 h2 with h | ⟨e, he, h5, h6⟩
      · exact .inl ⟨rfl, rfl, h⟩
      · exact .inr ⟨e, he, h5, h6⟩
  · rintro (⟨rfl, rfl, h⟩ | ⟨e, he, h1, h2⟩)
    · exact ⟨_, .inr rfl, sm_iff.2 ⟨rfl, rfl⟩, un_lt.2 (.inl h)⟩
    · by_cases hs : sm r t e = true
      · obtain ⟨h3, h4⟩ := sm_iff.1 h1
        obtain ⟨h5, h6⟩ := sm_iff.1 hs
        have e1 : r = r' := by omega
        have e2 : t = t' := by omega
        subst e1 e2
        exact ⟨_, .inr rfl, sm_iff.2 ⟨rfl, rfl⟩, un_lt.2 (.inr ⟨e, he, h1, h2⟩)⟩
      · exact ⟨e, .inl ⟨he, by simp [hs]⟩, h1, h2⟩
theorem apart_ban {l : List E} (h : Apart l) (r t u : Int) : Apart (ban l r t u) := by
  unfold ban Apart oth
  rw [List.pairwise_append]
  refine ⟨h.filter _, List.pairwise_singleton _ _, ?_⟩
  intro a ha b hb
  rw [List.mem_singleton] at hb
  subst hb
  have := (List.mem_filter.1 ha).2
  intro hc
  rw [sm_iff.2 hc] at this
  exact absurd this (by decide)
theorem apart_live {l : List E} (h : Apart l) (now : Int) : Apart (live now l) := h.filter _
theorem live_le (now : Int) (l : List E) : (live now l).length ≤ l.length := List.length_filter_le _ _
theorem ban_le (l : List E) (r t u : Int) : (ban l r t u).length ≤ l.length + 1 := by
  unfold ban oth
  rw [List.length_append]
  have := List.length_filter_le (fun e => !sm r t e) l
  simp only [List.length_singleton]; omega
/-- where no pair stands twice -/
theorem oth_length {l : List E} (h : Apart l) (r t : Int) : (oth r t l).length + (if l.any (sm r t) = true then 1 else 0) = l.length := by
  induction l with
  | nil => rfl
  | cons e l ih =>
    obtain ⟨h1, h2⟩ := List.pairwise_cons.1 h
    have ih := ih h2
    by_cases hs : sm r t e = true
    · have hn : l.any (sm r t) = false := by
        rw [List.any_eq_false]
        intro x hx hc
        obtain ⟨a, b⟩ := sm_iff.1 hs
        obtain ⟨c, d⟩ := sm_iff.1 hc
        exact h1 x hx ⟨by omega, by omega⟩
      have e1 : oth r t (e :: l) = oth r t l := by unfold oth; rw [List.filter_cons_of_neg (by simp [hs])]
      rw [e1, List.any_cons, hs, Bool.true_or, if_pos rfl, List.length_cons]
      rw [hn, if_neg (by decide)] at ih
      omega
    · have hs' : sm r t e = false := by simpa using hs
      have e1 : oth r t (e :: l) = e :: oth r t l := by unfold oth; rw [List.filter_cons_of_pos (by simp [hs'])]
      rw [e1, List.any_cons, hs', Bool.false_or, List.length_cons, List.length_cons]
      omega
theorem un_one {l : List E} (h : Apart l) {e : E} (he : e ∈ l) (u : Int) : un e.r e.t l u = if u < e.u then e.u else u := by
  induction l generalizing u with
  | nil => cases he
  | cons x l ih =>
    obtain ⟨h1, h2⟩ := List.pairwise_cons.1 h
    rw [un]
    rcases List.mem_cons.1 he with rfl | he'
    · have hn : ∀ y ∈ l, sm e.r e.t y = false := fun y hy => by
        cases hs : sm e.r e.t y with
        | false => rfl
        | true => obtain ⟨a, b⟩ := sm_iff.1 hs; exact absurd ⟨a.symm, b.symm⟩ (h1 y hy)
      have key : ∀ (l : List E) (u : Int), (∀ y ∈ l, sm e.r e.t y = false) → un e.r e.t l u = u := by
        intro l
        induction l with
        | nil => intros; rfl
        | cons z l ih =>
          intro u hz
          rw [un, hz z (by simp), if_neg (by simp)]
          exact ih u fun y hy => hz y (by simp [hy])
      rw [key l _ hn]
      have : sm e.r e.t e = true := sm_iff.2 ⟨rfl, rfl⟩
      simp only [this, true_and]
    · have hn : sm e.r e.t x = false := by
        cases hs : sm e.r e.t x with
        | false => rfl
        | true => obtain ⟨a, b⟩ := sm_iff.1 hs; exact absurd ⟨a, b⟩ (h1 e he')
      rw [hn, if_neg (by simp)]
      exact ih h2 he' u
theorem un_none {l : List E} {r t : Int} (h : l.any (sm r t) = false) (u : Int) : un r t l u = u := by
  induction l generalizing u with
  | nil => rfl
  | cons z l ih =>
    rw [List.any_cons, Bool.or_eq_false_iff] at h
    rw [un, h.1, if_neg (by simp)]
    exact ih h.2 u
/-! ### what time does -/
theorem isB_later {l : List E} {r t now later : Int} (h : now ≤ later) (hb : isB l r t later = true) : isB l r t now = true := by
  obtain ⟨e, he, h1, h2⟩ := isB_iff.1 hb
  exact isB_iff.2 ⟨e, he, h1, by omega⟩
theorem live_live {now later : Int} (h : now ≤ later) (l : List E) : live later (live now l) = live later l := by
  unfold live
  rw [List.filter_filter]
  refine List.filter_congr fun e _ => ?_
  by_cases h1 : later < e.u
  · simp [h1, show now < e.u by omega]
  · simp [h1]
theorem live_later {now later : Int} (h : now ≤ later) (l : List E) : (live later l).length ≤ (live now l).length := by
  rw [← live_live h]; exact live_le _ _
theorem isB_live {l : List E} {r t now later : Int} (h : now ≤ later) : isB (live now l) r t later = isB l r t later := by
  rw [Bool.eq_iff_iff, isB_iff, isB_iff]
  unfold live
  constructor
  · rintro ⟨e, he, h1, h2⟩
    exact ⟨e, (List.mem_filter.1 he).1, h1, h2⟩
  · rintro ⟨e, he, h1, h2⟩
    exact ⟨e, List.mem_filter.2 ⟨he, by simp; omega⟩, h1, h2⟩
/-! ### rows of steps -/
def bans (r t u : Nat → Int) : Nat → List E
  | 0 => []
  | n + 1 => ban (bans r t u n) (r n) (t n) (u n)
theorem bans_apart (r t u : Nat → Int) (n : Nat) : Apart (bans r t u n) := by
  induction n with
  | zero => exact List.Pairwise.nil
  | succ n ih => exact apart_ban ih _ _ _
theorem bans_le (r t u : Nat → Int) (n : Nat) : (bans r t u n).length ≤ n := by
  induction n with
  | zero => exact Nat.le_refl _
  | succ n ih => have := ban_le (bans r t u n) (r n) (t n) (u n); rw [bans]; omega
theorem isB_bans {r t u : Nat → Int} {n : Nat} {a b now : Int} : isB (bans r t u n) a b now = true ↔ ∃ i, i < n ∧ r i = a ∧ t i = b ∧ now < u i := by
  induction n with
  | zero => simp [bans, isB]
  | succ n ih =>
    rw [bans, isB_ban, ih]
    constructor
    · rintro (⟨h1, h2, h3⟩ | ⟨i, hi, h⟩)
      · exact ⟨n, by omega, h1, h2, h3⟩
      · exact ⟨i, by omega, h⟩
    · rintro ⟨i, hi, h⟩
      by_cases e : i = n
      · subst e; exact .inl h
      · exact .inr ⟨i, by omega, h⟩
/-- Of two rows in which no pair stands twice, that forbid the same, as much is forbidden. -/
theorem count_same {a b : List E} (ha : Apart a) (hb : Apart b) {now : Int} (h : ∀ r t, isB a r t now = isB b r t now) : (live now a).length = (live now b).length := by
  have nd : ∀ {l : List E}, Apart l → ((live now l).map fun e => (e.r, e.t)).Nodup := fun {l} hl => by
    rw [List.nodup_iff_pairwise_ne, List.pairwise_map]
    exact (apart_live hl now).imp fun {x y} hxy he => hxy (by simpa using he)
  have mem : ∀ {l : List E} {p : Int × Int}, p ∈ (live now l).map (fun e => (e.r, e.t)) ↔ isB l p.1 p.2 now = true := fun {l p} => by
    rw [isB_iff, List.mem_map]
    unfold live
    constructor
    · rintro ⟨e, he, rfl⟩
      obtain ⟨h1, h2⟩ := List.mem_filter.1 he
      exact ⟨e, h1, sm_iff.2 ⟨rfl, rfl⟩, by simpa using h2⟩
    · rintro ⟨e, he, h1, h2⟩
      obtain ⟨h3, h4⟩ := sm_iff.1 h1
      exact ⟨e, List.mem_filter.2 ⟨he, by simpa using h2⟩, by rw [h3, h4]⟩
  have hp := (List.perm_ext_iff_of_nodup (nd ha) (nd hb)).2 fun p => by rw [mem, mem, h]
  simpa using hp.length_eq
/-- .. in whichever order they are forbidden. -/
theorem isB_bans_rev {r t u : Nat → Int} {n : Nat} (a b now : Int) : isB (bans (fun i => r (n - 1 - i)) (fun i => t (n - 1 - i)) (fun i => u (n - 1 - i)) n) a b now = isB (bans r t u n) a b now := by
  rw [Bool.eq_iff_iff, isB_bans, isB_bans]
  constructor
  · rintro ⟨i, hi, h⟩; exact ⟨n - 1 - i, by omega, h⟩
  · rintro ⟨i, hi, h⟩; exact ⟨n - 1 - i, by omega, by simpa [show n - 1 - (n - 1 - i) = i by omega] using h⟩
/-- the longest so far, and whether there is one -/
def lon (r t u : Nat → Int) (a b : Int) : Nat → Int × Bool
  | 0 => (0, false)
  | n + 1 => if r n = a ∧ t n = b ∧ ((lon r t u a b n).2 = false ∨ (lon r t u a b n).1 < u n) then (u n, true) else lon r t u a b n
theorem lon_iff {r t u : Nat → Int} {a b now : Int} {n : Nat} : ((lon r t u a b n).2 = true ∧ now < (lon r t u a b n).1) ↔ ∃ i, i < n ∧ r i = a ∧ t i = b ∧ now < u i := by
  suffices h : (((lon r t u a b n).2 = true ∧ now < (lon r t u a b n).1) ↔ ∃ i, i < n ∧ r i = a ∧ t i = b ∧ now < u i) ∧ (((lon r t u a b n).2 = false) → ∀ i, i < n → ¬ (r i = a ∧ t i = b)) from h.1
  induction n with
  | zero => simp [lon]
  | succ n ih =>
    obtain ⟨ih1, ih2⟩ := ih
    rw [lon]
    by_cases h : r n = a ∧ t n = b ∧ ((lon r t u a b n).2 = false ∨ (lon r t u a b n).1 < u n)
    · rw [if_pos h]
      obtain ⟨h1, h2, h3⟩ := h
      refine ⟨?_, fun hc => by simp at hc⟩
      simp only [true_and]
      constructor
      · intro hn; exact ⟨n, by omega, h1, h2, hn⟩
      · rintro ⟨i, hi, h4, h5, h6⟩
        by_cases e : i = n
        · subst e; exact h6
        · rcases h3 with h3 | h3
          · exact absurd ⟨h4, h5⟩ (ih2 h3 i (by omega))
          · have h7 := ih1.2 ⟨i, by omega, h4, h5, h6⟩
            omega
    · rw [if_neg h]
      refine ⟨?_, ?_⟩
      · rw [ih1]
        constructor
        · rintro ⟨i, hi, h4⟩; exact ⟨i, by omega, h4⟩
        · rintro ⟨i, hi, h4, h5, h6⟩
          by_cases e : i = n
          · subst e
            cases hz : (lon r t u a b i).2 with
            | false => exact absurd ⟨h4, h5, .inl hz⟩ h
            | true =>
              have hle : ¬ (lon r t u a b i).1 < u i := fun hc => h ⟨h4, h5, .inr hc⟩
              exact ih1.1 ⟨hz, by omega⟩
          · exact ⟨i, by omega, h4, h5, h6⟩
      · intro hz i hi hc
        by_cases e : i = n
        · subst e; exact h ⟨hc.1, hc.2, .inl hz⟩
        · exact ih2 hz i (by omega) hc
end Tab
end Go.Proofs.Ytjfagekdeapiaaa
