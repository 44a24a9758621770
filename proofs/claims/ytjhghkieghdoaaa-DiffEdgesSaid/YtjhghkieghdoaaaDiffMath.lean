/- Systems of differences, without the program: what a search that goes along edges keeps, and what it comes to. -/
import Derived.Test.YtjhghkieghdoaaaChecked
namespace Go.Proofs.Ytjhghkieghdoaaa
namespace Diff
set_option linter.unusedVariables false

/-- one place of a row written -/
def put (f : Nat → Int) (k : Nat) (x : Int) : Nat → Int := fun j => if j = k then x else f j
theorem put_at (f : Nat → Int) (k : Nat) (x : Int) : put f k x k = x := by simp [put]
theorem put_ne (f : Nat → Int) {k j : Nat} (x : Int) (h : j ≠ k) : put f k x j = f j := by simp [put, h]

/-! ### counts -/
def cnt (p : Nat → Bool) : Nat → Nat
  | 0 => 0
  | n + 1 => cnt p n + (if p n = true then 1 else 0)
theorem cnt_le (p : Nat → Bool) (n : Nat) : cnt p n ≤ n := by
  induction n with
  | zero => simp [cnt]
  | succ n ih => simp only [cnt]; split <;> omega
theorem cnt_mono {p q : Nat → Bool} (n : Nat) (h : ∀ v, v < n → q v = true → p v = true) : cnt q n ≤ cnt p n := by
  induction n with
  | zero => simp [cnt]
  | succ n ih =>
    have := ih fun v hv => h v (by omega)
    have hn := h n (by omega)
    simp only [cnt]
    by_cases hq : q n = true
    · simp [hq, hn hq]; omega
    · simp [hq]; omega
theorem cnt_lt {p q : Nat → Bool} (n : Nat) (h : ∀ v, v < n → q v = true → p v = true) {v : Nat} (hv : v < n) (hp : p v = true) (hq : q v = false) : cnt q n < cnt p n := by
  induction n with
  | zero => omega
  | succ n ih =>
    simp only [cnt]
    rcases Nat.lt_or_ge v n with hlt | hge
    · have := ih (fun v hv => h v (by omega)) hlt
      have hn := h n (by omega)
      by_cases hq' : q n = true
      · simp [hq', hn hq']; omega
      · simp [hq']; omega
    · obtain rfl : v = n := by omega
      have := cnt_mono v fun u hu => h u (by omega)
      simp [hp, hq]; omega
theorem cnt_zero {p : Nat → Bool} {n : Nat} (h : cnt p n = 0) : ∀ v, v < n → p v = false := by
  induction n with
  | zero => intro v hv; omega
  | succ n ih =>
    simp only [cnt] at h
    intro v hv
    rcases Nat.lt_or_ge v n with hlt | hge
    · exact ih (by omega) v hlt
    · obtain rfl : v = n := by omega
      cases hp : p v with
      | false => rfl
      | true => simp [hp] at h
theorem cnt_pos {p : Nat → Bool} {n : Nat} (h : 0 < cnt p n) : ∃ v, v < n ∧ p v = true := by
  induction n with
  | zero => simp [cnt] at h
  | succ n ih =>
    simp only [cnt] at h
    cases hp : p n with
    | true => exact ⟨n, by omega, hp⟩
    | false =>
      simp [hp] at h
      obtain ⟨v, hv, h'⟩ := ih h
      exact ⟨v, by omega, h'⟩
/-- places that hold 0 -/
def zc (M : Nat → Int) (n : Nat) : Nat := cnt (fun v => M v == 0) n
theorem zc_le (M : Nat → Int) (n : Nat) : zc M n ≤ n := cnt_le _ _
theorem zc_put {M : Nat → Int} {n k : Nat} {x : Int} (hk : k < n) (h0 : M k = 0) (hx : x ≠ 0) : zc (put M k x) n < zc M n := by
  refine cnt_lt n (fun v hv h => ?_) hk (by simp [h0]) (by simp [put, hx])
  by_cases hvk : v = k
  · subst hvk; simp [put, hx] at h
  · simpa [put, hvk] using h
/-- rows of numbers below n without one twice are no longer than n -/
theorem pigeon {f : Nat → Nat} {n : Nat} : ∀ k, (∀ j, j < k → f j < n) → (∀ i j, i < j → j < k → f i ≠ f j) → k ≤ n := by
  intro k hf hinj
  have key : ∀ j, j ≤ k → ∃ M : Nat → Int, (∀ v, M v ≠ 0 ↔ ∃ i, i < j ∧ f i = v) ∧ zc M n + j ≤ n := by
    intro j
    induction j with
    | zero => intro _; exact ⟨fun _ => 0, fun v => by simp, by have := zc_le (fun _ => 0) n; omega⟩
    | succ j ih =>
      intro hj
      obtain ⟨M, hM, hc⟩ := ih (by omega)
      have h0 : M (f j) = 0 := by
        rcases Classical.em (M (f j) = 0) with h | h
        · exact h
        · obtain ⟨i, hi, he⟩ := (hM (f j)).1 h
          exact absurd he (hinj i j hi (by omega))
      have := zc_put (x := 1) (hf j (by omega)) h0 (by decide)
      refine ⟨put M (f j) 1, fun v => ?_, by omega⟩
      by_cases hv : v = f j
      · subst hv
        simp only [put_at]
        exact ⟨fun _ => ⟨j, by omega, rfl⟩, fun _ => by decide⟩
      · rw [put_ne _ _ hv, hM v]
        constructor
        · rintro ⟨i, hi, he⟩; exact ⟨i, by omega, he⟩
        · rintro ⟨i, hi, he⟩
          refine ⟨i, ?_, he⟩
          rcases Nat.lt_or_ge i j with h | h
          · exact h
          · obtain rfl : i = j := by omega
            exact absurd he.symm hv
  obtain ⟨M, _, hc⟩ := key k (Nat.le_refl _)
  omega

/-! ### sums -/
def sumUp (g : Nat → Int) : Nat → Int
  | 0 => 0
  | k + 1 => sumUp g k + g k
theorem sumUp_front (g : Nat → Int) (k : Nat) : sumUp g (k + 1) = g 0 + sumUp (fun i => g (i + 1)) k := by
  induction k with
  | zero => simp [sumUp]
  | succ k ih => rw [sumUp, ih]; simp only [sumUp]; omega
theorem sumUp_congr {g h : Nat → Int} (k : Nat) (he : ∀ i, i < k → g i = h i) : sumUp g k = sumUp h k := by
  induction k with
  | zero => rfl
  | succ k ih => simp only [sumUp]; rw [ih fun i hi => he i (by omega), he k (by omega)]
theorem sumUp_rev (k : Nat) : ∀ g : Nat → Int, sumUp (fun i => g (k - 1 - i)) k = sumUp g k := by
  induction k with
  | zero => intro g; rfl
  | succ k ih =>
    intro g
    rw [sumUp_front g k, ← ih fun i => g (i + 1)]
    simp only [sumUp]
    rw [show k + 1 - 1 - k = 0 from by omega]
    rw [sumUp_congr k (g := fun i => g (k + 1 - 1 - i)) (h := fun i => g (k - 1 - i + 1)) fun i hi => by
      rw [show k + 1 - 1 - i = k - 1 - i + 1 from by omega]]
    omega
theorem sumUp_bnd {g : Nat → Int} (k : Nat) (h : ∀ i, i < k → -2199023255552 ≤ g i ∧ g i ≤ 2199023255552) : -((k : Int) * 2199023255552) ≤ sumUp g k ∧ sumUp g k ≤ (k : Int) * 2199023255552 := by
  induction k with
  | zero => simp [sumUp]
  | succ k ih =>
    have := ih fun i hi => h i (by omega)
    have := h k (by omega)
    simp only [sumUp]
    omega

/-! ### systems -/
def Far : Int := 1152921504606846976
/-- a system, and one of its numbers -/
structure Sys where
  n : Nat
  m : Nat
  F : Nat → Nat
  T : Nat → Nat
  W : Nat → Int
  s : Nat
structure Sys.Ok (S : Sys) : Prop where
  hn : S.n ≤ 60
  hm : S.m ≤ 201
  hs : S.s < S.n
  hF : ∀ i, i < S.m → S.F i < S.n
  hT : ∀ i, i < S.m → S.T i < S.n
  hW : ∀ i, i < S.m → -2199023255552 ≤ S.W i ∧ S.W i ≤ 2199023255552
/-- some numbers with values of which all edges hold -/
structure Closed (S : Sys) (fin : Nat → Prop) (X : Nat → Int) : Prop where
  at0 : fin S.s
  le0 : X S.s ≤ 0
  edge : ∀ i, i < S.m → fin (S.F i) → fin (S.T i) ∧ X (S.T i) ≤ X (S.F i) + S.W i
/-- no edge brings a number nearer -/
def Shut (S : Sys) (D : Nat → Int) : Prop := ∀ i, i < S.m → D (S.F i) ≠ Far → D (S.T i) ≤ D (S.F i) + S.W i
/-- what the search keeps -/
structure Inv (S : Sys) (K : Nat) (D L : Nat → Int) : Prop where
  bnd : ∀ v, v < S.n → D v = Far ∨ (-((K : Int) * 2199023255552) ≤ D v ∧ D v ≤ (K : Int) * 2199023255552)
  src : D S.s ≤ 0
  last : ∀ v, v < S.n → L v = -1 ∨ ∃ i : Nat, i < S.m ∧ L v = i ∧ S.T i = v ∧ D v < Far ∧ D (S.F i) < Far ∧ D (S.F i) + S.W i ≤ D v
  root : ∀ v, v < S.n → L v = -1 → D v = Far ∨ (v = S.s ∧ D v = 0)
  rank : ∃ r : Nat → Nat, ∀ v, v < S.n → ∀ i : Nat, L v = i → D v = D (S.F i) + S.W i → r (S.F i) < r v
  great : ∀ fin X, Closed S fin X → ∀ v, v < S.n → D v < Far → fin v ∧ X v ≤ D v
variable {S : Sys} {K : Nat} {D L : Nat → Int}
theorem Inv.far (h : Inv S K D L) (hK : K ≤ 20000) {v : Nat} (hv : v < S.n) : D v ≤ Far := by
  unfold Far; rcases h.bnd v hv with h | h
  · unfold Far at h; omega
  · omega
theorem Inv.low (h : Inv S K D L) (hK : K ≤ 20000) {v : Nat} (hv : v < S.n) : -43980465111040000 ≤ D v := by
  rcases h.bnd v hv with h | h
  · unfold Far at h; omega
  · omega
theorem Inv.upd (h : Inv S K D L) (ok : S.Ok) (hK : K < 20000) {i : Nat} (hi : i < S.m) (h1 : D (S.F i) ≠ Far) (h2 : D (S.F i) + S.W i < D (S.T i)) :
    Inv S (K + 1) (put D (S.T i) (D (S.F i) + S.W i)) (put L (S.T i) i) := by
  have hF := ok.hF i hi
  have hT := ok.hT i hi
  have hW := ok.hW i hi
  have fT := h.far (by omega) hT
  have fF := h.far (by omega) hF
  have bF := h.bnd _ hF
  have hlt : D (S.F i) + S.W i < Far := by omega
  have hD' : ∀ v, put D (S.T i) (D (S.F i) + S.W i) v ≤ D v := fun v => by
    by_cases hv : v = S.T i
    · subst hv; rw [put_at]; omega
    · rw [put_ne _ _ hv]; omega
  refine ⟨fun v hv => ?_, ?_, fun v hv => ?_, fun v hv hl => ?_, ?_, fun fin X hc v hv hd => ?_⟩
  · by_cases e : v = S.T i
    · subst e; rw [put_at]; right; rcases bF with b | b
      · exact absurd b h1
      · omega
    · rw [put_ne _ _ e]
      rcases h.bnd v hv with b | b
      · exact .inl b
      · right; omega
  · have := hD' S.s; have := h.src; omega
  · by_cases e : v = S.T i
    · right
      subst e
      refine ⟨i, hi, put_at _ _ _, rfl, by rw [put_at]; omega, ?_, ?_⟩
      · have := hD' (S.F i); omega
      · by_cases e2 : S.F i = S.T i
        · rw [e2, put_at]; rw [e2] at h2; omega
        · rw [put_at, put_ne _ _ e2]; omega
    · rw [put_ne _ _ e, put_ne _ _ e]
      rcases h.last v hv with b | ⟨j, hj, b1, b2, b3, b4, b5⟩
      · exact .inl b
      · exact .inr ⟨j, hj, b1, b2, b3, by have := hD' (S.F j); omega, by have := hD' (S.F j); omega⟩
  · by_cases e : v = S.T i
    · subst e; rw [put_at] at hl; omega
    · rw [put_ne _ _ e] at hl ⊢; exact h.root v hv hl
  · obtain ⟨r, hr⟩ := h.rank
    refine ⟨fun v => if v = S.T i then r (S.F i) + 1 else r v, fun v hv j hl ht => ?_⟩
    by_cases e : v = S.T i
    · subst e
      rw [put_at] at hl ht
      obtain rfl : i = j := by omega
      by_cases e2 : S.F i = S.T i
      · rw [e2, put_at] at ht; rw [e2] at h2; omega
      · simp [e2]
    · rw [put_ne _ _ e] at hl ht
      by_cases e2 : S.F j = S.T i
      · rw [e2, put_at] at ht
        rcases h.last v hv with b | ⟨j', hj, b1, b2, b3, b4, b5⟩
        · omega
        · obtain rfl : j' = j := by omega
          rw [e2] at b5
          omega
      · rw [put_ne _ _ e2] at ht
        simp only [e, e2, if_false]
        exact hr v hv j hl ht
  · by_cases e : v = S.T i
    · subst e
      rw [put_at]
      obtain ⟨g1, g2⟩ := h.great fin X hc _ hF (by omega)
      obtain ⟨g3, g4⟩ := hc.edge i hi g1
      exact ⟨g3, by omega⟩
    · rw [put_ne _ _ e] at hd ⊢; exact h.great fin X hc v hv hd
/-- what the search begins with -/
theorem inv0 (ok : S.Ok) (hd : ∀ v, v < S.n → D v = if v = S.s then 0 else Far) (hl : ∀ v, v < S.n → L v = -1) : Inv S 0 D L := by
  refine ⟨fun v hv => ?_, ?_, fun v hv => .inl (hl v hv), fun v hv _ => ?_, ⟨fun _ => 0, fun v hv i h => ?_⟩, fun fin X hc v hv h => ?_⟩
  · rw [hd v hv]; split <;> simp
  · rw [hd _ ok.hs]; simp
  · rw [hd v hv]; by_cases e : v = S.s
    · right; exact ⟨e, if_pos e⟩
    · exact .inl (if_neg e)
  · rw [hl v hv] at h; omega
  · rw [hd v hv] at h ⊢
    by_cases e : v = S.s
    · subst e; simp; exact ⟨hc.at0, hc.le0⟩
    · simp [e] at h

/-! ### going back -/
def anc (S : Sys) (L : Nat → Int) (v : Nat) : Nat → Nat
  | 0 => v
  | k + 1 => S.F (L (anc S L v k)).toNat
def Def (S : Sys) (L : Nat → Int) (v k : Nat) : Prop := ∀ j, j < k → L (anc S L v j) ≠ -1
def sumB (S : Sys) (L : Nat → Int) (v k : Nat) : Int := sumUp (fun j => S.W (L (anc S L v j)).toNat) k
theorem anc_add (v j k : Nat) : anc S L v (j + k) = anc S L (anc S L v j) k := by
  induction k with
  | zero => rfl
  | succ k ih => rw [← Nat.add_assoc, anc, ih, anc]
theorem Def.le {v k j : Nat} (h : Def S L v k) (hj : j ≤ k) : Def S L v j := fun i hi => h i (by omega)
theorem Def.from {v k j : Nat} (h : Def S L v k) (hj : j ≤ k) : Def S L (anc S L v j) (k - j) := fun i hi => by
  rw [← anc_add]; exact h _ (by omega)
theorem Def.zero (v : Nat) : Def S L v 0 := fun j hj => by omega
theorem Def.succ {v k : Nat} (h : Def S L v k) (hl : L (anc S L v k) ≠ -1) : Def S L v (k + 1) := fun j hj => by
  rcases Nat.lt_or_ge j k with h' | h'
  · exact h j h'
  · obtain rfl : j = k := by omega
    exact hl
theorem Inv.step (h : Inv S K D L) {v : Nat} (hv : v < S.n) (hl : L v ≠ -1) :
    ∃ i : Nat, i < S.m ∧ L v = i ∧ (L v).toNat = i ∧ S.T i = v ∧ D v < Far ∧ D (S.F i) < Far ∧ D (S.F i) + S.W i ≤ D v := by
  rcases h.last v hv with b | ⟨i, h1, h2, h3⟩
  · exact absurd b hl
  · exact ⟨i, h1, h2, by omega, h3⟩
theorem Inv.anc_lt (h : Inv S K D L) (ok : S.Ok) {v k : Nat} (hv : v < S.n) (hd : Def S L v k) : anc S L v k < S.n := by
  induction k with
  | zero => exact hv
  | succ k ih =>
    obtain ⟨i, h1, _, h3, _⟩ := h.step (ih (hd.le (by omega))) (hd k (by omega))
    rw [anc, h3]
    exact ok.hF i h1
theorem Inv.anc_fin (h : Inv S K D L) (ok : S.Ok) {v k : Nat} (hv : v < S.n) (hd : Def S L v k) (hf : D v < Far) : D (anc S L v k) < Far := by
  cases k with
  | zero => exact hf
  | succ k =>
    obtain ⟨i, _, _, h3, _, _, h6, _⟩ := h.step (h.anc_lt ok hv (hd.le (by omega : k ≤ k + 1))) (hd k (by omega))
    rw [anc, h3]; exact h6
theorem Inv.tele (h : Inv S K D L) (ok : S.Ok) {v k : Nat} (hv : v < S.n) (hd : Def S L v k) : sumB S L v k + D (anc S L v k) ≤ D v := by
  induction k with
  | zero => simp [sumB, sumUp, anc]
  | succ k ih =>
    have := ih (hd.le (by omega))
    obtain ⟨i, _, _, h3, _, _, _, h7⟩ := h.step (h.anc_lt ok hv (hd.le (by omega : k ≤ k + 1))) (hd k (by omega))
    simp only [sumB, sumUp, anc, h3] at this ⊢
    omega
theorem Inv.tight (h : Inv S K D L) (ok : S.Ok) {v : Nat} (hv : v < S.n) {r : Nat → Nat} (hr : ∀ v, v < S.n → ∀ i : Nat, L v = i → D v = D (S.F i) + S.W i → r (S.F i) < r v) :
    ∀ k, Def S L v k → sumB S L v k + D (anc S L v k) = D v → r (anc S L v k) + k ≤ r v := by
  intro k
  induction k with
  | zero => intro _ _; simp [anc]
  | succ k ih =>
    intro hd he
    have ht := h.tele ok hv (hd.le (by omega : k ≤ k + 1))
    have hlt := h.anc_lt ok hv (hd.le (by omega : k ≤ k + 1))
    obtain ⟨i, _, h2, h3, _, _, _, h7⟩ := h.step hlt (hd k (by omega))
    simp only [sumB, sumUp, anc, h3] at he ht ⊢
    have := ih (hd.le (by omega)) (by simp only [sumB]; omega)
    have := hr _ hlt i h2 (by omega)
    omega
/-- a cycle of last edges is below 0 -/
theorem Inv.neg (h : Inv S K D L) (ok : S.Ok) {v k : Nat} (hv : v < S.n) (hk : 1 ≤ k) (hd : Def S L v k) (hc : anc S L v k = v) : sumB S L v k < 0 := by
  have ht := h.tele ok hv hd
  obtain ⟨r, hr⟩ := h.rank
  have h' := h.tight ok hv hr k hd
  rw [hc] at ht h'
  rcases Int.lt_or_le (sumB S L v k) 0 with h0 | h0
  · exact h0
  · have := h' (by omega); omega
theorem Inv.closed_tele (h : Inv S K D L) (ok : S.Ok) {fin : Nat → Prop} {X : Nat → Int} (hc : Closed S fin X) {v k : Nat} (hv : v < S.n) (hd : Def S L v k) : X v ≤ X (anc S L v k) + sumB S L v k := by
  induction k with
  | zero => simp [sumB, sumUp, anc]
  | succ k ih =>
    have := ih (hd.le (by omega))
    have hlt := h.anc_lt ok hv (hd.le (by omega : k ≤ k + 1))
    obtain ⟨i, h1, h2, h3, h4, h5, h6, h7⟩ := h.step hlt (hd k (by omega))
    obtain ⟨g1, _⟩ := h.great fin X hc _ (ok.hF i h1) h6
    have ⟨_, g4⟩ := hc.edge i h1 g1
    rw [h4] at g4
    simp only [sumB, sumUp, anc, h3] at this ⊢
    omega
/-- where the last edges go round, nothing holds -/
theorem Inv.none (h : Inv S K D L) (ok : S.Ok) {v k : Nat} (hv : v < S.n) (hk : 1 ≤ k) (hd : Def S L v k) (hc : anc S L v k = v) : ∀ fin X, ¬ Closed S fin X := by
  intro fin X hcl
  have h1 := h.neg ok hv hk hd hc
  have h2 := h.closed_tele ok hcl hv hd
  rw [hc] at h2
  omega
/-- the least way back -/
theorem least_back {v t : Nat} (h : ∃ k, 1 ≤ k ∧ Def S L v k ∧ anc S L v k = t) : ∃ k, 1 ≤ k ∧ Def S L v k ∧ anc S L v k = t ∧ ∀ j, 1 ≤ j → j < k → anc S L v j ≠ t := by
  obtain ⟨k, h1, h2, h3⟩ := h
  induction k using Nat.strongRecOn with
  | _ k ih =>
    rcases Classical.em (∃ j, 1 ≤ j ∧ j < k ∧ anc S L v j = t) with ⟨j, j1, j2, j3⟩ | hn
    · exact ih j j2 j1 (h2.le (by omega)) j3
    · exact ⟨k, h1, h2, h3, fun j j1 j2 j3 => hn ⟨j, j1, j2, j3⟩⟩
/-- no number comes twice on the least way back -/
theorem least_len (h : Inv S K D L) (ok : S.Ok) {v t k : Nat} (hv : v < S.n) (hd : Def S L v k) (ht : anc S L v k = t) (hmin : ∀ j, 1 ≤ j → j < k → anc S L v j ≠ t) : k ≤ S.n := by
  refine pigeon (f := fun j => anc S L v (j + 1)) k (fun j hj => h.anc_lt ok hv (hd.le (by omega))) fun i j hij hj he => ?_
  -- what lies behind i + 1 and j + 1 is the same: so t comes ahead of k
  have h1 : anc S L v (i + 1 + (k - (j + 1))) = t := by
    rw [anc_add, he, ← anc_add, show j + 1 + (k - (j + 1)) = k from by omega, ht]
  exact hmin _ (by omega) (by omega) h1
/-! ### no way back goes round -/
def Acyc (S : Sys) (L : Nat → Int) : Prop := ∃ d : Nat → Nat, ∀ v, v < S.n → ∀ i : Nat, L v = i → d (S.F i) < d v
/-- the way back ends -/
def Term (S : Sys) (L : Nat → Int) (v : Nat) : Prop := ∃ k, Def S L v k ∧ L (anc S L v k) = -1
theorem Term.mk0 {v : Nat} (h : L v = -1) : Term S L v := ⟨0, Def.zero v, h⟩
theorem Term.back {v j : Nat} (hd : Def S L v j) (h : Term S L (anc S L v j)) : Term S L v := by
  obtain ⟨k, h1, h2⟩ := h
  refine ⟨j + k, fun i hi => ?_, by rw [anc_add]; exact h2⟩
  rcases Nat.lt_or_ge i j with h | h
  · exact hd i h
  · have := h1 (i - j) (by omega)
    rw [← anc_add, show j + (i - j) = i from by omega] at this
    exact this
theorem acyc_of_term (ok : S.Ok) (hT : ∀ v, v < S.n → Term S L v) (hL : ∀ v, v < S.n → L v = -1 ∨ ∃ i : Nat, i < S.m ∧ L v = i) : Acyc S L := by
  classical
  refine ⟨fun v => if hv : v < S.n then (hT v hv).choose else 0, fun v hv i hl => ?_⟩
  have hi : i < S.m := by
    rcases hL v hv with h | ⟨j, hj, h⟩
    · omega
    · omega
  have hF := ok.hF i hi
  simp only [hv, hF, dif_pos]
  have ⟨a1, a2⟩ := (hT v hv).choose_spec
  have ⟨b1, b2⟩ := (hT (S.F i) hF).choose_spec
  generalize (hT v hv).choose = a at *
  generalize (hT (S.F i) hF).choose = b at *
  have e : ∀ k, anc S L v (1 + k) = anc S L (S.F i) k := fun k => by
    rw [anc_add]; congr 1; simp [anc, hl]
  rcases Nat.lt_or_ge b a with h | h
  · exact h
  · exfalso
    rcases Nat.eq_zero_or_pos a with h0 | h0
    · subst h0; simp only [anc] at a2; omega
    · have := b1 (a - 1) (by omega)
      rw [← e, show 1 + (a - 1) = a from by omega] at this
      exact this a2
theorem Inv.to_src (h : Inv S K D L) (ok : S.Ok) {d : Nat → Nat} (hd : ∀ v, v < S.n → ∀ i : Nat, L v = i → d (S.F i) < d v) :
    ∀ N v, d v < N → v < S.n → D v < Far → ∃ k, Def S L v k ∧ anc S L v k = S.s ∧ L S.s = -1 := by
  intro N
  induction N with
  | zero => intro v hv; omega
  | succ N ih =>
    intro v hN hv hf
    rcases h.last v hv with b | ⟨i, h1, h2, h3, h4, h5, h6⟩
    · rcases h.root v hv b with r | ⟨r, _⟩
      · omega
      · subst r; exact ⟨0, Def.zero _, rfl, b⟩
    · obtain ⟨k, k1, k2, k3⟩ := ih (S.F i) (by have := hd v hv i h2; omega) (ok.hF i h1) h5
      have e : anc S L v 1 = S.F i := by simp [anc, h2]
      refine ⟨1 + k, fun j hj => ?_, by rw [anc_add, e, k2], k3⟩
      rcases Nat.eq_zero_or_pos j with h0 | h0
      · subst h0; simp only [anc]; omega
      · have := k1 (j - 1) (by omega)
        rw [← e, ← anc_add, show 1 + (j - 1) = j from by omega] at this
        exact this
theorem Inv.src0 (h : Inv S K D L) (ok : S.Ok) (ha : Acyc S L) : L S.s = -1 ∧ D S.s = 0 := by
  obtain ⟨d, hd⟩ := ha
  have hs := h.src
  obtain ⟨k, _, _, h3⟩ := h.to_src ok hd (d S.s + 1) S.s (by omega) ok.hs (by unfold Far; omega)
  refine ⟨h3, ?_⟩
  rcases h.root _ ok.hs h3 with r | ⟨_, r⟩
  · unfold Far at r; omega
  · exact r
theorem Inv.back (h : Inv S K D L) (ok : S.Ok) (ha : Acyc S L) {v : Nat} (hv : v < S.n) (hf : D v < Far) : ∃ k, Def S L v k ∧ anc S L v k = S.s := by
  obtain ⟨d, hd⟩ := ha
  obtain ⟨k, h1, h2, _⟩ := h.to_src ok hd (d v + 1) v (by omega) hv hf
  exact ⟨k, h1, h2⟩

/-! ### the least sums of ways of so many edges -/
def jf (S : Sys) (d : Nat → Int) : Nat → Nat → Int
  | 0, v => d v
  | j + 1, v => if S.T j = v ∧ d (S.F j) ≠ Far ∧ d (S.F j) + S.W j < jf S d j v then d (S.F j) + S.W j else jf S d j v
def R (S : Sys) : Nat → Nat → Int
  | 0, v => if v = S.s then 0 else Far
  | k + 1, v => jf S (R S k) S.m v
theorem jf_anti (d : Nat → Int) (j v : Nat) : jf S d (j + 1) v ≤ jf S d j v := by
  simp only [jf]; split <;> omega
theorem jf_le (d : Nat → Int) (j v : Nat) : jf S d j v ≤ d v := by
  induction j with
  | zero => simp [jf]
  | succ j ih => have := jf_anti (S := S) d j v; omega
theorem jf_edge (d : Nat → Int) (j : Nat) : ∀ i, i < j → d (S.F i) ≠ Far → jf S d j (S.T i) ≤ d (S.F i) + S.W i := by
  induction j with
  | zero => intro i hi; omega
  | succ j ih =>
    intro i hi hd
    rcases Nat.lt_or_ge i j with h | h
    · have := ih i h hd; have := jf_anti (S := S) d j (S.T i); omega
    · obtain rfl : i = j := by omega
      simp only [jf]
      split
      · omega
      · rename_i hn
        have : ¬ (d (S.F i) + S.W i < jf S d i (S.T i)) := fun h => hn ⟨trivial, hd, h⟩
        omega
theorem jf_cases (d : Nat → Int) (j v : Nat) : jf S d j v = d v ∨ ∃ i, i < j ∧ S.T i = v ∧ d (S.F i) ≠ Far ∧ jf S d j v = d (S.F i) + S.W i := by
  induction j with
  | zero => exact .inl rfl
  | succ j ih =>
    simp only [jf]
    split
    · rename_i h; exact .inr ⟨j, by omega, h.1, h.2.1, rfl⟩
    · rcases ih with h | ⟨i, h1, h2⟩
      · exact .inl h
      · exact .inr ⟨i, by omega, h2⟩
theorem R_anti (k v : Nat) : R S (k + 1) v ≤ R S k v := jf_le _ _ _
theorem R_anti' (v : Nat) {j k : Nat} (h : j ≤ k) : R S k v ≤ R S j v := by
  induction k with
  | zero => obtain rfl : j = 0 := by omega
            exact Int.le_refl _
  | succ k ih =>
    rcases Nat.lt_or_ge j (k + 1) with h' | h'
    · have := ih (by omega); have := R_anti (S := S) k v; omega
    · obtain rfl : j = k + 1 := by omega
      exact Int.le_refl _
theorem jf_bnd (ok : S.Ok) {d : Nat → Int} {k : Nat} (h : ∀ v, v < S.n → d v = Far ∨ (-((k : Int) * 2199023255552) ≤ d v ∧ d v ≤ (k : Int) * 2199023255552)) {j : Nat} (hj : j ≤ S.m) {v : Nat} (hv : v < S.n) :
    jf S d j v = Far ∨ (-(((k + 1 : Nat) : Int) * 2199023255552) ≤ jf S d j v ∧ jf S d j v ≤ ((k + 1 : Nat) : Int) * 2199023255552) := by
  rcases jf_cases (S := S) d j v with e | ⟨i, h1, _, h3, e⟩
  · rw [e]
    rcases h v hv with h | h
    · exact .inl h
    · right; omega
  · rw [e]
    have := ok.hW i (by omega)
    rcases h _ (ok.hF i (by omega)) with h | h
    · exact absurd h h3
    · right; omega
theorem R_bnd (ok : S.Ok) (k : Nat) : ∀ v, v < S.n → R S k v = Far ∨ (-((k : Int) * 2199023255552) ≤ R S k v ∧ R S k v ≤ (k : Int) * 2199023255552) := by
  induction k with
  | zero => intro v hv; simp only [R]; split <;> simp
  | succ k ih => intro v hv; exact jf_bnd ok ih (Nat.le_refl _) hv
theorem R_far (ok : S.Ok) {k v : Nat} (hk : k ≤ 100) (hv : v < S.n) : R S k v ≤ Far := by
  rcases R_bnd ok k v hv with h | h <;> unfold Far at * <;> omega
theorem R_src (k : Nat) : R S k S.s ≤ 0 := by
  have := R_anti' (S := S) S.s (Nat.zero_le k); simp only [R, if_true] at this; exact this
/-- what no edge brings nearer is no farther than any such sum -/
theorem le_R (ok : S.Ok) (h0 : D S.s ≤ 0) (hf : ∀ v, v < S.n → D v ≤ Far) (hs : Shut S D) (k : Nat) : ∀ v, v < S.n → D v ≤ R S k v := by
  induction k with
  | zero =>
    intro v hv; simp only [R]; split
    · rename_i h; rw [h]; exact h0
    · exact hf v hv
  | succ k ih =>
    intro v hv
    simp only [R]
    rcases jf_cases (S := S) (R S k) S.m v with e | ⟨i, h1, h2, h3, e⟩
    · rw [e]; exact ih v hv
    · have a := ih _ (ok.hF i h1)
      have b := hf _ (ok.hF i h1)
      rcases Int.lt_or_le (R S k (S.F i)) Far with c | c
      · have := hs i h1 (by omega)
        rw [h2] at this
        rw [e]; omega
      · have hd := jf_le (S := S) (R S k) S.m v
        have := ok.hW i h1
        rcases Int.lt_or_le (D (S.F i)) Far with c' | c'
        · have := hs i h1 (by omega)
          rw [h2] at this
          rw [e]; omega
        · rw [e]
          -- what is beyond Far does not come
          have hv' := hf v hv
          rcases Classical.em (k ≤ 100) with hk | hk
          · have := R_far ok hk (ok.hF i h1); omega
          · have := R_bnd ok k _ (ok.hF i h1)
            rcases this with t | t
            · exact absurd t h3
            · exfalso
              have m1 := R_anti' (S := S) (S.F i) (Nat.zero_le k)
              have m2 : R S 0 (S.F i) ≤ Far := R_far ok (by omega) (ok.hF i h1)
              exact h3 (by omega)
/-- a tree's sums are reached by ways of fewer edges than there are numbers -/
theorem Inv.tree (h : Inv S K D L) (ok : S.Ok) (hK : K ≤ 20000) (ha : Acyc S L) : ∀ v, v < S.n → R S (S.n - 1) v ≤ D v := by
  obtain ⟨_, h0⟩ := h.src0 ok ha
  obtain ⟨d, hd⟩ := ha
  have hn := ok.hn
  have far : ∀ j, j ≤ 60 → ∀ N v, d v < N → v < S.n → D v < R S j v → ∃ v' i : Nat, v' < S.n ∧ i < S.m ∧ S.T i = v' ∧ D (S.F i) < Far ∧ D (S.F i) + S.W i ≤ D v' ∧ D v' < R S j v' ∧ ¬ D (S.F i) < R S j (S.F i) := by
    intro j hj N
    induction N with
    | zero => intro v hv; omega
    | succ N ih =>
      intro v hN hv hp
      rcases h.last v hv with b | ⟨i, h1, h2, h3, h4, h5, h6⟩
      · exfalso
        rcases h.root v hv b with r | ⟨r, r'⟩
        · have := R_far ok (k := j) (by omega) hv; omega
        · have := R_src (S := S) j; rw [← r] at this; omega
      · rcases Classical.em (D (S.F i) < R S j (S.F i)) with hp' | hp'
        · exact ih (S.F i) (by have := hd v hv i h2; omega) (ok.hF i h1) hp'
        · exact ⟨v, i, hv, h1, h3, h5, h6, hp, hp'⟩
  have key : ∀ j, j ≤ 60 → cnt (fun v => decide (D v < R S j v)) S.n + j + 1 ≤ S.n ∨ cnt (fun v => decide (D v < R S j v)) S.n = 0 := by
    intro j
    induction j with
    | zero =>
      intro _
      left
      have := cnt_lt (p := fun _ => true) (q := fun v => decide (D v < R S 0 v)) S.n (fun _ _ _ => rfl) ok.hs rfl (by simp [R]; omega)
      have := cnt_le (fun _ => true) S.n
      omega
    | succ j ih =>
      intro hj
      have hsub : ∀ v, v < S.n → decide (D v < R S (j + 1) v) = true → decide (D v < R S j v) = true := fun v _ hv => by
        simp only [decide_eq_true_eq] at hv ⊢; have := R_anti (S := S) j v; omega
      have hm := cnt_mono S.n hsub
      rcases ih (by omega) with hc | hc
      · rcases Nat.eq_zero_or_pos (cnt (fun v => decide (D v < R S j v)) S.n) with hz | hz
        · right; omega
        · left
          obtain ⟨v, hv, hp⟩ := cnt_pos hz
          simp only [decide_eq_true_eq] at hp
          obtain ⟨v', i, a1, a2, a3, a4, a5, a6, a7⟩ := far j (by omega) (d v + 1) v (by omega) hv hp
          have he := jf_edge (S := S) (R S j) S.m i a2 (by omega)
          rw [a3] at he
          have : R S (j + 1) v' = jf S (R S j) S.m v' := rfl
          have := cnt_lt S.n hsub a1 (by simp only [decide_eq_true_eq]; exact a6) (by simp only [decide_eq_false_iff_not]; omega)
          omega
      · right; omega
  intro v hv
  have hs := ok.hs
  have hc : cnt (fun v => decide (D v < R S (S.n - 1) v)) S.n = 0 := by
    rcases key (S.n - 1) (by omega) with hc | hc <;> omega
  · have := cnt_zero hc v hv
    simp only [decide_eq_false_iff_not] at this
    omega
/-! ### what the search comes to -/
/-- behind k looks through all edges -/
structure St (S : Sys) (k : Nat) (D L : Nat → Int) : Prop where
  inv : Inv S (k * S.m) D L
  acyc : Acyc S L
  le : ∀ v, v < S.n → D v ≤ R S k v
theorem looks (ok : S.Ok) {k : Nat} (hk : k ≤ S.n) : k * S.m ≤ 12060 := by
  have := Nat.mul_le_mul (Nat.le_trans hk ok.hn) ok.hm; omega
/-- one look through all edges more, by which a number got nearer -/
theorem St.next {k : Nat} {D0 L0 : Nat → Int} (h : St S k D0 L0) (ok : S.Ok) (hk : k + 1 ≤ S.n) (hi : Inv S ((k + 1) * S.m) D L) (ha : Acyc S L) (hle : ∀ v, v < S.n → D v ≤ D0 v)
    (he : ∀ i, i < S.m → D0 (S.F i) ≠ Far → D (S.T i) ≤ D0 (S.F i) + S.W i) (hx : ∃ v, v < S.n ∧ D v < D0 v) : k + 1 < S.n ∧ St S (k + 1) D L := by
  have hl := looks ok hk
  have hl' := looks (k := k) ok (by omega)
  refine ⟨?_, hi, ha, fun v hv => ?_⟩
  · rcases Nat.lt_or_ge (k + 1) S.n with h' | h'
    · exact h'
    · exfalso
      obtain ⟨v, hv, hlt⟩ := hx
      have h1 := hi.tree ok (by omega) ha v hv
      have h2 := h.le v hv
      rw [show k = S.n - 1 from by omega] at h2
      omega
  · simp only [R]
    rcases jf_cases (S := S) (R S k) S.m v with e | ⟨i, h1, h2, h3, e⟩
    · rw [e]; have := hle v hv; have := h.le v hv; omega
    · rw [e]
      have a := h.le _ (ok.hF i h1)
      have b := R_far ok (k := k) (by have := ok.hn; omega) (ok.hF i h1)
      have := he i h1 (by omega)
      rw [h2] at this
      omega
/-- how far all numbers are -/
structure Good (S : Sys) (D : Nat → Int) : Prop where
  src : D S.s = 0
  bnd : ∀ v, v < S.n → D v = Far ∨ (-26520220461957120 ≤ D v ∧ D v ≤ 26520220461957120)
  shut : Shut S D
  great : ∀ fin X, Closed S fin X → ∀ v, v < S.n → D v < Far → fin v ∧ X v ≤ D v
theorem St.good {k : Nat} (h : St S k D L) (ok : S.Ok) (hk : k < S.n) (hs : Shut S D) : Good S D := by
  have hl := looks (k := k) ok (by omega)
  refine ⟨(h.inv.src0 ok h.acyc).2, fun v hv => ?_, hs, h.inv.great⟩
  rcases h.inv.bnd v hv with b | b
  · exact .inl b
  · right
    generalize k * S.m = q at *
    omega
theorem Good.far (h : Good S D) {v : Nat} (hv : v < S.n) : D v ≤ Far := by
  unfold Far; rcases h.bnd v hv with b | b
  · unfold Far at b; omega
  · omega
theorem Good.closed (h : Good S D) (ok : S.Ok) : Closed S (fun v => D v < Far) D := by
  refine ⟨by show D S.s < Far; rw [h.src]; decide, by rw [h.src]; decide, fun i hi hf => ?_⟩
  have hs := h.shut i hi (by omega)
  refine ⟨?_, hs⟩
  have := ok.hW i hi
  show D (S.T i) < Far
  rcases h.bnd _ (ok.hF i hi) with b | b
  · omega
  · unfold Far; omega
theorem Good.eq {D' : Nat → Int} (h : Good S D) (h' : Good S D') (ok : S.Ok) : ∀ v, v < S.n → D v = D' v := by
  intro v hv
  have a : ∀ {A B : Nat → Int}, Good S A → Good S B → A v ≤ B v := fun {A B} ha hb => by
    rcases Int.lt_or_le (B v) Far with c | c
    · exact (hb.great _ _ (ha.closed ok) v hv c).2
    · have := ha.far hv; omega
  have := a h h'; have := a h' h; omega
theorem St.R_eq {k : Nat} (h : St S k D L) (ok : S.Ok) (hk : k < S.n) (hs : Shut S D) (j : Nat) (hj : S.n - 1 ≤ j) : ∀ v, v < S.n → R S j v = D v := by
  have g := h.good ok hk hs
  have hl := looks (k := k) ok (by omega)
  intro v hv
  have h1 := h.inv.tree ok (by omega) h.acyc v hv
  have h2 := le_R ok (by rw [g.src]; decide) (fun v hv => g.far hv) hs j v hv
  have h3 := R_anti' (S := S) v hj
  omega
/-- the document's answer: the first such sums that no edge brings nearer -/
theorem R_good (ok : S.Ok) {k : Nat} (hk : k ≤ 60) (hs : Shut S (R S k)) (hno : ∃ D, Good S D) : ∀ v, v < S.n → ∀ D, Good S D → R S k v = D v := by
  intro v hv D g
  have h2 := le_R ok (by rw [g.src]; decide) (fun v hv => g.far hv) g.shut k v hv
  have hc : Closed S (fun v => R S k v < Far) (R S k) := by
    have h0 := R_src (S := S) k
    refine ⟨by show R S k S.s < Far; unfold Far; omega, h0, fun i hi hf => ?_⟩
    have := hs i hi (by omega)
    refine ⟨?_, this⟩
    have := ok.hW i hi
    show R S k (S.T i) < Far
    rcases R_bnd ok k _ (ok.hF i hi) with b | b
    · omega
    · unfold Far; omega
  rcases Int.lt_or_le (D v) Far with c | c
  · have := (g.great _ _ hc v hv c).2; omega
  · have := R_far ok (k := k) (by omega) hv; have := g.far hv; omega
theorem R_closed (ok : S.Ok) {k : Nat} (hk : k ≤ 60) (hs : Shut S (R S k)) : Closed S (fun v => R S k v < Far) (R S k) := by
  have h0 := R_src (S := S) k
  refine ⟨by show R S k S.s < Far; unfold Far; omega, h0, fun i hi hf => ?_⟩
  have := hs i hi (by omega)
  refine ⟨?_, this⟩
  have := ok.hW i hi
  show R S k (S.T i) < Far
  rcases R_bnd ok k _ (ok.hF i hi) with b | b
  · omega
  · unfold Far; omega
/-! ### ways -/
/-- q, of k edges, is a way from a to b -/
def IsWay (S : Sys) (q : Nat → Int) (k a b : Nat) : Prop := ∃ P : Nat → Nat, P 0 = a ∧ P k = b ∧ ∀ i, i < k → ∃ e : Nat, e < S.m ∧ q i = e ∧ S.F e = P i ∧ S.T e = P (i + 1)
def wsum (S : Sys) (q : Nat → Int) (k : Nat) : Int := sumUp (fun i => S.W (q i).toNat) k
/-- the way back, the other way round -/
def wayOf (S : Sys) (L : Nat → Int) (v k : Nat) : Nat → Int := fun i => L (anc S L v (k - 1 - i))
theorem Inv.way (h : Inv S K D L) (ok : S.Ok) {v k : Nat} (hv : v < S.n) (hd : Def S L v k) : IsWay S (wayOf S L v k) k (anc S L v k) v ∧ wsum S (wayOf S L v k) k = sumB S L v k := by
  refine ⟨⟨fun i => anc S L v (k - i), rfl, by simp [anc], fun i hi => ?_⟩, ?_⟩
  · obtain ⟨e, h1, h2, h3, h4, _⟩ := h.step (h.anc_lt ok hv (hd.le (by omega : k - 1 - i ≤ k))) (hd (k - 1 - i) (by omega))
    refine ⟨e, h1, h2, ?_, ?_⟩
    · show S.F e = anc S L v (k - i)
      rw [show k - i = k - 1 - i + 1 from by omega, anc, h3]
    · show S.T e = anc S L v (k - (i + 1))
      rw [h4, show k - (i + 1) = k - 1 - i from by omega]
  · exact sumUp_rev k fun j => S.W (L (anc S L v j)).toNat
/-- of distances the way back's sum is the distance -/
theorem St.way_sum {k0 : Nat} (h : St S k0 D L) (ok : S.Ok) (hs : Shut S D) {v k : Nat} (hv : v < S.n) (hd : Def S L v k) : sumB S L v k + D (anc S L v k) = D v := by
  induction k with
  | zero => simp [sumB, sumUp, anc]
  | succ k ih =>
    have := ih (hd.le (by omega))
    obtain ⟨i, h1, _, h3, h4, _, h6, h7⟩ := h.inv.step (h.inv.anc_lt ok hv (hd.le (by omega : k ≤ k + 1))) (hd k (by omega))
    have := hs i h1 (by omega)
    rw [h4] at this
    simp only [sumB, sumUp, anc, h3] at *
    omega
end Diff
end Go.Proofs.Ytjhghkieghdoaaa
