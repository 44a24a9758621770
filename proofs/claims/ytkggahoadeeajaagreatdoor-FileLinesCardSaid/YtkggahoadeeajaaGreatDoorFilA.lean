/- Package file's texts, plainly: the lines of a plan's text, the first fault; blocks and rows of a call's own. -/
import Derived.Test.YtkggahoadeeajaaGreatDoorDeciLines
import Derived.Test.YtkggahoadeeajaaGreatDoorDeciWhole
import Derived.Test.YtkggahoadeeajaaGreatDoorDeciWrite
import Derived.Deep.QuietTactic
import Derived.BigQuiet
import Derived.Deep.AppendLies
import Derived.Lib.OwnKind
namespace Go.Proofs.YtkggahoadeeajaaGreatDoor
namespace Fil
open Go Go.RowKit Deci
set_option linter.unusedVariables false
/-! ### blocks -/
theorem grown_set (w : World) (a : Addr) (u : Value) : w.grownBy (w.setCell a u) (some a.block) :=
  ⟨rfl, rfl, rfl, by rw [World.size_setCell]; exact Nat.le_refl _, fun k _ hne => Below.heap_setCell w a u k (fun e => hne (by rw [e]))⟩
theorem grown_of {w w' : World} (h : Below w.heap.size w w') (row : Option Nat) : w.grownBy w' row := ⟨h.os, h.tape, h.output, h.size, fun k hk _ => h.block k hk⟩
theorem below_of {w w' : World} {N B : Nat} (h : w.grownBy w' (some B)) (hN : N ≤ B) (hB : B < w.heap.size) : Below N w w' :=
  ⟨h.os, h.tape, h.output, h.size, fun k hk => h.block k (by omega) (fun e => by cases e; omega)⟩
theorem grown_own {w w' : World} {B : Nat} (h : w.grownBy w' (some B)) {a : Addr} (ha : w.heap.size ≤ a.block) (u : Value) : w.grownBy (w'.setCell a u) (some B) :=
  ⟨h.os, h.tape, h.output, by rw [World.size_setCell]; exact h.size, fun k hk hne => (Below.heap_setCell _ _ _ _ (by omega)).trans (h.block k hk hne)⟩
theorem grown_row {w W W' : World} {B : Nat} (h : w.grownBy W (some B)) {row : Option Nat} (hg : W.grownBy W' row) (hr : ∀ g, row = some g → w.heap.size ≤ g) : w.grownBy W' (some B) :=
  ⟨hg.os.trans h.os, hg.tape.trans h.tape, hg.output.trans h.output, Nat.le_trans h.size hg.size, fun k hk hne => (hg.block k (Nat.lt_of_lt_of_le hk h.size) (fun e => absurd (hr k e.symm) (by omega))).trans (h.block k hk hne)⟩
theorem own_kept {w w' : World} {B b : Nat} {o : Obj} (hg : w.grownBy w' (some B)) (hB : B ≠ b) (h : w.heap[b]? = some o) : w'.heap[b]? = some o :=
  (hg.block b (Array.getElem?_eq_some_iff.1 h).1 (by intro e; injection e with e; exact hB e.symm)).trans h
theorem own_set {w : World} {H i : Nat} {cs : Array Value} {t : TypeId} (h : w.heap[H]? = some (.cells cs t)) (u : Value) : (w.setCell ⟨H, i, none⟩ u).heap[H]? = some (.cells (cs.setIfInBounds i u) t) := by
  simp [World.setCell, Array.getElem?_modify, h]
theorem own_other {w : World} {H K i : Nat} {o : Option Obj} (h : w.heap[H]? = o) (hne : H ≠ K) (u : Value) : (w.setCell ⟨K, i, none⟩ u).heap[H]? = o :=
  (Below.heap_setCell w ⟨K, i, none⟩ u H hne).trans h
theorem own_cell {w : World} {H i : Nat} {cs : Array Value} {t : TypeId} (h : w.heap[H]? = some (.cells cs t)) : w.cell? ⟨H, i, none⟩ = cs[i]? := by simp [World.cell?, h]
theorem own_free {w : World} {H i : Nat} {cs : Array Value} {t : TypeId} (h : w.heap[H]? = some (.cells cs t)) : w.frozen? ⟨H, i, none⟩ = false := by simp [World.frozen?, h]
theorem own_lt {w : World} {H : Nat} {o : Obj} (h : w.heap[H]? = some o) : H < w.heap.size := (Array.getElem?_eq_some_iff.1 h).1
theorem own_ne {w : World} {base size n : Nat} {e T : TypeId} {v : Value} {xs : List Value} {b : Nat} {cs : Array Value} (h : w.ownsRow base e size v n xs) (hb : w.heap[b]? = some (.cells cs T)) (hT : T ≠ e) : v.ownBlock ≠ some b := by
  intro hv
  obtain ⟨c, fz, hc⟩ := Go.Lib.ownsRow_kind h b hv
  rw [hb] at hc
  simp at hc
  exact hT hc.2.1
theorem own_ne2 {w : World} {base size n base' size' n' : Nat} {e e' : TypeId} {v v' : Value} {xs xs' : List Value} (h : w.ownsRow base e size v n xs) (h' : w.ownsRow base' e' size' v' n' xs') (hT : e' ≠ e) : v'.ownBlock = none ∨ v'.ownBlock ≠ v.ownBlock := by
  cases hv : v'.ownBlock with
  | none => exact .inl rfl
  | some b =>
    obtain ⟨c, fz, hc⟩ := Go.Lib.ownsRow_kind h' b hv
    refine .inr fun hh => ?_
    obtain ⟨c2, fz2, hc2⟩ := Go.Lib.ownsRow_kind h b hh.symm
    rw [hc] at hc2
    simp at hc2
    exact hT hc2.2.1
theorem own_ne_low {w : World} {base size n b : Nat} {e : TypeId} {v : Value} {xs : List Value} (h : w.ownsRow base e size v n xs) (hb : b < base) : v.ownBlock = none ∨ v.ownBlock ≠ some b := by
  cases hv : v.ownBlock with
  | none => exact .inl rfl
  | some g => exact .inr fun hh => by have h1 := (h.lt _ hv).1; injection hh with hh; omega
theorem own_none {w : World} {base size n : Nat} {e : TypeId} {v : Value} {xs : List Value} (_h : w.ownsRow base e size v n xs) : v.ownBlock = none ∨ v.ownBlock ≠ none := by
  cases v.ownBlock <;> simp
/-- A row that grows leaves those of other types. -/
theorem own_app {W W' : World} {e e' : TypeId} {size k size' k' base base' : Nat} {v v' : Value} {xs xs' : List Value} (hv : W.ownsRow base e size v k xs) (h : W.ownsRow base' e' size' v' k' xs') (hT : e' ≠ e) (hg : W.grownBy W' v.ownBlock) : W'.ownsRow base' e' size' v' k' xs' :=
  h.kept hg (own_ne2 hv h hT)
theorem own_slice {w : World} {base size n : Nat} {e : TypeId} {v : Value} {xs : List Value} (h : w.ownsRow base e size v n xs) : ∃ a c, v = .slice a n c := by
  rcases h.2 with ⟨rfl, rfl⟩ | ⟨g, cap, _, rfl, _⟩
  · exact ⟨_, _, rfl⟩
  · exact ⟨_, _, rfl⟩
theorem info_parts {P : Program} {t : TypeId} {v : Value} {a b : Nat} (h : (P.info? t).map (fun i => (i.zero, i.size, i.bytes)) = some (some v, a, b)) : ∃ i, P.info? t = some i ∧ i.zero = some v ∧ i.size = a ∧ i.bytes = b := by
  cases hh : P.info? t with
  | none => rw [hh] at h; simp at h
  | some i => rw [hh] at h; simp at h; exact ⟨i, rfl, h.1, h.2.1, h.2.2⟩
theorem cells_made {w : World} {l : List Value} {t : TypeId} : ∀ j u, l[j]? = some u → (w.alloc (.cells l.toArray t)).cell? ((⟨w.heap.size, 0, none⟩ : Addr).add j) = some u := by
  intro j u hj
  rw [Go.WideShapes.add_plain, Nat.zero_add]
  have h : (w.alloc (.cells l.toArray t)).heap[w.heap.size]? = some (.cells l.toArray t) := World.alloc_heap_new w _
  rw [own_cell h]; simpa using hj
theorem drew_heap (w : World) : w.drew.heap = w.heap := rfl
theorem info_int : (Tryz.prog.info? 3).map (fun i => (i.zero, i.size, i.bytes)) = some (some (.int .i64 0), 1, 8) := by kernel_rfl
theorem info_long : (Tryz.prog.info? 2).map (fun i => (i.zero, i.size, i.bytes)) = some (some (.int .i64 0), 1, 8) := by kernel_rfl
theorem info_ints : (Tryz.prog.info? 25).map (fun i => (i.zero, i.size, i.bytes)) = some (some (.slice none 0 0), 1, 24) := by kernel_rfl
theorem info_longs : (Tryz.prog.info? 55).map (fun i => (i.zero, i.size, i.bytes)) = some (some (.slice none 0 0), 1, 24) := by kernel_rfl
/-! ### slices of texts, of numbers, of such -/
/-- A slice that holds these texts. -/
def Strs (w : World) (v : Value) (ps : List ByteArray) : Prop :=
  ∃ a cap, v = .slice a ps.length cap ∧ ps.length ≤ cap ∧ (ps = [] ∨ ∃ g o, a = some ⟨g, o, none⟩ ∧ g < w.heap.size ∧ ∀ j (h : j < ps.length), w.cell? ⟨g, o + j, none⟩ = some (.string ps[j]))
theorem Strs.below {w w' : World} {v : Value} {ps : List ByteArray} (h : Strs w v ps) (hb : Below w.heap.size w w') : Strs w' v ps := by
  obtain ⟨a, cap, h1, h2, h3⟩ := h
  refine ⟨a, cap, h1, h2, h3.imp id ?_⟩
  rintro ⟨g, o, e, hlt, hc⟩
  exact ⟨g, o, e, Nat.lt_of_lt_of_le hlt hb.size, fun j hj => (hb.cell (p := ⟨g, o + j, none⟩) hlt).trans (hc j hj)⟩
/-- A slice that holds these numbers. -/
def IsRow (w : World) (v : Value) (xs : List Int) : Prop :=
  ∃ a cap, v = .slice a xs.length cap ∧ xs.length ≤ cap ∧ (xs = [] ∨ ∃ g o, a = some ⟨g, o, none⟩ ∧ g < w.heap.size ∧ ∀ j (h : j < xs.length), w.cell? ⟨g, o + j, none⟩ = some (.int .i64 xs[j]))
theorem IsRow.below {w w' : World} {v : Value} {xs : List Int} (h : IsRow w v xs) (hb : Below w.heap.size w w') : IsRow w' v xs := by
  obtain ⟨a, cap, h1, h2, h3⟩ := h
  refine ⟨a, cap, h1, h2, h3.imp id ?_⟩
  rintro ⟨g, o, e, hlt, hc⟩
  exact ⟨g, o, e, Nat.lt_of_lt_of_le hlt hb.size, fun j hj => (hb.cell (p := ⟨g, o + j, none⟩) hlt).trans (hc j hj)⟩
theorem isRow_nil (w : World) : IsRow w (.slice none 0 0) [] := ⟨none, 0, rfl, Nat.le_refl _, .inl rfl⟩
/-- A slice that holds these rows. -/
def IsRows (w : World) (v : Value) (rs : List (List Int)) : Prop :=
  ∃ a cap, v = .slice a rs.length cap ∧ rs.length ≤ cap ∧ (rs = [] ∨ ∃ g o, a = some ⟨g, o, none⟩ ∧ g < w.heap.size ∧ ∀ j (h : j < rs.length), ∃ u, w.cell? ⟨g, o + j, none⟩ = some u ∧ IsRow w u rs[j])
theorem IsRows.below {w w' : World} {v : Value} {rs : List (List Int)} (h : IsRows w v rs) (hb : Below w.heap.size w w') : IsRows w' v rs := by
  obtain ⟨a, cap, h1, h2, h3⟩ := h
  refine ⟨a, cap, h1, h2, h3.imp id ?_⟩
  rintro ⟨g, o, e, hlt, hc⟩
  refine ⟨g, o, e, Nat.lt_of_lt_of_le hlt hb.size, fun j hj => ?_⟩
  obtain ⟨u, hu, hr⟩ := hc j hj
  exact ⟨u, (hb.cell (p := ⟨g, o + j, none⟩) hlt).trans hu, hr.below hb⟩
theorem isRows_nil (w : World) : IsRows w (.slice none 0 0) [] := ⟨none, 0, rfl, Nat.le_refl _, .inl rfl⟩
/-- A plan, plainly, and as a value. -/
structure PL where
  routes : List (List Int)
  times : List (List Int)
  left : List Int
  cost : Int
def PL.none : PL := ⟨[], [], [], 0⟩
def IsPlan (w : World) (v : Value) (p : PL) : Prop :=
  ∃ vr vt vl, v = .agg #[vr, vt, vl, .int .i64 p.cost] ∧ IsRows w vr p.routes ∧ IsRows w vt p.times ∧ IsRow w vl p.left
theorem IsPlan.below {w w' : World} {v : Value} {p : PL} (h : IsPlan w v p) (hb : Below w.heap.size w w') : IsPlan w' v p := by
  obtain ⟨vr, vt, vl, h0, h1, h2, h3⟩ := h
  exact ⟨vr, vt, vl, h0, h1.below hb, h2.below hb, h3.below hb⟩
theorem IsRow.form {w : World} {v : Value} {xs : List Int} (h : IsRow w v xs) : ∃ a cap, v = .slice a xs.length cap := by obtain ⟨a, c, h, -⟩ := h; exact ⟨a, c, h⟩
theorem IsRows.form {w : World} {v : Value} {xs : List (List Int)} (h : IsRows w v xs) : ∃ a cap, v = .slice a xs.length cap := by obtain ⟨a, c, h, -⟩ := h; exact ⟨a, c, h⟩
theorem isPlan_none (w : World) : IsPlan w (.agg #[.slice .none 0 0, .slice .none 0 0, .slice .none 0 0, .int .i64 0]) PL.none :=
  ⟨_, _, _, rfl, isRows_nil w, isRows_nil w, isRow_nil w⟩
/-! ### rows that the call makes -/
/-- Numbers in a block of the call's own. -/
def Deep (base : Nat) (T : TypeId) (xs : List Int) (v : Value) (W : World) : Prop :=
  ∃ a cap, v = .slice a xs.length cap ∧ xs.length ≤ cap ∧ (xs = [] ∨ ∃ g cur, a = some ⟨g, 0, none⟩ ∧ base ≤ g ∧ W.heap[g]? = some (.cells cur T) ∧ ∀ t (h : t < xs.length), cur[t]? = some (.int .i64 xs[t]))
theorem Deep.far {base : Nat} {T : TypeId} {xs : List Int} {v : Value} {W W' : World} (h : Deep base T xs v W) (hk : ∀ g cur, base ≤ g → W.heap[g]? = some (.cells cur T) → W'.heap[g]? = some (.cells cur T)) : Deep base T xs v W' := by
  obtain ⟨a, cap, h1, h2, h3⟩ := h
  refine ⟨a, cap, h1, h2, h3.imp id ?_⟩
  rintro ⟨g, cur, e, hb, hg, hc⟩
  exact ⟨g, cur, e, hb, hk g cur hb hg, hc⟩
theorem Deep.isRow {base : Nat} {T : TypeId} {xs : List Int} {v : Value} {W : World} (h : Deep base T xs v W) : IsRow W v xs := by
  obtain ⟨a, cap, h1, h2, h3⟩ := h
  refine ⟨a, cap, h1, h2, h3.imp id ?_⟩
  rintro ⟨g, cur, e, hb, hg, hc⟩
  exact ⟨g, 0, e, own_lt hg, fun j hj => by rw [Nat.zero_add]; exact (own_cell hg).trans (hc j hj)⟩
theorem deep_of {base : Nat} {T : TypeId} {xs : List Int} {v : Value} {W : World} (h : W.ownsRow base T 1 v xs.length (xs.map (Value.int .i64))) : Deep base T xs v W := by
  rcases h.2 with ⟨rfl, h0⟩ | ⟨g, cap, cur, rfl, hb, hg, h1, _, h2, h3⟩
  · exact ⟨none, 0, by rw [h0], by omega, .inl (List.eq_nil_of_length_eq_zero h0)⟩
  · refine ⟨_, cap, rfl, h1, .inr ⟨g, cur, rfl, hb, hg, fun t ht => ?_⟩⟩
    have := congrArg (·[t]?) h3
    simp only [Nat.mul_one] at this
    rw [List.getElem?_take, if_pos ht, List.getElem?_map, List.getElem?_eq_getElem ht] at this
    simpa using this
theorem Deep.mono {base base' : Nat} {T : TypeId} {xs : List Int} {v : Value} {W : World} (h : Deep base T xs v W) (hb : base' ≤ base) : Deep base' T xs v W := by
  obtain ⟨a, cap, h1, h2, h3⟩ := h
  refine ⟨a, cap, h1, h2, h3.imp id ?_⟩
  rintro ⟨g, cur, e, hg, r⟩
  exact ⟨g, cur, e, Nat.le_trans hb hg, r⟩
/-- Rows of numbers in blocks of the call's own. -/
def Rows (base : Nat) (TT T : TypeId) (rs : List (List Int)) (v : Value) (W : World) : Prop :=
  ∃ vs : List Value, W.ownsRow base TT 1 v rs.length vs ∧ vs.length = rs.length ∧ ∀ j (h : j < rs.length) (h' : j < vs.length), Deep base T rs[j] vs[j] W
section
variable {base : Nat} {TT T : TypeId} {rs : List (List Int)} {v v' u : Value} {W W' : World}
theorem rows_nil (base : Nat) (TT T : TypeId) (W : World) : Rows base TT T [] (.slice none 0 0) W := ⟨[], World.ownsRow_nil _ _ _ _, rfl, fun j h => absurd h (by simp)⟩
theorem Rows.isRows (h : Rows base TT T rs v W) : IsRows W v rs := by
  obtain ⟨vs, ho, hl, hd⟩ := h
  rcases ho.2 with ⟨rfl, h0⟩ | ⟨g, cap, cur, rfl, hb, hg, h1, _, h2, h3⟩
  · exact ⟨none, 0, by rw [h0], by omega, .inl (List.eq_nil_of_length_eq_zero h0)⟩
  · refine ⟨_, cap, rfl, h1, .inr ⟨g, 0, rfl, own_lt hg, fun j hj => ?_⟩⟩
    have hj' : j < vs.length := by omega
    refine ⟨vs[j], ?_, (hd j hj hj').isRow⟩
    have := congrArg (·[j]?) h3
    simp only [Nat.mul_one] at this
    rw [List.getElem?_take, if_pos hj, List.getElem?_eq_getElem hj'] at this
    rw [Nat.zero_add, own_cell hg]
    simpa using this
theorem Rows.slice (h : Rows base TT T rs v W) : ∃ a c, v = .slice a rs.length c := by obtain ⟨vs, ho, -⟩ := h; exact own_slice ho
/-- What turns nothing but a block ahead of the base. -/
theorem Rows.call {b : Nat} (h : Rows base TT T rs v W) (hg : W.grownBy W' (some b)) (hb : b < base) : Rows base TT T rs v W' := by
  obtain ⟨vs, ho, hl, hd⟩ := h
  exact ⟨vs, ho.kept hg (own_ne_low ho hb), hl, fun j h h' => (hd j h h').far fun _ _ hg' hh => own_kept hg (by omega) hh⟩
theorem Rows.below (h : Rows base TT T rs v W) (hb : Below W.heap.size W W') : Rows base TT T rs v W' := by
  obtain ⟨vs, ho, hl, hd⟩ := h
  exact ⟨vs, ho.kept (grown_of hb none) (own_none ho), hl, fun j h h' => (hd j h h').far fun g _ _ hh => (hb.block g (own_lt hh)).trans hh⟩
/-- A store into a block of another type. -/
theorem Rows.put {X f : Nat} {cs : Array Value} {S : TypeId} (h : Rows base TT T rs v W) (hb : W.heap[X]? = some (.cells cs S)) (h1 : S ≠ TT) (h2 : S ≠ T) (u : Value) : Rows base TT T rs v (W.setCell ⟨X, f, none⟩ u) := by
  obtain ⟨vs, ho, hl, hd⟩ := h
  exact ⟨vs, ownsRow_setCell_other ho (own_ne ho hb h1) u, hl, fun j h h' => (hd j h h').far fun g cur _ hh => own_other hh (by rintro rfl; rw [hb] at hh; simp at hh; exact h2 hh.2) u⟩
/-- Rows of other types grow. -/
theorem Rows.app {base' size k : Nat} {e : TypeId} {xs : List Value} (h : Rows base TT T rs v W) (hv : W.ownsRow base' e size v' k xs) (h1 : TT ≠ e) (h2 : T ≠ e) (hg : W.grownBy W' v'.ownBlock) : Rows base TT T rs v W' := by
  obtain ⟨vs, ho, hl, hd⟩ := h
  exact ⟨vs, own_app hv ho h1 hg, hl, fun j h h' => (hd j h h').far fun g cur _ hh => (hg.block g (own_lt hh) (fun e => own_ne hv hh h2 e.symm)).trans hh⟩
/-- One row more. -/
theorem Rows.snoc {xs : List Int} {vs : List Value} (ho : W.ownsRow base TT 1 v rs.length vs) (hl : vs.length = rs.length) (hd : ∀ j (h : j < rs.length) (h' : j < vs.length), Deep base T rs[j] vs[j] W) (hT : T ≠ TT)
    (hx : Deep base T xs u W) (ho' : W'.ownsRow base TT 1 v' (rs.length + 1) (vs ++ [u])) (hg : W.grownBy W' v.ownBlock) : Rows base TT T (rs ++ [xs]) v' W' := by
  have k : ∀ {ys : List Int} {x : Value}, Deep base T ys x W → Deep base T ys x W' := fun hx => hx.far fun g cur _ hh => (hg.block g (own_lt hh) (fun e => own_ne ho hh hT e.symm)).trans hh
  refine ⟨vs ++ [u], by simpa using ho', by simp [hl], fun j h h' => ?_⟩
  by_cases hj : j < rs.length
  · have hj' : j < vs.length := by omega
    rw [List.getElem_append_left hj, List.getElem_append_left hj']
    exact k (hd j hj hj')
  · obtain rfl : j = rs.length := by simp at h; omega
    have e1 : (rs ++ [xs])[rs.length]'h = xs := by simp
    have e2 : (vs ++ [u])[rs.length]'h' = u := by simp [← hl]
    rw [e1, e2]
    exact k hx
end
/-! ### the reader's plain answers -/
def twoE (a b : Int) : Int := if a = 0 then b else a
theorem twoE_ok (b : Int) : twoE 0 b = b := by simp [twoE]
theorem twoE_no {a : Int} (b : Int) (h : a ≠ 0) : twoE a b = a := by simp [twoE, h]
theorem twoE_zero {a b : Int} (h : twoE a b = 0) : a = 0 ∧ b = 0 := by
  unfold twoE at h
  split at h
  · exact ⟨by assumption, h⟩
  · exact absurd h (by assumption)
/-- The error of the next line, and its words behind the first one. -/
def lineE (l name : ByteArray) : Int := if wordsE l.data.toList = 0 ∧ (wordsP l.data.toList).head? = some name then 0 else 21
def nextE (L : List ByteArray) (n : Nat) (name : ByteArray) : Int := if h : n < L.length then lineE L[n] name else 20
def nextW (L : List ByteArray) (n : Nat) : List ByteArray := if h : n < L.length then (wordsP L[n].data.toList).tail else []
/-- A time: a decimal that isn't below 0. -/
def timeE (l : List UInt8) : Int := if readV l 0 < 0 then 23 else readE l 0
def timeV (l : List UInt8) : Int := if readV l 0 < 0 then 0 else readV l 0
/-- The numbers of some words; the first error. b: are they times? -/
def oneE (b : Bool) (p : ByteArray) : Int := if b then timeE p.data.toList else wholeE p.data.toList
def oneV (b : Bool) (p : ByteArray) : Int := if b then timeV p.data.toList else wholeV p.data.toList
def numsE (b : Bool) : List ByteArray → Int
  | [] => 0
  | p :: ps => twoE (oneE b p) (numsE b ps)
def numsV (b : Bool) (ws : List ByteArray) : List Int := ws.map (oneV b)
theorem nums_drop {b : Bool} {ws : List ByteArray} {k : Nat} (h : k < ws.length) : numsE b (ws.drop k) = twoE (oneE b ws[k]) (numsE b (ws.drop (k + 1))) := by
  rw [List.drop_eq_getElem_cons h]; rfl
def wPlan : ByteArray := ⟨#[112, 108, 97, 110]⟩
def wRoute : ByteArray := ⟨#[114, 111, 117, 116, 101]⟩
def wTimes : ByteArray := ⟨#[116, 105, 109, 101, 115]⟩
def wLeft : ByteArray := ⟨#[108, 101, 102, 116]⟩
/-- A line of so many words as there are stops at most. -/
def listE (L : List ByteArray) (n : Nat) (name : ByteArray) : Int := twoE (nextE L n name) (if 4096 < (nextW L n).length then 3 else 0)
def wAt (L : List ByteArray) (n k : Nat) : ByteArray := (nextW L n).getD k ⟨#[]⟩
def headE (L : List ByteArray) : Int :=
  twoE (nextE L 0 wPlan) (if (nextW L 0).length = 2 then twoE (wholeE (wAt L 0 0).data.toList) (twoE (timeE (wAt L 0 1).data.toList) (if 64 < wholeV (wAt L 0 0).data.toList then 3 else 0)) else 21)
def rowsN (L : List ByteArray) : Int := wholeV (wAt L 0 0).data.toList
def costV (L : List ByteArray) : Int := timeV (wAt L 0 1).data.toList
def routeE (L : List ByteArray) (n : Nat) : Int := twoE (listE L n wRoute) (if nextW L n = [] then 21 else numsE false (nextW L n))
def timesE (L : List ByteArray) (n k : Nat) : Int := twoE (listE L n wTimes) (if (nextW L n).length ≠ 0 ∧ (nextW L n).length ≠ k then 1 else numsE true (nextW L n))
def leftE (L : List ByteArray) (n : Nat) : Int := twoE (listE L n wLeft) (numsE false (nextW L n))
def endE (L : List ByteArray) (n : Nat) : Int := if n < L.length then 22 else 0
/-- The rows of the lines from n on, k of them; the first fault there: its line, its error (0: none). -/
def rowsR (L : List ByteArray) : Nat → Nat → List (List Int)
  | _, 0 => []
  | n, k + 1 => numsV false (nextW L n) :: rowsR L (n + 2) k
def rowsT (L : List ByteArray) : Nat → Nat → List (List Int)
  | _, 0 => []
  | n, k + 1 => numsV true (nextW L (n + 1)) :: rowsT L (n + 2) k
def rowsF (L : List ByteArray) : Nat → Nat → Nat × Int
  | _, 0 => (0, 0)
  | n, k + 1 => if routeE L n ≠ 0 then (n + 1, routeE L n) else if timesE L (n + 1) (nextW L n).length ≠ 0 then (n + 2, timesE L (n + 1) (nextW L n).length) else rowsF L (n + 2) k
/-- Behind the rows: the line of those who are left, and the end. -/
def tailF (L : List ByteArray) (n : Nat) : Nat × Int := if leftE L n ≠ 0 then (n + 1, leftE L n) else if endE L (n + 1) ≠ 0 then (n + 2, endE L (n + 1)) else (0, 0)
def allF (L : List ByteArray) (n k : Nat) : Nat × Int := if (rowsF L n k).2 ≠ 0 then rowsF L n k else tailF L (n + 2 * k)
def planF (L : List ByteArray) : Nat × Int := if headE L ≠ 0 then (1, headE L) else allF L 1 (rowsN L).toNat
/-- The line and the error of a text; its plan. -/
def readF (l : List UInt8) : Nat × Int := if linesE l ≠ 0 then (0, linesE l) else planF (linesP l)
def planP (L : List ByteArray) : PL := ⟨rowsR L 1 (rowsN L).toNat, rowsT L 1 (rowsN L).toNat, numsV false (nextW L (1 + 2 * (rowsN L).toNat)), costV L⟩
def parseP (l : List UInt8) : PL := if (readF l).2 = 0 then planP (linesP l) else PL.none
theorem rowsR_snoc (L : List ByteArray) : ∀ k n, rowsR L n (k + 1) = rowsR L n k ++ [numsV false (nextW L (n + 2 * k))]
  | 0, n => by simp [rowsR]
  | k + 1, n => by rw [rowsR, rowsR_snoc L k (n + 2), rowsR, show n + 2 + 2 * k = n + 2 * (k + 1) by omega]; rfl
theorem rowsT_snoc (L : List ByteArray) : ∀ k n, rowsT L n (k + 1) = rowsT L n k ++ [numsV true (nextW L (n + 2 * k + 1))]
  | 0, n => by simp [rowsT]
  | k + 1, n => by rw [rowsT, rowsT_snoc L k (n + 2), rowsT, show n + 2 + 2 * k + 1 = n + 2 * (k + 1) + 1 by omega]; rfl
theorem rowsR_len (L : List ByteArray) : ∀ k n, (rowsR L n k).length = k
  | 0, n => rfl
  | k + 1, n => by rw [rowsR, List.length_cons, rowsR_len]
theorem rowsT_len (L : List ByteArray) : ∀ k n, (rowsT L n k).length = k
  | 0, n => rfl
  | k + 1, n => by rw [rowsT, List.length_cons, rowsT_len]
theorem lineE_cases (l name : ByteArray) : lineE l name = 0 ∨ lineE l name = 21 := by unfold lineE; split <;> simp
theorem words_size (l : List UInt8) : ∀ p ∈ wordsP l, p.size ≤ l.length := by
  intro p hp
  unfold wordsP at hp
  split at hp
  · simp at hp
  · split at hp
    · obtain ⟨q, hq, rfl⟩ := List.mem_map.1 hp
      have := pcs_mem 32 l [] q hq
      simpa [strOf, ByteArray.size] using this
    · simp at hp
theorem words_many (l : List UInt8) : (wordsP l).length ≤ l.length + 1 := by
  unfold wordsP
  split
  · simp
  · split
    · rw [List.length_map]; exact pcs_length 32 l []
    · simp
theorem lines_size (l : List UInt8) : ∀ p ∈ linesP l, p.size ≤ l.length := by
  intro p hp
  unfold linesP at hp
  split at hp
  · simp at hp
  · split at hp
    · obtain ⟨q, hq, rfl⟩ := List.mem_map.1 hp
      have := pcs_mem 10 l [] q ((List.dropLast_sublist _).subset hq)
      simpa [strOf, ByteArray.size] using this
    · simp at hp
theorem lines_many (l : List UInt8) : (linesP l).length ≤ l.length + 1 := by
  unfold linesP
  split
  · simp
  · split
    · rw [List.length_map, List.length_dropLast]; have := pcs_length 10 l []; omega
    · simp
theorem nextW_size {L : List ByteArray} {n m : Nat} (hl : ∀ s ∈ L, s.size ≤ m) : ∀ p ∈ nextW L n, p.size ≤ m := by
  intro p hp
  unfold nextW at hp
  split at hp
  · rename_i hn
    have h1 := words_size _ p (List.mem_of_mem_tail hp)
    have h2 := hl _ (List.getElem_mem hn)
    have h3 : L[n].data.toList.length = L[n].size := by simp
    omega
  · simp at hp
theorem nextW_many {L : List ByteArray} {n m : Nat} (hl : ∀ s ∈ L, s.size ≤ m) : (nextW L n).length ≤ m := by
  unfold nextW
  split
  · rename_i hn
    have h1 := words_many L[n].data.toList
    have h2 := hl _ (List.getElem_mem hn)
    have h3 : L[n].data.toList.length = L[n].size := by simp
    rw [List.length_tail]; omega
  · simp
theorem read_out (l : List UInt8) (s : Int) : readE l s ≠ 0 → readV l s = 0 := by
  unfold readE readV
  split
  · simp
  · split
    · simp
    · split <;> simp
end Fil
end Go.Proofs.YtkggahoadeeajaaGreatDoor
