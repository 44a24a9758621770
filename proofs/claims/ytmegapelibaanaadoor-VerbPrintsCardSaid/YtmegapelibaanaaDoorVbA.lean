/- Package verb's commands, plainly and as values; blocks and rows of a call's own; what the world holds. -/
import Derived.Test.YtmegapelibaanaaDoorDeciLines
import Derived.Test.YtmegapelibaanaaDoorDeciWhole
import Derived.Test.YtmegapelibaanaaDoorDeciWrite
import Derived.Deep.QuietTactic
import Derived.BigQuiet
import Derived.Deep.AppendLies
import Derived.Lib.OwnKind
namespace Go.Proofs.YtmegapelibaanaaDoor
namespace Vb
open Go Go.RowKit Deci
set_option linter.unusedVariables false
/-! ### blocks -/
theorem grown_set (w : World) (a : Addr) (u : Value) : w.grownBy (w.setCell a u) (some a.block) :=
  ⟨rfl, rfl, rfl, by rw [World.size_setCell]; exact Nat.le_refl _, fun k _ hne => Below.heap_setCell w a u k (fun e => hne (by rw [e]))⟩
theorem grown_of {w w' : World} (h : Below w.heap.size w w') (row : Option Nat) : w.grownBy w' row := ⟨h.os, h.tape, h.output, h.size, fun k hk _ => h.block k hk⟩
theorem below_of {w w' : World} {N B : Nat} (h : w.grownBy w' (some B)) (hN : N ≤ B) (hB : B < w.heap.size) : Below N w w' :=
  ⟨h.os, h.tape, h.output, h.size, fun k hk => h.block k (by omega) (fun e => by cases e; omega)⟩
theorem grown_own {w w' : World} {B : Nat} (h : w.grownBy w' (some B)) {a : Addr} (ha : w.heap.size ≤ a.block) (u : Value) : w.grownBy (w'.setCell a u) (some B) :=
  ⟨h.os, h.tape, h.output, by rw [World.size_setCell]; exact h.size, fun k hk hne => (Below.heap_setCell _ _ _ _ (by omega)).trans (h.block k hk hne)⟩
theorem grown_row {w W W' : World} {B : Nat} (h : w.grownBy W (some B)) {row : Option Nat} (hg : W.grownBy W' row) (hr : ∀ g, row = some g → w.heap.size ≤ g) : w.grownBy W' (some B) :=
  ⟨hg.os.trans h.os, hg.tape.trans h.tape, hg.output.trans h.output, Nat.le_trans h.size hg.size, fun k hk hne => (hg.block k (Nat.lt_of_lt_of_le hk h.size) (fun e => absurd (hr k e.symm) (by omega))).trans (h.block k hk hne)⟩
theorem own_kept {w w' : World} {B b : Nat} {o : Obj} (hg : w.grownBy w' (some B)) (hB : B ≠ b) (h : w.heap[b]? = some o) : w'.heap[b]? = some o :=
  (hg.block b (Array.getElem?_eq_some_iff.1 h).1 (by intro e; injection e with e; exact hB e.symm)).trans h
theorem own_set {w : World} {H i : Nat} {cs : Array Value} {t : TypeId} (h : w.heap[H]? = some (.cells cs t)) (u : Value) : (w.setCell ⟨H, i, none⟩ u).heap[H]? = some (.cells (cs.setIfInBounds i u) t) := by
  simp [World.setCell, Array.getElem?_modify, h]
theorem own_other {w : World} {H K i : Nat} {o : Option Obj} (h : w.heap[H]? = o) (hne : H ≠ K) (u : Value) : (w.setCell ⟨K, i, none⟩ u).heap[H]? = o :=
  (Below.heap_setCell w ⟨K, i, none⟩ u H hne).trans h
theorem own_cell {w : World} {H i : Nat} {cs : Array Value} {t : TypeId} (h : w.heap[H]? = some (.cells cs t)) : w.cell? ⟨H, i, none⟩ = cs[i]? := by simp [World.cell?, h]
theorem own_free {w : World} {H i : Nat} {cs : Array Value} {t : TypeId} (h : w.heap[H]? = some (.cells cs t)) : w.frozen? ⟨H, i, none⟩ = false := by simp [World.frozen?, h]
theorem own_lt {w : World} {H : Nat} {o : Obj} (h : w.heap[H]? = some o) : H < w.heap.size := (Array.getElem?_eq_some_iff.1 h).1
theorem own_ne {w : World} {base size n : Nat} {e T : TypeId} {v : Value} {xs : List Value} {b : Nat} {cs : Array Value} (h : w.ownsRow base e size v n xs) (hb : w.heap[b]? = some (.cells cs T)) (hT : T ≠ e) : v.ownBlock ≠ some b := by
  intro hv
  obtain ⟨c, fz, hc⟩ := Go.Lib.ownsRow_kind h b hv
  rw [hb] at hc
  simp at hc
  exact hT hc.2.1
theorem own_ne2 {w : World} {base size n base' size' n' : Nat} {e e' : TypeId} {v v' : Value} {xs xs' : List Value} (h : w.ownsRow base e size v n xs) (h' : w.ownsRow base' e' size' v' n' xs') (hT : e' ≠ e) : v'.ownBlock = none ∨ v'.ownBlock ≠ v.ownBlock := by
  cases hv : v'.ownBlock with
  | none => exact .inl rfl
  | some b =>
    obtain ⟨c, fz, hc⟩ := Go.Lib.ownsRow_kind h' b hv
    refine .inr fun hh => ?_
    obtain ⟨c2, fz2, hc2⟩ := Go.Lib.ownsRow_kind h b hh.symm
    rw [hc] at hc2
    simp at hc2
    exact hT hc2.2.1
theorem own_ne_low {w : World} {base size n b : Nat} {e : TypeId} {v : Value} {xs : List Value} (h : w.ownsRow base e size v n xs) (hb : b < base) : v.ownBlock = none ∨ v.ownBlock ≠ some b := by
  cases hv : v.ownBlock with
  | none => exact .inl rfl
  | some g => exact .inr fun hh => by have h1 := (h.lt _ hv).1; injection hh with hh; omega
theorem own_none {w : World} {base size n : Nat} {e : TypeId} {v : Value} {xs : List Value} (_h : w.ownsRow base e size v n xs) : v.ownBlock = none ∨ v.ownBlock ≠ none := by
  cases v.ownBlock <;> simp
/-- A row that grows leaves those of other types. -/
theorem own_app {W W' : World} {e e' : TypeId} {size k size' k' base base' : Nat} {v v' : Value} {xs xs' : List Value} (hv : W.ownsRow base e size v k xs) (h : W.ownsRow base' e' size' v' k' xs') (hT : e' ≠ e) (hg : W.grownBy W' v.ownBlock) : W'.ownsRow base' e' size' v' k' xs' :=
  h.kept hg (own_ne2 hv h hT)
theorem own_slice {w : World} {base size n : Nat} {e : TypeId} {v : Value} {xs : List Value} (h : w.ownsRow base e size v n xs) : ∃ a c, v = .slice a n c := by
  rcases h.2 with ⟨rfl, rfl⟩ | ⟨g, cap, _, rfl, _⟩
  · exact ⟨_, _, rfl⟩
  · exact ⟨_, _, rfl⟩
theorem info_parts {P : Program} {t : TypeId} {v : Value} {a b : Nat} (h : (P.info? t).map (fun i => (i.zero, i.size, i.bytes)) = some (some v, a, b)) : ∃ i, P.info? t = some i ∧ i.zero = some v ∧ i.size = a ∧ i.bytes = b := by
  cases hh : P.info? t with
  | none => rw [hh] at h; simp at h
  | some i => rw [hh] at h; simp at h; exact ⟨i, rfl, h.1, h.2.1, h.2.2⟩
theorem cells_made {w : World} {l : List Value} {t : TypeId} : ∀ j u, l[j]? = some u → (w.alloc (.cells l.toArray t)).cell? ((⟨w.heap.size, 0, none⟩ : Addr).add j) = some u := by
  intro j u hj
  rw [Go.WideShapes.add_plain, Nat.zero_add]
  have h : (w.alloc (.cells l.toArray t)).heap[w.heap.size]? = some (.cells l.toArray t) := World.alloc_heap_new w _
  rw [own_cell h]; simpa using hj
theorem drew_heap (w : World) : w.drew.heap = w.heap := rfl
/-! ### slices of texts -/
/-- A slice that holds these texts. -/
def Strs (w : World) (v : Value) (ps : List ByteArray) : Prop :=
  ∃ a cap, v = .slice a ps.length cap ∧ ps.length ≤ cap ∧ (ps = [] ∨ ∃ g o, a = some ⟨g, o, none⟩ ∧ g < w.heap.size ∧ ∀ j (h : j < ps.length), w.cell? ⟨g, o + j, none⟩ = some (.string ps[j]))
theorem Strs.below {w w' : World} {v : Value} {ps : List ByteArray} (h : Strs w v ps) (hb : Below w.heap.size w w') : Strs w' v ps := by
  obtain ⟨a, cap, h1, h2, h3⟩ := h
  refine ⟨a, cap, h1, h2, h3.imp id ?_⟩
  rintro ⟨g, o, e, hlt, hc⟩
  exact ⟨g, o, e, Nat.lt_of_lt_of_le hlt hb.size, fun j hj => (hb.cell (p := ⟨g, o + j, none⟩) hlt).trans (hc j hj)⟩
/-! ### the tables -/
/-- The kinds' names, how many numbers stand behind each. -/
def nameL : Nat → List UInt8
  | 1 => [108, 111, 97, 100] | 2 => [97, 100, 100] | 3 => [99, 97, 110, 99, 101, 108] | 4 => [116, 105, 99, 107]
  | 5 => [115, 111, 108, 118, 101] | 6 => [114, 101, 112, 111, 114, 116] | 7 => [116, 105, 99, 107, 101, 116, 115] | _ => []
def nameS (k : Nat) : ByteArray := strOf (nameL k)
def cntN : Nat → Int
  | 1 => 1 | 2 => 1 | 3 => 1 | 4 => 1 | 5 => 2 | _ => 0
/-- WHAT THE WORLD HOLDS: the library's tables, and package verb's two. -/
structure EnvV (w : World) : Prop where
  base : Env w
  names : ∀ j, j < 8 → w.cell? ⟨0, j, none⟩ = some (.string (nameS j))
  counts : ∀ j, j < 8 → w.cell? ⟨2, j, none⟩ = some (.int .i64 (cntN j))
theorem EnvV.below {w w' : World} (h : EnvV w) (hb : Below w.heap.size w w') : EnvV w' := by
  have h1 : 0 < w.heap.size := World.block_lt_of_cell? _ _ (h.names 0 (by decide))
  have h2 : 2 < w.heap.size := World.block_lt_of_cell? _ _ (h.counts 0 (by decide))
  exact ⟨h.base.below hb, fun j hj => (hb.cell (p := ⟨_, j, none⟩) h1).trans (h.names j hj), fun j hj => (hb.cell (p := ⟨_, j, none⟩) h2).trans (h.counts j hj)⟩
/-- The world's facts, for whatever turns behind block N. -/
def EnvAt (N : Nat) (w : World) : Prop := ∀ w', Below N w w' → EnvV w'
theorem EnvAt.env {N : Nat} {w : World} (h : EnvAt N w) : EnvV w := h w (Below.refl _ _)
theorem EnvAt.below {N : Nat} {w w' : World} (h : EnvAt N w) (hb : Below N w w') : EnvAt N w' := fun x hx => h x (hb.trans hx)
theorem EnvAt.mono {N N' : Nat} {w : World} (h : EnvAt N w) (hN : N ≤ N') : EnvAt N' w := fun w' hb => h w' (hb.mono hN)
theorem env_at {w : World} (h : EnvV w) : EnvAt w.heap.size w := fun _ hb => h.below hb
/-! ### rows of numbers -/
/-- A slice of numbers. -/
def IsXs (w : World) (v : Value) (xs : List Int) : Prop :=
  ∃ a cap, v = .slice a xs.length cap ∧ xs.length ≤ cap ∧ (a = none → cap = 0) ∧ (xs = [] ∨ ∃ g o, a = some ⟨g, o, none⟩ ∧ g < w.heap.size ∧ ∀ j (h : j < xs.length), w.cell? ⟨g, o + j, none⟩ = some (.int .i64 xs[j]))
theorem IsXs.below {w w' : World} {v : Value} {xs : List Int} (h : IsXs w v xs) (hb : Below w.heap.size w w') : IsXs w' v xs := by
  obtain ⟨a, cap, h1, h2, h0, h3⟩ := h
  refine ⟨a, cap, h1, h2, h0, h3.imp id ?_⟩
  rintro ⟨g, o, e, hlt, hc⟩
  exact ⟨g, o, e, Nat.lt_of_lt_of_le hlt hb.size, fun j hj => (hb.cell (p := ⟨g, o + j, none⟩) hlt).trans (hc j hj)⟩
theorem isXs_nil (w : World) : IsXs w (.slice none 0 0) [] := ⟨none, 0, rfl, Nat.le_refl _, fun _ => rfl, .inl rfl⟩
theorem IsXs.form {w : World} {v : Value} {xs : List Int} (h : IsXs w v xs) : ∃ a cap, v = .slice a xs.length cap := by obtain ⟨a, c, h, -⟩ := h; exact ⟨a, c, h⟩
/-- A slice of numbers in a block of the call's own. -/
def OwnXs (B : Nat) (w : World) (v : Value) (xs : List Int) : Prop :=
  ∃ a cap, v = .slice a xs.length cap ∧ xs.length ≤ cap ∧ (a = none → cap = 0) ∧ (xs = [] ∨ ∃ g o cur, a = some ⟨g, o, none⟩ ∧ B ≤ g ∧ w.heap[g]? = some (.cells cur 3) ∧ ∀ j (h : j < xs.length), cur[o + j]? = some (.int .i64 xs[j]))
theorem OwnXs.is {B : Nat} {w : World} {v : Value} {xs : List Int} (h : OwnXs B w v xs) : IsXs w v xs := by
  obtain ⟨a, cap, h1, h2, h0, h3⟩ := h
  refine ⟨a, cap, h1, h2, h0, h3.imp id ?_⟩
  rintro ⟨g, o, cur, e, -, hg, hc⟩
  exact ⟨g, o, e, own_lt hg, fun j hj => (own_cell hg).trans (hc j hj)⟩
theorem OwnXs.nil (B : Nat) (w : World) : OwnXs B w (.slice none 0 0) [] := ⟨none, 0, rfl, Nat.le_refl _, fun _ => rfl, .inl rfl⟩
theorem OwnXs.below {B : Nat} {w w' : World} {v : Value} {xs : List Int} (h : OwnXs B w v xs) (hb : Below w.heap.size w w') : OwnXs B w' v xs := by
  obtain ⟨a, cap, h1, h2, h0, h3⟩ := h
  refine ⟨a, cap, h1, h2, h0, h3.imp id ?_⟩
  rintro ⟨g, o, cur, e, hB, hg, hc⟩
  exact ⟨g, o, cur, e, hB, (hb.block g (own_lt hg)).trans hg, hc⟩
theorem OwnXs.mono {B B' : Nat} {w : World} {v : Value} {xs : List Int} (h : OwnXs B w v xs) (hB : B' ≤ B) : OwnXs B' w v xs := by
  obtain ⟨a, cap, h1, h2, h0, h3⟩ := h
  refine ⟨a, cap, h1, h2, h0, h3.imp id ?_⟩
  rintro ⟨g, o, cur, e, hb, r⟩
  exact ⟨g, o, cur, e, Nat.le_trans hB hb, r⟩
/-- A row of another type that grows leaves it. -/
theorem OwnXs.grown {B base size n : Nat} {e : TypeId} {w w' : World} {v u : Value} {xs : List Int} {ys : List Value} (h : OwnXs B w v xs) (hu : w.ownsRow base e size u n ys) (hT : e ≠ 3) (hg : w.grownBy w' u.ownBlock) : OwnXs B w' v xs := by
  obtain ⟨a, cap, h1, h2, h0, h3⟩ := h
  refine ⟨a, cap, h1, h2, h0, h3.imp id ?_⟩
  rintro ⟨g, o, cur, e', hB, hb, hc⟩
  refine ⟨g, o, cur, e', hB, (hg.block g (own_lt hb) (fun hh => own_ne hu hb (fun h => hT h.symm) hh.symm)).trans hb, hc⟩
/-! ### commands -/
/-- A command, plainly. -/
structure CM where
  kind : Int
  n : Int
  steps : Int
  clock : Int
  draws : List Int
  text : ByteArray
/-- Its cells, its value. -/
def CM.cs (c : CM) (dv : Value) : List Value := [.int .i64 c.kind, .int .i64 c.n, .int .i64 c.steps, .int .i64 c.clock, dv, .string c.text]
def CM.v (c : CM) (dv : Value) : Value := .agg #[.int .i64 c.kind, .int .i64 c.n, .int .i64 c.steps, .int .i64 c.clock, dv, .string c.text]
def CM.none : CM := ⟨0, 0, 0, 0, [], ⟨#[]⟩⟩
/-- A command stands from place o on of block g. -/
structure CvAt (w : World) (g o : Nat) (c : CM) (dv : Value) : Prop where
  c0 : w.cell? ⟨g, o, .none⟩ = some (.int .i64 c.kind)
  c1 : w.cell? ⟨g, o + 1, .none⟩ = some (.int .i64 c.n)
  c2 : w.cell? ⟨g, o + 2, .none⟩ = some (.int .i64 c.steps)
  c3 : w.cell? ⟨g, o + 3, .none⟩ = some (.int .i64 c.clock)
  c4 : w.cell? ⟨g, o + 4, .none⟩ = some dv
  c5 : w.cell? ⟨g, o + 5, .none⟩ = some (.string c.text)
theorem CvAt.lt {w : World} {g o : Nat} {c : CM} {dv : Value} (h : CvAt w g o c dv) : g < w.heap.size := World.block_lt_of_cell? _ _ h.c0
theorem CvAt.below {w w' : World} {g o : Nat} {c : CM} {dv : Value} {N : Nat} (h : CvAt w g o c dv) (hb : Below N w w') (hg : g < N) : CvAt w' g o c dv :=
  ⟨(hb.cell hg).trans h.c0, (hb.cell hg).trans h.c1, (hb.cell hg).trans h.c2, (hb.cell hg).trans h.c3, (hb.cell hg).trans h.c4, (hb.cell hg).trans h.c5⟩
/-- A slice that holds these commands. -/
def IsCm (w : World) (v : Value) (L : List CM) : Prop :=
  ∃ a cap, v = .slice a L.length cap ∧ (L = [] ∨ ∃ g o, a = some ⟨g, o, .none⟩ ∧ g < w.heap.size ∧ ∀ j (h : j < L.length), ∃ dv, CvAt w g (o + j * 6) L[j] dv ∧ IsXs w dv L[j].draws)
theorem IsCm.below {w w' : World} {v : Value} {L : List CM} (h : IsCm w v L) (hb : Below w.heap.size w w') : IsCm w' v L := by
  obtain ⟨a, cap, h1, h3⟩ := h
  refine ⟨a, cap, h1, h3.imp id ?_⟩
  rintro ⟨g, o, e, hlt, hc⟩
  refine ⟨g, o, e, Nat.lt_of_lt_of_le hlt hb.size, fun j hj => ?_⟩
  obtain ⟨dv, h1, h2⟩ := hc j hj
  exact ⟨dv, h1.below hb hlt, h2.below hb⟩
theorem isCm_nil (w : World) : IsCm w (.slice .none 0 0) [] := ⟨.none, 0, rfl, .inl rfl⟩
theorem IsCm.form {w : World} {v : Value} {L : List CM} (h : IsCm w v L) : ∃ a cap, v = .slice a L.length cap := by obtain ⟨a, c, h, -⟩ := h; exact ⟨a, c, h⟩
/-- The cells of commands, side by side. -/
def rowC (L : List (CM × Value)) : List Value := L.flatMap fun x => x.1.cs x.2
theorem rowC_snoc (L : List (CM × Value)) (x : CM × Value) : rowC (L ++ [x]) = rowC L ++ x.1.cs x.2 := by unfold rowC; simp
theorem rowC_at : ∀ (L : List (CM × Value)) (j : Nat) (hj : j < L.length) (i : Nat), i < 6 → (rowC L)[j * 6 + i]? = (L[j].1.cs L[j].2)[i]?
  | [], j, hj, _, _ => absurd hj (by simp)
  | l :: L, 0, _, i, hi => by
    unfold rowC
    rw [List.flatMap_cons, List.getElem?_append_left (by unfold CM.cs; simp; omega), Nat.zero_mul, Nat.zero_add]; rfl
  | l :: L, j + 1, hj, i, hi => by
    have ih := rowC_at L j (by simpa using hj) i hi
    unfold rowC at ih ⊢
    rw [List.flatMap_cons, List.getElem?_append_right (by unfold CM.cs; simp; omega)]
    have : (j + 1) * 6 + i - (l.1.cs l.2).length = j * 6 + i := by unfold CM.cs; simp; omega
    rw [this, ih]; rfl
/-- What a call has made holds these commands. -/
theorem own_at {T : TypeId} {w : World} {base : Nat} {g cap n : Nat} {L : List (CM × Value)} (h : w.ownsRow base T 6 (.slice (some ⟨g, 0, .none⟩) n cap) n (rowC L)) (j : Nat) (hj : j < L.length) : CvAt w g (0 + j * 6) L[j].1 L[j].2 := by
  have key : ∀ i, i < 6 → w.cell? ⟨g, j * 6 + i, .none⟩ = (L[j].1.cs L[j].2)[i]? := fun i hi => by
    have hx : ∃ u, (rowC L)[j * 6 + i]? = some u := by
      rw [rowC_at L j hj i hi]
      exact ⟨_, List.getElem?_eq_getElem (by unfold CM.cs; simpa using hi)⟩
    obtain ⟨u, hu⟩ := hx
    have := h.cells (g := g) rfl (j * 6 + i) u hu
    rw [Go.WideShapes.add_plain, Nat.zero_add] at this
    rw [this, ← hu, rowC_at L j hj i hi]
  rw [Nat.zero_add]
  exact ⟨key 0 (by decide), key 1 (by decide), key 2 (by decide), key 3 (by decide), key 4 (by decide), key 5 (by decide)⟩
theorem isCm_own {T : TypeId} {w : World} {base : Nat} {v : Value} {L : List (CM × Value)} (h : w.ownsRow base T 6 v L.length (rowC L)) (hd : ∀ x ∈ L, IsXs w x.2 x.1.draws) : IsCm w v (L.map (·.1)) := by
  rcases h.2 with ⟨rfl, h0⟩ | ⟨g, cap, cur, rfl, hb, hg, _⟩
  · rw [List.eq_nil_of_length_eq_zero h0]; exact isCm_nil w
  · refine ⟨_, cap, by rw [List.length_map], .inr ⟨g, 0, rfl, own_lt hg, fun j hj => ?_⟩⟩
    have hj' : j < L.length := by simpa using hj
    refine ⟨L[j].2, ?_, ?_⟩
    · have := own_at h j hj'; simpa using this
    · have := hd L[j] (List.getElem_mem hj'); simpa using this
theorem info_cmd : (Tryd.prog.info? 37).map (fun i => (i.zero, i.size, i.bytes)) = some (some (.agg #[.int .i64 0, .int .i64 0, .int .i64 0, .int .i64 0, .slice .none 0 0, .string ⟨#[]⟩]), 6, 72) := by kernel_rfl
theorem info_rcmd : (Tryd.prog.info? 47).map (fun i => (i.zero, i.size, i.bytes)) = some (some (.agg #[.int .i64 0, .int .i64 0, .int .i64 0, .int .i64 0, .slice .none 0 0, .string ⟨#[]⟩]), 6, 72) := by kernel_rfl
theorem info_int : (Tryd.prog.info? 3).map (fun i => (i.zero, i.size, i.bytes)) = some (some (.int .i64 0), 1, 8) := by kernel_rfl
end Vb
end Go.Proofs.YtmegapelibaanaaDoor
