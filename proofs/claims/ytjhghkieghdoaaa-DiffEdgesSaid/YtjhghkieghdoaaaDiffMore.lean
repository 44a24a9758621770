/- One edge more: rows of edges that are appended to, in a region that draws; systems with one edge more. -/
import Derived.Test.YtjhghkieghdoaaaDiffLaw
import Derived.Deep.RegionLaw
namespace Go.Proofs.Ytjhghkieghdoaaa
open Go.RowKit Go.Lib
namespace Diff
set_option linter.unusedVariables false
/-- An append to a row of the call's own, as one step of a region that draws. -/
theorem step_owned {P : Program} {ops : Array Oper} {o : Oper} {a : Act} {w : World} {K : Act → World → Prop} {Q : Exit → Act → World → Prop} {E : Prop}
    (hg : o.guard = none) (s x : Operand) (t : TypeId) (hop : o.op = Op.call { callee := Callee.builtin Builtin.append, args := #[s, x], argTypes := #[t, t] })
    (base : Nat) (e : TypeId) (i : TypeInfo) (z : Value) (size bytes : Nat) (h1 : P.underlying t = some (.slice e)) (h2 : P.info? e = some i) (h3 : i.zero = some z) (h4 : i.size = size) (h5 : i.bytes = bytes) (h6 : z.cells.size = size) (h7 : 0 < size)
    (v : Value) (n : Nat) (xs : List Value) (hs : a.eval s = v) (hown : w.ownsRow base e size v n xs)
    (ad : Addr) (m c : Nat) (news : List Value) (hx : a.eval x = .slice (some ad) m c) (hn : news.length = m * size) (hc : ∀ j u, news[j]? = some u → w.cell? (ad.add j) = some u) (h1c : ∀ u ∈ news, u.oneCell' = true)
    (b1 : n + m ≤ maxLen) (b2 : (n + m) * bytes ≤ 140737488355328) (hb : base ≤ w.heap.size)
    (hK : ∀ v' w', w'.ownsRow base e size v' (n + m) (xs ++ news) → w.grownBy w' v.ownBlock → K (a.put o.dst v') w') :
    if Region.wanted o (yielded ops a.tmps) = true then Oper.wp P o a w K Q else E := by
  have hw : Region.wanted o (yielded ops a.tmps) = true := by simp [Region.wanted, hg]
  rw [if_pos hw]
  obtain ⟨v', w', hrun, r1, r2, _⟩ := run_append_own (P := P) (w := w) base t o.type e i z size bytes h1 h2 h3 h4 h5 h6 h7 v n xs hown ad m c news hn hc h1c b1 b2 hb
  unfold Oper.wp
  simp [execOp, hop, resolve, invoke, builtin, hs, hx, hrun, Result.andThen]
  exact hK v' w' r1 r2
/-- The same of nothing. -/
theorem step_owned_none {P : Program} {ops : Array Oper} {o : Oper} {a : Act} {w : World} {K : Act → World → Prop} {Q : Exit → Act → World → Prop} {E : Prop}
    (hg : o.guard = none) (s x : Operand) (t : TypeId) (hop : o.op = Op.call { callee := Callee.builtin Builtin.append, args := #[s, x], argTypes := #[t, t] })
    (base : Nat) (e : TypeId) (i : TypeInfo) (size : Nat) (h1 : P.underlying t = some (.slice e)) (h2 : P.info? e = some i)
    (v : Value) (n : Nat) (xs : List Value) (hs : a.eval s = v) (hown : w.ownsRow base e size v n xs) (hx : a.eval x = .slice none 0 0)
    (hK : K (a.put o.dst v) w) : if Region.wanted o (yielded ops a.tmps) = true then Oper.wp P o a w K Q else E := by
  have hw : Region.wanted o (yielded ops a.tmps) = true := by simp [Region.wanted, hg]
  rw [if_pos hw]
  have hrun := run_append_owned_none (P := P) (w := w) base t o.type e i size h1 h2 v n xs hown
  unfold Oper.wp
  simp [execOp, hop, resolve, invoke, builtin, hs, hx, hrun, Result.andThen]
  exact hK
/-- edges, cell by cell -/
def eRow (f t g : Nat → Int) : Nat → List Value
  | 0 => []
  | k + 1 => eRow f t g k ++ [.int .i64 (f k), .int .i64 (t k), .int .i64 (g k)]
theorem eRow_len (f t g : Nat → Int) (k : Nat) : (eRow f t g k).length = k * 3 := by
  induction k with
  | zero => rfl
  | succ k ih => rw [eRow, List.length_append, ih]; simp; omega
theorem eRow_at (f t g : Nat → Int) (k j : Nat) (hj : j < k) : (eRow f t g k)[j * 3]? = some (.int .i64 (f j)) ∧ (eRow f t g k)[j * 3 + 1]? = some (.int .i64 (t j)) ∧ (eRow f t g k)[j * 3 + 2]? = some (.int .i64 (g j)) := by
  induction k with
  | zero => omega
  | succ k ih =>
    have hl := eRow_len f t g k
    rw [eRow]
    rcases Nat.lt_or_ge j k with h | h
    · rw [List.getElem?_append_left (by omega), List.getElem?_append_left (by omega), List.getElem?_append_left (by omega)]
      exact ih h
    · obtain rfl : j = k := by omega
      rw [List.getElem?_append_right (by omega), List.getElem?_append_right (by omega), List.getElem?_append_right (by omega), hl]
      simp
theorem eRow_one (f t g : Nat → Int) (k : Nat) : ∀ u ∈ eRow f t g k, u.oneCell' = true := by
  induction k with
  | zero => intro u hu; cases hu
  | succ k ih =>
    intro u hu
    rw [eRow] at hu
    rcases List.mem_append.1 hu with h | h
    · exact ih u h
    · simp at h; rcases h with rfl | rfl | rfl <;> rfl
theorem eRow_cells {w : World} {ad : Addr} {m : Nat} {f t g : Nat → Int} (h : IsEs w (some ad) m f t g) : ∀ j u, (eRow f t g m)[j]? = some u → w.cell? (ad.add j) = some u := by
  intro j u hj
  have hl := eRow_len f t g m
  have hlt : j < m * 3 := by
    rcases Nat.lt_or_ge j (m * 3) with h | h
    · exact h
    · rw [List.getElem?_eq_none (by omega)] at hj; cases hj
  rcases h with h0 | ⟨b, off, h1, _, _, h4⟩
  · omega
  · cases h1
    rw [Go.WideShapes.add_plain]
    obtain ⟨c0, c1, c2⟩ := h4 (j / 3) (by omega)
    obtain ⟨r0, r1, r2⟩ := eRow_at f t g m (j / 3) (by omega)
    have hj3 : j = j / 3 * 3 ∨ j = j / 3 * 3 + 1 ∨ j = j / 3 * 3 + 2 := by omega
    rcases hj3 with e | e | e
    · rw [e, r0] at hj; rw [e, ← hj]; exact c0
    · rw [e, r1] at hj; rw [e, ← hj]; exact c1
    · rw [e, r2] at hj; rw [e, ← hj]; exact c2
/-- a row with one more -/
def ext (f : Nat → Int) (m : Nat) (x : Int) : Nat → Int := fun j => if j < m then f j else x
theorem eRow_congr {f t g f' t' g' : Nat → Int} {k : Nat} (h : ∀ j, j < k → f j = f' j ∧ t j = t' j ∧ g j = g' j) : eRow f t g k = eRow f' t' g' k := by
  induction k with
  | zero => rfl
  | succ k ih => rw [eRow, eRow, ih fun j hj => h j (by omega), (h k (by omega)).1, (h k (by omega)).2.1, (h k (by omega)).2.2]
theorem eRow_ext (f t g : Nat → Int) (m : Nat) (x y z : Int) : eRow f t g m ++ [.int .i64 x, .int .i64 y, .int .i64 z] = eRow (ext f m x) (ext t m y) (ext g m z) (m + 1) := by
  rw [eRow]
  congr 1
  · exact eRow_congr fun j hj => by simp [ext, hj]
  · simp [ext]
theorem isEs_of_owns {w : World} {base n : Nat} {ty : TypeId} {v : Value} {f t g : Nat → Int} (h : w.ownsRow base ty 3 v n (eRow f t g n)) (h0 : 1 ≤ n) :
    ∃ b c, v = .slice (some ⟨b, 0, none⟩) n c ∧ base ≤ b ∧ IsEs w (some ⟨b, 0, none⟩) n f t g := by
  have hcl := h
  obtain ⟨h1, h2⟩ := h
  rcases h2 with ⟨_, h3⟩ | ⟨b, c, cur, rfl, h4, h5, h6, h7, h8, h9⟩
  · omega
  · have hlt : b < w.heap.size := (Array.getElem?_eq_some_iff.1 h5).1
    have hcell : ∀ j u, (eRow f t g n)[j]? = some u → w.cell? ⟨b, 0 + j, none⟩ = some u := fun j u hj => by
      have := hcl.cells (g := b) rfl j u hj; rwa [Go.WideShapes.add_plain] at this
    refine ⟨b, c, rfl, h4, .inr ⟨b, 0, rfl, hlt, by omega, fun j hj => ?_⟩⟩
    obtain ⟨r0, r1, r2⟩ := eRow_at f t g n j hj
    exact ⟨hcell _ _ r0, by have := hcell _ _ r1; rwa [← Nat.add_assoc] at this, by have := hcell _ _ r2; rwa [← Nat.add_assoc] at this⟩
theorem right_ext {n : Int} {m : Nat} {f t g : Nat → Int} {x y z : Int} : rightB n (m + 1) (ext f m x) (ext t m y) (ext g m z) = (rightB n m f t g && !badE n x y z) := by
  unfold rightB
  have h : anyTo (fun j => badE n (ext f m x j) (ext t m y j) (ext g m z j)) (m + 1) = (anyTo (fun j => badE n (f j) (t j) (g j)) m || badE n x y z) := by
    simp only [anyTo]
    have e : ∀ k, k ≤ m → anyTo (fun j => badE n (ext f m x j) (ext t m y j) (ext g m z j)) k = anyTo (fun j => badE n (f j) (t j) (g j)) k := by
      intro k
      induction k with
      | zero => intro _; rfl
      | succ k ih => intro hk; simp only [anyTo]; rw [ih (by omega)]; simp [ext, show k < m from by omega]
    rw [e m (Nat.le_refl _)]
    simp [ext]
  rw [h, Bool.not_or, Bool.and_assoc]
/-- A system with one edge more. -/
def Sys.plus (S : Sys) (x y : Nat) (z : Int) : Sys := ⟨S.n, S.m + 1, fun i => if i < S.m then S.F i else x, fun i => if i < S.m then S.T i else y, fun i => if i < S.m then S.W i else z, S.s⟩
theorem Sys.Ok.plus {S : Sys} (ok : S.Ok) (hm : S.m ≤ 200) {x y : Nat} {z : Int} (hx : x < S.n) (hy : y < S.n) (hz : -2199023255552 ≤ z ∧ z ≤ 2199023255552) : (S.plus x y z).Ok := by
  refine ⟨ok.hn, by show S.m + 1 ≤ 201; omega, ok.hs, fun i hi => ?_, fun i hi => ?_, fun i hi => ?_⟩
  · show (if i < S.m then S.F i else x) < S.n
    split
    · exact ok.hF i ‹_›
    · exact hx
  · show (if i < S.m then S.T i else y) < S.n
    split
    · exact ok.hT i ‹_›
    · exact hy
  · show _ ≤ (if i < S.m then S.W i else z) ∧ (if i < S.m then S.W i else z) ≤ _
    split
    · exact ok.hW i ‹_›
    · exact hz
theorem plus_es {S : Sys} {f t g : Nat → Int} {x y : Nat} {z : Int} (hfg : ∀ i, i < S.m → f i = (S.F i : Nat) ∧ t i = (S.T i : Nat) ∧ g i = S.W i) {w : World} {a : Option Addr} (h : IsEs w a (S.m + 1) (ext f S.m x) (ext t S.m y) (ext g S.m z)) :
    IsEs w a (S.plus x y z).m (fun i => ((S.plus x y z).F i : Nat)) (fun i => ((S.plus x y z).T i : Nat)) (S.plus x y z).W := by
  rcases h with h0 | ⟨b, off, h1, h2, h3, h4⟩
  · exact .inl h0
  · refine .inr ⟨b, off, h1, h2, h3, fun j hj => ?_⟩
    have h5 := h4 j hj
    simp only [ext] at h5
    show w.cell? _ = some (.int .i64 (((if j < S.m then S.F j else x) : Nat) : Int)) ∧ w.cell? _ = some (.int .i64 (((if j < S.m then S.T j else y) : Nat) : Int)) ∧ w.cell? _ = some (.int .i64 (if j < S.m then S.W j else z))
    by_cases hlt : j < S.m
    · obtain ⟨e1, e2, e3⟩ := hfg j hlt
      simp only [hlt, if_true, e1, e2, e3] at h5 ⊢
      exact h5
    · simp only [hlt, if_false] at h5 ⊢
      exact h5
/-- What holds of one edge more holds of the edges. -/
theorem Closed.less {S : Sys} {x y : Nat} {z : Int} {fin : Nat → Prop} {X : Nat → Int} (h : Closed (S.plus x y z) fin X) : Closed S fin X := by
  refine ⟨h.at0, h.le0, fun i hi hf => ?_⟩
  have := h.edge i (by show i < S.m + 1; omega)
  have e1 : (S.plus x y z).F i = S.F i := by show (if i < S.m then S.F i else x) = _; rw [if_pos hi]
  have e2 : (S.plus x y z).T i = S.T i := by show (if i < S.m then S.T i else y) = _; rw [if_pos hi]
  have e3 : (S.plus x y z).W i = S.W i := by show (if i < S.m then S.W i else z) = _; rw [if_pos hi]
  rw [e1, e2, e3] at this
  exact this hf
theorem Closed.more {S : Sys} {x y : Nat} {z : Int} {fin : Nat → Prop} {X : Nat → Int} (h : Closed S fin X) (he : fin x → fin y ∧ X y ≤ X x + z) : Closed (S.plus x y z) fin X := by
  refine ⟨h.at0, h.le0, fun i hi hf => ?_⟩
  by_cases hlt : i < S.m
  · have := h.edge i hlt
    have e1 : (S.plus x y z).F i = S.F i := by show (if i < S.m then S.F i else x) = _; rw [if_pos hlt]
    have e2 : (S.plus x y z).T i = S.T i := by show (if i < S.m then S.T i else y) = _; rw [if_pos hlt]
    have e3 : (S.plus x y z).W i = S.W i := by show (if i < S.m then S.W i else z) = _; rw [if_pos hlt]
    rw [e1] at hf
    rw [e1, e2, e3]; exact this hf
  · have e1 : (S.plus x y z).F i = x := by show (if i < S.m then S.F i else x) = _; rw [if_neg hlt]
    have e2 : (S.plus x y z).T i = y := by show (if i < S.m then S.T i else y) = _; rw [if_neg hlt]
    have e3 : (S.plus x y z).W i = z := by show (if i < S.m then S.W i else z) = _; rw [if_neg hlt]
    rw [e1] at hf
    rw [e1, e2, e3]; exact he hf
/-- One edge more makes nothing farther. -/
theorem more_le {S : Sys} (ok : S.Ok) (hm : S.m ≤ 200) {x y : Nat} {z : Int} (hx : x < S.n) (hy : y < S.n) (hz : -2199023255552 ≤ z ∧ z ≤ 2199023255552) {D Y : Nat → Int} (hD : Good S D) (hY : Good (S.plus x y z) Y) {i : Nat} (hi : i < S.n) : Y i ≤ D i := by
  have hc := (hY.closed (ok.plus hm hx hy hz)).less
  rcases Int.lt_or_le (D i) Far with c | c
  · exact (hD.great _ _ hc i hi c).2
  · have := hY.far (v := i) hi; omega
/-- An edge that is as far as it is anyway turns nothing. -/
theorem more_same {S : Sys} (ok : S.Ok) (hm : S.m ≤ 200) {x y : Nat} {z : Int} (hx : x < S.n) (hy : y < S.n) (hz : -2199023255552 ≤ z ∧ z ≤ 2199023255552) {D : Nat → Int} (hD : Good S D) (h1 : D y ≠ Far) (h2 : D y - D x ≤ z) :
    Closed (S.plus x y z) (fun v => D v < Far) D ∧ ∀ Y, Good (S.plus x y z) Y → ∀ i, i < S.n → Y i = D i := by
  have hc : Closed (S.plus x y z) (fun v => D v < Far) D := (hD.closed ok).more fun _ => ⟨by have := hD.far hy; show D y < Far; omega, by omega⟩
  refine ⟨hc, fun Y hY i hi => ?_⟩
  have h3 := more_le ok hm hx hy hz hD hY hi
  rcases Int.lt_or_le (Y i) Far with c | c
  · have := (hY.great _ _ hc i hi c).2; omega
  · have := hD.far hi; omega
theorem sys_ext {n : Int} {m : Nat} {f t g : Nat → Int} {s x y z : Int} : sysOf n (m + 1) (ext f m x) (ext t m y) (ext g m z) s = (sysOf n m f t g s).plus x.toNat y.toNat z := by
  unfold sysOf Sys.plus
  simp only [Sys.mk.injEq, true_and, and_true]
  refine ⟨?_, ?_, ?_⟩ <;> funext i <;> simp only [ext] <;> split <;> rfl
/-- What Solve leaves, of whatever comes in. -/
def SolvedP (n : Int) (m : Nat) (f t g : Nat → Int) (s : Int) (w : World) (v u : Value) (ef : Int) (w' : World) : Prop :=
  ((rightB n m f t g && inB s n) = false ∧ v = .slice none 0 0 ∧ u = .slice none 0 0 ∧ ef = 1) ∨
  ((rightB n m f t g && inB s n) = true ∧ ef = 0 ∧ ((DistP (sysOf n m f t g s) w v w' ∧ u = .slice none 0 0) ∨ (CircP (sysOf n m f t g s) w u w' ∧ v = .slice none 0 0)))
theorem solve_all (n s : Int) (a : Option Addr) (m c : Nat) (f t g : Nat → Int) (w : World) (he : IsEs w a m f t g) (hm : m ≤ 201) (hn : n ≤ 60) (hn0 : -9223372036854775808 ≤ n) :
    Calls Try.prog 9 #[.int .i64 n, .slice a m c, .int .i64 s] w fun e w' => ∃ v u ef, e = .returned (.tuple #[v, u, .int .i64 ef]) ∧ Below w.heap.size w w' ∧ SolvedP n m f t g s w v u ef w' := by
  cases h : (rightB n m f t g && inB s n) with
  | false => exact (solve_no n s a m c f t g w he hm hn hn0 h).mono fun e w' ⟨h1, h2⟩ => ⟨_, _, _, h1, h2, .inl ⟨h, rfl, rfl, rfl⟩⟩
  | true =>
    have h' := h
    rw [Bool.and_eq_true] at h'
    have hc := solve_yes (sysOf n m f t g s) a c w (sys_ok h'.1 h'.2 hn hm) (sys_es h'.1 he)
    rw [sys_n h'.1, sys_s h'.2] at hc
    refine Calls.mono hc ?_
    rintro e w' ⟨hb, v, ⟨rfl, hd⟩ | ⟨rfl, hd⟩⟩
    · exact ⟨_, _, _, rfl, hb, .inr ⟨h, rfl, .inl ⟨hd, rfl⟩⟩⟩
    · exact ⟨_, _, _, rfl, hb, .inr ⟨h, rfl, .inr ⟨hd, rfl⟩⟩⟩
open Go.ChangeShapes Go.WideShapes Go.Deep in
theorem slice_none {H : Type} {enc : TypeId × Value → H} {w : World} {spare : Nat → Bool} {held : Bool} {t e : TypeId} {a : Option Addr} {len cap : Nat} {d : DataW H} {p : List MemPlace} (ht : Try.prog.underlying t = some (.slice e))
    (h : DataW.Trod enc Try.prog w 0 spare held t (.slice a len cap) d p) : a = none → len = 0 ∧ cap = 0 := by
  rintro rfl
  obtain ⟨fuel, hf⟩ := h
  rcases open_slice ht hf with ⟨hcs, _⟩ | ⟨x, lx, cx, m, n, DD, Pl, hcs, _⟩
  · simp [Value.cells] at hcs; exact hcs
  · simp [Value.cells] at hcs
theorem info_edge : (Try.prog.info? 42).map (fun i => (i.zero, i.size, i.bytes)) = some (some (.agg #[.int .i64 0, .int .i64 0, .int .i64 0]), 3, 24) := by kernel_rfl
/-- The cells of a block of one edge. -/
theorem cells_three {w : World} {B : Nat} {t : TypeId} {x y z : Value} (h : w.heap[B]? = some (.cells #[x, y, z] t)) : ∀ j u, [x, y, z][j]? = some u → w.cell? ((⟨B, 0, none⟩ : Addr).add j) = some u := by
  intro j u hj
  rw [Go.WideShapes.add_plain]
  match j, hj with
  | 0, hj => simp at hj; subst hj; simp [World.cell?, h]
  | 1, hj => simp at hj; subst hj; simp [World.cell?, h]
  | 2, hj => simp at hj; subst hj; simp [World.cell?, h]
  | j + 3, hj => simp at hj
/-- behind block N nothing but what is new -/
structure Reg (w2 W : World) : Prop where
  below : Below w2.heap.size w2 W
  top : w2.heap.size ≤ W.heap.size
theorem Reg.refl (w : World) : Reg w w := ⟨Below.refl _ _, Nat.le_refl _⟩
theorem Reg.alloc {w W : World} (h : Reg w W) (o : Obj) : Reg w (W.alloc o) := ⟨h.below.alloc h.top o, by have := h.top; simp; omega⟩
theorem Reg.drew {w W : World} (h : Reg w W) : Reg w W.drew := ⟨h.below.drew, h.top⟩
theorem owns_drew {w : World} {base e size n : Nat} {v : Value} {xs : List Value} (h : w.ownsRow base e size v n xs) : w.drew.ownsRow base e size v n xs := h
theorem owns_alloc {w : World} {base e size n : Nat} {v : Value} {xs : List Value} (h : w.ownsRow base e size v n xs) (o : Obj) : (w.alloc o).ownsRow base e size v n xs := h.alloc o
theorem cells_drew {w : World} {a : Addr} {l : List Value} (h : ∀ (j : Nat) (u : Value), l[j]? = some u → w.cell? (a.add j) = some u) : ∀ (j : Nat) (u : Value), l[j]? = some u → w.drew.cell? (a.add j) = some u := h
/-- behind the first append -/
structure App1 (w2 : World) (m : Nat) (row : List Value) (B : Nat) (W w' : World) (v' : Value) : Prop where
  own : w'.ownsRow w2.heap.size 42 3 v' m row
  reg : Reg w2 w'
  kept : ∀ k, k < W.heap.size → k ≠ B → w'.heap[k]? = W.heap[k]?
theorem app1 {w2 W w' : World} {m B c : Nat} {row : List Value} {v' : Value} (hr : Reg w2 W) (hB : w2.heap.size ≤ B) (h1 : w'.ownsRow w2.heap.size 42 3 v' (0 + m) ([] ++ row)) (h2 : W.grownBy w' (Value.slice (some ⟨B, 0, none⟩) 0 c).ownBlock) : App1 w2 m row B W w' v' := by
  rw [Nat.zero_add, List.nil_append] at h1
  exact ⟨h1, ⟨hr.below.grown h2 hr.top (fun g hg => by simp [Value.ownBlock] at hg; omega), Nat.le_trans hr.top h2.size⟩, fun k hk hn => h2.block k hk (by simp [Value.ownBlock]; omega)⟩
theorem own_new {w : World} {base B : Nat} (hB : B = w.heap.size) (hb : base ≤ w.heap.size) : (w.alloc (.cells #[] 42)).ownsRow base 42 3 (.slice (some ⟨B, 0, none⟩) 0 0) 0 [] := by
  subst hB; exact World.ownsRow_made w #[] 0 hb (by unfold maxLen; omega) rfl
theorem heap2 (w : World) (a b : Obj) : ((w.alloc a).alloc b).heap[w.heap.size]? = some a ∧ ((w.alloc a).alloc b).heap[w.heap.size + 1]? = some b := by
  constructor
  · rw [Below.heap_alloc _ _ _ (by simp)]; exact heap_alloc_new _ _
  · rw [← World.size_alloc w a]; exact heap_alloc_new _ _
theorem one_three {x y z : Int} : ∀ u ∈ [Value.int .i64 x, .int .i64 y, .int .i64 z], u.oneCell' = true := by
  intro u hu; simp at hu; rcases hu with rfl | rfl | rfl <;> rfl
/-- behind both appends -/
def MoreQ (w2 : World) (N m : Nat) (f t g : Nat → Int) (x y z : Int) (v : Value) (W : World) : Prop :=
  ∃ b c, v = .slice (some ⟨b, 0, none⟩) (m + 1) c ∧ Hid (IsEs W (some ⟨b, 0, none⟩) (m + 1) (ext f m x) (ext t m y) (ext g m z)) ∧ Hid (Below N w2 W)
theorem moreQ {w2 W w' : World} {m : Nat} {f t g : Nat → Int} {x y z : Int} {v v' : Value} (hr : Reg w2 W) (h0 : W.ownsRow w2.heap.size 42 3 v m (eRow f t g m))
    (h1 : w'.ownsRow w2.heap.size 42 3 v' (m + 1) (eRow f t g m ++ [.int .i64 x, .int .i64 y, .int .i64 z])) (h2 : W.grownBy w' v.ownBlock) : MoreQ w2 w2.heap.size m f t g x y z v' w' := by
  rw [eRow_ext] at h1
  obtain ⟨b, c, rfl, _, he⟩ := isEs_of_owns h1 (by omega)
  exact ⟨b, c, rfl, Lib.hid he, Lib.hid (hr.below.grown h2 hr.top (fun k hk => (h0.lt k hk).1))⟩
theorem moreQ0 {w2 W w' : World} {f t g : Nat → Int} {x y z : Int} {v v' : Value} (hr : Reg w2 W) (h0 : W.ownsRow w2.heap.size 42 3 v 0 [])
    (h1 : w'.ownsRow w2.heap.size 42 3 v' (0 + 1) ([] ++ [.int .i64 x, .int .i64 y, .int .i64 z])) (h2 : W.grownBy w' v.ownBlock) : MoreQ w2 w2.heap.size 0 f t g x y z v' w' :=
  moreQ (m := 0) hr h0 h1 h2
/-- behind the third call of Solve -/
def Sol3 (n : Int) (m : Nat) (f t g : Nat → Int) (s : Int) (W0 : World) (v : Value) (wx : World) : Prop :=
  ∃ W' u ef, Hid (Below W0.heap.size W0 wx) ∧ Hid (SolvedP n m f t g s W' v u ef wx)
/-- The block of one edge, laid ahead of the append. -/
theorem hE_first {w2 w' : World} {m B : Nat} {row : List Value} {o : Obj} {x y z : Value} {t : TypeId} {v' : Value} (hA : App1 w2 m row B ((w2.alloc (.cells #[x, y, z] t)).alloc o).drew w' v') (hB : w2.heap.size ≠ B) :
    ∀ j u, [x, y, z][j]? = some u → w'.cell? ((⟨w2.heap.size, 0, none⟩ : Addr).add j) = some u :=
  cells_three ((hA.kept w2.heap.size (by show w2.heap.size < ((w2.alloc (.cells #[x, y, z] t)).alloc o).heap.size; simp; omega) hB).trans (heap2 w2 (.cells #[x, y, z] t) o).1)
theorem hE_second {w2 w' : World} {m B : Nat} {row : List Value} {o : Obj} {x y z : Value} {t : TypeId} {v' : Value} (hA : App1 w2 m row B ((w2.alloc o).alloc (.cells #[x, y, z] t)).drew w' v') (hB : w2.heap.size + 1 ≠ B) :
    ∀ j u, [x, y, z][j]? = some u → w'.cell? ((⟨w2.heap.size + 1, 0, none⟩ : Addr).add j) = some u :=
  cells_three ((hA.kept (w2.heap.size + 1) (by show w2.heap.size + 1 < ((w2.alloc o).alloc (.cells #[x, y, z] t)).heap.size; simp) hB).trans (heap2 w2 o (.cells #[x, y, z] t)).2)
theorem cells_new {w : World} {x y z : Value} {t : TypeId} : ∀ j u, [x, y, z][j]? = some u → (w.alloc (.cells #[x, y, z] t)).cell? ((⟨w.heap.size, 0, none⟩ : Addr).add j) = some u := cells_three (heap_alloc_new _ _)
theorem cells_first {w : World} {o : Obj} {x y z : Value} {t : TypeId} : ∀ j u, [x, y, z][j]? = some u → ((w.alloc (.cells #[x, y, z] t)).alloc o).drew.cell? ((⟨w.heap.size, 0, none⟩ : Addr).add j) = some u := cells_drew (cells_three (heap2 _ _ _).1)
theorem cells_second {w : World} {o : Obj} {x y z : Value} {t : TypeId} : ∀ j u, [x, y, z][j]? = some u → ((w.alloc o).alloc (.cells #[x, y, z] t)).drew.cell? ((⟨w.heap.size + 1, 0, none⟩ : Addr).add j) = some u := cells_drew (cells_three (heap2 _ _ _).2)
end Diff
end Go.Proofs.Ytjhghkieghdoaaa
