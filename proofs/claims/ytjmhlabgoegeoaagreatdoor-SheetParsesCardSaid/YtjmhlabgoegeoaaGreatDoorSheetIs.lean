/- Package sheet's reader: what stands while the instance grows; over the translated program. Package sheet's reader: the steps of instance's four loops; over the translated program. -/
import Derived.Test.YtjmhlabgoegeoaaGreatDoorSheetOpen
import Derived.Lib.OwnKind
import Derived.OneCell
import Derived.Lib.SmallJoins
import Derived.Deep.RegionHeld3
import Derived.Deep.RegionWith
import Derived.Deep.RegionLaw
import Derived.RegionDies
import Derived.OwnWalk
import Derived.Outline
namespace Go.Proofs.YtjmhlabgoegeoaaGreatDoor
namespace Sheet
open Go Go.RowKit Deci
/-- The cells of k elements. -/
def cellsTo (f : Nat → List Value) : Nat → List Value
  | 0 => []
  | k + 1 => cellsTo f k ++ f k
theorem cellsTo_len {f : Nat → List Value} {s : Nat} (h : ∀ j, (f j).length = s) (k : Nat) : (cellsTo f k).length = k * s := by
  induction k with
  | zero => simp [cellsTo]
  | succ k ih => rw [cellsTo, List.length_append, ih, h, Nat.succ_mul]
theorem cellsTo_at {f : Nat → List Value} {s : Nat} (h : ∀ j, (f j).length = s) {k j t : Nat} (hj : j < k) (ht : t < s) : (cellsTo f k)[j * s + t]? = (f j)[t]? := by
  induction k with
  | zero => omega
  | succ k ih =>
    have hl := cellsTo_len h k
    rw [cellsTo]
    rcases Nat.lt_or_ge j k with h1 | h1
    · have : (j + 1) * s ≤ k * s := Nat.mul_le_mul_right s h1
      rw [Nat.succ_mul] at this
      rw [List.getElem?_append_left (by omega)]
      exact ih h1
    · obtain rfl : j = k := by omega
      rw [List.getElem?_append_right (by omega), hl]
      congr 1; omega
theorem cellsTo_congr {f g : Nat → List Value} {k : Nat} (h : ∀ j, j < k → f j = g j) : cellsTo f k = cellsTo g k := by
  induction k with
  | zero => rfl
  | succ k ih => rw [cellsTo, cellsTo, ih (fun j hj => h j (by omega)), h k (by omega)]
/-- What the reader makes: the lines, the scale, how many cars, requests; are there times? -/
structure IP where
  L : List ByteArray
  sc : Int
  C : Nat
  R : Nat
  T : Bool
def IP.P (p : IP) : Nat := 2 * p.R + 2
def stopL (L : List ByteArray) (n : Nat) (sc : Int) (placed : Bool) : List Value :=
  if placed then [.int .i64 (stopS L n 2 1000), .int .i64 (stopS L n 3 1000), .int .i64 (stopC L n 4 sc), .int .i64 (stopC L n 5 sc), .int .i64 (stopC L n 6 sc), .complex .f64 (Spot.wd (stopS L n 0 16777216)) (Spot.wd (stopS L n 1 16777216))]
  else [.int .i64 (stopS L n 0 1000), .int .i64 (stopS L n 1 1000), .int .i64 (stopC L n 2 sc), .int .i64 (stopC L n 3 sc), .int .i64 (stopC L n 4 sc), .complex .f64 0 0]
theorem stopL_len (L : List ByteArray) (n : Nat) (sc : Int) (placed : Bool) : (stopL L n sc placed).length = 6 := by unfold stopL; split <;> rfl
/-- The cells of the j-th car, stop, ride; of the j-th row of times, which lies in block G j. -/
def IP.car (p : IP) (j : Nat) : List Value := [.int .i64 (carA p.L (1 + j)), .int .i64 (carB p.L (1 + j)), .int .i64 (carC p.L (1 + j) p.sc)]
def IP.stop (p : IP) (j : Nat) : List Value := stopL p.L (1 + p.C + j) p.sc (!p.T)
def IP.ride (p : IP) (j : Nat) : List Value := [.int .i64 (rideV p.L (1 + p.C + p.P + j) p.sc)]
def IP.rowW (p : IP) (j : Nat) : List ByteArray := nextW p.L (1 + p.C + p.P + p.R + j)
def IP.rowV (p : IP) (j t : Nat) : Int := readV ((p.rowW j).getD t ⟨#[]⟩).data.toList p.sc
/-- A block with another type than a row's is not that row's. -/
theorem own_ne {w : World} {base size n : Nat} {e T : TypeId} {v : Value} {xs : List Value} {b : Nat} {cs : Array Value} (h : w.ownsRow base e size v n xs) (hb : w.heap[b]? = some (.cells cs T)) (hT : T ≠ e) : v.ownBlock ≠ some b := by
  intro hv
  obtain ⟨c, fz, hc⟩ := Go.Lib.ownsRow_kind h b hv
  rw [hb] at hc
  simp at hc
  exact hT hc.2.1
theorem own_ne2 {w : World} {base size n base' size' n' : Nat} {e e' : TypeId} {v v' : Value} {xs xs' : List Value} (h : w.ownsRow base e size v n xs) (h' : w.ownsRow base' e' size' v' n' xs') (hT : e' ≠ e) : v'.ownBlock = none ∨ v'.ownBlock ≠ v.ownBlock := by
  cases hv : v'.ownBlock with
  | none => exact .inl rfl
  | some b =>
    obtain ⟨c, fz, hc⟩ := Go.Lib.ownsRow_kind h' b hv
    refine .inr fun hh => ?_
    obtain ⟨c2, fz2, hc2⟩ := Go.Lib.ownsRow_kind h b hh.symm
    rw [hc] at hc2
    simp at hc2
    exact hT hc2.2.1
theorem own_ne_low {w : World} {base size n b : Nat} {e : TypeId} {v : Value} {xs : List Value} (h : w.ownsRow base e size v n xs) (hb : b < base) : v.ownBlock = none ∨ v.ownBlock ≠ some b := by
  cases hv : v.ownBlock with
  | none => exact .inl rfl
  | some g => exact .inr fun hh => by have h1 := (h.lt _ hv).1; injection hh with hh; omega
theorem own_none {w : World} {base size n : Nat} {e : TypeId} {v : Value} {xs : List Value} (_h : w.ownsRow base e size v n xs) : v.ownBlock = none ∨ v.ownBlock ≠ none := by
  cases v.ownBlock <;> simp
/-- A row that grows leaves those of other types. -/
theorem own_app {W W' : World} {e e' : TypeId} {size k size' k' base base' : Nat} {v v' : Value} {xs xs' : List Value} (hv : W.ownsRow base e size v k xs) (h : W.ownsRow base' e' size' v' k' xs') (hT : e' ≠ e) (hg : W.grownBy W' v.ownBlock) : W'.ownsRow base' e' size' v' k' xs' :=
  h.kept hg (own_ne2 hv h hT)
section
variable {N B M : Nat} {L : List ByteArray} {ln sc : Int} {w W W' : World}
/-- With no word left: a block behind M that grows, or a store into it. -/
theorem St.grow (h : St N B M [] L ln [] sc W) {row : Option Nat} (hg : W.grownBy W' row) (hr : ∀ g, row = some g → M ≤ g) : St N B M [] L ln [] sc W' := by
  have hlt := h.lt
  obtain ⟨⟨lv, wv, h1, h2, h3⟩, h4, h5, h6, h7, h8⟩ := h
  have hBr : some B ≠ row := fun e => absurd (hr B e.symm) (by omega)
  have hb : Below N W W' := ⟨hg.os, hg.tape, hg.output, hg.size, fun k hk => hg.block k (by omega) (fun e => absurd (hr k e.symm) (by omega))⟩
  refine ⟨⟨lv, wv, (hg.block B hlt hBr).trans h1, h2.turned hg.size ?_, h3.nil _ _⟩, h4.below hb, h5, h6, Nat.le_trans h7 hg.size, by simp⟩
  intro a ha hna
  refine World.cell?_of_block (hg.block a.block ha ?_)
  intro e
  exact hna (.inr (hr _ e.symm))
theorem St.put (h : St N B M [] L ln [] sc W) {a : Addr} (h1 : M ≤ a.block) (h2 : a.block < W.heap.size) (u : Value) : St N B M [] L ln [] sc (W.setCell a u) :=
  ((h.free [a.block] (by simp; exact ⟨h1, h2⟩)).set (by simp) u).drop
theorem grown_row {w W W' : World} {B : Nat} (h : w.grownBy W (some B)) {row : Option Nat} (hg : W.grownBy W' row) (hr : ∀ g, row = some g → w.heap.size ≤ g) : w.grownBy W' (some B) :=
  ⟨hg.os.trans h.os, hg.tape.trans h.tape, hg.output.trans h.output, Nat.le_trans h.size hg.size, fun k hk hne => (hg.block k (Nat.lt_of_lt_of_le hk h.size) (fun e => absurd (hr k e.symm) (by omega))).trans (h.block k hk hne)⟩
end
/-- A row of times, in a block of its own. -/
def DeepAt (base : Nat) (p : IP) (j : Nat) (v : Value) (W : World) : Prop :=
  ∃ g cap cur, v = .slice (some ⟨g, 0, none⟩) p.P cap ∧ base ≤ g ∧ p.P ≤ cap ∧ W.heap[g]? = some (.cells cur 2) ∧ ∀ t, t < p.P → cur[t]? = some (.int .i64 (p.rowV j t))
/-- THE FOUR ROWS of an instance that grows. -/
structure RowsAt (base : Nat) (p : IP) (nc ns nr nm : Nat) (vc vs vr vm : Value) (V : Nat → Value) (W : World) : Prop where
  cars : W.ownsRow base 54 3 vc nc (cellsTo p.car nc)
  stops : W.ownsRow base 57 6 vs ns (cellsTo p.stop ns)
  rides : W.ownsRow base 2 1 vr nr (cellsTo p.ride nr)
  rows : W.ownsRow base 25 1 vm nm (cellsTo (fun j => [V j]) nm)
  deep : ∀ j, j < nm → DeepAt base p j (V j) W
section
variable {base : Nat} {p : IP} {nc ns nr nm : Nat} {vc vs vr vm v v' : Value} {V : Nat → Value} {W W' : World}
theorem DeepAt.far {j : Nat} (h : DeepAt base p j v W) (hk : ∀ g cur, base ≤ g → W.heap[g]? = some (.cells cur 2) → W'.heap[g]? = some (.cells cur 2)) : DeepAt base p j v W' := by
  obtain ⟨g, cap, cur, h1, h2, h3, h4, h5⟩ := h
  exact ⟨g, cap, cur, h1, h2, h3, hk g cur h2 h4, h5⟩
theorem RowsAt.nil (p : IP) (base : Nat) (V : Nat → Value) (W : World) : RowsAt base p 0 0 0 0 (.slice none 0 0) (.slice none 0 0) (.slice none 0 0) (.slice none 0 0) V W :=
  ⟨World.ownsRow_nil _ _ _ _, World.ownsRow_nil _ _ _ _, World.ownsRow_nil _ _ _ _, World.ownsRow_nil _ _ _ _, fun j hj => absurd hj (by omega)⟩
/-- What turns below the base alone. -/
theorem RowsAt.call {b : Nat} (h : RowsAt base p nc ns nr nm vc vs vr vm V W) (hg : W.grownBy W' (some b)) (hb : b < base) : RowsAt base p nc ns nr nm vc vs vr vm V W' :=
  ⟨h.cars.kept hg (own_ne_low h.cars hb), h.stops.kept hg (own_ne_low h.stops hb), h.rides.kept hg (own_ne_low h.rides hb), h.rows.kept hg (own_ne_low h.rows hb),
    fun j hj => (h.deep j hj).far fun _ _ hg' hh => own_kept hg (by omega) hh⟩
theorem RowsAt.below (h : RowsAt base p nc ns nr nm vc vs vr vm V W) (hb : Below W.heap.size W W') : RowsAt base p nc ns nr nm vc vs vr vm V W' :=
  ⟨h.cars.kept (grown_of hb none) (own_none h.cars), h.stops.kept (grown_of hb none) (own_none h.stops), h.rides.kept (grown_of hb none) (own_none h.rides), h.rows.kept (grown_of hb none) (own_none h.rows),
    fun j hj => (h.deep j hj).far fun g _ _ hh => (hb.block g (Array.getElem?_eq_some_iff.1 hh).1).trans hh⟩
/-- A store into a block of another type. -/
theorem RowsAt.put {X f : Nat} {cs : Array Value} {T : TypeId} {u : Value} (h : RowsAt base p nc ns nr nm vc vs vr vm V W) (hb : W.heap[X]? = some (.cells cs T)) (h1 : T ≠ 54) (h2 : T ≠ 57) (h3 : T ≠ 2) (h4 : T ≠ 25) : RowsAt base p nc ns nr nm vc vs vr vm V (W.setCell ⟨X, f, none⟩ u) :=
  ⟨ownsRow_setCell_other h.cars (own_ne h.cars hb h1) u, ownsRow_setCell_other h.stops (own_ne h.stops hb h2) u, ownsRow_setCell_other h.rides (own_ne h.rides hb h3) u, ownsRow_setCell_other h.rows (own_ne h.rows hb h4) u,
    fun j hj => (h.deep j hj).far fun g cur _ hh => own_other hh (by rintro rfl; rw [hb] at hh; simp at hh; exact h3 hh.2) u⟩
theorem RowsAt.carIn (h : RowsAt base p nc ns nr nm vc vs vr vm V W) (ho : W'.ownsRow base 54 3 v' (nc + 1) (cellsTo p.car nc ++ p.car nc)) (hg : W.grownBy W' vc.ownBlock) : RowsAt base p (nc + 1) ns nr nm v' vs vr vm V W' :=
  ⟨ho, own_app h.cars h.stops (by decide) hg, own_app h.cars h.rides (by decide) hg, own_app h.cars h.rows (by decide) hg,
    fun j hj => (h.deep j hj).far fun g cur _ hh => (hg.block g (Array.getElem?_eq_some_iff.1 hh).1 (fun e => own_ne h.cars hh (by decide) e.symm)).trans hh⟩
theorem RowsAt.stopIn (h : RowsAt base p nc ns nr nm vc vs vr vm V W) (ho : W'.ownsRow base 57 6 v' (ns + 1) (cellsTo p.stop ns ++ p.stop ns)) (hg : W.grownBy W' vs.ownBlock) : RowsAt base p nc (ns + 1) nr nm vc v' vr vm V W' :=
  ⟨own_app h.stops h.cars (by decide) hg, ho, own_app h.stops h.rides (by decide) hg, own_app h.stops h.rows (by decide) hg,
    fun j hj => (h.deep j hj).far fun g cur _ hh => (hg.block g (Array.getElem?_eq_some_iff.1 hh).1 (fun e => own_ne h.stops hh (by decide) e.symm)).trans hh⟩
/-- Rides: no rows of times may lie there yet (they are of one type). -/
theorem RowsAt.rideIn (h : RowsAt base p nc ns nr 0 vc vs vr vm V W) (ho : W'.ownsRow base 2 1 v' (nr + 1) (cellsTo p.ride nr ++ p.ride nr)) (hg : W.grownBy W' vr.ownBlock) : RowsAt base p nc ns (nr + 1) 0 vc vs v' vm V W' :=
  ⟨own_app h.rides h.cars (by decide) hg, own_app h.rides h.stops (by decide) hg, ho, own_app h.rides h.rows (by decide) hg, fun j hj => absurd hj (by omega)⟩
theorem RowsAt.rowIn {u : Value} (h : RowsAt base p nc ns nr nm vc vs vr vm V W) (hd : DeepAt base p nm u W) (ho : W'.ownsRow base 25 1 v' (nm + 1) (cellsTo (fun j => [V j]) nm ++ [u])) (hg : W.grownBy W' vm.ownBlock) : RowsAt base p nc ns nr (nm + 1) vc vs vr v' (fun j => if j < nm then V j else u) W' := by
  have k : ∀ {j : Nat} {x : Value}, DeepAt base p j x W → DeepAt base p j x W' := fun hx => hx.far fun g cur _ hh => (hg.block g (Array.getElem?_eq_some_iff.1 hh).1 (fun e => own_ne h.rows hh (by decide) e.symm)).trans hh
  refine ⟨own_app h.rows h.cars (by decide) hg, own_app h.rows h.stops (by decide) hg, own_app h.rows h.rides (by decide) hg, ?_, fun j hj => ?_⟩
  · have e : cellsTo (fun j => [if j < nm then V j else u]) (nm + 1) = cellsTo (fun j => [V j]) nm ++ [u] := by
      rw [cellsTo]
      congr 1
      · exact cellsTo_congr fun j hj => by simp [hj]
      · simp
    rw [e]; exact ho
  · by_cases hlt : j < nm
    · simp only [hlt, if_true]; exact k (h.deep j hlt)
    · obtain rfl : j = nm := by omega
      simp only [Nat.lt_irrefl, if_false]; exact k hd
end
/-- WHAT STANDS WHILE THE INSTANCE GROWS: the reader, the result's block (still empty), the head's, the instance's; its four rows so far. Of what was there when the call began the reader alone has turned. -/
structure IS (w : World) (N B M Q H X : Nat) (p : IP) (n nc ns nr nm : Nat) (vc vs vr vm : Value) (V : Nat → Value) (W : World) : Prop where
  st : St N B M [] p.L n [] p.sc W
  gr : w.grownBy W (some B)
  top : M ≤ w.heap.size
  hq : w.heap.size ≤ Q
  hh : w.heap.size ≤ H
  hx : w.heap.size ≤ X
  ne : X ≠ Q
  res : W.heap[Q]? = some (.cells #[.slice none 0 0, .slice none 0 0, .slice none 0 0, .slice none 0 0] 28)
  hd : W.heap[H]? = some (.cells #[.int .i64 p.C, .int .i64 p.R, .bool p.T] 101)
  box : W.heap[X]? = some (.cells #[vc, vs, vr, vm] 28)
  rows : RowsAt w.heap.size p nc ns nr nm vc vs vr vm V W
section
variable {w W W' : World} {N B M Q H X : Nat} {p : IP} {n nc ns nr nm : Nat} {vc vs vr vm v' : Value} {V : Nat → Value}
theorem IS.bb (h : IS w N B M Q H X p n nc ns nr nm vc vs vr vm V W) : B < w.heap.size := Nat.lt_of_lt_of_le h.st.bot h.top
theorem IS.cell (h : IS w N B M Q H X p n nc ns nr nm vc vs vr vm V W) : W.cell? ⟨X, 0, none⟩ = some vc ∧ W.cell? ⟨X, 1, none⟩ = some vs ∧ W.cell? ⟨X, 2, none⟩ = some vr ∧ W.cell? ⟨X, 3, none⟩ = some vm :=
  ⟨(own_cell h.box).trans rfl, (own_cell h.box).trans rfl, (own_cell h.box).trans rfl, (own_cell h.box).trans rfl⟩
theorem IS.fz (h : IS w N B M Q H X p n nc ns nr nm vc vs vr vm V W) (j : Nat) : W.frozen? ⟨X, j, none⟩ = false := own_free h.box
theorem IS.hcell (h : IS w N B M Q H X p n nc ns nr nm vc vs vr vm V W) : W.cell? ⟨H, 0, none⟩ = some (.int .i64 p.C) ∧ W.cell? ⟨H, 1, none⟩ = some (.int .i64 p.R) ∧ W.cell? ⟨H, 2, none⟩ = some (.bool p.T) :=
  ⟨(own_cell h.hd).trans rfl, (own_cell h.hd).trans rfl, (own_cell h.hd).trans rfl⟩
/-- Behind one of the reader's calls. -/
theorem IS.call (h : IS w N B M Q H X p n nc ns nr nm vc vs vr vm V W) (hg : W.grownBy W' (some B)) {n' : Nat} (hs : St N B M [] p.L n' [] p.sc W') : IS w N B M Q H X p n' nc ns nr nm vc vs vr vm V W' := by
  have hB := h.bb
  have k : ∀ {b : Nat} {o : Obj}, w.heap.size ≤ b → W.heap[b]? = some o → W'.heap[b]? = some o := fun hb h' => own_kept hg (by omega) h'
  exact ⟨hs, h.gr.trans hg, h.top, h.hq, h.hh, h.hx, h.ne, k h.hq h.res, k h.hh h.hd, k h.hx h.box, h.rows.call hg hB⟩
/-- Behind what turns nothing that is there. -/
theorem IS.below (h : IS w N B M Q H X p n nc ns nr nm vc vs vr vm V W) (hb : Below W.heap.size W W') : IS w N B M Q H X p n nc ns nr nm vc vs vr vm V W' :=
  h.call (grown_of hb _) (h.st.below hb)
theorem IS.alloc (h : IS w N B M Q H X p n nc ns nr nm vc vs vr vm V W) (o : Obj) : IS w N B M Q H X p n nc ns nr nm vc vs vr vm V (W.alloc o) := h.below ((Below.refl _ _).alloc (Nat.le_refl _) _)
theorem IS.draws (h : IS w N B M Q H X p n nc ns nr nm vc vs vr vm V W) (k : Nat) : IS w N B M Q H X p n nc ns nr nm vc vs vr vm V (W.drewN k) := h.below (Joins.below_draws _ _ _)
theorem IS.drew (h : IS w N B M Q H X p n nc ns nr nm vc vs vr vm V W) : IS w N B M Q H X p n nc ns nr nm vc vs vr vm V W.drew := h.below (Below.refl _ _).drew
/-- Behind an append to one of its rows: all but the rows. -/
structure IA (w : World) (N B M Q H X : Nat) (p : IP) (n : Nat) (vc vs vr vm : Value) (W : World) : Prop where
  st : St N B M [] p.L n [] p.sc W
  gr : w.grownBy W (some B)
  res : W.heap[Q]? = some (.cells #[.slice none 0 0, .slice none 0 0, .slice none 0 0, .slice none 0 0] 28)
  hd : W.heap[H]? = some (.cells #[.int .i64 p.C, .int .i64 p.R, .bool p.T] 101)
  box : W.heap[X]? = some (.cells #[vc, vs, vr, vm] 28)
theorem IS.app (h : IS w N B M Q H X p n nc ns nr nm vc vs vr vm V W) {e : TypeId} {size k : Nat} {v : Value} {xs : List Value} (hv : W.ownsRow w.heap.size e size v k xs) (h1 : 28 ≠ e) (h2 : 101 ≠ e) (hg : W.grownBy W' v.ownBlock) : IA w N B M Q H X p n vc vs vr vm W' := by
  have hlow : ∀ g, v.ownBlock = some g → w.heap.size ≤ g := fun g e => (hv.lt g e).1
  have htop := h.top
  have k : ∀ {b : Nat} {T : TypeId} {cs : Array Value}, W.heap[b]? = some (.cells cs T) → T ≠ e → W'.heap[b]? = some (.cells cs T) := fun {b T cs} hb hT =>
    (hg.block b (Array.getElem?_eq_some_iff.1 hb).1 (fun e => own_ne hv hb hT e.symm)).trans hb
  exact ⟨h.st.grow hg (fun g e => Nat.le_trans htop (hlow g e)), grown_row h.gr hg hlow, k h.res h1, k h.hd h2, k h.box h1⟩
theorem IA.cell (h : IA w N B M Q H X p n vc vs vr vm W) : W.cell? ⟨X, 0, none⟩ = some vc ∧ W.cell? ⟨X, 1, none⟩ = some vs ∧ W.cell? ⟨X, 2, none⟩ = some vr ∧ W.cell? ⟨X, 3, none⟩ = some vm :=
  ⟨(own_cell h.box).trans rfl, (own_cell h.box).trans rfl, (own_cell h.box).trans rfl, (own_cell h.box).trans rfl⟩
theorem IA.fz (h : IA w N B M Q H X p n vc vs vr vm W) (j : Nat) : W.frozen? ⟨X, j, none⟩ = false := own_free h.box
/-- The store behind it. -/
theorem IA.put {u vc' vs' vr' vm' : Value} {f : Nat} {V' : Nat → Value} {nc' ns' nr' nm' : Nat} (h : IA w N B M Q H X p n vc vs vr vm W') (h0 : IS w N B M Q H X p n nc ns nr nm vc vs vr vm V W)
    (hr : RowsAt w.heap.size p nc' ns' nr' nm' vc' vs' vr' vm' V' W') (hc : (#[vc, vs, vr, vm] : Array Value).setIfInBounds f u = #[vc', vs', vr', vm']) :
    IS w N B M Q H X p n nc' ns' nr' nm' vc' vs' vr' vm' V' (W'.setCell ⟨X, f, none⟩ u) := by
  have hX : X < W'.heap.size := (Array.getElem?_eq_some_iff.1 h.box).1
  have htop := h0.top
  have hx := h0.hx
  have hHX : H ≠ X := by rintro rfl; have h1 := h.hd; have h2 := h.box; rw [h1] at h2; simp at h2
  exact ⟨h.st.put (a := ⟨X, f, none⟩) (by show M ≤ X; omega) hX u, grown_own h.gr hx u, htop, h0.hq, h0.hh, hx, h0.ne, own_other h.res (Ne.symm h0.ne) u, own_other h.hd hHX u, by rw [own_set h.box u, hc],
    hr.put h.box (by decide) (by decide) (by decide) (by decide)⟩
theorem IS.car (h : IS w N B M Q H X p n nc ns nr nm vc vs vr vm V W) (ho : W'.ownsRow w.heap.size 54 3 v' (nc + 1) (cellsTo p.car nc ++ p.car nc)) (hg : W.grownBy W' vc.ownBlock) : IS w N B M Q H X p n (nc + 1) ns nr nm v' vs vr vm V (W'.setCell ⟨X, 0, none⟩ v') :=
  (h.app h.rows.cars (by decide) (by decide) hg).put h (h.rows.carIn ho hg) rfl
theorem IS.stop (h : IS w N B M Q H X p n nc ns nr nm vc vs vr vm V W) (ho : W'.ownsRow w.heap.size 57 6 v' (ns + 1) (cellsTo p.stop ns ++ p.stop ns)) (hg : W.grownBy W' vs.ownBlock) : IS w N B M Q H X p n nc (ns + 1) nr nm vc v' vr vm V (W'.setCell ⟨X, 1, none⟩ v') :=
  (h.app h.rows.stops (by decide) (by decide) hg).put h (h.rows.stopIn ho hg) rfl
theorem IS.ride (h : IS w N B M Q H X p n nc ns nr 0 vc vs vr vm V W) (ho : W'.ownsRow w.heap.size 2 1 v' (nr + 1) (cellsTo p.ride nr ++ p.ride nr)) (hg : W.grownBy W' vr.ownBlock) : IS w N B M Q H X p n nc ns (nr + 1) 0 vc vs v' vm V (W'.setCell ⟨X, 2, none⟩ v') :=
  (h.app h.rows.rides (by decide) (by decide) hg).put h (h.rows.rideIn ho hg) rfl
theorem IS.row {u : Value} (h : IS w N B M Q H X p n nc ns nr nm vc vs vr vm V W) (hd : DeepAt w.heap.size p nm u W) (ho : W'.ownsRow w.heap.size 25 1 v' (nm + 1) (cellsTo (fun j => [V j]) nm ++ [u])) (hg : W.grownBy W' vm.ownBlock) : IS w N B M Q H X p n nc ns nr (nm + 1) vc vs vr v' (fun j => if j < nm then V j else u) (W'.setCell ⟨X, 3, none⟩ v') :=
  (h.app h.rows.rows (by decide) (by decide) hg).put h (h.rows.rowIn hd ho hg) rfl
end
/-- An append to a row of the call's own, as one step of a region that draws. -/
theorem step_owned {P : Program} {ops : Array Oper} {o : Oper} {a : Act} {w : World} {K : Act → World → Prop} {Q : Exit → Act → World → Prop} {E : Prop}
    (hg : o.guard = none) (s x : Operand) (t : TypeId) (hop : o.op = Op.call { callee := Callee.builtin Builtin.append, args := #[s, x], argTypes := #[t, t] })
    (base : Nat) (e : TypeId) (i : TypeInfo) (z : Value) (size bytes : Nat) (h1 : P.underlying t = some (.slice e)) (h2 : P.info? e = some i) (h3 : i.zero = some z) (h4 : i.size = size) (h5 : i.bytes = bytes) (h6 : z.cells.size = size) (h7 : 0 < size)
    (v : Value) (n : Nat) (xs : List Value) (hs : a.eval s = v) (hown : w.ownsRow base e size v n xs)
    (ad : Addr) (m c : Nat) (news : List Value) (hx : a.eval x = .slice (some ad) m c) (hn : news.length = m * size) (hc : ∀ j u, news[j]? = some u → w.cell? (ad.add j) = some u) (h1c : ∀ u ∈ news, u.oneCell' = true)
    (b1 : n + m ≤ maxLen) (b2 : (n + m) * bytes ≤ 140737488355328) (hb : base ≤ w.heap.size)
    (hK : ∀ v' w', w'.ownsRow base e size v' (n + m) (xs ++ news) → w.grownBy w' v.ownBlock → K (a.put o.dst v') w') :
    if Region.wanted o (yielded ops a.tmps) = true then Oper.wp P o a w K Q else E := by
  have hw : Region.wanted o (yielded ops a.tmps) = true := by simp [Region.wanted, hg]
  rw [if_pos hw]
  obtain ⟨v', w', hrun, r1, r2, _⟩ := run_append_own (P := P) (w := w) base t o.type e i z size bytes h1 h2 h3 h4 h5 h6 h7 v n xs hown ad m c news hn hc h1c b1 b2 hb
  unfold Oper.wp
  simp [execOp, hop, resolve, invoke, builtin, hs, hx, hrun, Result.andThen]
  exact hK v' w' r1 r2
/-- The cells of a block just made. -/
theorem cells_made {w : World} {l : List Value} {t : TypeId} : ∀ j u, l[j]? = some u → (w.alloc (.cells l.toArray t)).cell? ((⟨w.heap.size, 0, none⟩ : Addr).add j) = some u := by
  intro j u hj
  rw [Go.WideShapes.add_plain, Nat.zero_add]
  have h : (w.alloc (.cells l.toArray t)).heap[w.heap.size]? = some (.cells l.toArray t) := World.alloc_heap_new w _
  rw [own_cell h]; simpa using hj
end Sheet
end Go.Proofs.YtjmhlabgoegeoaaGreatDoor
namespace Go.Proofs.YtjmhlabgoegeoaaGreatDoor
namespace Sheet
open Go Go.RowKit Deci
theorem info_car : (Tryz.prog.info? 54).map (fun i => (i.zero, i.size, i.bytes)) = some (some (.agg #[.int .i64 0, .int .i64 0, .int .i64 0]), 3, 24) := by kernel_rfl
theorem info_stop : (Tryz.prog.info? 57).map (fun i => (i.zero, i.size, i.bytes)) = some (some (.agg #[.int .i64 0, .int .i64 0, .int .i64 0, .int .i64 0, .int .i64 0, .complex .f64 0 0]), 6, 56) := by kernel_rfl
theorem info_longs : (Tryz.prog.info? 25).map (fun i => (i.zero, i.size, i.bytes)) = some (some (.slice none 0 0), 1, 24) := by kernel_rfl
/-- The error of the line at a place, how many lines there must be; the first line that has an error. -/
def IP.err (p : IP) (i : Nat) : Int :=
  if i < 1 + p.C then carE p.L i p.sc else if i < 1 + p.C + p.P then stopE p.L i p.sc (!p.T) else if i < 1 + p.C + p.P + p.R then rideE p.L i p.sc else rowE p.L i p.P p.sc
def bad (f : Nat → Int) : Nat → Nat → Option Nat
  | _, 0 => none
  | i, k + 1 => if f i = 0 then bad f (i + 1) k else some i
theorem bad_add (f : Nat → Int) (i a b : Nat) (h : bad f i a = none) : bad f i (a + b) = bad f (i + a) b := by
  induction a generalizing i with
  | zero => simp
  | succ a ih =>
    rw [show a + 1 + b = (a + b) + 1 by omega]
    simp only [bad] at h ⊢
    split at h
    · rename_i h0
      rw [if_pos h0, ih _ h]
      congr 1; omega
    · cases h
theorem bad_one {f : Nat → Int} {i : Nat} (h : f i = 0) : bad f i 1 = none := by simp [bad, h]
theorem bad_snoc {f : Nat → Int} {i a : Nat} (h : bad f i a = none) (h2 : f (i + a) = 0) : bad f i (a + 1) = none := by rw [bad_add f i a 1 h, bad_one h2]
theorem bad_at {f : Nat → Int} {i a m : Nat} (h : bad f i a = none) (h2 : f (i + a) ≠ 0) (h3 : a < m) : bad f i m = some (i + a) := by
  obtain ⟨k, rfl⟩ : ∃ k, m = a + (k + 1) := ⟨m - a - 1, by omega⟩
  rw [bad_add f i a _ h]
  simp [bad, h2]
def IP.more (p : IP) : Nat := if p.T then p.P else 0
def IP.all (p : IP) : Nat := p.C + p.P + p.R + p.more
/-- The instance that is made: its four rows. -/
def InstAt (base : Nat) (p : IP) (v : Value) (W : World) : Prop :=
  ∃ vc vs vr vm V, v = .agg #[vc, vs, vr, vm] ∧ RowsAt base p p.C p.P p.R p.more vc vs vr vm V W
/-- The line, and the error, at which the reader gives up behind its first line; ck: what a check of the instance says. -/
def IP.fault (p : IP) (ck : Int) : Nat × Int :=
  match bad p.err 1 p.all with
  | some i => (i + 1, p.err i)
  | none => if 1 + p.all < p.L.length then (1 + p.all + 1, 22) else (0, ck)
def parOf (L : List ByteArray) : IP := ⟨L, headS L, (headC L).toNat, (headR L).toNat, headT L⟩
/-- What instance leaves. -/
def InstOut (N B M : Nat) (p : IP) (ck : Int) (w : World) (e : Ending) (w' : World) : Prop :=
  ((p.fault ck).2 = 0 ∧ ∃ v, e = .returned v ∧ InstAt w.heap.size p v w' ∧ St N B M [] p.L 0 [] p.sc w') ∨ ((p.fault ck).2 ≠ 0 ∧ Gave (p.fault ck).1 (p.fault ck).2 e)
def IP.Ok (p : IP) : Prop := 1 ≤ p.C ∧ p.C ≤ 64 ∧ p.P ≤ 4096
theorem twoE_zero {a b : Int} (h : twoE a b = 0) : a = 0 ∧ b = 0 := by
  unfold twoE at h
  split at h
  · exact ⟨by assumption, h⟩
  · exact absurd h (by assumption)
theorem wholeV_pos (l : List UInt8) : 0 ≤ wholeV l := by
  unfold wholeV wholeBad
  split
  · omega
  · rename_i h
    have hm : minusOf l = false := by
      unfold minusOf
      cases hh : Lib.hasPrefix l [45] with
      | false => rfl
      | true => rw [hh] at h; simp at h
    unfold readV
    rw [hm]
    simp
    split
    · omega
    · split <;> omega
theorem parOf_ok {L : List ByteArray} (h : headE L = 0) : (parOf L).Ok ∧ headC L = ((parOf L).C : Int) ∧ headR L = ((parOf L).R : Int) ∧ 0 ≤ headS L ∧ headS L ≤ 6 := by
  unfold headE at h
  obtain ⟨_, h⟩ := twoE_zero h
  obtain ⟨_, h⟩ := twoE_zero h
  obtain ⟨h1, h⟩ := twoE_zero h
  obtain ⟨_, h⟩ := twoE_zero h
  obtain ⟨_, h⟩ := twoE_zero h
  have c0 := wholeV_pos (wAt L 0 1).data.toList
  have r0 := wholeV_pos (wAt L 0 2).data.toList
  have s0 := wholeV_pos (wAt L 0 0).data.toList
  have s1 : headS L ≤ 6 := by
    unfold scaleE at h1
    split at h1
    · cases h1
    · show wholeV _ ≤ 6; omega
  have hC : headC L = ((parOf L).C : Int) := (Int.toNat_of_nonneg c0).symm
  have hR : headR L = ((parOf L).R : Int) := (Int.toNat_of_nonneg r0).symm
  unfold lastE at h
  split at h
  · cases h
  · split at h
    · cases h
    · split at h
      · cases h
      · rename_i h2 h3
        change ¬ headC L = 0 at h2
        change ¬ (64 < headC L ∨ 4096 < 2 * headR L + 2) at h3
        change 0 ≤ headC L at c0
        refine ⟨⟨?_, ?_, ?_⟩, hC, hR, s0, s1⟩
        · omega
        · omega
        · show 2 * (parOf L).R + 2 ≤ 4096; omega
theorem own_slice {w : World} {base size n : Nat} {e : TypeId} {v : Value} {xs : List Value} (h : w.ownsRow base e size v n xs) : ∃ a c, v = .slice a n c := by
  rcases h.2 with ⟨rfl, rfl⟩ | ⟨g, cap, _, rfl, _⟩
  · exact ⟨_, _, rfl⟩
  · exact ⟨_, _, rfl⟩
theorem stop_form (p : IP) (k : Nat) : ∃ a b c d e x y, stopV p.L (1 + (p.C + k)) p.sc (!p.T) = .agg #[.int .i64 a, .int .i64 b, .int .i64 c, .int .i64 d, .int .i64 e, .complex .f64 x y] ∧ p.stop k = [.int .i64 a, .int .i64 b, .int .i64 c, .int .i64 d, .int .i64 e, .complex .f64 x y] := by
  unfold IP.stop
  rw [← Nat.add_assoc]
  cases p.T
  · exact ⟨_, _, _, _, _, _, _, rfl, rfl⟩
  · exact ⟨_, _, _, _, _, _, _, rfl, rfl⟩
theorem stop_any (N B M : Nat) (L : List ByteArray) (n : Nat) (sc : Int) (w : World) (b : Bool) (hn : n ≤ 1000000) (hl : ∀ s ∈ L, s.size ≤ 1000000) (hn2 : L.length ≤ 1000000) (h : St N B M [] L n [] sc w) :
    Calls Tryz.prog 52 #[.pointer (some ⟨B, 0, none⟩), .bool b] w (Res N B M [] L (n + 1) [] sc w (stopE L n sc b) (stopV L n sc b)) := by
  cases b
  · exact stop_no N B M [] L n sc [] w hn hl hn2 h
  · exact stop_yes N B M [] L n sc [] w hn hl hn2 h
theorem DeepAt.below {base : Nat} {p : IP} {j : Nat} {v : Value} {W W' : World} (h : DeepAt base p j v W) (hb : Below W.heap.size W W') : DeepAt base p j v W' :=
  h.far fun g _ _ hh => (hb.block g (Array.getElem?_eq_some_iff.1 hh).1).trans hh
theorem DeepAt.alloc {base : Nat} {p : IP} {j : Nat} {v : Value} {W : World} (h : DeepAt base p j v W) (o : Obj) : DeepAt base p j v (W.alloc o) := h.below ((Below.refl _ _).alloc (Nat.le_refl _) _)
theorem deep_of {base : Nat} {p : IP} {j G : Nat} {W : World} (h : RowAt W G p.P (nextW p.L (1 + (p.C + p.P + p.R + j))) p.sc p.P) (hl : (nextW p.L (1 + (p.C + p.P + p.R + j))).length = p.P) (hb : base ≤ G) : DeepAt base p j (.slice (some ⟨G, 0, none⟩) p.P p.P) W := by
  obtain ⟨cur, h1, h2, h3⟩ := h
  refine ⟨G, p.P, cur, rfl, hb, Nat.le_refl _, h1, fun t ht => ?_⟩
  have e : p.rowW j = nextW p.L (1 + (p.C + p.P + p.R + j)) := by unfold IP.rowW; congr 1; omega
  rw [h3 t ht]
  unfold IP.rowV decsV
  rw [e, List.getElem?_map, List.getElem?_eq_getElem (by omega)]
  simp only [List.getD, List.getElem?_eq_getElem (show t < (nextW p.L (1 + (p.C + p.P + p.R + j))).length by omega), Option.getD_some, Option.map_some]
section
variable {ops : Array Oper} {o : Oper} {a : Act} {w W : World} {K : Act → World → Prop} {Qx : Exit → Act → World → Prop} {E : Prop} {N B M Q H X : Nat} {p : IP} {n nc ns nr nm b : Nat} {vc vs vr vm : Value} {V : Nat → Value}
theorem IS.xlt (h : IS w N B M Q H X p n nc ns nr nm vc vs vr vm V W) : X < W.heap.size := (Array.getElem?_eq_some_iff.1 h.box).1
/-- A call of the reader's, as one step of a region. -/
theorem step_read1 {f : Nat} {v : Value} (hf : ∀ args W, (callFunc f args).run Tryz.prog W = .ok (.enter f args) W) (h : IS w N B M Q H X p n nc ns nr nm vc vs vr vm V W) (H1 : Hid (∀ W, St N B M [] p.L n [] p.sc W → Calls Tryz.prog f #[.pointer (some ⟨B, 0, none⟩)] W fun e w' => e = .returned v ∧ W.grownBy w' (some B) ∧ St N B M [] p.L (n + 1 : Nat) [] p.sc w'))
    (hg : o.guard = none) (x : Operand) (hop : o.op = Op.call { callee := Callee.value (Operand.func f), args := #[x], argTypes := #[96] }) (hx : a.eval x = .pointer (some ⟨B, 0, none⟩))
    (hK : ∀ w', Hid (IS w N B M Q H X p (n + 1) nc ns nr nm vc vs vr vm V w') → K (a.put o.dst v) w') :
    if Region.wanted o (yielded ops a.tmps) = true then Oper.wp Tryz.prog o a W K Qx else E := by
  have hw : Region.wanted o (yielded ops a.tmps) = true := by simp [Region.wanted, hg]
  rw [if_pos hw]
  have e1 : (execOp a.eval o).run Tryz.prog W = .ok (.enter f #[.pointer (some ⟨B, 0, none⟩)]) W := by
    have ef : a.eval (Operand.func f) = .func (Fn.func f) #[] #[] := rfl
    simp [execOp, hop, resolve, invoke, hx, ef, Deferred.ofValue, hf]
  rw [Oper.wp, e1, Oper.upon_enter]
  refine (H1.out W h.st).mono fun e w' hR => ?_
  obtain ⟨rfl, hg, hs⟩ := hR
  exact hK w' (Lib.hid (h.call hg hs))
theorem step_read2 {f : Nat} {v u : Value} {T2 : TypeId} (hf : ∀ args W, (callFunc f args).run Tryz.prog W = .ok (.enter f args) W) (h : IS w N B M Q H X p n nc ns nr nm vc vs vr vm V W) (H1 : Hid (∀ W, St N B M [] p.L n [] p.sc W → Calls Tryz.prog f #[.pointer (some ⟨B, 0, none⟩), u] W fun e w' => e = .returned v ∧ W.grownBy w' (some B) ∧ St N B M [] p.L (n + 1 : Nat) [] p.sc w'))
    (hg : o.guard = none) (x y : Operand) (hop : o.op = Op.call { callee := Callee.value (Operand.func f), args := #[x, y], argTypes := #[96, T2] }) (hx : a.eval x = .pointer (some ⟨B, 0, none⟩)) (hy : a.eval y = u)
    (hK : ∀ w', Hid (IS w N B M Q H X p (n + 1) nc ns nr nm vc vs vr vm V w') → K (a.put o.dst v) w') :
    if Region.wanted o (yielded ops a.tmps) = true then Oper.wp Tryz.prog o a W K Qx else E := by
  have hw : Region.wanted o (yielded ops a.tmps) = true := by simp [Region.wanted, hg]
  rw [if_pos hw]
  have e1 : (execOp a.eval o).run Tryz.prog W = .ok (.enter f #[.pointer (some ⟨B, 0, none⟩), u]) W := by
    have ef : a.eval (Operand.func f) = .func (Fn.func f) #[] #[] := rfl
    simp [execOp, hop, resolve, invoke, hx, hy, ef, Deferred.ofValue, hf]
  rw [Oper.wp, e1, Oper.upon_enter]
  refine (H1.out W h.st).mono fun e w' hR => ?_
  obtain ⟨rfl, hg, hs⟩ := hR
  exact hK w' (Lib.hid (h.call hg hs))
/-- The appends of the four loops, each as one step of its region. -/
theorem step_car (h : IS w N B M Q H X p n nc ns nr nm vc vs vr vm V W) (hk : nc ≤ 5000) {l : List Value} (hl : p.car nc = l) (hg : o.guard = none) (s x : Operand) (hop : o.op = Op.call { callee := Callee.builtin Builtin.append, args := #[s, x], argTypes := #[23, 23] })
    (hs : a.eval s = vc) (hx : a.eval x = .slice (some ⟨b, 0, none⟩) 1 1) (hc : ∀ j u, l[j]? = some u → W.cell? ((⟨b, 0, none⟩ : Addr).add j) = some u)
    (hK : ∀ g cap w', Hid (IS w N B M Q H X p n (nc + 1) ns nr nm (.slice (some ⟨g, 0, none⟩) (nc + 1) cap) vs vr vm V (w'.setCell ⟨X, 0, none⟩ (.slice (some ⟨g, 0, none⟩) (nc + 1) cap))) → w'.cell? ⟨X, 0, none⟩ = some vc → w'.frozen? ⟨X, 0, none⟩ = false → K (a.put o.dst (.slice (some ⟨g, 0, none⟩) (nc + 1) cap)) w') :
    if Region.wanted o (yielded ops a.tmps) = true then Oper.wp Tryz.prog o a W K Qx else E := by
  obtain ⟨ic, hic, ic0, ic1, ic2⟩ := info_parts info_car
  subst hl
  refine step_owned hg s x 23 hop w.heap.size 54 ic _ 3 24 Tryz.underlying23 hic ic0 ic1 ic2 rfl (by decide) vc nc _ hs h.rows.cars ⟨b, 0, none⟩ 1 1 (p.car nc) hx rfl hc (by intro u hu; simp [IP.car] at hu; rcases hu with rfl | rfl | rfl <;> rfl) (by unfold maxLen; omega) (by omega) h.gr.size ?_
  intro v' w' ho hgr
  obtain ⟨g, cap, rfl⟩ := Go.Joins.ownsRow_form ho (by omega)
  have ha := h.app h.rows.cars (by decide) (by decide) hgr
  exact hK g cap w' (Lib.hid (h.car ho hgr)) ha.cell.1 (ha.fz 0)
theorem step_stop (h : IS w N B M Q H X p n nc ns nr nm vc vs vr vm V W) (hk : ns ≤ 5000) {l : List Value} (hl : p.stop ns = l) (hg : o.guard = none) (s x : Operand) (hop : o.op = Op.call { callee := Callee.builtin Builtin.append, args := #[s, x], argTypes := #[24, 24] })
    (hs : a.eval s = vs) (hx : a.eval x = .slice (some ⟨b, 0, none⟩) 1 1) (hc : ∀ j u, l[j]? = some u → W.cell? ((⟨b, 0, none⟩ : Addr).add j) = some u)
    (hK : ∀ g cap w', Hid (IS w N B M Q H X p n nc (ns + 1) nr nm vc (.slice (some ⟨g, 0, none⟩) (ns + 1) cap) vr vm V (w'.setCell ⟨X, 1, none⟩ (.slice (some ⟨g, 0, none⟩) (ns + 1) cap))) → w'.cell? ⟨X, 1, none⟩ = some vs → w'.frozen? ⟨X, 1, none⟩ = false → K (a.put o.dst (.slice (some ⟨g, 0, none⟩) (ns + 1) cap)) w') :
    if Region.wanted o (yielded ops a.tmps) = true then Oper.wp Tryz.prog o a W K Qx else E := by
  obtain ⟨ic, hic, ic0, ic1, ic2⟩ := info_parts info_stop
  subst hl
  refine step_owned hg s x 24 hop w.heap.size 57 ic _ 6 56 Tryz.underlying24 hic ic0 ic1 ic2 rfl (by decide) vs ns _ hs h.rows.stops ⟨b, 0, none⟩ 1 1 (p.stop ns) hx (stopL_len _ _ _ _) hc (by intro u hu; simp only [IP.stop, stopL] at hu; split at hu <;> (simp at hu; rcases hu with rfl | rfl | rfl | rfl | rfl | rfl <;> rfl)) (by unfold maxLen; omega) (by omega) h.gr.size ?_
  intro v' w' ho hgr
  obtain ⟨g, cap, rfl⟩ := Go.Joins.ownsRow_form ho (by omega)
  have ha := h.app h.rows.stops (by decide) (by decide) hgr
  exact hK g cap w' (Lib.hid (h.stop ho hgr)) ha.cell.2.1 (ha.fz 1)
theorem step_ride (h : IS w N B M Q H X p n nc ns nr 0 vc vs vr vm V W) (hk : nr ≤ 5000) {l : List Value} (hl : p.ride nr = l) (hg : o.guard = none) (s x : Operand) (hop : o.op = Op.call { callee := Callee.builtin Builtin.append, args := #[s, x], argTypes := #[25, 25] })
    (hs : a.eval s = vr) (hx : a.eval x = .slice (some ⟨b, 0, none⟩) 1 1) (hc : ∀ j u, l[j]? = some u → W.cell? ((⟨b, 0, none⟩ : Addr).add j) = some u)
    (hK : ∀ g cap w', Hid (IS w N B M Q H X p n nc ns (nr + 1) 0 vc vs (.slice (some ⟨g, 0, none⟩) (nr + 1) cap) vm V (w'.setCell ⟨X, 2, none⟩ (.slice (some ⟨g, 0, none⟩) (nr + 1) cap))) → w'.cell? ⟨X, 2, none⟩ = some vr → w'.frozen? ⟨X, 2, none⟩ = false → K (a.put o.dst (.slice (some ⟨g, 0, none⟩) (nr + 1) cap)) w') :
    if Region.wanted o (yielded ops a.tmps) = true then Oper.wp Tryz.prog o a W K Qx else E := by
  obtain ⟨ic, hic, ic0, ic1, ic2⟩ := info_parts info_long
  subst hl
  refine step_owned hg s x 25 hop w.heap.size 2 ic _ 1 8 Tryz.underlying25 hic ic0 ic1 ic2 rfl (by decide) vr nr _ hs h.rows.rides ⟨b, 0, none⟩ 1 1 (p.ride nr) hx rfl hc (by intro u hu; simp [IP.ride] at hu; rcases hu with rfl; rfl) (by unfold maxLen; omega) (by omega) h.gr.size ?_
  intro v' w' ho hgr
  obtain ⟨g, cap, rfl⟩ := Go.Joins.ownsRow_form ho (by omega)
  have ha := h.app h.rows.rides (by decide) (by decide) hgr
  exact hK g cap w' (Lib.hid (h.ride ho hgr)) ha.cell.2.2.1 (ha.fz 2)
theorem step_row {u : Value} (h : IS w N B M Q H X p n nc ns nr nm vc vs vr vm V W) (hd : DeepAt w.heap.size p nm u W) (h1 : u.oneCell' = true) (hk : nm ≤ 5000) (hg : o.guard = none) (s x : Operand) (hop : o.op = Op.call { callee := Callee.builtin Builtin.append, args := #[s, x], argTypes := #[26, 26] })
    (hs : a.eval s = vm) (hx : a.eval x = .slice (some ⟨b, 0, none⟩) 1 1) (hc : ∀ j y, [u][j]? = some y → W.cell? ((⟨b, 0, none⟩ : Addr).add j) = some y)
    (hK : ∀ g cap w' V', Hid (IS w N B M Q H X p n nc ns nr (nm + 1) vc vs vr (.slice (some ⟨g, 0, none⟩) (nm + 1) cap) V' (w'.setCell ⟨X, 3, none⟩ (.slice (some ⟨g, 0, none⟩) (nm + 1) cap))) → w'.cell? ⟨X, 3, none⟩ = some vm → w'.frozen? ⟨X, 3, none⟩ = false → K (a.put o.dst (.slice (some ⟨g, 0, none⟩) (nm + 1) cap)) w') :
    if Region.wanted o (yielded ops a.tmps) = true then Oper.wp Tryz.prog o a W K Qx else E := by
  obtain ⟨ic, hic, ic0, ic1, ic2⟩ := info_parts info_longs
  refine step_owned hg s x 26 hop w.heap.size 25 ic _ 1 24 Tryz.underlying26 hic ic0 ic1 ic2 rfl (by decide) vm nm _ hs h.rows.rows ⟨b, 0, none⟩ 1 1 [u] hx rfl hc (by intro y hy; simp at hy; rw [hy]; exact h1) (by unfold maxLen; omega) (by omega) h.gr.size ?_
  intro v' w' ho hgr
  obtain ⟨g, cap, rfl⟩ := Go.Joins.ownsRow_form ho (by omega)
  have ha := h.app h.rows.rows (by decide) (by decide) hgr
  exact hK g cap w' _ (Lib.hid (h.row hd ho hgr)) ha.cell.2.2.2 (ha.fz 3)
theorem step_readrow (hf : ∀ args W, (callFunc 54 args).run Tryz.prog W = .ok (.enter 54 args) W) (h : IS w N B M Q H X p n nc ns nr nm vc vs vr vm V W)
    (H1 : Hid (∀ W, St N B M [] p.L n [] p.sc W → Calls Tryz.prog 54 #[.pointer (some ⟨B, 0, none⟩), .int .i64 p.P] W fun e w' => W.grownBy w' (some B) ∧ ∃ G, e = .returned (.slice (some ⟨G, 0, none⟩) p.P p.P) ∧ W.heap.size ≤ G ∧ RowAt w' G p.P (nextW p.L n) p.sc p.P ∧ (nextW p.L n).length = p.P ∧ St N B M [] p.L (n + 1 : Nat) [] p.sc w'))
    (hn : n = 1 + (p.C + p.P + p.R + nm))
    (hg : o.guard = none) (x y : Operand) (hop : o.op = Op.call { callee := Callee.value (Operand.func 54), args := #[x, y], argTypes := #[96, 3] }) (hx : a.eval x = .pointer (some ⟨B, 0, none⟩)) (hy : a.eval y = .int .i64 p.P)
    (hK : ∀ G w', Hid (IS w N B M Q H X p (n + 1) nc ns nr nm vc vs vr vm V w') → Hid (DeepAt w.heap.size p nm (.slice (some ⟨G, 0, none⟩) p.P p.P) w') → K (a.put o.dst (.slice (some ⟨G, 0, none⟩) p.P p.P)) w') :
    if Region.wanted o (yielded ops a.tmps) = true then Oper.wp Tryz.prog o a W K Qx else E := by
  have hw : Region.wanted o (yielded ops a.tmps) = true := by simp [Region.wanted, hg]
  rw [if_pos hw]
  have e1 : (execOp a.eval o).run Tryz.prog W = .ok (.enter 54 #[.pointer (some ⟨B, 0, none⟩), .int .i64 p.P]) W := by
    have ef : a.eval (Operand.func 54) = .func (Fn.func 54) #[] #[] := rfl
    simp [execOp, hop, resolve, invoke, hx, hy, ef, Deferred.ofValue, hf]
  rw [Oper.wp, e1, Oper.upon_enter]
  refine (H1.out W h.st).mono fun e w' hR => ?_
  obtain ⟨hg, G, rfl, hG, hr, hl, hs⟩ := hR
  subst hn
  exact hK G w' (Lib.hid (h.call hg hs)) (Lib.hid (deep_of hr hl (Nat.le_trans h.gr.size hG)))
end
/-- The instance is stored into the result. -/
theorem IS.done {w W : World} {N B M Q H X : Nat} {p : IP} {n nc ns nr nm : Nat} {vc vs vr vm : Value} {V : Nat → Value} (h : IS w N B M Q H X p n nc ns nr nm vc vs vr vm V W) :
    w.grownBy ((((W.setCell ⟨Q, 0, none⟩ vc).setCell ⟨Q, 1, none⟩ vs).setCell ⟨Q, 2, none⟩ vr).setCell ⟨Q, 3, none⟩ vm) (some B) ∧
    RowsAt w.heap.size p nc ns nr nm vc vs vr vm V ((((W.setCell ⟨Q, 0, none⟩ vc).setCell ⟨Q, 1, none⟩ vs).setCell ⟨Q, 2, none⟩ vr).setCell ⟨Q, 3, none⟩ vm) ∧
    St N B M [] p.L n [] p.sc ((((W.setCell ⟨Q, 0, none⟩ vc).setCell ⟨Q, 1, none⟩ vs).setCell ⟨Q, 2, none⟩ vr).setCell ⟨Q, 3, none⟩ vm) ∧
    ((((W.setCell ⟨Q, 0, none⟩ vc).setCell ⟨Q, 1, none⟩ vs).setCell ⟨Q, 2, none⟩ vr).setCell ⟨Q, 3, none⟩ vm).heap[Q]? = some (.cells #[vc, vs, vr, vm] 28) := by
  have hQ : Q < W.heap.size := (Array.getElem?_eq_some_iff.1 h.res).1
  have htop := h.top
  have hq := h.hq
  have h0 := h.res
  have h1 := own_set h0 (i := 0) vc
  have h2 := own_set h1 (i := 1) vs
  have h3 := own_set h2 (i := 2) vr
  have h4 := own_set h3 (i := 3) vm
  refine ⟨grown_own (grown_own (grown_own (grown_own h.gr hq _) hq _) hq _) hq _, ?_, ?_, h4⟩
  · exact (((h.rows.put h0 (by decide) (by decide) (by decide) (by decide)).put h1 (by decide) (by decide) (by decide) (by decide)).put h2 (by decide) (by decide) (by decide) (by decide)).put h3 (by decide) (by decide) (by decide) (by decide)
  · refine (((h.st.put (a := ⟨Q, 0, none⟩) (by show M ≤ Q; omega) hQ _).put (a := ⟨Q, 1, none⟩) (by show M ≤ Q; omega) ?_ _).put (a := ⟨Q, 2, none⟩) (by show M ≤ Q; omega) ?_ _).put (a := ⟨Q, 3, none⟩) (by show M ≤ Q; omega) ?_ _
    all_goals (repeat rw [World.size_setCell]); exact hQ
end Sheet
end Go.Proofs.YtjmhlabgoegeoaaGreatDoor
