/- Package file's reader: plan; over the translated program. -/
import Derived.Test.YtkggahoadeeajaaGreatDoorFilHead
import Derived.OneCell
import Derived.Lib.SmallJoins
import Derived.Deep.RegionWith
import Derived.Deep.RegionLaw
import Derived.RegionDies
import Derived.Laws.AppendOwn
namespace Go.Proofs.YtkggahoadeeajaaGreatDoor
namespace Fil
open Go Go.RowKit Deci
set_option linter.unusedVariables false
/-- WHAT STANDS WHILE THE PLAN GROWS: the reader; the plan's block X; its rows and times so far. Of what was there when the call began the reader alone has turned. -/
structure PS (w : World) (N B M X : Nat) (L : List ByteArray) (n : Nat) (cost : Int) (rs ts : List (List Int)) (vr vt : Value) (W : World) : Prop where
  st : ∃ wv, St N B M L n wv W
  gr : w.grownBy W (some B)
  top : M ≤ w.heap.size
  hx : w.heap.size < X
  res : W.heap[w.heap.size]? = some (.cells #[.slice none 0 0, .slice none 0 0, .slice none 0 0, .int .i64 0] 27)
  box : W.heap[X]? = some (.cells #[vr, vt, .slice none 0 0, .int .i64 cost] 27)
  rr : Rows w.heap.size 25 3 rs vr W
  rt : Rows w.heap.size 55 2 ts vt W
section
variable {w W W' : World} {N B M X : Nat} {L : List ByteArray} {n : Nat} {cost : Int} {rs ts : List (List Int)} {vr vt v' u : Value} {xs : List Int}
theorem PS.bb (h : PS w N B M X L n cost rs ts vr vt W) : B < w.heap.size := by obtain ⟨wv, hs⟩ := h.st; exact Nat.lt_of_lt_of_le hs.bot h.top
theorem PS.cell (h : PS w N B M X L n cost rs ts vr vt W) : W.cell? ⟨X, 0, none⟩ = some vr ∧ W.cell? ⟨X, 1, none⟩ = some vt ∧ W.cell? ⟨X, 2, none⟩ = some (.slice none 0 0) ∧ W.cell? ⟨X, 3, none⟩ = some (.int .i64 cost) :=
  ⟨(own_cell h.box).trans rfl, (own_cell h.box).trans rfl, (own_cell h.box).trans rfl, (own_cell h.box).trans rfl⟩
theorem PS.fz (h : PS w N B M X L n cost rs ts vr vt W) (j : Nat) : W.frozen? ⟨X, j, none⟩ = false := own_free h.box
theorem PS.xlt (h : PS w N B M X L n cost rs ts vr vt W) : X < W.heap.size := own_lt h.box
/-- Behind one of the reader's calls. -/
theorem PS.call (h : PS w N B M X L n cost rs ts vr vt W) (hg : W.grownBy W' (some B)) {n' : Nat} {wv : Value} (hs : St N B M L n' wv W') : PS w N B M X L n' cost rs ts vr vt W' := by
  have hB := h.bb
  have hx := h.hx
  exact ⟨⟨wv, hs⟩, h.gr.trans hg, h.top, hx, own_kept hg (by omega) h.res, own_kept hg (by omega) h.box, h.rr.call hg hB, h.rt.call hg hB⟩
theorem PS.below (h : PS w N B M X L n cost rs ts vr vt W) (hb : Below W.heap.size W W') : PS w N B M X L n cost rs ts vr vt W' := by
  obtain ⟨wv, hs⟩ := h.st
  exact h.call (grown_of hb _) (hs.below hb)
theorem PS.alloc (h : PS w N B M X L n cost rs ts vr vt W) (o : Obj) : PS w N B M X L n cost rs ts vr vt (W.alloc o) := h.below ((Below.refl _ _).alloc (Nat.le_refl _) _)
theorem PS.drew (h : PS w N B M X L n cost rs ts vr vt W) : PS w N B M X L n cost rs ts vr vt W.drew := h.below (Below.refl _ _).drew
theorem PS.draws (h : PS w N B M X L n cost rs ts vr vt W) (k : Nat) : PS w N B M X L n cost rs ts vr vt (W.drewN k) := h.below (Joins.below_draws _ _ _)
/-- What an append to one of its rows leaves: all but that row. -/
structure PA (w : World) (N B M X : Nat) (L : List ByteArray) (n : Nat) (cost : Int) (vr vt : Value) (W : World) : Prop where
  st : ∃ wv, St N B M L n wv W
  gr : w.grownBy W (some B)
  res : W.heap[w.heap.size]? = some (.cells #[.slice none 0 0, .slice none 0 0, .slice none 0 0, .int .i64 0] 27)
  box : W.heap[X]? = some (.cells #[vr, vt, .slice none 0 0, .int .i64 cost] 27)
theorem PS.app (h : PS w N B M X L n cost rs ts vr vt W) {e : TypeId} {size k : Nat} {v : Value} {xs : List Value} (hv : W.ownsRow w.heap.size e size v k xs) (h1 : 27 ≠ e) (hg : W.grownBy W' v.ownBlock) : PA w N B M X L n cost vr vt W' := by
  have hlow : ∀ g, v.ownBlock = some g → w.heap.size ≤ g := fun g e => (hv.lt g e).1
  have htop := h.top
  obtain ⟨wv, hs⟩ := h.st
  exact ⟨⟨wv, hs.grow hg (fun g e => Nat.le_trans htop (hlow g e))⟩, grown_row h.gr hg hlow, (hg.block _ (own_lt h.res) (fun e => own_ne hv h.res h1 e.symm)).trans h.res, (hg.block X (own_lt h.box) (fun e => own_ne hv h.box h1 e.symm)).trans h.box⟩
theorem PA.cell (h : PA w N B M X L n cost vr vt W) : W.cell? ⟨X, 0, none⟩ = some vr ∧ W.cell? ⟨X, 1, none⟩ = some vt := ⟨(own_cell h.box).trans rfl, (own_cell h.box).trans rfl⟩
theorem PA.fz (h : PA w N B M X L n cost vr vt W) (j : Nat) : W.frozen? ⟨X, j, none⟩ = false := own_free h.box
/-- The store behind it. -/
theorem PA.put {vr' vt' : Value} {f : Nat} {rs' ts' : List (List Int)} (h : PA w N B M X L n cost vr vt W) (htop : M ≤ w.heap.size) (hx : w.heap.size < X) (hr : Rows w.heap.size 25 3 rs' vr' W) (ht : Rows w.heap.size 55 2 ts' vt' W)
    (hc : (#[vr, vt, .slice none 0 0, .int .i64 cost] : Array Value).setIfInBounds f u = #[vr', vt', .slice none 0 0, .int .i64 cost]) :
    PS w N B M X L n cost rs' ts' vr' vt' (W.setCell ⟨X, f, none⟩ u) := by
  obtain ⟨wv, hs⟩ := h.st
  exact ⟨⟨wv, hs.put (a := ⟨X, f, none⟩) (by show M ≤ X; omega) u⟩, grown_own h.gr (a := ⟨X, f, none⟩) (Nat.le_of_lt hx) u, htop, hx, own_other h.res (by omega) u, by rw [own_set h.box u, hc], hr.put h.box (by decide) (by decide) u, ht.put h.box (by decide) (by decide) u⟩
/-- The appends' own rows. -/
theorem PS.rowsOwn (h : PS w N B M X L n cost rs ts vr vt W) : ∃ vs, W.ownsRow w.heap.size 25 1 vr rs.length vs ∧ ∀ {W' : World} {v' u : Value} {xs : List Int}, Deep w.heap.size 3 xs u W → W'.ownsRow w.heap.size 25 1 v' (rs.length + 1) (vs ++ [u]) → W.grownBy W' vr.ownBlock →
    PS w N B M X L n cost (rs ++ [xs]) ts v' vt (W'.setCell ⟨X, 0, none⟩ v') ∧ PA w N B M X L n cost vr vt W' := by
  obtain ⟨vs, ho, hl, hd⟩ := h.rr
  refine ⟨vs, ho, fun {W' v' u xs} hx ho' hg => ?_⟩
  have ha := h.app ho (by decide) hg
  exact ⟨ha.put h.top h.hx (Rows.snoc ho hl hd (by decide) hx ho' hg) (h.rt.app ho (by decide) (by decide) hg) rfl, ha⟩
theorem PS.timesOwn (h : PS w N B M X L n cost rs ts vr vt W) : ∃ vs, W.ownsRow w.heap.size 55 1 vt ts.length vs ∧ ∀ {W' : World} {v' u : Value} {xs : List Int}, Deep w.heap.size 2 xs u W → W'.ownsRow w.heap.size 55 1 v' (ts.length + 1) (vs ++ [u]) → W.grownBy W' vt.ownBlock →
    PS w N B M X L n cost rs (ts ++ [xs]) vr v' (W'.setCell ⟨X, 1, none⟩ v') ∧ PA w N B M X L n cost vr vt W' := by
  obtain ⟨vs, ho, hl, hd⟩ := h.rt
  refine ⟨vs, ho, fun {W' v' u xs} hx ho' hg => ?_⟩
  have ha := h.app ho (by decide) hg
  exact ⟨ha.put h.top h.hx (h.rr.app ho (by decide) (by decide) hg) (Rows.snoc ho hl hd (by decide) hx ho' hg) rfl, ha⟩
end
theorem wholeV_pos (l : List UInt8) : 0 ≤ wholeV l := by
  unfold wholeV wholeBad
  split
  · omega
  · rename_i h
    have hm : minusOf l = false := by
      unfold minusOf
      cases hh : Lib.hasPrefix l [45] with
      | false => rfl
      | true => rw [hh] at h; simp at h
    unfold readV
    rw [hm]
    simp
    split
    · omega
    · split <;> omega
theorem rowsF_add (L : List ByteArray) (j : Nat) : ∀ k n, (rowsF L n k).2 = 0 → rowsF L n (k + j) = rowsF L (n + 2 * k) j
  | 0, n, _ => by simp
  | k + 1, n, h => by
    rw [show k + 1 + j = (k + j) + 1 by omega]
    rw [rowsF] at h ⊢
    split at h
    · rename_i h1; exact absurd h h1
    · rename_i h1
      rw [if_neg h1]
      split at h
      · rename_i h2; exact absurd h h2
      · rename_i h2
        rw [if_neg h2, rowsF_add L j k (n + 2) h]
        congr 1; omega
theorem rowsF_snoc {L : List ByteArray} {k n : Nat} (h : (rowsF L n k).2 = 0) (h1 : routeE L (n + 2 * k) = 0) (h2 : timesE L (n + 2 * k + 1) (nextW L (n + 2 * k)).length = 0) : (rowsF L n (k + 1)).2 = 0 := by
  rw [rowsF_add L 1 k n h, rowsF, if_neg (by simpa using h1), if_neg (by simpa using h2)]; rfl
theorem allF_route {L : List ByteArray} {k n m : Nat} (h : (rowsF L n k).2 = 0) (hk : k < m) (h1 : routeE L (n + 2 * k) ≠ 0) : allF L n m = (n + 2 * k + 1, routeE L (n + 2 * k)) := by
  have e : rowsF L n m = (n + 2 * k + 1, routeE L (n + 2 * k)) := by
    obtain ⟨j, rfl⟩ : ∃ j, m = k + (j + 1) := ⟨m - k - 1, by omega⟩
    rw [rowsF_add L (j + 1) k n h, rowsF, if_pos h1]
  unfold allF
  rw [e, if_pos h1]
theorem allF_times {L : List ByteArray} {k n m : Nat} (h : (rowsF L n k).2 = 0) (hk : k < m) (h0 : routeE L (n + 2 * k) = 0) (h1 : timesE L (n + 2 * k + 1) (nextW L (n + 2 * k)).length ≠ 0) : allF L n m = (n + 2 * k + 2, timesE L (n + 2 * k + 1) (nextW L (n + 2 * k)).length) := by
  have e : rowsF L n m = (n + 2 * k + 2, timesE L (n + 2 * k + 1) (nextW L (n + 2 * k)).length) := by
    obtain ⟨j, rfl⟩ : ∃ j, m = k + (j + 1) := ⟨m - k - 1, by omega⟩
    rw [rowsF_add L (j + 1) k n h, rowsF, if_neg (by simpa using h0), if_pos h1]
  unfold allF
  rw [e, if_pos h1]
theorem allF_tail {L : List ByteArray} {n m : Nat} (h : (rowsF L n m).2 = 0) : allF L n m = tailF L (n + 2 * m) := by
  unfold allF; rw [if_neg (by simpa using h)]
/-- An append to a row of the call's own, as one step of a region that draws. -/
theorem step_owned {P : Program} {ops : Array Oper} {o : Oper} {a : Act} {w : World} {K : Act → World → Prop} {Q : Exit → Act → World → Prop} {E : Prop}
    (hg : o.guard = none) (s x : Operand) (t : TypeId) (hop : o.op = Op.call { callee := Callee.builtin Builtin.append, args := #[s, x], argTypes := #[t, t] })
    (base : Nat) (e : TypeId) (i : TypeInfo) (z : Value) (size bytes : Nat) (h1 : P.underlying t = some (.slice e)) (h2 : P.info? e = some i) (h3 : i.zero = some z) (h4 : i.size = size) (h5 : i.bytes = bytes) (h6 : z.cells.size = size) (h7 : 0 < size)
    (v : Value) (n : Nat) (xs : List Value) (hs : a.eval s = v) (hown : w.ownsRow base e size v n xs)
    (ad : Addr) (m c : Nat) (news : List Value) (hx : a.eval x = .slice (some ad) m c) (hn : news.length = m * size) (hc : ∀ j u, news[j]? = some u → w.cell? (ad.add j) = some u) (h1c : ∀ u ∈ news, u.oneCell' = true)
    (b1 : n + m ≤ maxLen) (b2 : (n + m) * bytes ≤ 140737488355328) (hb : base ≤ w.heap.size)
    (hK : ∀ v' w', w'.ownsRow base e size v' (n + m) (xs ++ news) → w.grownBy w' v.ownBlock → K (a.put o.dst v') w') :
    if Region.wanted o (yielded ops a.tmps) = true then Oper.wp P o a w K Q else E := by
  have hw : Region.wanted o (yielded ops a.tmps) = true := by simp [Region.wanted, hg]
  rw [if_pos hw]
  obtain ⟨v', w', hrun, r1, r2, _⟩ := run_append_own (P := P) (w := w) base t o.type e i z size bytes h1 h2 h3 h4 h5 h6 h7 v n xs hown ad m c news hn hc h1c b1 b2 hb
  unfold Oper.wp
  simp [execOp, hop, resolve, invoke, builtin, hs, hx, hrun, Result.andThen]
  exact hK v' w' r1 r2
section
variable {ops : Array Oper} {o : Oper} {a : Act} {w W : World} {K : Act → World → Prop} {Qx : Exit → Act → World → Prop} {E : Prop} {N B M X : Nat} {L : List ByteArray} {n k b : Nat} {cost : Int} {rs ts : List (List Int)} {vr vt u : Value} {xs : List Int}
theorem step_times (hf : ∀ args W, (callFunc 55 args).run Tryz.prog W = .ok (.enter 55 args) W) (h : PS w N B M X L n cost rs ts vr vt W)
    (H1 : Hid (∀ W wv, St N B M L n wv W → Calls Tryz.prog 55 #[.pointer (some ⟨B, 0, none⟩), .int .i64 k] W fun e w' => W.grownBy w' (some B) ∧ ∃ v wv, e = .returned v ∧ Deep W.heap.size 2 xs v w' ∧ St N B M L (n + 1 : Nat) wv w'))
    (hg : o.guard = none) (x y : Operand) (hop : o.op = Op.call { callee := Callee.value (Operand.func 55), args := #[x, y], argTypes := #[87, 3] }) (hx : a.eval x = .pointer (some ⟨B, 0, none⟩)) (hy : a.eval y = .int .i64 k)
    (hK : ∀ a' c' w', Hid (PS w N B M X L (n + 1) cost rs ts vr vt w') → Hid (Deep w.heap.size 2 xs (.slice a' xs.length c') w') → K (a.put o.dst (.slice a' xs.length c')) w') :
    if Region.wanted o (yielded ops a.tmps) = true then Oper.wp Tryz.prog o a W K Qx else E := by
  have hw : Region.wanted o (yielded ops a.tmps) = true := by simp [Region.wanted, hg]
  rw [if_pos hw]
  have e1 : (execOp a.eval o).run Tryz.prog W = .ok (.enter 55 #[.pointer (some ⟨B, 0, none⟩), .int .i64 k]) W := by
    have ef : a.eval (Operand.func 55) = .func (Fn.func 55) #[] #[] := rfl
    simp [execOp, hop, resolve, invoke, hx, hy, ef, Deferred.ofValue, hf]
  rw [Oper.wp, e1, Oper.upon_enter]
  obtain ⟨wv, hst⟩ := h.st
  refine (H1.out W wv hst).mono fun e w' hR => ?_
  obtain ⟨hg, v, wv', rfl, hd, hs⟩ := hR
  obtain ⟨a', c', rfl⟩ := hd.form
  exact hK a' c' w' (Lib.hid (h.call hg hs)) (Lib.hid (hd.mono h.gr.size))
theorem step_app (h : PS w N B M X L n cost rs ts vr vt W) (hd : Deep w.heap.size 2 xs u W) (h1 : u.oneCell' = true) (hk : ts.length ≤ 5000) (hg : o.guard = none) (s x : Operand) (hop : o.op = Op.call { callee := Callee.builtin Builtin.append, args := #[s, x], argTypes := #[24, 24] })
    (hs : a.eval s = vt) (hx : a.eval x = .slice (some ⟨b, 0, none⟩) 1 1) (hc : ∀ j y, [u][j]? = some y → W.cell? ((⟨b, 0, none⟩ : Addr).add j) = some y)
    (hK : ∀ g cap w', Hid (PS w N B M X L n cost rs (ts ++ [xs]) vr (.slice (some ⟨g, 0, none⟩) (ts.length + 1) cap) (w'.setCell ⟨X, 1, none⟩ (.slice (some ⟨g, 0, none⟩) (ts.length + 1) cap))) → w'.cell? ⟨X, 1, none⟩ = some vt → w'.frozen? ⟨X, 1, none⟩ = false → K (a.put o.dst (.slice (some ⟨g, 0, none⟩) (ts.length + 1) cap)) w') :
    if Region.wanted o (yielded ops a.tmps) = true then Oper.wp Tryz.prog o a W K Qx else E := by
  obtain ⟨ic, hic, ic0, ic1, ic2⟩ := info_parts info_longs
  obtain ⟨vs, ho, hnx⟩ := h.timesOwn
  refine step_owned hg s x 24 hop w.heap.size 55 ic _ 1 24 Tryz.underlying24 hic ic0 ic1 ic2 rfl (by decide) vt ts.length _ hs ho ⟨b, 0, none⟩ 1 1 [u] hx rfl hc (by intro y hy; simp at hy; rw [hy]; exact h1) (by unfold maxLen; omega) (by omega) h.gr.size ?_
  intro v' w' ho' hgr
  obtain ⟨g, cap, rfl⟩ := Go.Joins.ownsRow_form ho' (by omega)
  obtain ⟨hp, ha⟩ := hnx hd ho' hgr
  exact hK g cap w' (Lib.hid hp) ha.cell.2 (ha.fz 1)
end
theorem Deep.below {base : Nat} {T : TypeId} {xs : List Int} {v : Value} {W W' : World} (h : Deep base T xs v W) (hb : Below W.heap.size W W') : Deep base T xs v W' := h.far fun g _ _ hh => (hb.block g (own_lt hh)).trans hh
theorem Deep.call {base b : Nat} {T : TypeId} {xs : List Int} {v : Value} {W W' : World} (h : Deep base T xs v W) (hg : W.grownBy W' (some b)) (hb : b < base) : Deep base T xs v W' := h.far fun _ _ hg' hh => own_kept hg (by omega) hh
theorem Deep.put {base X f : Nat} {T S : TypeId} {xs : List Int} {v u : Value} {cs : Array Value} {W : World} (h : Deep base T xs v W) (hb : W.heap[X]? = some (.cells cs S)) (h1 : S ≠ T) : Deep base T xs v (W.setCell ⟨X, f, none⟩ u) :=
  h.far fun g _ _ hh => own_other hh (by rintro rfl; rw [hb] at hh; simp at hh; exact h1 hh.2) u
/-- A plan whose rows lie in blocks of the call's own. -/
def PlanOwn (base : Nat) (p : PL) (v : Value) (W : World) : Prop :=
  ∃ vr vt vl, v = .agg #[vr, vt, vl, .int .i64 p.cost] ∧ Rows base 25 3 p.routes vr W ∧ Rows base 55 2 p.times vt W ∧ Deep base 3 p.left vl W
theorem ownsRow_same {base size n : Nat} {e : TypeId} {v : Value} {xs : List Value} {W W' : World} (h : W.ownsRow base e size v n xs) (hk : ∀ g o, base ≤ g → W.heap[g]? = some o → W'.heap[g]? = some o) : W'.ownsRow base e size v n xs := by
  obtain ⟨h1, h2⟩ := h
  refine ⟨h1, h2.imp id ?_⟩
  rintro ⟨g, cap, cur, hv, hg, hh, r⟩
  exact ⟨g, cap, cur, hv, hg, hk g _ hg hh, r⟩
section
variable {base base' : Nat} {p : PL} {v : Value} {W W' : World}
theorem Rows.same {TT T : TypeId} {rs : List (List Int)} (h : Rows base TT T rs v W) (hk : ∀ g o, base ≤ g → W.heap[g]? = some o → W'.heap[g]? = some o) : Rows base TT T rs v W' := by
  obtain ⟨vs, ho, hl, hd⟩ := h
  exact ⟨vs, ownsRow_same ho hk, hl, fun j h h' => (hd j h h').far fun g _ hg hh => hk g _ hg hh⟩
theorem Rows.mono {TT T : TypeId} {rs : List (List Int)} (h : Rows base TT T rs v W) (hb : base' ≤ base) : Rows base' TT T rs v W := by
  obtain ⟨vs, ho, hl, hd⟩ := h
  exact ⟨vs, Joins.ownsRow_le ho hb, hl, fun j h h' => (hd j h h').mono hb⟩
theorem PlanOwn.isPlan (h : PlanOwn base p v W) : IsPlan W v p := by
  obtain ⟨vr, vt, vl, h0, h1, h2, h3⟩ := h
  exact ⟨vr, vt, vl, h0, h1.isRows, h2.isRows, h3.isRow⟩
theorem PlanOwn.same (h : PlanOwn base p v W) (hk : ∀ g o, base ≤ g → W.heap[g]? = some o → W'.heap[g]? = some o) : PlanOwn base p v W' := by
  obtain ⟨vr, vt, vl, h0, h1, h2, h3⟩ := h
  exact ⟨vr, vt, vl, h0, h1.same hk, h2.same hk, h3.far fun g _ hg hh => hk g _ hg hh⟩
theorem PlanOwn.mono (h : PlanOwn base p v W) (hb : base' ≤ base) : PlanOwn base' p v W := by
  obtain ⟨vr, vt, vl, h0, h1, h2, h3⟩ := h
  exact ⟨vr, vt, vl, h0, h1.mono hb, h2.mono hb, h3.mono hb⟩
theorem PlanOwn.form (h : PlanOwn base p v W) : ∃ a1 n1 c1 a2 n2 c2 a3 n3 c3, v = .agg #[.slice a1 n1 c1, .slice a2 n2 c2, .slice a3 n3 c3, .int .i64 p.cost] := by
  obtain ⟨vr, vt, vl, rfl, h1, h2, h3⟩ := h
  obtain ⟨a1, c1, rfl⟩ := h1.slice
  obtain ⟨a2, c2, rfl⟩ := h2.slice
  obtain ⟨a3, c3, rfl⟩ := h3.form
  exact ⟨_, _, _, _, _, _, _, _, _, rfl⟩
theorem planOwn_none (base : Nat) (W : World) : PlanOwn base PL.none (.agg #[.slice none 0 0, .slice none 0 0, .slice none 0 0, .int .i64 0]) W :=
  ⟨_, _, _, rfl, rows_nil _ _ _ _, rows_nil _ _ _ _, none, 0, rfl, Nat.le_refl _, .inl rfl⟩
end
/-- What plan leaves. -/
def ResP (B : Nat) (p : PL) (w : World) (f : Nat × Int) (e : Ending) (w' : World) : Prop :=
  w.grownBy w' (some B) ∧ ((f.2 = 0 ∧ ∃ v, e = .returned v ∧ PlanOwn w.heap.size p v w') ∨ (f.2 ≠ 0 ∧ Gave (f.1 : Nat) f.2 e))
set_option maxHeartbeats 8000000 in
set_option maxRecDepth 100000 in
theorem plan_walk (N B M : Nat) (L : List ByteArray) (w : World) (hl : ∀ s ∈ L, s.size ≤ 1000000) (hn2 : L.length ≤ 1000001) (wv : Value) (h : St N B M L (0 : Nat) wv w) :
    Calls Tryz.prog 36 #[.pointer (some ⟨B, 0, none⟩)] w (ResP B (planP L) w (planF L)) := by
  have h0 := fun W (h : St N B M L (0 : Nat) wv W) => head_any N B M L wv W hl hn2 h
  have hlt := h.lt
  have htop := h.top
  have hb0 : Below w.heap.size w (w.alloc (.cells #[.slice none 0 0, .slice none 0 0, .slice none 0 0, .int .i64 0] 27)) := (Below.refl _ _).alloc (Nat.le_refl _) _
  have hq0 : (w.alloc (.cells #[.slice none 0 0, .slice none 0 0, .slice none 0 0, .int .i64 0] 27)).heap[w.heap.size]? = some (.cells #[.slice none 0 0, .slice none 0 0, .slice none 0 0, .int .i64 0] 27) := World.alloc_heap_new w _
  have hs0 := h.below hb0
  unfold planF
  by_cases he : headE L = 0
  case neg =>
    rw [if_pos he]
    unfold ResH at h0
    generalize headE L = er at *
    unfold ResP
    have H0 := Lib.hid (h0 _ hs0); clear h0
    clear h hl hq0
    generalize planP L = pl
    go_enter Tryz.func36, Tryz.ntmps36
    go_wp2_with fail
    refine H0.out.mono ?_
    rintro e w1 ⟨hg1, ⟨he1, -⟩ | ⟨-, rfl⟩⟩
    · exact absurd he1 he
    go_wp2_with fail
    exact ⟨rfl, (grown_of hb0 _).trans hg1, .inr ⟨he, rfl⟩⟩
  case pos =>
    rw [if_neg (by simpa using he)]
    have hrows : rowsN L ≤ 64 := by
      unfold headE at he
      obtain ⟨_, he⟩ := twoE_zero he
      split at he
      · obtain ⟨_, he⟩ := twoE_zero he
        obtain ⟨_, he⟩ := twoE_zero he
        split at he
        · cases he
        · unfold rowsN; omega
      · cases he
    rw [he] at h0
    have hc := h0 _ hs0
    clear h0 he
    unfold ResH at hc
    have hpos : 0 ≤ rowsN L := wholeV_pos _
    obtain ⟨m, hm⟩ : ∃ m : Nat, (m : Int) = rowsN L := ⟨(rowsN L).toNat, Int.toNat_of_nonneg hpos⟩
    have hplan : planP L = ⟨rowsR L 1 m, rowsT L 1 m, numsV false (nextW L (1 + 2 * m)), costV L⟩ := by unfold planP; rw [← hm]; rfl
    have hrn : (rowsN L).toNat = m := by rw [← hm]; rfl
    rw [hrn]
    rw [← hm] at hc hrows
    rw [hplan] 
    have HL := Lib.hid hl; clear hl
    have H0 := Lib.hid hc; clear hc
    generalize costV L = cost at *
    clear hm hpos hplan hrn h
    have hm64 : m ≤ 64 := by omega
    clear hrows
    go_enter Tryz.func36, Tryz.ntmps36
    go_wp2_with fail
    refine H0.out.mono ?_
    rintro e w1 ⟨hg1, ⟨-, rfl, wv1, hs1⟩ | ⟨he1, -⟩⟩
    case inr => exact absurd rfl he1
    have hq1 := own_kept hg1 (by omega) hq0
    have hg1' := (grown_of hb0 (some B)).trans hg1
    clear hb0 hq0 hs0 hg1
    have S1 := Lib.hid hs1; clear hs1
    have HQ1 := Lib.hid hq1; clear hq1
    have HG1 := Lib.hid hg1'; clear hg1'
    have hz1 : w.heap.size < w1.heap.size := own_lt HQ1.out
    have hq2' : (w1.alloc (.cells #[.slice none 0 0, .slice none 0 0, .slice none 0 0, .int .i64 cost] 27)).heap[w.heap.size]? = _ := (Below.heap_alloc w1 _ _ hz1).trans HQ1.out
    have hp0 : PS w N B M w1.heap.size L 1 cost [] [] (.slice none 0 0) (.slice none 0 0) (w1.alloc (.cells #[.slice none 0 0, .slice none 0 0, .slice none 0 0, .int .i64 cost] 27)) := by
      have hb : Below w1.heap.size w1 (w1.alloc (.cells #[.slice none 0 0, .slice none 0 0, .slice none 0 0, .int .i64 cost] 27)) := (Below.refl _ _).alloc (Nat.le_refl _) _
      exact ⟨⟨wv1, S1.out.below hb⟩, HG1.out.trans (grown_of hb _), htop, by omega, hq2', World.alloc_heap_new w1 _, rows_nil _ _ _ _, rows_nil _ _ _ _⟩
    have HP0 := Lib.hid hp0; clear hp0 hq2'
    go_wp2_with fail
    generalize w1.alloc (.cells #[.slice none 0 0, .slice none 0 0, .slice none 0 0, .int .i64 cost] 27) = W1 at *
    obtain ⟨X, hX⟩ : ∃ X, X = w1.heap.size := ⟨_, rfl⟩
    rw [← hX] at HP0 ⊢
    have hXw : w.heap.size < X := by omega
    clear hX hz1 S1 HQ1 HG1 H0
    clear w1
    go_loopw [15] (fun i wr => ∃ k : Nat, k ≤ m ∧ i = .int .i64 k ∧ Hid (∃ vr vt, (rowsF L 1 k).2 = 0 ∧ PS w N B M X L (1 + 2 * k) cost (rowsR L 1 k) (rowsT L 1 k) vr vt wr))  (fun i _ => m - (intOf i).toNat)
    case atStart => exact ⟨0, Nat.zero_le _, rfl, Lib.hid ⟨_, _, rfl, HP0.out⟩⟩
    case round =>
      obtain ⟨k, hk, rfl, HR0⟩ := hrel
      obtain ⟨vr, vt, hf0, hps⟩ := HR0.out
      clear HR0 HP0
      have HF0 := Lib.hid hf0; clear hf0
      have HPS := Lib.hid hps; clear hps
      by_cases hlt : k < m
      · obtain ⟨wv0, hst⟩ := HPS.out.st
        have hc := route_any N B M L (1 + 2 * k) wv0 wr (by omega) HL.out hn2 hst
        clear hst
        by_cases hce : routeE L (1 + 2 * k) = 0
        · rw [hce] at hc
          have HC := Lib.hid (hc.mono fun _ _ h => resV_yes h); clear hc
          obtain ⟨irr, hirr, irr0, irr1, irr2⟩ := info_parts info_ints
          have hxlen : (numsV false (nextW L (1 + 2 * k))).length = (nextW L (1 + 2 * k)).length := by simp [numsV]
          have hrsn := rowsR_snoc L k 1
          have htsn := rowsT_snoc L k 1
          have hrl := rowsR_len L k 1
          have htl := rowsT_len L k 1
          have hmw := nextW_many (n := 1 + 2 * k) HL.out
          generalize numsV false (nextW L (1 + 2 * k)) = xs at *
          generalize hwl : (nextW L (1 + 2 * k)).length = wl at *
          have ht := fun W wv (h : St N B M L (1 + 2 * k + 1 : Nat) wv W) => times_any N B M L (1 + 2 * k + 1) wl wv W (by omega) (by omega) HL.out hn2 h
          have HRS := Lib.hid hrsn; clear hrsn
          have HTS := Lib.hid htsn; clear htsn
          have HRL := Lib.hid hrl; clear hrl
          have HTL := Lib.hid htl; clear htl
          have HWL := Lib.hid hwl; clear hwl
          have HT := Lib.hid ht; clear ht
          go_wp2_with fail
          refine HC.out.mono ?_
          rintro e w2 ⟨hg2, v2, wv2, rfl, hd2, hst2⟩
          have hps2 := HPS.out.call hg2 hst2
          have hd2' := hd2.mono HPS.out.gr.size
          obtain ⟨a2, c2, rfl⟩ := hd2.form
          rw [hxlen] at *
          clear hd2 hg2 hst2 HC
          have HPS2 := Lib.hid hps2; clear hps2
          have HD2 := Lib.hid hd2'; clear hd2'
          have x0 := HPS2.out.cell.1
          have x1 := HPS2.out.cell.2.1
          have zx := HPS2.out.xlt
          have hpa := HPS2.out.alloc (.cells #[.slice a2 wl c2] 25)
          have hda : Deep w.heap.size 3 xs (.slice a2 wl c2) (w2.alloc (.cells #[.slice a2 wl c2] 25)) := HD2.out.below ((Below.refl _ _).alloc (Nat.le_refl _) _)
          obtain ⟨vs, hown, hnx⟩ := hpa.rowsOwn
          have hnx' := fun (W' : World) (v' : Value) => hnx (W' := W') (v' := v') hda
          have HNX := Lib.hid hnx'; clear hnx hnx' hda
          rw [HRL.out] at hown HNX
          have hgsz := hpa.gr.size
          clear hpa
          go_wp2_with (at_builtin; refine wpList_append_own _ rfl _ _ 23 rfl w.heap.size 25 irr (.slice none 0 0) 1 24 Tryz.underlying23 hirr irr0 irr1 irr2 rfl (by decide) _ _ _ rfl hown ⟨w2.heap.size, 0, none⟩ 1 1 [.slice a2 wl c2] rfl rfl (cells_made (l := [_])) (by simp [Value.oneCell']) (by unfold maxLen; omega) (by omega) hgsz ?_; intro v' w3 hown' hgrow _; have hpq := HNX.out _ _ hown' hgrow; obtain ⟨g3, cap3, rfl⟩ := Go.Joins.ownsRow_form hown' (by omega); have HPQ := Lib.hid hpq; clear hpq; have y0 := HPQ.out.2.cell.1; have z0 := HPQ.out.2.fz 0; have HGR := Lib.hid hgrow; clear hgrow hown')
          have hp3 := HPQ.out.1
          rw [← HRS.out] at hp3
          have HP3 := Lib.hid hp3; clear hp3
          have hd3 : Deep w.heap.size 3 xs (.slice a2 wl c2) w2 := HD2.out
          clear hd3 HPQ HNX HGR HPS HPS2 HD2 x0 x1 y0 z0 zx hown irr0 irr1 irr2 hirr hgsz
          generalize w3.setCell ⟨X, 0, none⟩ (.slice (some ⟨g3, 0, none⟩) (k + 1) cap3) = W3 at *
          have x1 := HP3.out.cell.2.1
          have zx := HP3.out.xlt
          by_cases hte : timesE L (1 + 2 * k + 1) wl = 0
          · have H1 : Hid (∀ W wv, St N B M L (1 + 2 * k + 1 : Nat) wv W → Calls Tryz.prog 55 #[.pointer (some ⟨B, 0, none⟩), .int .i64 wl] W fun e w' => W.grownBy w' (some B) ∧ ∃ v wv, e = .returned v ∧ Deep W.heap.size 2 (numsV true (nextW L (1 + 2 * k + 1))) v w' ∧ St N B M L (1 + 2 * k + 1 + 1 : Nat) wv w') :=
              Lib.hid fun W wv h => (HT.out W wv h).mono fun _ _ h => resV_yes (hte ▸ h)
            have hf1 := rowsF_snoc HF0.out hce (by rw [HWL.out]; exact hte)
            have HF1 := Lib.hid hf1; clear hf1
            generalize numsV true (nextW L (1 + 2 * k + 1)) = ys at *
            obtain ⟨yl, hyl⟩ : ∃ yl, yl = ys.length := ⟨_, rfl⟩
            go_region_law (first
              | (refine step_times (fun _ _ => by rfl) (by first | exact HP3.out.drew | exact HP3.out) H1 rfl (.tmp 27) (.tmp 29) rfl rfl rfl ?_; intro a4 c4 w4 P4 D4; have k2 := P4.out.cell.2.1; have z2 := P4.out.xlt)
              | (refine step_app (b := w4.heap.size) (by exact P4.out.alloc _) (by exact D4.out.below ((Below.refl _ _).alloc (Nat.le_refl _) _)) rfl (by rw [HTL.out]; omega) rfl (.tmp 26) (.tmp 31) rfl rfl rfl (by exact cells_made (l := [_])) ?_; intro g5 c5 w5 P5 x5 f5))
            all_goals
              clear x5 f5 k2 z2 x1 zx
              have hp5 := P5.out
              rw [← HTS.out] at hp5
              have HP5 := Lib.hid hp5; clear hp5
              go_wp2_with fail
              go_roundw
              case rel => exact ⟨k + 1, by omega, by go_num, Lib.hid ⟨_, _, HF1.out, by rw [show 1 + 2 * (k + 1) = 1 + 2 * k + 1 + 1 by omega]; exact HP5.out⟩⟩
              case measure => simp [intOf]; omega
          · have hall := allF_times HF0.out hlt hce (by rw [HWL.out]; exact hte)
            rw [HWL.out] at hall
            have HA := Lib.hid hall; clear hall
            have H1 : Hid (∀ W wv, St N B M L (1 + 2 * k + 1 : Nat) wv W → Calls Tryz.prog 55 #[.pointer (some ⟨B, 0, none⟩), .int .i64 wl] W fun e w' => Gave (1 + 2 * k + 1 + 1 : Nat) (timesE L (1 + 2 * k + 1) wl) e ∧ W.grownBy w' (some B)) :=
              Lib.hid fun W wv h => (HT.out W wv h).mono fun _ _ h => resV_no h hte
            obtain ⟨wv3, hst3⟩ := HP3.out.st
            have HST := Lib.hid hst3; clear hst3
            go_region_dies
            all_goals
              refine (H1.out _ wv3 (by first | exact HST.out.below (Below.refl _ _).drew | exact HST.out)).mono ?_
              rintro e w5 ⟨rfl, hg5⟩
              refine ⟨rfl, (by first | exact HP3.out.drew.gr.trans hg5 | exact HP3.out.gr.trans hg5), .inr ⟨by rw [HA.out]; exact hte, by rw [HA.out]; rfl⟩⟩
        · have hall := allF_route HF0.out hlt hce
          have HA := Lib.hid hall; clear hall
          have HC := Lib.hid (hc.mono fun _ _ h => resV_no h hce); clear hc
          go_wp2_with fail
          refine HC.out.mono ?_
          rintro e w2 ⟨rfl, hg2⟩
          go_wp2_with fail
          refine ⟨rfl, HPS.out.gr.trans hg2, .inr ?_⟩
          rw [HA.out]
          exact ⟨hce, rfl⟩
      · obtain hkm : k = m := by omega
        subst hkm
        have hall := allF_tail HF0.out
        obtain ⟨wv0, hst⟩ := HPS.out.st
        have hc := list_any N B M L (1 + 2 * k) wv0 wLeft wr (by omega) HL.out hn2 hst
        unfold wLeft at hc
        clear hst
        unfold tailF leftE at hall
        unfold wLeft at hall
        by_cases hce : listE L (1 + 2 * k) ⟨#[108, 101, 102, 116]⟩ = 0
        · rw [hce, twoE_ok] at hall
          rw [hce] at hc
          have HC := Lib.hid (hc.mono fun _ _ h => resN_yes h); clear hc
          have hmw := nextW_many (n := 1 + 2 * k) HL.out
          have hsz := nextW_size (n := 1 + 2 * k) HL.out
          have hnum := fun (w1 : World) (wv1 : Value) (hs : St N B M L (1 + 2 * k + 1 : Nat) wv1 w1) (hw : Strs w1 wv1 (nextW L (1 + 2 * k))) =>
            numbers_int N B M L (1 + 2 * k + 1 : Nat) wv1 _ w1 hmw hsz hs hw
          generalize numsV false (nextW L (1 + 2 * k)) = xs at *
          generalize numsE false (nextW L (1 + 2 * k)) = ne at *
          generalize nextW L (1 + 2 * k) = ws at *
          have HN := Lib.hid hnum; clear hnum hsz
          have HA := Lib.hid hall; clear hall
          go_wp2_with fail
          refine HC.out.mono ?_
          rintro e w2 ⟨rfl, hg2, wv2, hst2, hstr⟩
          have hn := HN.out w2 wv2 hst2 hstr
          have HNN := Lib.hid hn; clear hn HN
          have HP2 := Lib.hid (HPS.out.call hg2 hst2); clear hg2 hst2 HPS hstr HC
          go_wp2_with fail
          refine HNN.out.mono ?_
          rintro e w3 ⟨hb3, ⟨hne, v3, rfl, hd3⟩ | ⟨hne, rfl⟩⟩
          · obtain ⟨a3, c3, rfl⟩ := hd3.form
            rw [if_neg (by rw [hne]; simp)] at HA
            have hp3 := HP2.out.below hb3
            have hd3' := hd3.mono HP2.out.gr.size
            clear hd3 hb3 HP2 HNN
            obtain ⟨a1, c1, rfl⟩ := hp3.rr.slice
            obtain ⟨a2, c2, rfl⟩ := hp3.rt.slice
            have hB := hp3.bb
            have hX := hp3.hx
            have htop3 := hp3.top
            have x2 := hp3.cell.2.2.1
            have f2 := hp3.fz 2
            generalize hxl : xs.length = xl at *
            have HXL := Lib.hid hxl; clear hxl
            obtain ⟨wv3, hst3⟩ := hp3.st
            -- behind the store of who is left
            have hbox4 : (w3.setCell ⟨X, 2, none⟩ (.slice a3 xl c3)).heap[X]? = some (.cells #[.slice a1 (rowsR L 1 k).length c1, .slice a2 (rowsT L 1 k).length c2, .slice a3 xl c3, .int .i64 cost] 27) := own_set hp3.box _
            have hres4 : (w3.setCell ⟨X, 2, none⟩ (.slice a3 xl c3)).heap[w.heap.size]? = _ := own_other hp3.res (by omega) _
            have hst4 : St N B M L (1 + 2 * k + 1 : Nat) wv3 (w3.setCell ⟨X, 2, none⟩ (.slice a3 xl c3)) := hst3.put (a := ⟨X, 2, none⟩) (by show M ≤ X; omega) _
            have hgr4 : w.grownBy (w3.setCell ⟨X, 2, none⟩ (.slice a3 xl c3)) (some B) := grown_own hp3.gr (a := ⟨X, 2, none⟩) (Nat.le_of_lt hX) _
            have hrr4 := hp3.rr.put hp3.box (f := 2) (by decide) (by decide) (.slice a3 xl c3)
            have hrt4 := hp3.rt.put hp3.box (f := 2) (by decide) (by decide) (.slice a3 xl c3)
            have hdl4 := hd3'.put hp3.box (f := 2) (u := .slice a3 xl c3) (by decide)
            have hend := end_any N B M L (1 + 2 * k + 1) wv3 _ (by omega) hn2 hst4
            have HBOX := Lib.hid hbox4; clear hbox4
            have HRES := Lib.hid hres4; clear hres4
            have HGR := Lib.hid hgr4; clear hgr4
            have HRR := Lib.hid hrr4; clear hrr4
            have HRT := Lib.hid hrt4; clear hrt4
            have HDL := Lib.hid hdl4; clear hdl4
            have HEND := Lib.hid hend; clear hend hst4
            clear hp3 hst3 hd3'
            go_wp2_with fail
            refine HEND.out.mono ?_
            rintro e w5 ⟨hg5, ⟨he5, rfl⟩ | ⟨he5, rfl⟩⟩
            · rw [if_neg (by rw [he5]; simp)] at HA
              have hbox5 := own_kept hg5 (by omega) HBOX.out
              have hres5 := own_kept hg5 (by omega) HRES.out
              have hgr5 := HGR.out.trans hg5
              have hrr5 := HRR.out.call hg5 hB
              have hrt5 := HRT.out.call hg5 hB
              have hdl5 := HDL.out.call hg5 hB
              have y0 : w5.cell? ⟨X, 0, none⟩ = some (.slice a1 (rowsR L 1 k).length c1) := (own_cell hbox5).trans rfl
              have y1 : w5.cell? ⟨X, 1, none⟩ = some (.slice a2 (rowsT L 1 k).length c2) := (own_cell hbox5).trans rfl
              have y2 : w5.cell? ⟨X, 2, none⟩ = some (.slice a3 xl c3) := (own_cell hbox5).trans rfl
              have y3 : w5.cell? ⟨X, 3, none⟩ = some (.int .i64 cost) := (own_cell hbox5).trans rfl
              have z0 : w5.cell? ⟨w.heap.size, 0, none⟩ = some (.slice none 0 0) := (own_cell hres5).trans rfl
              have z1 : w5.cell? ⟨w.heap.size, 1, none⟩ = some (.slice none 0 0) := (own_cell hres5).trans rfl
              have z2 : w5.cell? ⟨w.heap.size, 2, none⟩ = some (.slice none 0 0) := (own_cell hres5).trans rfl
              have z3 : w5.cell? ⟨w.heap.size, 3, none⟩ = some (.int .i64 0) := (own_cell hres5).trans rfl
              have fq : ∀ j, w5.frozen? ⟨w.heap.size, j, none⟩ = false := fun j => own_free hres5
              have q4 := own_set (own_set (own_set (own_set hres5 (i := 0) (.slice a1 (rowsR L 1 k).length c1)) (i := 1) (.slice a2 (rowsT L 1 k).length c2)) (i := 2) (.slice a3 xl c3)) (i := 3) (.int .i64 cost)
              have g4 := grown_own (grown_own (grown_own (grown_own hgr5 (a := ⟨w.heap.size, 0, none⟩) (Nat.le_refl _) (.slice a1 (rowsR L 1 k).length c1)) (a := ⟨w.heap.size, 1, none⟩) (Nat.le_refl _) (.slice a2 (rowsT L 1 k).length c2)) (a := ⟨w.heap.size, 2, none⟩) (Nat.le_refl _) (.slice a3 xl c3)) (a := ⟨w.heap.size, 3, none⟩) (Nat.le_refl _) (.int .i64 cost)
              have s1 := own_set hres5 (i := 0) (.slice a1 (rowsR L 1 k).length c1)
              have s2 := own_set s1 (i := 1) (.slice a2 (rowsT L 1 k).length c2)
              have s3 := own_set s2 (i := 2) (.slice a3 xl c3)
              have rr4 := (((hrr5.put hres5 (f := 0) (by decide) (by decide) (.slice a1 (rowsR L 1 k).length c1)).put s1 (f := 1) (by decide) (by decide) (.slice a2 (rowsT L 1 k).length c2)).put s2 (f := 2) (by decide) (by decide) (.slice a3 xl c3)).put s3 (f := 3) (by decide) (by decide) (.int .i64 cost)
              have rt4 := (((hrt5.put hres5 (f := 0) (by decide) (by decide) (.slice a1 (rowsR L 1 k).length c1)).put s1 (f := 1) (by decide) (by decide) (.slice a2 (rowsT L 1 k).length c2)).put s2 (f := 2) (by decide) (by decide) (.slice a3 xl c3)).put s3 (f := 3) (by decide) (by decide) (.int .i64 cost)
              have dl4 := (((hdl5.put hres5 (f := 0) (u := .slice a1 (rowsR L 1 k).length c1) (by decide)).put s1 (f := 1) (u := .slice a2 (rowsT L 1 k).length c2) (by decide)).put s2 (f := 2) (u := .slice a3 xl c3) (by decide)).put s3 (f := 3) (u := .int .i64 cost) (by decide)
              have HPL := Lib.hid (show PlanOwn w.heap.size ⟨rowsR L 1 k, rowsT L 1 k, xs, cost⟩ (.agg #[.slice a1 (rowsR L 1 k).length c1, .slice a2 (rowsT L 1 k).length c2, .slice a3 xl c3, .int .i64 cost]) _ from ⟨_, _, _, rfl, rr4, rt4, dl4⟩)
              have HQ4 := Lib.hid q4
              have HG4 := Lib.hid g4
              clear q4 g4 s1 s2 s3 rr4 rt4 dl4 hrr5 hrt5 hdl5 hgr5 hbox5 hres5 HBOX HRES HGR HRR HRT HDL HEND x2 f2
              generalize (rowsR L 1 k).length = n1 at *
              generalize (rowsT L 1 k).length = n2 at *
              go_wp2_with fail
              generalize ((((w5.setCell ⟨w.heap.size, 0, none⟩ (.slice a1 n1 c1)).setCell ⟨w.heap.size, 1, none⟩ (.slice a2 n2 c2)).setCell ⟨w.heap.size, 2, none⟩ (.slice a3 xl c3)).setCell ⟨w.heap.size, 3, none⟩ (.int .i64 cost)) = W9 at *
              have hq9 := HQ4.out
              refine bodyPost_ret (v := .agg #[.slice a1 n1 c1, .slice a2 n2 c2, .slice a3 xl c3, .int .i64 cost]) (by simp [results, Tryz.results36, go_sem, World.cell?, hq9]) rfl ?_
              refine ⟨HG4.out, .inl ⟨by rw [HA.out], _, rfl, HPL.out⟩⟩
            · rw [if_pos he5] at HA
              go_wp2_with fail
              refine ⟨rfl, HGR.out.trans hg5, .inr ?_⟩
              rw [HA.out]
              exact ⟨he5, rfl⟩
          · go_wp2_with fail
            refine ⟨rfl, HP2.out.gr.trans (grown_of hb3 _), .inr ?_⟩
            have h := HA.out
            rw [if_pos hne] at h
            rw [h]
            exact ⟨hne, rfl⟩
        · rw [twoE_no _ hce, if_pos hce] at hall
          have HA := Lib.hid hall; clear hall
          have HC := Lib.hid (hc.mono fun _ _ h => resN_no h hce); clear hc
          go_wp2_with fail
          refine HC.out.mono ?_
          rintro e w2 ⟨rfl, hg2⟩
          go_wp2_with fail
          refine ⟨rfl, HPS.out.gr.trans hg2, .inr ?_⟩
          rw [HA.out]
          exact ⟨hce, rfl⟩
end Fil
end Go.Proofs.YtkggahoadeeajaaGreatDoor
