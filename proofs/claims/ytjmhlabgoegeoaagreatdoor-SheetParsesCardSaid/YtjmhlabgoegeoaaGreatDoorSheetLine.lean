/- jitneyref06.line: what stands while it goes, and its appends; over the translated program. -/
import Derived.Test.YtjmhlabgoegeoaaGreatDoorSheetRefE
import Derived.Test.YtjmhlabgoegeoaaGreatDoorSheetNums
import Derived.Test.YtjmhlabgoegeoaaGreatDoorSheetRefHead
import Derived.OwnWalk
namespace Go.Proofs.YtjmhlabgoegeoaaGreatDoor
namespace Sheet
open Go Go.RowKit Deci
/-- WHAT STANDS WHILE A LINE IS READ: the instance's block and the result's; the four rows; nothing below the base has turned. -/
structure LS (base X Q : Nat) (p : IP) (nc ns nr nm : Nat) (vc vs vr vm : Value) (V : Nat → Value) (w W : World) : Prop where
  rows : RowsAt base p nc ns nr nm vc vs vr vm V W
  box : W.heap[X]? = some (.cells #[vc, vs, vr, vm] 28)
  res : W.heap[Q]? = some (.cells #[.slice none 0 0, .slice none 0 0, .slice none 0 0, .slice none 0 0] 28)
  ne : X ≠ Q
  hx : base ≤ X
  hq : base ≤ Q
  top : base ≤ w.heap.size
  low : Below base w W
  xw : w.heap.size ≤ X
  qw : w.heap.size ≤ Q
  kinds : ∀ (k : Nat) (cs : Array Value), w.heap[k]? = some (.cells cs 28) → W.heap[k]? = some (.cells cs 28)
section
variable {base X Q : Nat} {p : IP} {nc ns nr nm : Nat} {vc vs vr vm v' : Value} {V : Nat → Value} {w W W' : World}
theorem LS.size (h : LS base X Q p nc ns nr nm vc vs vr vm V w W) : base ≤ W.heap.size := Nat.le_trans h.top h.low.size
theorem LS.lt (h : LS base X Q p nc ns nr nm vc vs vr vm V w W) : X < W.heap.size := (Array.getElem?_eq_some_iff.1 h.box).1
theorem LS.cell (h : LS base X Q p nc ns nr nm vc vs vr vm V w W) : W.cell? ⟨X, 0, none⟩ = some vc ∧ W.cell? ⟨X, 1, none⟩ = some vs ∧ W.cell? ⟨X, 2, none⟩ = some vr ∧ W.cell? ⟨X, 3, none⟩ = some vm :=
  ⟨(own_cell h.box).trans rfl, (own_cell h.box).trans rfl, (own_cell h.box).trans rfl, (own_cell h.box).trans rfl⟩
theorem LS.fz (h : LS base X Q p nc ns nr nm vc vs vr vm V w W) (j : Nat) : W.frozen? ⟨X, j, none⟩ = false := own_free h.box
theorem LS.below (h : LS base X Q p nc ns nr nm vc vs vr vm V w W) (hb : Below W.heap.size W W') : LS base X Q p nc ns nr nm vc vs vr vm V w W' :=
  ⟨h.rows.below hb, (hb.block X (Array.getElem?_eq_some_iff.1 h.box).1).trans h.box, (hb.block Q (Array.getElem?_eq_some_iff.1 h.res).1).trans h.res, h.ne, h.hx, h.hq, h.top, h.low.trans (hb.mono h.size), h.xw, h.qw, fun k cs hk => (hb.block k (Array.getElem?_eq_some_iff.1 (h.kinds k cs hk)).1).trans (h.kinds k cs hk)⟩
theorem LS.alloc (h : LS base X Q p nc ns nr nm vc vs vr vm V w W) (o : Obj) : LS base X Q p nc ns nr nm vc vs vr vm V w (W.alloc o) := h.below ((Below.refl _ _).alloc (Nat.le_refl _) _)
theorem LS.drew (h : LS base X Q p nc ns nr nm vc vs vr vm V w W) : LS base X Q p nc ns nr nm vc vs vr vm V w W.drew := h.below (Below.refl _ _).drew
/-- Behind an append to one of its rows, and the store behind it. -/
theorem LS.app (h : LS base X Q p nc ns nr nm vc vs vr vm V w W) {e : TypeId} {size k : Nat} {v : Value} {xs : List Value} (hv : W.ownsRow base e size v k xs) (h1 : 28 ≠ e) (hg : W.grownBy W' v.ownBlock) :
    W'.heap[X]? = some (.cells #[vc, vs, vr, vm] 28) ∧ W'.heap[Q]? = some (.cells #[.slice none 0 0, .slice none 0 0, .slice none 0 0, .slice none 0 0] 28) ∧ Below base w W' ∧ (∀ (k : Nat) (cs : Array Value), w.heap[k]? = some (.cells cs 28) → W'.heap[k]? = some (.cells cs 28)) := by
  have k : ∀ {b : Nat} {cs : Array Value}, W.heap[b]? = some (.cells cs 28) → W'.heap[b]? = some (.cells cs 28) := fun {b cs} hb =>
    (hg.block b (Array.getElem?_eq_some_iff.1 hb).1 (fun e => own_ne hv hb h1 e.symm)).trans hb
  exact ⟨k h.box, k h.res, h.low.grown hg h.size (fun g e => (hv.lt g e).1), fun b cs hb => k (h.kinds b cs hb)⟩
theorem LS.put {u vc' vs' vr' vm' : Value} {f : Nat} {V' : Nat → Value} {nc' ns' nr' nm' : Nat} (h0 : LS base X Q p nc ns nr nm vc vs vr vm V w W)
    (h : W'.heap[X]? = some (.cells #[vc, vs, vr, vm] 28) ∧ W'.heap[Q]? = some (.cells #[.slice none 0 0, .slice none 0 0, .slice none 0 0, .slice none 0 0] 28) ∧ Below base w W' ∧ (∀ (k : Nat) (cs : Array Value), w.heap[k]? = some (.cells cs 28) → W'.heap[k]? = some (.cells cs 28)))
    (hr : RowsAt base p nc' ns' nr' nm' vc' vs' vr' vm' V' W') (hc : (#[vc, vs, vr, vm] : Array Value).setIfInBounds f u = #[vc', vs', vr', vm']) :
    LS base X Q p nc' ns' nr' nm' vc' vs' vr' vm' V' w (W'.setCell ⟨X, f, none⟩ u) :=
  ⟨hr.put h.1 (by decide) (by decide) (by decide) (by decide), by rw [own_set h.1 u, hc], own_other h.2.1 (Ne.symm h0.ne) u, h0.ne, h0.hx, h0.hq, h0.top, h.2.2.1.setCell h0.hx u, h0.xw, h0.qw, fun k cs hk => own_other (h.2.2.2 k cs hk) (by have := (Array.getElem?_eq_some_iff.1 hk).1; have := h0.xw; omega) u⟩
end
section
variable {ops : Array Oper} {o : Oper} {a : Act} {w W : World} {K : Act → World → Prop} {Qx : Exit → Act → World → Prop} {E : Prop} {base X Q : Nat} {p : IP} {nc ns nr nm b : Nat} {vc vs vr vm : Value} {V : Nat → Value}
theorem lstep_car (h : LS base X Q p nc ns nr nm vc vs vr vm V w W) (hk : nc ≤ 5000) {l : List Value} (hl : p.car nc = l) (hg : o.guard = none) (s x : Operand) (hop : o.op = Op.call { callee := Callee.builtin Builtin.append, args := #[s, x], argTypes := #[23, 23] })
    (hs : a.eval s = vc) (hx : a.eval x = .slice (some ⟨b, 0, none⟩) 1 1) (hc : ∀ j u, l[j]? = some u → W.cell? ((⟨b, 0, none⟩ : Addr).add j) = some u)
    (hK : ∀ g cap w', Hid (LS base X Q p (nc + 1) ns nr nm (.slice (some ⟨g, 0, none⟩) (nc + 1) cap) vs vr vm V w (w'.setCell ⟨X, 0, none⟩ (.slice (some ⟨g, 0, none⟩) (nc + 1) cap))) → w'.cell? ⟨X, 0, none⟩ = some vc → w'.frozen? ⟨X, 0, none⟩ = false → K (a.put o.dst (.slice (some ⟨g, 0, none⟩) (nc + 1) cap)) w') :
    if Region.wanted o (yielded ops a.tmps) = true then Oper.wp Tryz.prog o a W K Qx else E := by
  obtain ⟨ic, hic, ic0, ic1, ic2⟩ := info_parts info_car
  subst hl
  refine step_owned hg s x 23 hop base 54 ic _ 3 24 Tryz.underlying23 hic ic0 ic1 ic2 rfl (by decide) vc nc _ hs h.rows.cars ⟨b, 0, none⟩ 1 1 (p.car nc) hx rfl hc (by intro u hu; simp [IP.car] at hu; rcases hu with rfl | rfl | rfl <;> rfl) (by unfold maxLen; omega) (by omega) h.size ?_
  intro v' w' ho hgr
  obtain ⟨g, cap, rfl⟩ := Go.Joins.ownsRow_form ho (by omega)
  have ha := h.app h.rows.cars (by decide) hgr
  exact hK g cap w' (Lib.hid (h.put ha (h.rows.carIn ho hgr) rfl)) ((own_cell ha.1).trans rfl) (own_free ha.1)
theorem lstep_stop (h : LS base X Q p nc ns nr nm vc vs vr vm V w W) (hk : ns ≤ 5000) {l : List Value} (hl : p.stop ns = l) (hg : o.guard = none) (s x : Operand) (hop : o.op = Op.call { callee := Callee.builtin Builtin.append, args := #[s, x], argTypes := #[24, 24] })
    (hs : a.eval s = vs) (hx : a.eval x = .slice (some ⟨b, 0, none⟩) 1 1) (hc : ∀ j u, l[j]? = some u → W.cell? ((⟨b, 0, none⟩ : Addr).add j) = some u)
    (hK : ∀ g cap w', Hid (LS base X Q p nc (ns + 1) nr nm vc (.slice (some ⟨g, 0, none⟩) (ns + 1) cap) vr vm V w (w'.setCell ⟨X, 1, none⟩ (.slice (some ⟨g, 0, none⟩) (ns + 1) cap))) → w'.cell? ⟨X, 1, none⟩ = some vs → w'.frozen? ⟨X, 1, none⟩ = false → Hid (w'.heap[X]? = some (.cells #[vc, vs, vr, vm] 28) ∧ w'.heap[Q]? = some (.cells #[.slice none 0 0, .slice none 0 0, .slice none 0 0, .slice none 0 0] 28)) → K (a.put o.dst (.slice (some ⟨g, 0, none⟩) (ns + 1) cap)) w') :
    if Region.wanted o (yielded ops a.tmps) = true then Oper.wp Tryz.prog o a W K Qx else E := by
  obtain ⟨ic, hic, ic0, ic1, ic2⟩ := info_parts info_stop
  subst hl
  refine step_owned hg s x 24 hop base 57 ic _ 6 56 Tryz.underlying24 hic ic0 ic1 ic2 rfl (by decide) vs ns _ hs h.rows.stops ⟨b, 0, none⟩ 1 1 (p.stop ns) hx (stopL_len _ _ _ _) hc (by intro u hu; simp only [IP.stop, stopL] at hu; split at hu <;> (simp at hu; rcases hu with rfl | rfl | rfl | rfl | rfl | rfl <;> rfl)) (by unfold maxLen; omega) (by omega) h.size ?_
  intro v' w' ho hgr
  obtain ⟨g, cap, rfl⟩ := Go.Joins.ownsRow_form ho (by omega)
  have ha := h.app h.rows.stops (by decide) hgr
  exact hK g cap w' (Lib.hid (h.put ha (h.rows.stopIn ho hgr) rfl)) ((own_cell ha.1).trans rfl) (own_free ha.1) (Lib.hid ⟨ha.1, ha.2.1⟩)
theorem lstep_ride (h : LS base X Q p nc ns nr 0 vc vs vr vm V w W) (hk : nr ≤ 5000) {l : List Value} (hl : p.ride nr = l) (hg : o.guard = none) (s x : Operand) (hop : o.op = Op.call { callee := Callee.builtin Builtin.append, args := #[s, x], argTypes := #[25, 25] })
    (hs : a.eval s = vr) (hx : a.eval x = .slice (some ⟨b, 0, none⟩) 1 1) (hc : ∀ j u, l[j]? = some u → W.cell? ((⟨b, 0, none⟩ : Addr).add j) = some u)
    (hK : ∀ g cap w', Hid (LS base X Q p nc ns (nr + 1) 0 vc vs (.slice (some ⟨g, 0, none⟩) (nr + 1) cap) vm V w (w'.setCell ⟨X, 2, none⟩ (.slice (some ⟨g, 0, none⟩) (nr + 1) cap))) → w'.cell? ⟨X, 2, none⟩ = some vr → w'.frozen? ⟨X, 2, none⟩ = false → K (a.put o.dst (.slice (some ⟨g, 0, none⟩) (nr + 1) cap)) w') :
    if Region.wanted o (yielded ops a.tmps) = true then Oper.wp Tryz.prog o a W K Qx else E := by
  obtain ⟨ic, hic, ic0, ic1, ic2⟩ := info_parts info_long
  subst hl
  refine step_owned hg s x 25 hop base 2 ic _ 1 8 Tryz.underlying25 hic ic0 ic1 ic2 rfl (by decide) vr nr _ hs h.rows.rides ⟨b, 0, none⟩ 1 1 (p.ride nr) hx rfl hc (by intro u hu; simp [IP.ride] at hu; rcases hu with rfl; rfl) (by unfold maxLen; omega) (by omega) h.size ?_
  intro v' w' ho hgr
  obtain ⟨g, cap, rfl⟩ := Go.Joins.ownsRow_form ho (by omega)
  have ha := h.app h.rows.rides (by decide) hgr
  exact hK g cap w' (Lib.hid (h.put ha (h.rows.rideIn ho hgr) rfl)) ((own_cell ha.1).trans rfl) (own_free ha.1)
theorem lstep_row {u : Value} (h : LS base X Q p nc ns nr nm vc vs vr vm V w W) (hd : DeepAt base p nm u W) (h1 : u.oneCell' = true) (hk : nm ≤ 5000) (hg : o.guard = none) (s x : Operand) (hop : o.op = Op.call { callee := Callee.builtin Builtin.append, args := #[s, x], argTypes := #[26, 26] })
    (hs : a.eval s = vm) (hx : a.eval x = .slice (some ⟨b, 0, none⟩) 1 1) (hc : ∀ j y, [u][j]? = some y → W.cell? ((⟨b, 0, none⟩ : Addr).add j) = some y)
    (hK : ∀ g cap w' V', Hid (LS base X Q p nc ns nr (nm + 1) vc vs vr (.slice (some ⟨g, 0, none⟩) (nm + 1) cap) V' w (w'.setCell ⟨X, 3, none⟩ (.slice (some ⟨g, 0, none⟩) (nm + 1) cap))) → w'.cell? ⟨X, 3, none⟩ = some vm → w'.frozen? ⟨X, 3, none⟩ = false → Hid (w'.heap[X]? = some (.cells #[vc, vs, vr, vm] 28) ∧ w'.heap[Q]? = some (.cells #[.slice none 0 0, .slice none 0 0, .slice none 0 0, .slice none 0 0] 28)) → K (a.put o.dst (.slice (some ⟨g, 0, none⟩) (nm + 1) cap)) w') :
    if Region.wanted o (yielded ops a.tmps) = true then Oper.wp Tryz.prog o a W K Qx else E := by
  obtain ⟨ic, hic, ic0, ic1, ic2⟩ := info_parts info_longs
  refine step_owned hg s x 26 hop base 25 ic _ 1 24 Tryz.underlying26 hic ic0 ic1 ic2 rfl (by decide) vm nm _ hs h.rows.rows ⟨b, 0, none⟩ 1 1 [u] hx rfl hc (by intro y hy; simp at hy; rw [hy]; exact h1) (by unfold maxLen; omega) (by omega) h.size ?_
  intro v' w' ho hgr
  obtain ⟨g, cap, rfl⟩ := Go.Joins.ownsRow_form ho (by omega)
  have ha := h.app h.rows.rows (by decide) hgr
  exact hK g cap w' _ (Lib.hid (h.put ha (h.rows.rowIn hd ho hgr) rfl)) ((own_cell ha.1).trans rfl) (own_free ha.1) (Lib.hid ⟨ha.1, ha.2.1⟩)
end
/-- The instance is stored into the result. -/
theorem LS.done {base X Q : Nat} {p : IP} {nc ns nr nm : Nat} {vc vs vr vm : Value} {V : Nat → Value} {w W : World} (h : LS base X Q p nc ns nr nm vc vs vr vm V w W) :
    (Below base w ((((W.setCell ⟨Q, 0, none⟩ vc).setCell ⟨Q, 1, none⟩ vs).setCell ⟨Q, 2, none⟩ vr).setCell ⟨Q, 3, none⟩ vm) ∧ ∀ (k : Nat) (cs : Array Value), w.heap[k]? = some (.cells cs 28) → ((((W.setCell ⟨Q, 0, none⟩ vc).setCell ⟨Q, 1, none⟩ vs).setCell ⟨Q, 2, none⟩ vr).setCell ⟨Q, 3, none⟩ vm).heap[k]? = some (.cells cs 28)) ∧
    RowsAt base p nc ns nr nm vc vs vr vm V ((((W.setCell ⟨Q, 0, none⟩ vc).setCell ⟨Q, 1, none⟩ vs).setCell ⟨Q, 2, none⟩ vr).setCell ⟨Q, 3, none⟩ vm) ∧
    ((((W.setCell ⟨Q, 0, none⟩ vc).setCell ⟨Q, 1, none⟩ vs).setCell ⟨Q, 2, none⟩ vr).setCell ⟨Q, 3, none⟩ vm).heap[Q]? = some (.cells #[vc, vs, vr, vm] 28) := by
  have h0 := h.res
  have h1 := own_set h0 (i := 0) vc
  have h2 := own_set h1 (i := 1) vs
  have h3 := own_set h2 (i := 2) vr
  have h4 := own_set h3 (i := 3) vm
  have hq := h.hq
  exact ⟨⟨(((h.low.setCell (p := ⟨Q, 0, none⟩) hq _).setCell (p := ⟨Q, 1, none⟩) hq _).setCell (p := ⟨Q, 2, none⟩) hq _).setCell (p := ⟨Q, 3, none⟩) hq _, fun k cs hk => by
      have hne : k ≠ Q := by have := (Array.getElem?_eq_some_iff.1 hk).1; have := h.qw; omega
      exact own_other (own_other (own_other (own_other (h.kinds k cs hk) hne _) hne _) hne _) hne _⟩,
    (((h.rows.put h0 (by decide) (by decide) (by decide) (by decide)).put h1 (by decide) (by decide) (by decide) (by decide)).put h2 (by decide) (by decide) (by decide) (by decide)).put h3 (by decide) (by decide) (by decide) (by decide), h4⟩
theorem cells_made2 {w : World} {l : List Value} {t : TypeId} {B : Nat} (hB : B = w.heap.size) : ∀ j u, l[j]? = some u → (w.alloc (.cells l.toArray t)).cell? ((⟨B, 0, none⟩ : Addr).add j) = some u := by subst hB; exact cells_made
theorem twoE_assoc (a b c : Int) : twoE (twoE a b) c = twoE a (twoE b c) := by unfold twoE; split <;> simp_all
theorem nextW_at {L : List ByteArray} {n : Nat} (h : n < L.length) : nextW L n = (wordsP L[n].data.toList).tail := by unfold nextW; rw [dif_pos h]
theorem nextE_at {L : List ByteArray} {n : Nat} (h : n < L.length) (name : ByteArray) (cnt : Nat) : nextE L n name cnt = lineE L[n] name cnt := by unfold nextE; rw [dif_pos h]
theorem twoE_end (a : Int) : twoE a 0 = a := by unfold twoE; split <;> simp_all
/-- What line leaves: an instance and an error. -/
def LineOut (base : Nat) (p : IP) (nc ns nr nm : Nat) (er : Int) (w : World) (e : Ending) (w' : World) : Prop :=
  ∃ vc vs vr vm, e = .returned (.tuple #[.agg #[vc, vs, vr, vm], .int .i64 er]) ∧ Hid ((Below base w w' ∧ ∀ (k : Nat) (cs : Array Value), w.heap[k]? = some (.cells cs 28) → w'.heap[k]? = some (.cells cs 28)) ∧ ∃ V nc' ns' nr' nm', RowsAt base p nc' ns' nr' nm' vc vs vr vm V w' ∧ (er = 0 → nc' = nc ∧ ns' = ns ∧ nr' = nr ∧ nm' = nm))
/-- The numbers that lie in a row. -/
theorem nums_cell {w : World} {base m : Nat} {v : Value} {ws : List ByteArray} {bs : List Int} {sc : Int} (h : w.ownsRow base 2 1 v m (numsV ws bs sc m)) (hm : 0 < m) :
    ∃ g cap, v = .slice (some ⟨g, 0, none⟩) m cap ∧ g < w.heap.size ∧ m ≤ cap ∧ base ≤ g ∧ ∀ j, j < m → w.cell? ⟨g, j, none⟩ = some (.int .i64 (oneV ws bs sc j)) := by
  obtain ⟨h1, h2⟩ := h
  have hc := h1
  rcases h2 with ⟨_, h0⟩ | ⟨g, cap, cur, rfl, hb, hh, hcap, hc1, hc2, hc3⟩
  · omega
  · refine ⟨g, cap, rfl, (Array.getElem?_eq_some_iff.1 hh).1, hcap, hb, fun j hj => ?_⟩
    rw [own_cell hh]
    have e : (numsV ws bs sc m)[j]? = some (.int .i64 (oneV ws bs sc j)) := by
      unfold numsV
      rw [List.getElem?_map, List.getElem?_range hj]; rfl
    have := congrArg (·[j]?) hc3
    simp only [Nat.mul_one] at this
    rw [List.getElem?_take, if_pos hj, e] at this
    simpa using this
section
variable {ops : Array Oper} {rest : List Oper} {o : Oper} {a : Act} {w W : World} {Qx : Exit → Act → World → Prop} {base X Q : Nat} {p : IP} {nc ns nr nm b : Nat} {vc vs vr vm : Value} {V : Nat → Value}
/-- The appends that lie in a plain region. -/
theorem lwp_stop (h : LS base X Q p nc ns nr nm vc vs vr vm V w W) (hk : ns ≤ 5000) {l : List Value} (hl : p.stop ns = l) (hg : o.guard = none) (s x : Operand) (hop : o.op = Op.call { callee := Callee.builtin Builtin.append, args := #[s, x], argTypes := #[24, 24] })
    (hs : a.eval s = vs) (hx : a.eval x = .slice (some ⟨b, 0, none⟩) 1 1) (hc : ∀ j u, l[j]? = some u → W.cell? ((⟨b, 0, none⟩ : Addr).add j) = some u)
    (hK : ∀ g cap w', Hid (LS base X Q p nc (ns + 1) nr nm vc (.slice (some ⟨g, 0, none⟩) (ns + 1) cap) vr vm V w (w'.setCell ⟨X, 1, none⟩ (.slice (some ⟨g, 0, none⟩) (ns + 1) cap))) → w'.cell? ⟨X, 1, none⟩ = some vs → w'.frozen? ⟨X, 1, none⟩ = false → Hid (w'.heap[X]? = some (.cells #[vc, vs, vr, vm] 28) ∧ w'.heap[Q]? = some (.cells #[.slice none 0 0, .slice none 0 0, .slice none 0 0, .slice none 0 0] 28)) → wpList Tryz.prog ops Qx rest (a.put o.dst (.slice (some ⟨g, 0, none⟩) (ns + 1) cap)) w') :
    wpList Tryz.prog ops Qx (o :: rest) a W := by
  refine wpList_plain hg fun K hK' => ?_
  have h1 := lstep_stop (K := K) (Qx := Qx) (E := True) (ops := #[]) h hk hl hg s x hop hs hx hc (fun g cap w' i c f q => hK' _ _ (hK g cap w' i c f q))
  rw [if_pos (by simp [Region.wanted, hg])] at h1
  exact h1
theorem lwp_row {u : Value} (h : LS base X Q p nc ns nr nm vc vs vr vm V w W) (hd : DeepAt base p nm u W) (hu : u.oneCell' = true) (hk : nm ≤ 5000) (hg : o.guard = none) (s x : Operand) (hop : o.op = Op.call { callee := Callee.builtin Builtin.append, args := #[s, x], argTypes := #[26, 26] })
    (hs : a.eval s = vm) (hx : a.eval x = .slice (some ⟨b, 0, none⟩) 1 1) (hc : ∀ j y, [u][j]? = some y → W.cell? ((⟨b, 0, none⟩ : Addr).add j) = some y)
    (hK : ∀ g cap w' V', Hid (LS base X Q p nc ns nr (nm + 1) vc vs vr (.slice (some ⟨g, 0, none⟩) (nm + 1) cap) V' w (w'.setCell ⟨X, 3, none⟩ (.slice (some ⟨g, 0, none⟩) (nm + 1) cap))) → w'.cell? ⟨X, 3, none⟩ = some vm → w'.frozen? ⟨X, 3, none⟩ = false → Hid (w'.heap[X]? = some (.cells #[vc, vs, vr, vm] 28) ∧ w'.heap[Q]? = some (.cells #[.slice none 0 0, .slice none 0 0, .slice none 0 0, .slice none 0 0] 28)) → wpList Tryz.prog ops Qx rest (a.put o.dst (.slice (some ⟨g, 0, none⟩) (nm + 1) cap)) w') :
    wpList Tryz.prog ops Qx (o :: rest) a W := by
  refine wpList_plain hg fun K hK' => ?_
  have h1 := lstep_row (K := K) (Qx := Qx) (E := True) (ops := #[]) h hd hu hk hg s x hop hs hx hc (fun g cap w' V' i c f q => hK' _ _ (hK g cap w' V' i c f q))
  rw [if_pos (by simp [Region.wanted, hg])] at h1
  exact h1
end
end Sheet
end Go.Proofs.YtjmhlabgoegeoaaGreatDoor
