/- jitneyref23.Parse; over the translated program. -/
import Derived.Test.YtkggahoadeeajaaGreatDoorFilRefA
import Derived.Test.YtkggahoadeeajaaGreatDoorFilParse
namespace Go.Proofs.YtkggahoadeeajaaGreatDoor
namespace Fil
open Go Go.RowKit Deci
set_option linter.unusedVariables false
theorem put4 {X : Nat} {w W : World} {c : Array Value} (h : W.heap[X]? = some (.cells c 31)) (hc : c.size = 4) (hb : Below X w W) (v1 v2 v3 v4 : Value) :
    ((((W.setCell ⟨X, 0, none⟩ v1).setCell ⟨X, 1, none⟩ v2).setCell ⟨X, 2, none⟩ v3).setCell ⟨X, 3, none⟩ v4).heap[X]? = some (.cells #[v1, v2, v3, v4] 31) ∧
    Below X w ((((W.setCell ⟨X, 0, none⟩ v1).setCell ⟨X, 1, none⟩ v2).setCell ⟨X, 2, none⟩ v3).setCell ⟨X, 3, none⟩ v4) := by
  obtain ⟨l⟩ := c
  match l, hc with
  | [a, b, d, e], _ =>
    exact ⟨own_set (own_set (own_set (own_set h _) _) _) _, (((hb.setCell (p := ⟨X, 0, none⟩) (Nat.le_refl _) _).setCell (p := ⟨X, 1, none⟩) (Nat.le_refl _) _).setCell (p := ⟨X, 2, none⟩) (Nat.le_refl _) _).setCell (p := ⟨X, 3, none⟩) (Nat.le_refl _) _⟩
theorem cells_made2 {w : World} {l : List Value} {t : TypeId} {n : Nat} (hn : n = w.heap.size) : ∀ j u, l[j]? = some u → (w.alloc (.cells l.toArray t)).cell? ((⟨n, 0, none⟩ : Addr).add j) = some u := by
  subst hn; exact cells_made
theorem out_no {base : Nat} {l : List UInt8} {W : World} {ln : Nat} {er z : Int} (h : readF l = (ln, er)) (hz : z = ln) (he : er ≠ 0) :
    ParseOut base l (.returned (.tuple #[.agg #[.slice none 0 0, .slice none 0 0, .slice none 0 0, .int .i64 0], .int .i64 z, .int .i64 er])) W := by
  refine ⟨_, by rw [h, hz], ?_⟩
  unfold parseP
  rw [if_neg (by rw [h]; exact he)]
  exact planOwn_none _ _
theorem out_yes {base : Nat} {l : List UInt8} {W : World} {v : Value} (h : readF l = (0, 0)) (hp : PlanOwn base (planP (linesP l)) v W) :
    ParseOut base l (.returned (.tuple #[v, .int .i64 0, .int .i64 0])) W := by
  refine ⟨v, by rw [h]; rfl, ?_⟩
  unfold parseP
  rw [if_pos (by rw [h])]
  exact hp
/-- WHAT STANDS WHILE THE PLAN GROWS: behind the lines' call (world w1) nothing that was there has turned; the plan's block P, its rows and times so far. -/
structure RP (w1 : World) (P : Nat) (cost : Int) (rs ts : List (List Int)) (vr vt : Value) (W : World) : Prop where
  low : Below w1.heap.size w1 W
  hp : w1.heap.size ≤ P
  box : W.heap[P]? = some (.cells #[vr, vt, .slice none 0 0, .int .i64 cost] 31)
  rr : Rows w1.heap.size 25 3 rs vr W
  rt : Rows w1.heap.size 55 2 ts vt W
section
variable {w1 W W' : World} {P : Nat} {cost : Int} {rs ts : List (List Int)} {vr vt : Value}
theorem RP.below (h : RP w1 P cost rs ts vr vt W) (hb : Below W.heap.size W W') : RP w1 P cost rs ts vr vt W' :=
  ⟨h.low.trans (hb.mono h.low.size), h.hp, (hb.block P (own_lt h.box)).trans h.box, h.rr.below hb, h.rt.below hb⟩
theorem RP.alloc (h : RP w1 P cost rs ts vr vt W) (o : Obj) : RP w1 P cost rs ts vr vt (W.alloc o) := h.below ((Below.refl _ _).alloc (Nat.le_refl _) _)
theorem RP.cell (h : RP w1 P cost rs ts vr vt W) : W.cell? ⟨P, 0, none⟩ = some vr ∧ W.cell? ⟨P, 1, none⟩ = some vt ∧ W.cell? ⟨P, 2, none⟩ = some (.slice none 0 0) ∧ W.cell? ⟨P, 3, none⟩ = some (.int .i64 cost) :=
  ⟨(own_cell h.box).trans rfl, (own_cell h.box).trans rfl, (own_cell h.box).trans rfl, (own_cell h.box).trans rfl⟩
theorem RP.fz (h : RP w1 P cost rs ts vr vt W) (j : Nat) : W.frozen? ⟨P, j, none⟩ = false := own_free h.box
theorem RP.rowsOwn (h : RP w1 P cost rs ts vr vt W) : ∃ vs, W.ownsRow w1.heap.size 25 1 vr rs.length vs ∧ ∀ {W' : World} {v' u : Value} {xs : List Int}, Deep w1.heap.size 3 xs u W → W'.ownsRow w1.heap.size 25 1 v' (rs.length + 1) (vs ++ [u]) → W.grownBy W' vr.ownBlock →
    RP w1 P cost (rs ++ [xs]) ts v' vt (W'.setCell ⟨P, 0, none⟩ v') ∧ W'.heap[P]? = some (.cells #[vr, vt, .slice none 0 0, .int .i64 cost] 31) ∧ ∀ ys y, Deep w1.heap.size 2 ys y W → Deep w1.heap.size 2 ys y (W'.setCell ⟨P, 0, none⟩ v') := by
  obtain ⟨vs, ho, hl, hd⟩ := h.rr
  refine ⟨vs, ho, fun {W' v' u xs} hx ho' hg => ?_⟩
  have hbox : W'.heap[P]? = _ := (hg.block P (own_lt h.box) (fun e => own_ne ho h.box (by decide) e.symm)).trans h.box
  have hlow : Below w1.heap.size w1 W' := h.low.grown hg h.low.size (fun k hk => (ho.lt k hk).1)
  exact ⟨⟨hlow.setCell (p := ⟨P, 0, none⟩) h.hp _, h.hp, own_set hbox _, (Rows.snoc ho hl hd (by decide) hx ho' hg).put hbox (by decide) (by decide) _, (h.rt.app ho (by decide) (by decide) hg).put hbox (by decide) (by decide) _⟩, hbox, fun ys y hy => Deep.put (hy.far fun g cur _ hh => (hg.block g (own_lt hh) (fun e => own_ne ho hh (by decide) e.symm)).trans hh) hbox (by decide)⟩
theorem RP.timesOwn (h : RP w1 P cost rs ts vr vt W) : ∃ vs, W.ownsRow w1.heap.size 55 1 vt ts.length vs ∧ ∀ {W' : World} {v' u : Value} {xs : List Int}, Deep w1.heap.size 2 xs u W → W'.ownsRow w1.heap.size 55 1 v' (ts.length + 1) (vs ++ [u]) → W.grownBy W' vt.ownBlock →
    RP w1 P cost rs (ts ++ [xs]) vr v' (W'.setCell ⟨P, 1, none⟩ v') ∧ W'.heap[P]? = some (.cells #[vr, vt, .slice none 0 0, .int .i64 cost] 31) := by
  obtain ⟨vs, ho, hl, hd⟩ := h.rt
  refine ⟨vs, ho, fun {W' v' u xs} hx ho' hg => ?_⟩
  have hbox : W'.heap[P]? = _ := (hg.block P (own_lt h.box) (fun e => own_ne ho h.box (by decide) e.symm)).trans h.box
  have hlow : Below w1.heap.size w1 W' := h.low.grown hg h.low.size (fun k hk => (ho.lt k hk).1)
  exact ⟨⟨hlow.setCell (p := ⟨P, 1, none⟩) h.hp _, h.hp, own_set hbox _, (h.rr.app ho (by decide) (by decide) hg).put hbox (by decide) (by decide) _, (Rows.snoc ho hl hd (by decide) hx ho' hg).put hbox (by decide) (by decide) _⟩, hbox⟩
end
set_option maxHeartbeats 8000000 in
set_option maxRecDepth 100000 in
theorem refParse_any (s : ByteArray) (w : World) (hs : s.size ≤ 3000) :
    Calls Tryz.prog 10 #[.string s] w fun e w' => Below w.heap.size w w' ∧ ParseOut w.heap.size s.data.toList e w' := by
  obtain ⟨X, hX⟩ : ∃ X, X = w.heap.size := ⟨_, rfl⟩
  obtain ⟨W0, hW0⟩ : ∃ W0, W0 = (w.alloc (.cells #[.slice none 0 0, .slice none 0 0, .slice none 0 0, .int .i64 0] 31)).alloc (.cells #[.slice none 0 0, .slice none 0 0, .slice none 0 0, .int .i64 0] 31) := ⟨_, rfl⟩
  obtain ⟨Y, hY⟩ : ∃ Y, Y = X + 1 := ⟨_, rfl⟩
  have hb0 : Below X w W0 := by rw [hX, hW0]; exact ((Below.refl _ _).alloc (Nat.le_refl _) _).alloc (by simp) _
  have hx0 : W0.heap[X]? = some (.cells #[.slice none 0 0, .slice none 0 0, .slice none 0 0, .int .i64 0] 31) := by rw [hX, hW0, Below.heap_alloc _ _ _ (by simp)]; exact World.alloc_heap_new w _
  have hy0 : W0.heap[Y]? = some (.cells #[.slice none 0 0, .slice none 0 0, .slice none 0 0, .int .i64 0] 31) := by
    rw [hY, hX, hW0, ← World.size_alloc w (.cells #[.slice none 0 0, .slice none 0 0, .slice none 0 0, .int .i64 0] 31)]; exact World.alloc_heap_new _ _
  have hz0 : W0.heap.size = Y + 1 := by rw [hY, hX, hW0]; simp
  rw [← hX]
  have h1 := refLines_any s W0 (by unfold maxLen; omega)
  have hsz : ∀ t ∈ linesP s.data.toList, t.size ≤ 4000 := fun t ht => by have := lines_size _ t ht; simp at this; omega
  have hmany := lines_many s.data.toList
  simp at hmany
  have R1 : Hid (linesE s.data.toList ≠ 0 → readF s.data.toList = (0, linesE s.data.toList)) := Lib.hid fun h => by unfold readF; rw [if_pos h]
  have R2 : Hid (linesE s.data.toList = 0 → readF s.data.toList = planF (linesP s.data.toList)) := Lib.hid fun h => by unfold readF; rw [if_neg (by simpa using h)]
  have ON : Hid (∀ W (ln : Nat) er z, readF s.data.toList = (ln, er) → z = (ln : Int) → er ≠ 0 → ParseOut X s.data.toList (.returned (.tuple #[.agg #[.slice none 0 0, .slice none 0 0, .slice none 0 0, .int .i64 0], .int .i64 z, .int .i64 er])) W) := Lib.hid fun _ _ _ _ => out_no
  have OY : Hid (∀ W v, readF s.data.toList = (0, 0) → PlanOwn X (planP (linesP s.data.toList)) v W → ParseOut X s.data.toList (.returned (.tuple #[v, .int .i64 0, .int .i64 0])) W) := Lib.hid fun _ _ => out_yes
  generalize ParseOut X s.data.toList = PO at *
  generalize readF s.data.toList = rf at *
  generalize linesE s.data.toList = er at *
  generalize linesP s.data.toList = L at *
  have HX := Lib.hid hX; clear hX
  have HW := Lib.hid hW0; clear hW0
  have HB0 := Lib.hid hb0; clear hb0
  have HX0 := Lib.hid hx0; clear hx0
  have HY0 := Lib.hid hy0; clear hy0
  have HZ0 := Lib.hid hz0; clear hz0
  have HY := Lib.hid hY; clear hY
  have HSZ := Lib.hid hsz; clear hsz
  have H1 := Lib.hid h1; clear h1
  go_enter Tryz.func10, Tryz.ntmps10
  go_wp2_with fail
  rw [show w.heap.size + 1 = Y by rw [HY.out, HX.out], ← HX.out, ← HW.out]
  refine H1.out.mono ?_
  rintro e w1 ⟨v, rfl, hv, hb⟩
  have hx1 := (hb.block X (by rw [HZ0.out, HY.out]; omega)).trans HX0.out
  have hy1 := (hb.block Y (by rw [HZ0.out]; omega)).trans HY0.out
  have HXY := Lib.hid (show X < w1.heap.size ∧ Y < w1.heap.size from ⟨own_lt hx1, own_lt hy1⟩)
  have HX1 := Lib.hid hx1; clear hx1
  have HY1 := Lib.hid hy1; clear hy1
  have HBX : Hid (∀ W : World, Below w1.heap.size w1 W → Below X w W) := Lib.hid fun W h => (HB0.out.trans (hb.mono (by rw [HZ0.out, HY.out]; omega))).trans (h.mono (Nat.le_of_lt HXY.out.1))
  have hst : ∃ a cap, v = .slice a L.length cap ∧ Strs w1 (.slice a L.length cap) L := by
    rcases told_strs hv with ⟨rfl, rfl⟩ | ⟨g, cap, rfl, hcap, -, hg, hc⟩
    · exact ⟨none, 0, rfl, none, 0, rfl, Nat.le_refl _, .inl rfl⟩
    · exact ⟨_, _, rfl, _, cap, rfl, hcap, .inr ⟨g, 0, rfl, hg, fun j hj => by rw [Nat.zero_add]; exact hc j hj⟩⟩
  obtain ⟨a1, cap, rfl, hst⟩ := hst
  have HST := Lib.hid hst; clear hst
  clear hv hb H1 HX0 HY0 HB0 HZ0 HW
  by_cases hz : er = 0
  · subst hz
    have HRF := Lib.hid (R2.out rfl); clear R1 R2
    have hw := fun n name W (hl : Below w1.heap.size w1 W) => refWordsOf_any L n name a1 cap W HSZ.out (HST.out.below hl)
    have hwl : ∀ n, (nextW L n).length ≤ 4096 := fun n => by
      unfold nextW
      split
      · rename_i hn
        have h1 := words_many L[n].data.toList
        have h2 := HSZ.out _ (List.getElem_mem hn)
        have h3 : L[n].data.toList.length = L[n].size := by simp
        rw [List.length_tail]; omega
      · simp
    have hws : ∀ n, ∀ p ∈ nextW L n, p.size ≤ 1000000 := fun n p hp => by have := nextW_size (n := n) HSZ.out p hp; omega
    have hle := fun n name => listE_small (L := L) (n := n) (name := name) (hwl n)
    have HWD := Lib.hid hw; clear hw
    have HWL := Lib.hid hwl; clear hwl
    have HWS := Lib.hid hws; clear hws
    have HLE := Lib.hid hle; clear hle
    generalize hll : L.length = ll at *
    have HLL := Lib.hid hll; clear hll
    have hwr := HWD.out 0 wPlan w1 (Below.refl _ _)
    unfold wPlan at hwr
    have HC := Lib.hid hwr; clear hwr
    go_wp2_with fail
    refine HC.out.mono ?_
    rintro e w2 ⟨hl2, wa, wk, wc, rfl, hws2⟩
    have hpf : headE L ≠ 0 → rf = (1, headE L) := fun h => HRF.out.trans (by unfold planF; rw [if_pos h])
    have HPF := Lib.hid hpf; clear hpf HC
    by_cases he0 : nextE L 0 ⟨#[112, 108, 97, 110]⟩ = 0
    · have hws2' := hws2 he0
      rw [he0]
      obtain ⟨wa', wc', e', hcap2, hc2⟩ := hws2'
      clear hws2
      obtain ⟨rfl, hwk, rfl⟩ : wa = wa' ∧ wk = (nextW L 0).length ∧ wc = wc' := by simpa using e'
      clear e'
      have h4 := HWL.out 0
      by_cases hlen : (nextW L 0).length = 2
      · have hhe : headE L = twoE (wholeE (wAt L 0 0).data.toList) (twoE (timeE (wAt L 0 1).data.toList) (if 64 < wholeV (wAt L 0 0).data.toList then 3 else 0)) := by
          unfold headE; rw [if_pos hlen, show nextE L 0 wPlan = 0 from he0, twoE_ok]
        obtain ⟨p, q, hpq⟩ := len2 hlen
        have hp0 : wAt L 0 0 = p := by unfold wAt; rw [hpq]; rfl
        have hq0 : wAt L 0 1 = q := by unfold wAt; rw [hpq]; rfl
        have hps := HWS.out 0 p (by rw [hpq]; simp)
        have hqs := HWS.out 0 q (by rw [hpq]; simp)
        obtain ⟨g2, o2, rfl, hg2, hcc⟩ : ∃ g o, wa = some ⟨g, o, none⟩ ∧ g < w2.heap.size ∧ ∀ j (h : j < (nextW L 0).length), w2.cell? ⟨g, o + j, none⟩ = some (.string (nextW L 0)[j]) := by
          rcases hc2 with h | h
          · rw [h] at hlen; simp at hlen
          · exact h
        have c0 : w2.cell? ⟨g2, o2, none⟩ = some (.string p) := (hcc 0 (by omega)).trans (by simp [hpq])
        have c1 : w2.cell? ⟨g2, o2 + 1, none⟩ = some (.string q) := (hcc 1 (by omega)).trans (by simp [hpq])
        have hstr : ∀ W, Below w2.heap.size w2 W → Strs W (.slice (some ⟨g2, o2 + 1, none⟩) 1 (wc - 1)) [q] := fun W hW =>
          Strs.below ⟨_, wc - 1, rfl, by rw [hlen] at hcap2; simp; omega, .inr ⟨g2, o2 + 1, rfl, hg2, fun j hj => by
            obtain rfl : j = 0 := by simp at hj; omega
            exact c1⟩⟩ hW
        rw [hlen] at hwk hcap2
        subst hwk
        rw [hp0, hq0] at hhe
        have hrow : rowsN L = wholeV p.data.toList := by unfold rowsN; rw [hp0]
        have hcost : costV L = timeV q.data.toList := by unfold costV; rw [hq0]
        have h2 := fun W => refWhole_any p W (by omega)
        have h3 := fun W (hW : Below w2.heap.size w2 W) => longs_any [q] _ W (by simp) (by intro x hx; simp at hx; rw [hx]; exact hqs) (hstr W hW)
        have hne : numsE true [q] = timeE q.data.toList := by simp [numsE, oneE, twoE]; intro h; exact h.symm
        have hnv : numsV true [q] = [timeV q.data.toList] := rfl
        unfold RefN at h3
        rw [hne, hnv] at h3
        have hwp := wholeV_pos p.data.toList
        clear hne hnv hp0 hq0 hps hqs hstr hcc hc2 hpq h4
        generalize wholeE p.data.toList = e1 at *
        generalize wholeV p.data.toList = v1 at *
        generalize timeE q.data.toList = e2 at *
        generalize timeV q.data.toList = v2 at *
        obtain ⟨m, rfl⟩ : ∃ m : Nat, v1 = (m : Int) := ⟨v1.toNat, (Int.toNat_of_nonneg hwp).symm⟩
        have H2 := Lib.hid h2; clear h2
        have H3 := Lib.hid h3; clear h3
        have HHE := Lib.hid hhe; clear hhe
        have HROW := Lib.hid hrow; clear hrow
        have HCOST := Lib.hid hcost; clear hcost
        clear hwp hlen he0
        go_wp2_with fail
        refine (H2.out _).mono ?_
        rintro e w' ⟨rfl, rfl⟩
        clear H2
        by_cases he1 : e1 = 0
        · subst he1
          go_wp2_with fail
          refine (H3.out _ (Below.refl _ _)).mono ?_
          rintro e w3 ⟨hl3, hr3⟩
          have hl3' : Below w1.heap.size w1 w3 := hl2.trans (hl3.mono hl2.size)
          clear H3
          rcases hr3 with ⟨he2, v, rfl, hd⟩ | ⟨he2, rfl⟩
          · subst he2
            obtain ⟨ca, cc, rfl, hcc, hdd⟩ := hd
            rcases hdd with hdd | ⟨gc, cur, rfl, -, hgc, hcur⟩
            · cases hdd
            have c3 : w3.cell? ⟨gc, 0, none⟩ = some (.int .i64 v2) := (own_cell hgc).trans (hcur 0 (by simp))
            clear hgc hcur
            by_cases hbig : 64 < (m : Int)
            · have hhe : headE L = 3 := by rw [HHE.out, twoE_ok, twoE_ok, if_pos hbig]
              have hrf := HPF.out (by rw [hhe]; decide)
              rw [hhe] at hrf
              have HR := Lib.hid hrf; clear hrf hhe HHE
              simp only [List.length_cons, List.length_nil, Nat.zero_add]
              have hxW := (hl3'.block X HXY.out.1).trans HX1.out
              have hyW := (hl3'.block Y HXY.out.2).trans HY1.out
              have x0W : (w3).cell? ⟨X, 0, none⟩ = some (.slice none 0 0) := (own_cell hxW).trans rfl
              have y0W : (w3).cell? ⟨Y, 0, none⟩ = some (.slice none 0 0) := (own_cell hyW).trans rfl
              have x1W : (w3).cell? ⟨X, 1, none⟩ = some (.slice none 0 0) := (own_cell hxW).trans rfl
              have y1W : (w3).cell? ⟨Y, 1, none⟩ = some (.slice none 0 0) := (own_cell hyW).trans rfl
              have x2W : (w3).cell? ⟨X, 2, none⟩ = some (.slice none 0 0) := (own_cell hxW).trans rfl
              have y2W : (w3).cell? ⟨Y, 2, none⟩ = some (.slice none 0 0) := (own_cell hyW).trans rfl
              have x3W : (w3).cell? ⟨X, 3, none⟩ = some (.int .i64 0) := (own_cell hxW).trans rfl
              have y3W : (w3).cell? ⟨Y, 3, none⟩ = some (.int .i64 0) := (own_cell hyW).trans rfl
              have fxW : ∀ j, (w3).frozen? ⟨X, j, none⟩ = false := fun j => own_free hxW
              have HXW := Lib.hid hxW; clear hxW hyW
              go_wp2_with fail
              obtain ⟨hq9, hb9⟩ := put4 HXW.out rfl (HBX.out _ hl3') (.slice none 0 0) (.slice none 0 0) (.slice none 0 0) (.int .i64 0)
              refine bodyPost_ret (v := .tuple #[.agg #[.slice none 0 0, .slice none 0 0, .slice none 0 0, .int .i64 0], .int .i64 1, .int .i64 3]) (by simp [results, Tryz.results10, go_sem, World.cell?, hq9]) rfl ⟨hb9, ?_⟩
              exact ON.out _ _ _ _ (HR.out) rfl (by decide)
            · have hhe : headE L = 0 := by rw [HHE.out, twoE_ok, twoE_ok, if_neg hbig]
              have hm64 : m ≤ 64 := by omega
              have hrf : rf = allF L 1 m := by
                rw [HRF.out]; unfold planF; rw [if_neg (by rw [hhe]; decide), HROW.out]; rfl
              have hpl : planP L = ⟨rowsR L 1 m, rowsT L 1 m, numsV false (nextW L (1 + 2 * m)), v2⟩ := by
                unfold planP; rw [HROW.out, HCOST.out]; rfl
              have HR := Lib.hid hrf; clear hrf hhe HHE HPF HRF
              have HPL := Lib.hid hpl; clear hpl HROW HCOST
              simp only [List.length_cons, List.length_nil, Nat.zero_add]
              have hl4 : Below w3.heap.size w3 (w3.alloc (.cells #[.slice none 0 0, .slice none 0 0, .slice none 0 0, .int .i64 v2] 31)) := (Below.refl _ _).alloc (Nat.le_refl _) _
              have hp0 : RP w1 w3.heap.size v2 [] [] (.slice none 0 0) (.slice none 0 0) (w3.alloc (.cells #[.slice none 0 0, .slice none 0 0, .slice none 0 0, .int .i64 v2] 31)) :=
                ⟨hl3'.trans (hl4.mono hl3'.size), hl3'.size, World.alloc_heap_new w3 _, rows_nil _ _ _ _, rows_nil _ _ _ _⟩
              have HP0 := Lib.hid hp0; clear hp0
              go_wp2_with fail
              generalize w3.alloc (.cells #[.slice none 0 0, .slice none 0 0, .slice none 0 0, .int .i64 v2] 31) = W1 at *
              generalize w3.heap.size = P at *
              clear hl4 hl3' hl3 hl2 c0 c1 c3 hcc hcap2 hg2 hmany hs
              clear w2
              go_loopw [12] (fun i wr => ∃ k : Nat, k ≤ m ∧ i = .int .i64 k ∧ Hid (∃ vr vt, (rowsF L 1 k).2 = 0 ∧ RP w1 P v2 (rowsR L 1 k) (rowsT L 1 k) vr vt wr)) (fun i _ => m - (intOf i).toNat)
              case atStart => exact ⟨0, Nat.zero_le _, rfl, Lib.hid ⟨_, _, rfl, HP0.out⟩⟩
              case round =>
                obtain ⟨k, hk, rfl, HR0⟩ := hrel
                obtain ⟨vr, vt, hf0, hrp⟩ := HR0.out
                clear HR0 HP0
                have HF0 := Lib.hid hf0; clear hf0
                have HRP := Lib.hid hrp; clear hrp
                have hwr := HWD.out (1 + 2 * k) wRoute wr HRP.out.low
                rw [show ((1 + 2 * k : Nat) : Int) = 1 + 2 * (k : Int) by omega] at hwr
                unfold wRoute at hwr
                have HC := Lib.hid hwr; clear hwr
                by_cases hlt : k < m
                · have hfr : routeE L (1 + 2 * k) ≠ 0 → rf = (1 + 2 * k + 1, routeE L (1 + 2 * k)) := fun h => HR.out.trans (allF_route HF0.out hlt h)
                  have HFR := Lib.hid hfr; clear hfr
                  have hre : routeE L (1 + 2 * k) = twoE (nextE L (1 + 2 * k) ⟨#[114, 111, 117, 116, 101]⟩) (if nextW L (1 + 2 * k) = [] then 21 else numsE false (nextW L (1 + 2 * k))) := by unfold routeE; rw [HLE.out]; rfl
                  have HRE := Lib.hid hre; clear hre
                  go_wp2_with fail
                  refine HC.out.mono ?_
                  rintro e w4 ⟨hl4, wa, wk, wd, rfl, hws4⟩
                  have hp4 := HRP.out.below hl4
                  have HP4 := Lib.hid hp4; clear hp4 HC HRP hl4
                  by_cases hen : nextE L (1 + 2 * k) ⟨#[114, 111, 117, 116, 101]⟩ = 0
                  · rw [hen] at HRE ⊢
                    have hst4 := hws4 hen
                    clear hws4
                    have hwk : wk = (nextW L (1 + 2 * k)).length := by
                      obtain ⟨a', c', e', -⟩ := hst4
                      simp at e'
                      exact e'.2.1
                    by_cases hnil : nextW L (1 + 2 * k) = []
                    · have hre : routeE L (1 + 2 * k) = 21 := HRE.out.trans (by rw [twoE_ok, if_pos hnil])
                      have hrf := HFR.out (by rw [hre]; decide)
                      rw [hre] at hrf
                      have hk0 : wk = 0 := by rw [hwk, hnil]; rfl
                      subst hk0
                      clear hre HRE HFR hwk hnil hst4
                      have HR9 := Lib.hid hrf; clear hrf
                      have hxW := (HP4.out.low.block X HXY.out.1).trans HX1.out
                      have hyW := (HP4.out.low.block Y HXY.out.2).trans HY1.out
                      have x0W : (w4).cell? ⟨X, 0, none⟩ = some (.slice none 0 0) := (own_cell hxW).trans rfl
                      have y0W : (w4).cell? ⟨Y, 0, none⟩ = some (.slice none 0 0) := (own_cell hyW).trans rfl
                      have x1W : (w4).cell? ⟨X, 1, none⟩ = some (.slice none 0 0) := (own_cell hxW).trans rfl
                      have y1W : (w4).cell? ⟨Y, 1, none⟩ = some (.slice none 0 0) := (own_cell hyW).trans rfl
                      have x2W : (w4).cell? ⟨X, 2, none⟩ = some (.slice none 0 0) := (own_cell hxW).trans rfl
                      have y2W : (w4).cell? ⟨Y, 2, none⟩ = some (.slice none 0 0) := (own_cell hyW).trans rfl
                      have x3W : (w4).cell? ⟨X, 3, none⟩ = some (.int .i64 0) := (own_cell hxW).trans rfl
                      have y3W : (w4).cell? ⟨Y, 3, none⟩ = some (.int .i64 0) := (own_cell hyW).trans rfl
                      have fxW : ∀ j, (w4).frozen? ⟨X, j, none⟩ = false := fun j => own_free hxW
                      have HXW := Lib.hid hxW; clear hxW hyW
                      go_wp2_with fail
                      obtain ⟨hq9, hb9⟩ := put4 HXW.out rfl (HBX.out _ HP4.out.low) (.slice none 0 0) (.slice none 0 0) (.slice none 0 0) (.int .i64 0)
                      refine bodyPost_ret (v := .tuple #[.agg #[.slice none 0 0, .slice none 0 0, .slice none 0 0, .int .i64 0], .int .i64 (2 + 2 * (k : Int)), .int .i64 21]) (by simp [results, Tryz.results10, go_sem, World.cell?, hq9]) rfl ⟨hb9, ?_⟩
                      exact ON.out _ _ _ _ (HR9.out) (by omega) (by decide)
                    · have hre : routeE L (1 + 2 * k) = numsE false (nextW L (1 + 2 * k)) := HRE.out.trans (by rw [twoE_ok, if_neg hnil])
                      have hk0 : wk ≠ 0 := by rw [hwk]; exact fun h => hnil (List.eq_nil_of_length_eq_zero h)
                      have hwh := wholes_any (nextW L (1 + 2 * k)) _ w4 (by have := HWL.out (1 + 2 * k); omega) (HWS.out _) hst4
                      unfold RefN at hwh
                      have hrsn := rowsR_snoc L k 1
                      have htsn := rowsT_snoc L k 1
                      have hft : routeE L (1 + 2 * k) = 0 → timesE L (1 + 2 * k + 1) wk ≠ 0 → rf = (1 + 2 * k + 2, timesE L (1 + 2 * k + 1) wk) := fun h0 h => HR.out.trans (by rw [hwk] at h ⊢; exact allF_times HF0.out hlt h0 h)
                      have hfn : routeE L (1 + 2 * k) = 0 → timesE L (1 + 2 * k + 1) wk = 0 → (rowsF L 1 (k + 1)).2 = 0 := fun h0 h => rowsF_snoc HF0.out h0 (by rw [hwk] at h; exact h)
                      have hw4 := HWL.out (1 + 2 * k)
                      rw [← hwk] at hw4
                      clear hnil hwk hst4 HRE
                      rw [hre] at hft hfn
                      have hfr := HFR.out
                      rw [hre] at hfr
                      have hxl : (numsV false (nextW L (1 + 2 * k))).length = (nextW L (1 + 2 * k)).length := by simp [numsV]
                      generalize numsE false (nextW L (1 + 2 * k)) = ne at *
                      generalize numsV false (nextW L (1 + 2 * k)) = xs at *
                      have HRS := Lib.hid hrsn; clear hrsn
                      have HTS := Lib.hid htsn; clear htsn
                      have HFT := Lib.hid hft; clear hft
                      have HFN := Lib.hid hfn; clear hfn
                      have HFR' := Lib.hid hfr; clear hfr HFR hre hxl
                      have HWH := Lib.hid hwh; clear hwh
                      have q1 : ((wk : Int) == 0) = false := by simp; exact hk0
                      go_wp2_with fail
                      refine HWH.out.mono ?_
                      rintro e w5 ⟨hl5, ⟨hne, v5, rfl, hd5⟩ | ⟨hne, rfl⟩⟩
                      · have hp5 := HP4.out.below hl5
                        have hd5' := hd5.mono HP4.out.low.size
                        obtain ⟨a5, c5, rfl⟩ := hd5.form
                        have HP5 := Lib.hid hp5; clear hp5 hl5
                        have HD5 := Lib.hid hd5'; clear hd5 hd5' HWH HP4 HFR'
                        have hwr := HWD.out (2 + 2 * k) wTimes w5 HP5.out.low
                        rw [show ((2 + 2 * k : Nat) : Int) = 2 + 2 * (k : Int) by omega, show 2 + 2 * k = 1 + 2 * k + 1 by omega] at hwr
                        unfold wTimes at hwr
                        have HC := Lib.hid hwr; clear hwr
                        have hte : timesE L (1 + 2 * k + 1) wk = twoE (nextE L (1 + 2 * k + 1) ⟨#[116, 105, 109, 101, 115]⟩) (if (nextW L (1 + 2 * k + 1)).length ≠ 0 ∧ (nextW L (1 + 2 * k + 1)).length ≠ wk then 1 else numsE true (nextW L (1 + 2 * k + 1))) := by unfold timesE; rw [HLE.out]; rfl
                        have HTE := Lib.hid hte; clear hte
                        have hft := HFT.out hne
                        have hfn := HFN.out hne
                        have HFT' := Lib.hid hft; clear hft HFT
                        have HFN' := Lib.hid hfn; clear hfn HFN
                        subst hne
                        generalize hxl : xs.length = xl at *
                        have HXL := Lib.hid hxl; clear hxl
                        go_wp2_with fail
                        refine HC.out.mono ?_
                        rintro e w6 ⟨hl6, ta, tk, tc, rfl, hws6⟩
                        have HP6 := Lib.hid (HP5.out.below hl6)
                        have HD6 := Lib.hid (HD5.out.below hl6); clear HD5 HP5 hl6 HC
                        by_cases hen6 : nextE L (1 + 2 * k + 1) ⟨#[116, 105, 109, 101, 115]⟩ = 0
                        · rw [hen6] at HTE ⊢
                          have hst6 := hws6 hen6
                          clear hws6
                          have htk : tk = (nextW L (1 + 2 * k + 1)).length := by
                            obtain ⟨a', c', e', -⟩ := hst6
                            simp at e'
                            exact e'.2.1
                          have ht4 := HWL.out (1 + 2 * k + 1)
                          by_cases hbad : tk ≠ 0 ∧ tk ≠ wk
                          · have hte : timesE L (1 + 2 * k + 1) wk = 1 := HTE.out.trans (by rw [twoE_ok, ← htk, if_pos hbad])
                            have hrf := HFT'.out (by rw [hte]; decide)
                            rw [hte] at hrf
                            rw [← htk] at ht4
                            obtain ⟨hb1, hb2⟩ := hbad
                            clear hte HTE HFT' HFN' htk hst6
                            have HR9 := Lib.hid hrf; clear hrf
                            have q2 : ((tk : Int) != (wk : Int)) = true := by simp; omega
                            have q3 : decide ((0 : Int) < (tk : Int)) = true := by simp; omega
                            have hxW := (HP6.out.low.block X HXY.out.1).trans HX1.out
                            have hyW := (HP6.out.low.block Y HXY.out.2).trans HY1.out
                            have x0W : (w6).cell? ⟨X, 0, none⟩ = some (.slice none 0 0) := (own_cell hxW).trans rfl
                            have y0W : (w6).cell? ⟨Y, 0, none⟩ = some (.slice none 0 0) := (own_cell hyW).trans rfl
                            have x1W : (w6).cell? ⟨X, 1, none⟩ = some (.slice none 0 0) := (own_cell hxW).trans rfl
                            have y1W : (w6).cell? ⟨Y, 1, none⟩ = some (.slice none 0 0) := (own_cell hyW).trans rfl
                            have x2W : (w6).cell? ⟨X, 2, none⟩ = some (.slice none 0 0) := (own_cell hxW).trans rfl
                            have y2W : (w6).cell? ⟨Y, 2, none⟩ = some (.slice none 0 0) := (own_cell hyW).trans rfl
                            have x3W : (w6).cell? ⟨X, 3, none⟩ = some (.int .i64 0) := (own_cell hxW).trans rfl
                            have y3W : (w6).cell? ⟨Y, 3, none⟩ = some (.int .i64 0) := (own_cell hyW).trans rfl
                            have fxW : ∀ j, (w6).frozen? ⟨X, j, none⟩ = false := fun j => own_free hxW
                            have HXW := Lib.hid hxW; clear hxW hyW
                            go_wp2_with fail
                            obtain ⟨hq9, hb9⟩ := put4 HXW.out rfl (HBX.out _ HP6.out.low) (.slice none 0 0) (.slice none 0 0) (.slice none 0 0) (.int .i64 0)
                            refine bodyPost_ret (v := .tuple #[.agg #[.slice none 0 0, .slice none 0 0, .slice none 0 0, .int .i64 0], .int .i64 (3 + 2 * (k : Int)), .int .i64 1]) (by simp [results, Tryz.results10, go_sem, World.cell?, hq9]) rfl ⟨hb9, ?_⟩
                            exact ON.out _ _ _ _ (HR9.out) (by omega) (by decide)
                          · have hte : timesE L (1 + 2 * k + 1) wk = numsE true (nextW L (1 + 2 * k + 1)) := HTE.out.trans (by rw [twoE_ok, ← htk, if_neg hbad])
                            have hlg := longs_any (nextW L (1 + 2 * k + 1)) _ w6 (by omega) (HWS.out _) hst6
                            unfold RefN at hlg
                            rw [← htk] at ht4
                            have hft := HFT'.out
                            have hfn := HFN'.out
                            rw [hte] at hft hfn
                            clear HTE hte HFT' HFN' htk hst6
                            generalize numsE true (nextW L (1 + 2 * k + 1)) = te at *
                            generalize numsV true (nextW L (1 + 2 * k + 1)) = ys at *
                            have HFT := Lib.hid hft; clear hft
                            have HFN := Lib.hid hfn; clear hfn
                            have HLG := Lib.hid hlg; clear hlg
                            have q4 : (((tk : Int) != (wk : Int)) && decide ((0 : Int) < (tk : Int))) = false := by
                              rcases Nat.eq_zero_or_pos tk with h | h
                              · subst h; simp
                              · have : tk = wk := Decidable.byContradiction fun h2 => hbad ⟨by omega, h2⟩
                                subst this; simp
                            have q5 : tk = wk ∨ (tk = 0 ∧ tk ≠ wk) := by
                              by_cases h : tk = wk
                              · exact .inl h
                              · exact .inr ⟨Decidable.byContradiction fun h2 => hbad ⟨h2, h⟩, h⟩
                            clear hbad
                            rcases q5 with rfl | ⟨rfl, h9⟩
                            · go_wp2_with fail
                              refine HLG.out.mono ?_
                              rintro e w7 ⟨hl7, ⟨hne7, v7, rfl, hd7⟩ | ⟨hne7, rfl⟩⟩
                              · have HP7 := Lib.hid (HP6.out.below hl7)
                                have HD7 := Lib.hid (HD6.out.below hl7)
                                have hd7' := hd7.mono HP6.out.low.size
                                obtain ⟨a7, c7, rfl⟩ := hd7.form
                                have HE7 := Lib.hid hd7'; clear hd7' hd7 HP6 HD6 hl7 HLG
                                have HFN' := Lib.hid (HFN.out hne7); clear HFN HFT
                                subst hne7
                                generalize hyl : ys.length = yl at *
                                have HYL := Lib.hid hyl; clear hyl
                                obtain ⟨irr, hirr, irr0, irr1, irr2⟩ := info_parts info_ints
                                have hrl := rowsR_len L k 1
                                have htl := rowsT_len L k 1
                                have x0 := HP7.out.cell.1
                                have x1 := HP7.out.cell.2.1
                                have zx := own_lt HP7.out.box
                                have hpa := HP7.out.alloc (.cells #[.slice a5 xl c5] 25)
                                have hda : Deep w1.heap.size 3 xs (.slice a5 xl c5) (w7.alloc (.cells #[.slice a5 xl c5] 25)) := HD7.out.below ((Below.refl _ _).alloc (Nat.le_refl _) _)
                                obtain ⟨vs, hown, hnx⟩ := hpa.rowsOwn
                                have hnx' := fun (W' : World) (v' : Value) => hnx (W' := W') (v' := v') hda
                                have HNX := Lib.hid hnx'; clear hnx hnx' hda
                                rw [hrl] at hown HNX
                                have hgsz := hpa.low.size
                                clear hpa
                                obtain ⟨irt, hirt, irt0, irt1, irt2⟩ := info_parts info_longs
                                go_wp2_with (first | (at_builtin; refine wpList_append_own _ rfl _ _ 23 rfl w1.heap.size 25 irr (.slice none 0 0) 1 24 Tryz.underlying23 hirr irr0 irr1 irr2 rfl (by decide) _ _ _ rfl hown ⟨w7.heap.size, 0, none⟩ 1 1 [.slice a5 xl c5] rfl rfl (cells_made (l := [_])) (by simp [Value.oneCell']) (by unfold maxLen; omega) (by omega) hgsz ?_; intro v' w8 hown' hgrow _; have hpq := HNX.out _ _ hown' hgrow; obtain ⟨g8, cap8, rfl⟩ := Go.Joins.ownsRow_form hown' (by omega); have y0 : w8.cell? ⟨P, 0, none⟩ = some vr := (own_cell hpq.2.1).trans rfl; have y1 : w8.cell? ⟨P, 1, none⟩ = some vt := (own_cell hpq.2.1).trans rfl; have z0 : ∀ j, w8.frozen? ⟨P, j, none⟩ = false := fun j => own_free hpq.2.1; have hdb := hpq.2.2 _ _ (HE7.out.below ((Below.refl _ _).alloc (Nat.le_refl _) _)); have hrp8 := hpq.1; clear hpq hgrow hown'; rw [← HRS.out] at hrp8; have hpb := hrp8.alloc (.cells #[.slice a7 yl c7] 55); have hdc := hdb.below ((Below.refl _ _).alloc (Nat.le_refl _) (.cells #[.slice a7 yl c7] 55)); clear hdb hrp8; obtain ⟨vs2, hown2, hnx2⟩ := hpb.timesOwn; have hnx2' := fun (W' : World) (v' : Value) => hnx2 (W' := W') (v' := v') hdc; have HNX2 := Lib.hid hnx2'; clear hnx2 hnx2' hdc; rw [htl] at hown2 HNX2; have hgsz2 := hpb.low.size; clear hpb) | (at_builtin; refine wpList_append_own _ rfl _ _ 24 rfl w1.heap.size 55 irt (.slice none 0 0) 1 24 Tryz.underlying24 hirt irt0 irt1 irt2 rfl (by decide) _ _ _ rfl hown2 ⟨_, 0, none⟩ 1 1 [.slice a7 yl c7] rfl rfl (cells_made2 (by simp)) (by simp [Value.oneCell']) (by unfold maxLen; omega) (by omega) hgsz2 ?_; intro v' w9 hown' hgrow _; have hpq := HNX2.out _ _ hown' hgrow; obtain ⟨g9, cap9, rfl⟩ := Go.Joins.ownsRow_form hown' (by omega); have yy1 := (own_cell (i := 1) hpq.2).trans rfl; have zz0 : ∀ j, w9.frozen? ⟨P, j, none⟩ = false := fun j => own_free hpq.2; have HPQ := Lib.hid hpq; clear hpq hgrow hown'))
                                have hrp9 := HPQ.out.1
                                rw [← HTS.out] at hrp9
                                have HRP9 := Lib.hid hrp9; clear hrp9 HPQ
                                refine ⟨⟨k + 1, by omega, by go_num, Lib.hid ⟨_, _, HFN'.out, HRP9.out⟩⟩, ?_⟩
                                simp [intOf]; omega
                              · have hrf := HFT.out hne7
                                have HR9 := Lib.hid hrf; clear hrf HFT HFN HLG
                                have hlow7 := (HP6.out.below hl7).low
                                have hxW := (hlow7.block X HXY.out.1).trans HX1.out
                                have hyW := (hlow7.block Y HXY.out.2).trans HY1.out
                                have x0W : (w7).cell? ⟨X, 0, none⟩ = some (.slice none 0 0) := (own_cell hxW).trans rfl
                                have y0W : (w7).cell? ⟨Y, 0, none⟩ = some (.slice none 0 0) := (own_cell hyW).trans rfl
                                have x1W : (w7).cell? ⟨X, 1, none⟩ = some (.slice none 0 0) := (own_cell hxW).trans rfl
                                have y1W : (w7).cell? ⟨Y, 1, none⟩ = some (.slice none 0 0) := (own_cell hyW).trans rfl
                                have x2W : (w7).cell? ⟨X, 2, none⟩ = some (.slice none 0 0) := (own_cell hxW).trans rfl
                                have y2W : (w7).cell? ⟨Y, 2, none⟩ = some (.slice none 0 0) := (own_cell hyW).trans rfl
                                have x3W : (w7).cell? ⟨X, 3, none⟩ = some (.int .i64 0) := (own_cell hxW).trans rfl
                                have y3W : (w7).cell? ⟨Y, 3, none⟩ = some (.int .i64 0) := (own_cell hyW).trans rfl
                                have fxW : ∀ j, (w7).frozen? ⟨X, j, none⟩ = false := fun j => own_free hxW
                                have HXW := Lib.hid hxW; clear hxW hyW
                                go_wp2_with fail
                                obtain ⟨hq9, hb9⟩ := put4 HXW.out rfl (HBX.out _ hlow7) (.slice none 0 0) (.slice none 0 0) (.slice none 0 0) (.int .i64 0)
                                refine bodyPost_ret (v := .tuple #[.agg #[.slice none 0 0, .slice none 0 0, .slice none 0 0, .int .i64 0], .int .i64 (3 + 2 * (k : Int)), .int .i64 te]) (by simp [results, Tryz.results10, go_sem, World.cell?, hq9]) rfl ⟨hb9, ?_⟩
                                exact ON.out _ _ _ _ (HR9.out) (by omega) hne7
                            · go_wp2_with fail
                              refine HLG.out.mono ?_
                              rintro e w7 ⟨hl7, ⟨hne7, v7, rfl, hd7⟩ | ⟨hne7, rfl⟩⟩
                              · have HP7 := Lib.hid (HP6.out.below hl7)
                                have HD7 := Lib.hid (HD6.out.below hl7)
                                have hd7' := hd7.mono HP6.out.low.size
                                obtain ⟨a7, c7, rfl⟩ := hd7.form
                                have HE7 := Lib.hid hd7'; clear hd7' hd7 HP6 HD6 hl7 HLG
                                have HFN' := Lib.hid (HFN.out hne7); clear HFN HFT
                                subst hne7
                                generalize hyl : ys.length = yl at *
                                have HYL := Lib.hid hyl; clear hyl
                                obtain ⟨irr, hirr, irr0, irr1, irr2⟩ := info_parts info_ints
                                have hrl := rowsR_len L k 1
                                have htl := rowsT_len L k 1
                                have x0 := HP7.out.cell.1
                                have x1 := HP7.out.cell.2.1
                                have zx := own_lt HP7.out.box
                                have hpa := HP7.out.alloc (.cells #[.slice a5 xl c5] 25)
                                have hda : Deep w1.heap.size 3 xs (.slice a5 xl c5) (w7.alloc (.cells #[.slice a5 xl c5] 25)) := HD7.out.below ((Below.refl _ _).alloc (Nat.le_refl _) _)
                                obtain ⟨vs, hown, hnx⟩ := hpa.rowsOwn
                                have hnx' := fun (W' : World) (v' : Value) => hnx (W' := W') (v' := v') hda
                                have HNX := Lib.hid hnx'; clear hnx hnx' hda
                                rw [hrl] at hown HNX
                                have hgsz := hpa.low.size
                                clear hpa
                                obtain ⟨irt, hirt, irt0, irt1, irt2⟩ := info_parts info_longs
                                go_wp2_with (first | (at_builtin; refine wpList_append_own _ rfl _ _ 23 rfl w1.heap.size 25 irr (.slice none 0 0) 1 24 Tryz.underlying23 hirr irr0 irr1 irr2 rfl (by decide) _ _ _ rfl hown ⟨w7.heap.size, 0, none⟩ 1 1 [.slice a5 xl c5] rfl rfl (cells_made (l := [_])) (by simp [Value.oneCell']) (by unfold maxLen; omega) (by omega) hgsz ?_; intro v' w8 hown' hgrow _; have hpq := HNX.out _ _ hown' hgrow; obtain ⟨g8, cap8, rfl⟩ := Go.Joins.ownsRow_form hown' (by omega); have y0 : w8.cell? ⟨P, 0, none⟩ = some vr := (own_cell hpq.2.1).trans rfl; have y1 : w8.cell? ⟨P, 1, none⟩ = some vt := (own_cell hpq.2.1).trans rfl; have z0 : ∀ j, w8.frozen? ⟨P, j, none⟩ = false := fun j => own_free hpq.2.1; have hdb := hpq.2.2 _ _ (HE7.out.below ((Below.refl _ _).alloc (Nat.le_refl _) _)); have hrp8 := hpq.1; clear hpq hgrow hown'; rw [← HRS.out] at hrp8; have hpb := hrp8.alloc (.cells #[.slice a7 yl c7] 55); have hdc := hdb.below ((Below.refl _ _).alloc (Nat.le_refl _) (.cells #[.slice a7 yl c7] 55)); clear hdb hrp8; obtain ⟨vs2, hown2, hnx2⟩ := hpb.timesOwn; have hnx2' := fun (W' : World) (v' : Value) => hnx2 (W' := W') (v' := v') hdc; have HNX2 := Lib.hid hnx2'; clear hnx2 hnx2' hdc; rw [htl] at hown2 HNX2; have hgsz2 := hpb.low.size; clear hpb) | (at_builtin; refine wpList_append_own _ rfl _ _ 24 rfl w1.heap.size 55 irt (.slice none 0 0) 1 24 Tryz.underlying24 hirt irt0 irt1 irt2 rfl (by decide) _ _ _ rfl hown2 ⟨_, 0, none⟩ 1 1 [.slice a7 yl c7] rfl rfl (cells_made2 (by simp)) (by simp [Value.oneCell']) (by unfold maxLen; omega) (by omega) hgsz2 ?_; intro v' w9 hown' hgrow _; have hpq := HNX2.out _ _ hown' hgrow; obtain ⟨g9, cap9, rfl⟩ := Go.Joins.ownsRow_form hown' (by omega); have yy1 := (own_cell (i := 1) hpq.2).trans rfl; have zz0 : ∀ j, w9.frozen? ⟨P, j, none⟩ = false := fun j => own_free hpq.2; have HPQ := Lib.hid hpq; clear hpq hgrow hown'))
                                have hrp9 := HPQ.out.1
                                rw [← HTS.out] at hrp9
                                have HRP9 := Lib.hid hrp9; clear hrp9 HPQ
                                refine ⟨⟨k + 1, by omega, by go_num, Lib.hid ⟨_, _, HFN'.out, HRP9.out⟩⟩, ?_⟩
                                simp [intOf]; omega
                              · have hrf := HFT.out hne7
                                have HR9 := Lib.hid hrf; clear hrf HFT HFN HLG
                                have hlow7 := (HP6.out.below hl7).low
                                have hxW := (hlow7.block X HXY.out.1).trans HX1.out
                                have hyW := (hlow7.block Y HXY.out.2).trans HY1.out
                                have x0W : (w7).cell? ⟨X, 0, none⟩ = some (.slice none 0 0) := (own_cell hxW).trans rfl
                                have y0W : (w7).cell? ⟨Y, 0, none⟩ = some (.slice none 0 0) := (own_cell hyW).trans rfl
                                have x1W : (w7).cell? ⟨X, 1, none⟩ = some (.slice none 0 0) := (own_cell hxW).trans rfl
                                have y1W : (w7).cell? ⟨Y, 1, none⟩ = some (.slice none 0 0) := (own_cell hyW).trans rfl
                                have x2W : (w7).cell? ⟨X, 2, none⟩ = some (.slice none 0 0) := (own_cell hxW).trans rfl
                                have y2W : (w7).cell? ⟨Y, 2, none⟩ = some (.slice none 0 0) := (own_cell hyW).trans rfl
                                have x3W : (w7).cell? ⟨X, 3, none⟩ = some (.int .i64 0) := (own_cell hxW).trans rfl
                                have y3W : (w7).cell? ⟨Y, 3, none⟩ = some (.int .i64 0) := (own_cell hyW).trans rfl
                                have fxW : ∀ j, (w7).frozen? ⟨X, j, none⟩ = false := fun j => own_free hxW
                                have HXW := Lib.hid hxW; clear hxW hyW
                                go_wp2_with fail
                                obtain ⟨hq9, hb9⟩ := put4 HXW.out rfl (HBX.out _ hlow7) (.slice none 0 0) (.slice none 0 0) (.slice none 0 0) (.int .i64 0)
                                refine bodyPost_ret (v := .tuple #[.agg #[.slice none 0 0, .slice none 0 0, .slice none 0 0, .int .i64 0], .int .i64 (3 + 2 * (k : Int)), .int .i64 te]) (by simp [results, Tryz.results10, go_sem, World.cell?, hq9]) rfl ⟨hb9, ?_⟩
                                exact ON.out _ _ _ _ (HR9.out) (by omega) hne7
                        · have hte : timesE L (1 + 2 * k + 1) wk = nextE L (1 + 2 * k + 1) ⟨#[116, 105, 109, 101, 115]⟩ := HTE.out.trans (twoE_no _ hen6)
                          have hrf := HFT'.out (by rw [hte]; exact hen6)
                          rw [hte] at hrf
                          clear hte hws6 HTE HFT' HFN'
                          generalize nextE L (1 + 2 * k + 1) ⟨#[116, 105, 109, 101, 115]⟩ = e9 at *
                          have HR9 := Lib.hid hrf; clear hrf
                          have hxW := (HP6.out.low.block X HXY.out.1).trans HX1.out
                          have hyW := (HP6.out.low.block Y HXY.out.2).trans HY1.out
                          have x0W : (w6).cell? ⟨X, 0, none⟩ = some (.slice none 0 0) := (own_cell hxW).trans rfl
                          have y0W : (w6).cell? ⟨Y, 0, none⟩ = some (.slice none 0 0) := (own_cell hyW).trans rfl
                          have x1W : (w6).cell? ⟨X, 1, none⟩ = some (.slice none 0 0) := (own_cell hxW).trans rfl
                          have y1W : (w6).cell? ⟨Y, 1, none⟩ = some (.slice none 0 0) := (own_cell hyW).trans rfl
                          have x2W : (w6).cell? ⟨X, 2, none⟩ = some (.slice none 0 0) := (own_cell hxW).trans rfl
                          have y2W : (w6).cell? ⟨Y, 2, none⟩ = some (.slice none 0 0) := (own_cell hyW).trans rfl
                          have x3W : (w6).cell? ⟨X, 3, none⟩ = some (.int .i64 0) := (own_cell hxW).trans rfl
                          have y3W : (w6).cell? ⟨Y, 3, none⟩ = some (.int .i64 0) := (own_cell hyW).trans rfl
                          have fxW : ∀ j, (w6).frozen? ⟨X, j, none⟩ = false := fun j => own_free hxW
                          have HXW := Lib.hid hxW; clear hxW hyW
                          go_wp2_with fail
                          obtain ⟨hq9, hb9⟩ := put4 HXW.out rfl (HBX.out _ HP6.out.low) (.slice none 0 0) (.slice none 0 0) (.slice none 0 0) (.int .i64 0)
                          refine bodyPost_ret (v := .tuple #[.agg #[.slice none 0 0, .slice none 0 0, .slice none 0 0, .int .i64 0], .int .i64 (3 + 2 * (k : Int)), .int .i64 e9]) (by simp [results, Tryz.results10, go_sem, World.cell?, hq9]) rfl ⟨hb9, ?_⟩
                          exact ON.out _ _ _ _ (HR9.out) (by omega) hen6
                      · have hrf := HFR'.out hne
                        have HR9 := Lib.hid hrf; clear hrf HFR' HFT HFN HWH
                        have hlow5 := (HP4.out.below hl5).low
                        have hxW := (hlow5.block X HXY.out.1).trans HX1.out
                        have hyW := (hlow5.block Y HXY.out.2).trans HY1.out
                        have x0W : (w5).cell? ⟨X, 0, none⟩ = some (.slice none 0 0) := (own_cell hxW).trans rfl
                        have y0W : (w5).cell? ⟨Y, 0, none⟩ = some (.slice none 0 0) := (own_cell hyW).trans rfl
                        have x1W : (w5).cell? ⟨X, 1, none⟩ = some (.slice none 0 0) := (own_cell hxW).trans rfl
                        have y1W : (w5).cell? ⟨Y, 1, none⟩ = some (.slice none 0 0) := (own_cell hyW).trans rfl
                        have x2W : (w5).cell? ⟨X, 2, none⟩ = some (.slice none 0 0) := (own_cell hxW).trans rfl
                        have y2W : (w5).cell? ⟨Y, 2, none⟩ = some (.slice none 0 0) := (own_cell hyW).trans rfl
                        have x3W : (w5).cell? ⟨X, 3, none⟩ = some (.int .i64 0) := (own_cell hxW).trans rfl
                        have y3W : (w5).cell? ⟨Y, 3, none⟩ = some (.int .i64 0) := (own_cell hyW).trans rfl
                        have fxW : ∀ j, (w5).frozen? ⟨X, j, none⟩ = false := fun j => own_free hxW
                        have HXW := Lib.hid hxW; clear hxW hyW
                        go_wp2_with fail
                        obtain ⟨hq9, hb9⟩ := put4 HXW.out rfl (HBX.out _ hlow5) (.slice none 0 0) (.slice none 0 0) (.slice none 0 0) (.int .i64 0)
                        refine bodyPost_ret (v := .tuple #[.agg #[.slice none 0 0, .slice none 0 0, .slice none 0 0, .int .i64 0], .int .i64 (2 + 2 * (k : Int)), .int .i64 ne]) (by simp [results, Tryz.results10, go_sem, World.cell?, hq9]) rfl ⟨hb9, ?_⟩
                        exact ON.out _ _ _ _ (HR9.out) (by omega) hne
                  · have hre : routeE L (1 + 2 * k) = nextE L (1 + 2 * k) ⟨#[114, 111, 117, 116, 101]⟩ := HRE.out.trans (twoE_no _ hen)
                    have hrf := HFR.out (by rw [hre]; exact hen)
                    rw [hre] at hrf
                    clear hre hws4 HRE HFR
                    generalize nextE L (1 + 2 * k) ⟨#[114, 111, 117, 116, 101]⟩ = e9 at *
                    have HR9 := Lib.hid hrf; clear hrf
                    have hxW := (HP4.out.low.block X HXY.out.1).trans HX1.out
                    have hyW := (HP4.out.low.block Y HXY.out.2).trans HY1.out
                    have x0W : (w4).cell? ⟨X, 0, none⟩ = some (.slice none 0 0) := (own_cell hxW).trans rfl
                    have y0W : (w4).cell? ⟨Y, 0, none⟩ = some (.slice none 0 0) := (own_cell hyW).trans rfl
                    have x1W : (w4).cell? ⟨X, 1, none⟩ = some (.slice none 0 0) := (own_cell hxW).trans rfl
                    have y1W : (w4).cell? ⟨Y, 1, none⟩ = some (.slice none 0 0) := (own_cell hyW).trans rfl
                    have x2W : (w4).cell? ⟨X, 2, none⟩ = some (.slice none 0 0) := (own_cell hxW).trans rfl
                    have y2W : (w4).cell? ⟨Y, 2, none⟩ = some (.slice none 0 0) := (own_cell hyW).trans rfl
                    have x3W : (w4).cell? ⟨X, 3, none⟩ = some (.int .i64 0) := (own_cell hxW).trans rfl
                    have y3W : (w4).cell? ⟨Y, 3, none⟩ = some (.int .i64 0) := (own_cell hyW).trans rfl
                    have fxW : ∀ j, (w4).frozen? ⟨X, j, none⟩ = false := fun j => own_free hxW
                    have HXW := Lib.hid hxW; clear hxW hyW
                    go_wp2_with fail
                    obtain ⟨hq9, hb9⟩ := put4 HXW.out rfl (HBX.out _ HP4.out.low) (.slice none 0 0) (.slice none 0 0) (.slice none 0 0) (.int .i64 0)
                    refine bodyPost_ret (v := .tuple #[.agg #[.slice none 0 0, .slice none 0 0, .slice none 0 0, .int .i64 0], .int .i64 (2 + 2 * (k : Int)), .int .i64 e9]) (by simp [results, Tryz.results10, go_sem, World.cell?, hq9]) rfl ⟨hb9, ?_⟩
                    exact ON.out _ _ _ _ (HR9.out) (by omega) hen
                · obtain rfl : k = m := by omega
                  have hfl := HR.out.trans (allF_tail HF0.out)
                  have hle : leftE L (1 + 2 * k) = twoE (nextE L (1 + 2 * k) ⟨#[108, 101, 102, 116]⟩) (numsE false (nextW L (1 + 2 * k))) := by unfold leftE; rw [HLE.out]; rfl
                  unfold tailF at hfl
                  have HFL := Lib.hid hfl; clear hfl
                  have HLF := Lib.hid hle; clear hle
                  have hwr := HWD.out (1 + 2 * k) wLeft wr HRP.out.low
                  rw [show ((1 + 2 * k : Nat) : Int) = 1 + 2 * (k : Int) by omega] at hwr
                  unfold wLeft at hwr
                  clear HC
                  have HC := Lib.hid hwr; clear hwr
                  go_wp2_with fail
                  refine HC.out.mono ?_
                  rintro e w4 ⟨hl4, wa, wk, wd, rfl, hws4⟩
                  have hp4 := HRP.out.below hl4
                  have HP4 := Lib.hid hp4; clear hp4 HC HRP hl4
                  by_cases hen : nextE L (1 + 2 * k) ⟨#[108, 101, 102, 116]⟩ = 0
                  · rw [hen] at HLF ⊢
                    have hst4 := hws4 hen
                    clear hws4
                    have hwh := wholes_any (nextW L (1 + 2 * k)) _ w4 (by have := HWL.out (1 + 2 * k); omega) (HWS.out _) hst4
                    unfold RefN at hwh
                    have hlf := HLF.out.trans (twoE_ok _)
                    have hfl := HFL.out
                    rw [hlf] at hfl
                    have hpl := HPL.out
                    clear hlf HLF HFL HPL
                    generalize numsE false (nextW L (1 + 2 * k)) = ne at *
                    generalize numsV false (nextW L (1 + 2 * k)) = xs at *
                    have HFL := Lib.hid hfl; clear hfl
                    have HPL := Lib.hid hpl; clear hpl hst4
                    have HWH := Lib.hid hwh; clear hwh
                    go_wp2_with fail
                    refine HWH.out.mono ?_
                    rintro e w5 ⟨hl5, ⟨hne, v5, rfl, hd5⟩ | ⟨hne, rfl⟩⟩
                    · have hp5 := HP4.out.below hl5
                      have hd5' := hd5.mono HP4.out.low.size
                      obtain ⟨a5, c5, rfl⟩ := hd5.form
                      subst hne
                      have hfl := HFL.out
                      rw [if_neg (by simp)] at hfl
                      have hee : (1 + 2 * k + 1 < ll → endE L (1 + 2 * k + 1) = 22) ∧ (¬ 1 + 2 * k + 1 < ll → endE L (1 + 2 * k + 1) = 0) := by
                        unfold endE; rw [HLL.out]; exact ⟨fun h => if_pos h, fun h => if_neg h⟩
                      generalize endE L (1 + 2 * k + 1) = ee at *
                      obtain ⟨b1, d1, rfl⟩ := hp5.rr.slice
                      obtain ⟨b2, d2, rfl⟩ := hp5.rt.slice
                      generalize hxl : xs.length = xl at *
                      clear hxl hd5 hl5 HWH HP4 HFL
                      have HEE := Lib.hid hee; clear hee
                      have HFL := Lib.hid hfl; clear hfl
                      have p0 := hp5.cell.1
                      have p1 := hp5.cell.2.1
                      have p2 := hp5.cell.2.2.1
                      have p3 := hp5.cell.2.2.2
                      have pf := hp5.fz
                      have hPX : ¬ P = X := by have := hp5.hp; have := HXY.out.1; omega
                      have hPY : ¬ P = Y := by have := hp5.hp; have := HXY.out.2; omega
                      have hXP : ¬ X = P := fun h => hPX h.symm
                      have hYP : ¬ Y = P := fun h => hPY h.symm
                      have hYX : ¬ Y = X := by have := HY.out; omega
                      have hXYn : ¬ X = Y := fun h => hYX h.symm
                      have hlow5 := hp5.low
                      have s0 := own_set hp5.box (i := 2) (.slice a5 xl c5)
                      have low6 : Below w1.heap.size w1 (w5.setCell ⟨P, 2, none⟩ (.slice a5 xl c5)) := hlow5.setCell (p := ⟨P, 2, none⟩) hp5.hp _
                      have HLOW6 := Lib.hid low6; clear low6
                      by_cases hmore : 1 + 2 * k + 1 < ll
                      · have he9 := HEE.out.1 hmore
                        subst he9
                        have hrf := HFL.out
                        rw [if_pos (by decide)] at hrf
                        have HR9 := Lib.hid hrf; clear hrf HFL HEE hp5 hd5' s0
                        have hmi : decide (2 + 2 * (k : Int) < (ll : Int)) = true := by simp; omega
                        have hxW := (hlow5.block X HXY.out.1).trans HX1.out
                        have hyW := (hlow5.block Y HXY.out.2).trans HY1.out
                        have x0W : (w5).cell? ⟨X, 0, none⟩ = some (.slice none 0 0) := (own_cell hxW).trans rfl
                        have y0W : (w5).cell? ⟨Y, 0, none⟩ = some (.slice none 0 0) := (own_cell hyW).trans rfl
                        have x1W : (w5).cell? ⟨X, 1, none⟩ = some (.slice none 0 0) := (own_cell hxW).trans rfl
                        have y1W : (w5).cell? ⟨Y, 1, none⟩ = some (.slice none 0 0) := (own_cell hyW).trans rfl
                        have x2W : (w5).cell? ⟨X, 2, none⟩ = some (.slice none 0 0) := (own_cell hxW).trans rfl
                        have y2W : (w5).cell? ⟨Y, 2, none⟩ = some (.slice none 0 0) := (own_cell hyW).trans rfl
                        have x3W : (w5).cell? ⟨X, 3, none⟩ = some (.int .i64 0) := (own_cell hxW).trans rfl
                        have y3W : (w5).cell? ⟨Y, 3, none⟩ = some (.int .i64 0) := (own_cell hyW).trans rfl
                        have fxW : ∀ j, (w5).frozen? ⟨X, j, none⟩ = false := fun j => own_free hxW
                        have HXW := Lib.hid hxW; clear hxW hyW
                        go_wp2_with fail
                        obtain ⟨hq9, hb9⟩ := put4 (own_other HXW.out hXP _) rfl (HBX.out _ HLOW6.out) (.slice none 0 0) (.slice none 0 0) (.slice none 0 0) (.int .i64 0)
                        refine bodyPost_ret (v := .tuple #[.agg #[.slice none 0 0, .slice none 0 0, .slice none 0 0, .int .i64 0], .int .i64 (3 + 2 * (k : Int)), .int .i64 22]) (by simp [results, Tryz.results10, go_sem, World.cell?, hq9]) rfl ⟨hb9, ?_⟩
                        exact ON.out _ _ _ _ HR9.out (by omega) (by decide)
                      · have he9 := HEE.out.2 hmore
                        subst he9
                        have hrf := HFL.out
                        rw [if_neg (by simp)] at hrf
                        have hmi : decide (2 + 2 * (k : Int) < (ll : Int)) = false := by simp; omega
                        have hxW := (hlow5.block X HXY.out.1).trans HX1.out
                        have hyW := (hlow5.block Y HXY.out.2).trans HY1.out
                        have x0W : (w5).cell? ⟨X, 0, none⟩ = some (.slice none 0 0) := (own_cell hxW).trans rfl
                        have y0W : (w5).cell? ⟨Y, 0, none⟩ = some (.slice none 0 0) := (own_cell hyW).trans rfl
                        have x1W : (w5).cell? ⟨X, 1, none⟩ = some (.slice none 0 0) := (own_cell hxW).trans rfl
                        have y1W : (w5).cell? ⟨Y, 1, none⟩ = some (.slice none 0 0) := (own_cell hyW).trans rfl
                        have x2W : (w5).cell? ⟨X, 2, none⟩ = some (.slice none 0 0) := (own_cell hxW).trans rfl
                        have y2W : (w5).cell? ⟨Y, 2, none⟩ = some (.slice none 0 0) := (own_cell hyW).trans rfl
                        have x3W : (w5).cell? ⟨X, 3, none⟩ = some (.int .i64 0) := (own_cell hxW).trans rfl
                        have y3W : (w5).cell? ⟨Y, 3, none⟩ = some (.int .i64 0) := (own_cell hyW).trans rfl
                        have fxW : ∀ j, (w5).frozen? ⟨X, j, none⟩ = false := fun j => own_free hxW
                        have HXW := Lib.hid hxW; clear hxW hyW
                        have t0 := own_other HXW.out hXP (i := 2) (.slice a5 xl c5)
                        obtain ⟨hq9, hb9⟩ := put4 t0 rfl (HBX.out _ HLOW6.out) (.slice b1 (rowsR L 1 k).length d1) (.slice b2 (rowsT L 1 k).length d2) (.slice a5 xl c5) (.int .i64 v2)
                        have rr6 := hp5.rr.put hp5.box (f := 2) (by decide) (by decide) (.slice a5 xl c5)
                        have rt6 := hp5.rt.put hp5.box (f := 2) (by decide) (by decide) (.slice a5 xl c5)
                        have dl6 := hd5'.put hp5.box (f := 2) (u := .slice a5 xl c5) (by decide)
                        have u1 := own_set t0 (i := 0) (.slice b1 (rowsR L 1 k).length d1)
                        have u2 := own_set u1 (i := 1) (.slice b2 (rowsT L 1 k).length d2)
                        have u3 := own_set u2 (i := 2) (.slice a5 xl c5)
                        have rr9 := ((((rr6.put t0 (f := 0) (by decide) (by decide) (.slice b1 (rowsR L 1 k).length d1)).put u1 (f := 1) (by decide) (by decide) (.slice b2 (rowsT L 1 k).length d2)).put u2 (f := 2) (by decide) (by decide) (.slice a5 xl c5)).put u3 (f := 3) (by decide) (by decide) (.int .i64 v2)).mono (Nat.le_of_lt HXY.out.1)
                        have rt9 := ((((rt6.put t0 (f := 0) (by decide) (by decide) (.slice b1 (rowsR L 1 k).length d1)).put u1 (f := 1) (by decide) (by decide) (.slice b2 (rowsT L 1 k).length d2)).put u2 (f := 2) (by decide) (by decide) (.slice a5 xl c5)).put u3 (f := 3) (by decide) (by decide) (.int .i64 v2)).mono (Nat.le_of_lt HXY.out.1)
                        have dl9 := ((((dl6.put t0 (f := 0) (u := .slice b1 (rowsR L 1 k).length d1) (by decide)).put u1 (f := 1) (u := .slice b2 (rowsT L 1 k).length d2) (by decide)).put u2 (f := 2) (u := .slice a5 xl c5) (by decide)).put u3 (f := 3) (u := .int .i64 v2) (by decide)).mono (Nat.le_of_lt HXY.out.1)
                        have hpo := OY.out _ (.agg #[.slice b1 (rowsR L 1 k).length d1, .slice b2 (rowsT L 1 k).length d2, .slice a5 xl c5, .int .i64 v2]) hrf (by rw [HPL.out]; exact ⟨_, _, _, rfl, rr9, rt9, dl9⟩)
                        have HPO := Lib.hid hpo; clear hpo rr6 rt6 dl6 u1 u2 u3 rr9 rt9 dl9 t0 s0 hp5 hd5' hrf HFL HEE
                        have HQ9 := Lib.hid hq9; clear hq9
                        have HB9 := Lib.hid hb9; clear hb9
                        generalize (rowsR L 1 k).length = n1 at *
                        generalize (rowsT L 1 k).length = n2 at *
                        go_wp2_with fail
                        have hq9 := HQ9.out
                        refine bodyPost_ret (v := .tuple #[.agg #[.slice b1 n1 d1, .slice b2 n2 d2, .slice a5 xl c5, .int .i64 v2], .int .i64 0, .int .i64 0]) (by simp [results, Tryz.results10, go_sem, World.cell?, hq9]) rfl ⟨HB9.out, HPO.out⟩
                    · have hrf := HFL.out
                      rw [if_pos hne] at hrf
                      have HR9 := Lib.hid hrf; clear hrf HFL HWH
                      have hlow5 := (HP4.out.below hl5).low
                      have hxW := (hlow5.block X HXY.out.1).trans HX1.out
                      have hyW := (hlow5.block Y HXY.out.2).trans HY1.out
                      have x0W : (w5).cell? ⟨X, 0, none⟩ = some (.slice none 0 0) := (own_cell hxW).trans rfl
                      have y0W : (w5).cell? ⟨Y, 0, none⟩ = some (.slice none 0 0) := (own_cell hyW).trans rfl
                      have x1W : (w5).cell? ⟨X, 1, none⟩ = some (.slice none 0 0) := (own_cell hxW).trans rfl
                      have y1W : (w5).cell? ⟨Y, 1, none⟩ = some (.slice none 0 0) := (own_cell hyW).trans rfl
                      have x2W : (w5).cell? ⟨X, 2, none⟩ = some (.slice none 0 0) := (own_cell hxW).trans rfl
                      have y2W : (w5).cell? ⟨Y, 2, none⟩ = some (.slice none 0 0) := (own_cell hyW).trans rfl
                      have x3W : (w5).cell? ⟨X, 3, none⟩ = some (.int .i64 0) := (own_cell hxW).trans rfl
                      have y3W : (w5).cell? ⟨Y, 3, none⟩ = some (.int .i64 0) := (own_cell hyW).trans rfl
                      have fxW : ∀ j, (w5).frozen? ⟨X, j, none⟩ = false := fun j => own_free hxW
                      have HXW := Lib.hid hxW; clear hxW hyW
                      go_wp2_with fail
                      obtain ⟨hq9, hb9⟩ := put4 HXW.out rfl (HBX.out _ hlow5) (.slice none 0 0) (.slice none 0 0) (.slice none 0 0) (.int .i64 0)
                      refine bodyPost_ret (v := .tuple #[.agg #[.slice none 0 0, .slice none 0 0, .slice none 0 0, .int .i64 0], .int .i64 (2 + 2 * (k : Int)), .int .i64 ne]) (by simp [results, Tryz.results10, go_sem, World.cell?, hq9]) rfl ⟨hb9, ?_⟩
                      exact ON.out _ _ _ _ (HR9.out) (by omega) hne
                  · have hlf : leftE L (1 + 2 * k) = nextE L (1 + 2 * k) ⟨#[108, 101, 102, 116]⟩ := HLF.out.trans (twoE_no _ hen)
                    have hrf := HFL.out
                    rw [hlf, if_pos hen] at hrf
                    clear hlf hws4 HLF HFL
                    generalize nextE L (1 + 2 * k) ⟨#[108, 101, 102, 116]⟩ = e9 at *
                    have HR9 := Lib.hid hrf; clear hrf
                    have hxW := (HP4.out.low.block X HXY.out.1).trans HX1.out
                    have hyW := (HP4.out.low.block Y HXY.out.2).trans HY1.out
                    have x0W : (w4).cell? ⟨X, 0, none⟩ = some (.slice none 0 0) := (own_cell hxW).trans rfl
                    have y0W : (w4).cell? ⟨Y, 0, none⟩ = some (.slice none 0 0) := (own_cell hyW).trans rfl
                    have x1W : (w4).cell? ⟨X, 1, none⟩ = some (.slice none 0 0) := (own_cell hxW).trans rfl
                    have y1W : (w4).cell? ⟨Y, 1, none⟩ = some (.slice none 0 0) := (own_cell hyW).trans rfl
                    have x2W : (w4).cell? ⟨X, 2, none⟩ = some (.slice none 0 0) := (own_cell hxW).trans rfl
                    have y2W : (w4).cell? ⟨Y, 2, none⟩ = some (.slice none 0 0) := (own_cell hyW).trans rfl
                    have x3W : (w4).cell? ⟨X, 3, none⟩ = some (.int .i64 0) := (own_cell hxW).trans rfl
                    have y3W : (w4).cell? ⟨Y, 3, none⟩ = some (.int .i64 0) := (own_cell hyW).trans rfl
                    have fxW : ∀ j, (w4).frozen? ⟨X, j, none⟩ = false := fun j => own_free hxW
                    have HXW := Lib.hid hxW; clear hxW hyW
                    go_wp2_with fail
                    obtain ⟨hq9, hb9⟩ := put4 HXW.out rfl (HBX.out _ HP4.out.low) (.slice none 0 0) (.slice none 0 0) (.slice none 0 0) (.int .i64 0)
                    refine bodyPost_ret (v := .tuple #[.agg #[.slice none 0 0, .slice none 0 0, .slice none 0 0, .int .i64 0], .int .i64 (2 + 2 * (k : Int)), .int .i64 e9]) (by simp [results, Tryz.results10, go_sem, World.cell?, hq9]) rfl ⟨hb9, ?_⟩
                    exact ON.out _ _ _ _ (HR9.out) (by omega) hen
          · have hhe : headE L = e2 := by rw [HHE.out, twoE_ok, twoE_no _ he2]
            have hrf := HPF.out (by rw [hhe]; exact he2)
            rw [hhe] at hrf
            have HR := Lib.hid hrf; clear hrf hhe HHE
            have hxW := (hl3'.block X HXY.out.1).trans HX1.out
            have hyW := (hl3'.block Y HXY.out.2).trans HY1.out
            have x0W : (w3).cell? ⟨X, 0, none⟩ = some (.slice none 0 0) := (own_cell hxW).trans rfl
            have y0W : (w3).cell? ⟨Y, 0, none⟩ = some (.slice none 0 0) := (own_cell hyW).trans rfl
            have x1W : (w3).cell? ⟨X, 1, none⟩ = some (.slice none 0 0) := (own_cell hxW).trans rfl
            have y1W : (w3).cell? ⟨Y, 1, none⟩ = some (.slice none 0 0) := (own_cell hyW).trans rfl
            have x2W : (w3).cell? ⟨X, 2, none⟩ = some (.slice none 0 0) := (own_cell hxW).trans rfl
            have y2W : (w3).cell? ⟨Y, 2, none⟩ = some (.slice none 0 0) := (own_cell hyW).trans rfl
            have x3W : (w3).cell? ⟨X, 3, none⟩ = some (.int .i64 0) := (own_cell hxW).trans rfl
            have y3W : (w3).cell? ⟨Y, 3, none⟩ = some (.int .i64 0) := (own_cell hyW).trans rfl
            have fxW : ∀ j, (w3).frozen? ⟨X, j, none⟩ = false := fun j => own_free hxW
            have HXW := Lib.hid hxW; clear hxW hyW
            go_wp2_with fail
            obtain ⟨hq9, hb9⟩ := put4 HXW.out rfl (HBX.out _ hl3') (.slice none 0 0) (.slice none 0 0) (.slice none 0 0) (.int .i64 0)
            refine bodyPost_ret (v := .tuple #[.agg #[.slice none 0 0, .slice none 0 0, .slice none 0 0, .int .i64 0], .int .i64 1, .int .i64 e2]) (by simp [results, Tryz.results10, go_sem, World.cell?, hq9]) rfl ⟨hb9, ?_⟩
            exact ON.out _ _ _ _ (HR.out) rfl he2
        · have hrf := HPF.out (by rw [HHE.out, twoE_no _ he1]; exact he1)
          rw [HHE.out, twoE_no _ he1] at hrf
          have HR := Lib.hid hrf; clear hrf
          have hxW := (hl2.block X HXY.out.1).trans HX1.out
          have hyW := (hl2.block Y HXY.out.2).trans HY1.out
          have x0W : (w2).cell? ⟨X, 0, none⟩ = some (.slice none 0 0) := (own_cell hxW).trans rfl
          have y0W : (w2).cell? ⟨Y, 0, none⟩ = some (.slice none 0 0) := (own_cell hyW).trans rfl
          have x1W : (w2).cell? ⟨X, 1, none⟩ = some (.slice none 0 0) := (own_cell hxW).trans rfl
          have y1W : (w2).cell? ⟨Y, 1, none⟩ = some (.slice none 0 0) := (own_cell hyW).trans rfl
          have x2W : (w2).cell? ⟨X, 2, none⟩ = some (.slice none 0 0) := (own_cell hxW).trans rfl
          have y2W : (w2).cell? ⟨Y, 2, none⟩ = some (.slice none 0 0) := (own_cell hyW).trans rfl
          have x3W : (w2).cell? ⟨X, 3, none⟩ = some (.int .i64 0) := (own_cell hxW).trans rfl
          have y3W : (w2).cell? ⟨Y, 3, none⟩ = some (.int .i64 0) := (own_cell hyW).trans rfl
          have fxW : ∀ j, (w2).frozen? ⟨X, j, none⟩ = false := fun j => own_free hxW
          have HXW := Lib.hid hxW; clear hxW hyW
          go_wp2_with fail
          obtain ⟨hq9, hb9⟩ := put4 HXW.out rfl (HBX.out _ hl2) (.slice none 0 0) (.slice none 0 0) (.slice none 0 0) (.int .i64 0)
          refine bodyPost_ret (v := .tuple #[.agg #[.slice none 0 0, .slice none 0 0, .slice none 0 0, .int .i64 0], .int .i64 1, .int .i64 e1]) (by simp [results, Tryz.results10, go_sem, World.cell?, hq9]) rfl ⟨hb9, ?_⟩
          exact ON.out _ _ _ _ (HR.out) rfl he1
      · have hhe : headE L = 21 := by unfold headE; rw [if_neg hlen, show nextE L 0 wPlan = 0 from he0, twoE_ok]
        have hrf := HPF.out (by rw [hhe]; decide)
        rw [hhe] at hrf
        have HR := Lib.hid hrf; clear hrf hhe
        subst hwk
        clear hc2 hcap2
        generalize (nextW L 0).length = wk at *
        have q1 : ((wk : Int) != 2) = true := by simp; omega
        have hxW := (hl2.block X HXY.out.1).trans HX1.out
        have hyW := (hl2.block Y HXY.out.2).trans HY1.out
        have x0W : (w2).cell? ⟨X, 0, none⟩ = some (.slice none 0 0) := (own_cell hxW).trans rfl
        have y0W : (w2).cell? ⟨Y, 0, none⟩ = some (.slice none 0 0) := (own_cell hyW).trans rfl
        have x1W : (w2).cell? ⟨X, 1, none⟩ = some (.slice none 0 0) := (own_cell hxW).trans rfl
        have y1W : (w2).cell? ⟨Y, 1, none⟩ = some (.slice none 0 0) := (own_cell hyW).trans rfl
        have x2W : (w2).cell? ⟨X, 2, none⟩ = some (.slice none 0 0) := (own_cell hxW).trans rfl
        have y2W : (w2).cell? ⟨Y, 2, none⟩ = some (.slice none 0 0) := (own_cell hyW).trans rfl
        have x3W : (w2).cell? ⟨X, 3, none⟩ = some (.int .i64 0) := (own_cell hxW).trans rfl
        have y3W : (w2).cell? ⟨Y, 3, none⟩ = some (.int .i64 0) := (own_cell hyW).trans rfl
        have fxW : ∀ j, (w2).frozen? ⟨X, j, none⟩ = false := fun j => own_free hxW
        have HXW := Lib.hid hxW; clear hxW hyW
        go_wp2_with fail
        obtain ⟨hq9, hb9⟩ := put4 HXW.out rfl (HBX.out _ hl2) (.slice none 0 0) (.slice none 0 0) (.slice none 0 0) (.int .i64 0)
        refine bodyPost_ret (v := .tuple #[.agg #[.slice none 0 0, .slice none 0 0, .slice none 0 0, .int .i64 0], .int .i64 1, .int .i64 21]) (by simp [results, Tryz.results10, go_sem, World.cell?, hq9]) rfl ⟨hb9, ?_⟩
        exact ON.out _ _ _ _ (HR.out) rfl (by decide)
    · have hhe : headE L = nextE L 0 ⟨#[112, 108, 97, 110]⟩ := by unfold headE wPlan; exact twoE_no _ he0
      have hrf := HPF.out (by rw [hhe]; exact he0)
      rw [hhe] at hrf
      clear hhe hws2
      generalize nextE L 0 ⟨#[112, 108, 97, 110]⟩ = e0 at *
      have HR := Lib.hid hrf; clear hrf
      have hxW := (hl2.block X HXY.out.1).trans HX1.out
      have hyW := (hl2.block Y HXY.out.2).trans HY1.out
      have x0W : (w2).cell? ⟨X, 0, none⟩ = some (.slice none 0 0) := (own_cell hxW).trans rfl
      have y0W : (w2).cell? ⟨Y, 0, none⟩ = some (.slice none 0 0) := (own_cell hyW).trans rfl
      have x1W : (w2).cell? ⟨X, 1, none⟩ = some (.slice none 0 0) := (own_cell hxW).trans rfl
      have y1W : (w2).cell? ⟨Y, 1, none⟩ = some (.slice none 0 0) := (own_cell hyW).trans rfl
      have x2W : (w2).cell? ⟨X, 2, none⟩ = some (.slice none 0 0) := (own_cell hxW).trans rfl
      have y2W : (w2).cell? ⟨Y, 2, none⟩ = some (.slice none 0 0) := (own_cell hyW).trans rfl
      have x3W : (w2).cell? ⟨X, 3, none⟩ = some (.int .i64 0) := (own_cell hxW).trans rfl
      have y3W : (w2).cell? ⟨Y, 3, none⟩ = some (.int .i64 0) := (own_cell hyW).trans rfl
      have fxW : ∀ j, (w2).frozen? ⟨X, j, none⟩ = false := fun j => own_free hxW
      have HXW := Lib.hid hxW; clear hxW hyW
      go_wp2_with fail
      obtain ⟨hq9, hb9⟩ := put4 HXW.out rfl (HBX.out _ hl2) (.slice none 0 0) (.slice none 0 0) (.slice none 0 0) (.int .i64 0)
      refine bodyPost_ret (v := .tuple #[.agg #[.slice none 0 0, .slice none 0 0, .slice none 0 0, .int .i64 0], .int .i64 1, .int .i64 e0]) (by simp [results, Tryz.results10, go_sem, World.cell?, hq9]) rfl ⟨hb9, ?_⟩
      exact ON.out _ _ _ _ (HR.out) rfl he0
  · have hr := R1.out hz
    have HR := Lib.hid hr; clear hr
    have HST' := HST.out
    clear R1 R2 OY HST'
    generalize hll : L.length = ll at *
    have hxW := ((Below.refl _ _).block X HXY.out.1).trans HX1.out
    have hyW := ((Below.refl _ _).block Y HXY.out.2).trans HY1.out
    have x0W : (w1).cell? ⟨X, 0, none⟩ = some (.slice none 0 0) := (own_cell hxW).trans rfl
    have y0W : (w1).cell? ⟨Y, 0, none⟩ = some (.slice none 0 0) := (own_cell hyW).trans rfl
    have x1W : (w1).cell? ⟨X, 1, none⟩ = some (.slice none 0 0) := (own_cell hxW).trans rfl
    have y1W : (w1).cell? ⟨Y, 1, none⟩ = some (.slice none 0 0) := (own_cell hyW).trans rfl
    have x2W : (w1).cell? ⟨X, 2, none⟩ = some (.slice none 0 0) := (own_cell hxW).trans rfl
    have y2W : (w1).cell? ⟨Y, 2, none⟩ = some (.slice none 0 0) := (own_cell hyW).trans rfl
    have x3W : (w1).cell? ⟨X, 3, none⟩ = some (.int .i64 0) := (own_cell hxW).trans rfl
    have y3W : (w1).cell? ⟨Y, 3, none⟩ = some (.int .i64 0) := (own_cell hyW).trans rfl
    have fxW : ∀ j, (w1).frozen? ⟨X, j, none⟩ = false := fun j => own_free hxW
    have HXW := Lib.hid hxW; clear hxW hyW
    go_wp2_with fail
    obtain ⟨hq9, hb9⟩ := put4 HXW.out rfl (HBX.out _ (Below.refl _ _)) (.slice none 0 0) (.slice none 0 0) (.slice none 0 0) (.int .i64 0)
    refine bodyPost_ret (v := .tuple #[.agg #[.slice none 0 0, .slice none 0 0, .slice none 0 0, .int .i64 0], .int .i64 0, .int .i64 er]) (by simp [results, Tryz.results10, go_sem, World.cell?, hq9]) rfl ⟨hb9, ?_⟩
    exact ON.out _ _ _ _ (HR.out) rfl hz
end Fil
end Go.Proofs.YtkggahoadeeajaaGreatDoor
