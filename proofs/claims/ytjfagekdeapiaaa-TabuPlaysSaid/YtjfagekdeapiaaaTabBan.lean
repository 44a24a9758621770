/- A ban more (Forbid), over the translated program. -/
import Derived.Test.YtjfagekdeapiaaaTabSweep
import Derived.StillTailTactics
import Derived.BigRegion
namespace Go.Proofs.Ytjfagekdeapiaaa
open Go.RowKit Go.Lib
namespace Tab
open Go.Maps (Keyed)
set_option linter.unusedVariables false
/-- what Forbid leaves: a map, the one that was there or a new one -/
def BanP (T : Nat) (B : Option Nat) (l' : List E) (w : World) (e : Ending) (w' : World) : Prop :=
  e = .returned (.tuple #[]) ∧ Tur T B w w' ∧ ∃ b, At w' T (some b) l' ∧ (B = some b ∨ w.heap.size ≤ b)
abbrev wp2 (w : World) (r t : Int) : World := w.alloc (.cells #[.int .i64 r, .int .i64 t] 51)
/-- what the walks need: the look-up, the greater step, the store -/
theorem ban_facts (T b : Nat) (l : List E) (r t u : Int) (w : World) (h : At w T (some b) l) (hl : l.length ≤ 1000) (hr : Wf r) (ht : Wf t) (hu : Wf u) : ∃ (c : Int) (hs : Bool),
    (∀ n, (Instr.lookup 24 (.map (some b)) (pr r t) true).run Try.prog ((wp2 w r t).drewN n) = .ok (.tuple #[.int .i64 c, .bool hs]) ((wp2 w r t).drewN n)) ∧
    Hid (hs = false → u = un r t l u) ∧ Hid (hs = true → max u c = un r t l u) ∧
    Hid (∀ n, ∃ w3, (Instr.mapUpdate 24 (.map (some b)) (pr r t) (.int .i64 (un r t l u))).run Try.prog ((wp2 w r t).drewN n) = .ok () w3 ∧ Hid (BanP T (some b) (ban l r t u) w (.returned (.tuple #[])) w3)) := by
  have hT := h.lt
  have hkey := key_of hr ht
  obtain ⟨D, hown, hrep⟩ := h.map b rfl
  have hbT := h.ne rfl
  have hb1 : Below w.heap.size w (wp2 w r t) := (Below.refl _ _).alloc (Nat.le_refl _) _
  have hown1 := hown.kept (grown_of hb1) (by simp)
  obtain ⟨v, ps, hrun, hv⟩ := hown1.look_ok law Try.underlying24 (zeroInt _) (plainElem_int Try.underlying3 (by decide)) hkey
  obtain ⟨c, rfl, hc, hwc⟩ := plainElem_int_inv Try.underlying3 hv
  refine ⟨c, Maps.has D (key r t), fun n => ?_, Lib.hid fun hz => ?_, Lib.hid fun hz => ?_, Lib.hid fun n => ?_⟩
  · have hg : w.grownBy ((wp2 w r t).drewN n) none := grown_of (below_drewN hb1 n)
    obtain ⟨v', ps', hrun2, hv'⟩ := (hown.kept hg (by simp)).look_ok law Try.underlying24 (zeroInt _) (plainElem_int Try.underlying3 (by decide)) hkey
    obtain ⟨c', rfl, hc', _⟩ := plainElem_int_inv Try.underlying3 hv'
    have : c' = c := by
      have h1 := congrArg Prod.fst hc
      have h2 := congrArg Prod.fst hc'
      simp only at h1 h2
      rw [h1] at h2
      simp at h2
      exact h2.symm
    rw [this] at hrun2
    exact hrun2
  · rw [hrep.has r t hr ht] at hz
    exact (un_none hz u).symm
  · rw [hrep.has r t hr ht, List.any_eq_true] at hz
    obtain ⟨e, he, hs⟩ := hz
    obtain ⟨e1, e2⟩ := sm_iff.1 hs
    have h3 := un_one hrep.apart he u
    have h4 := hrep.elem e he (.lit (.int .i64 0))
    rw [e1, e2] at h3 h4
    have h1 := congrArg Prod.fst hc
    simp only at h1
    rw [h1] at h4
    simp only [DataW.lit.injEq, Lit.int.injEq, true_and] at h4
    rw [h3]
    split <;> omega
  · obtain ⟨w3, hup, h1, h2⟩ := (hown.kept (grown_of (below_drewN hb1 n)) (by simp)).update law Try.underlying24 (by unfold maxLen; omega) hkey (plainElem_int Try.underlying3 (un_wf (r := r) (t := t) (fun e he => (hrep.wf e he).2.2) hu))
    refine ⟨w3, hup, Lib.hid ?_⟩
    have hout := hrep.put (hown.tidy law) hr ht hu
    have hg3 : w.grownBy w3 (some b) := ((grown_of (below_drewN hb1 n)).but (some b)).andThen h2 (fun j hj => by cases hj; exact .inr rfl)
    have hTb : w3.heap[T]? = w.heap[T]? := hg3.block T hT (fun e => by cases e; exact hbT rfl)
    refine ⟨rfl, ⟨hg3.os, hg3.tape, hg3.output, hg3.size, fun k hk _ h2 => hg3.block k hk (fun e => h2 e.symm)⟩, b, ⟨(World.cell?_of_block (w := w) (a := ⟨T, 0, none⟩) hTb).trans h.cell, (World.frozen?_of_block (w := w) (a := ⟨T, 0, none⟩) hTb).trans h.fz, (fun e => by cases e), fun b' e => ?_⟩, .inl rfl⟩
    cases e
    exact ⟨_, own_exact h1 hout, hout⟩
set_option maxHeartbeats 2000000 in
/-- where there is a map -/
theorem ban_some (T b : Nat) (l : List E) (r t u : Int) (w : World) (h : At w T (some b) l) (hl : l.length ≤ 1000) (hr : Wf r) (ht : Wf t) (hu : Wf u) :
    Calls Try.prog 9 #[.pointer (some ⟨T, 0, none⟩), .int .i64 r, .int .i64 t, .int .i64 u] w (BanP T (some b) (ban l r t u) w) := by
  have c0 := h.cell
  have hT := h.lt
  have hnil := fun w => run_eql_map_nil (P := Try.prog) w 24 _ _ (some b) Try.underlying24
  have c1 : (wp2 w r t).cell? ⟨T, 0, none⟩ = some (.map (some b)) := (((Below.refl _ _).alloc (Nat.le_refl _) _ : Below w.heap.size w (wp2 w r t)).cell (p := ⟨T, 0, none⟩) hT).trans c0
  obtain ⟨d0, d1⟩ := two_cells (w := w) (x := .int .i64 r) (y := .int .i64 t) (t := 51)
  obtain ⟨c, hs, hrun, HX0, HX1, HUP⟩ := ban_facts T b l r t u w h hl hr ht hu
  clear h
  go_enter Try.func9, Try.ntmps9
  go_wp2_with fail
  go_quiet (fail)
  go_wp2_with fail
  all_goals
    obtain ⟨w3, hup, HE3⟩ := HUP.out (nq + 1)
  · rename_i hz
    rw [← HX1.out hz] at hup
    go_region
    go_end0
    exact HE3.out
  · rename_i hz
    rw [← HX0.out hz] at hup
    go_region
    go_end0
    exact HE3.out
set_option maxHeartbeats 2000000 in
/-- where there is none -/
theorem ban_none (T : Nat) (l : List E) (r t u : Int) (w : World) (h : At w T none l) (hr : Wf r) (ht : Wf t) (hu : Wf u) :
    Calls Try.prog 9 #[.pointer (some ⟨T, 0, none⟩), .int .i64 r, .int .i64 t, .int .i64 u] w (BanP T none (ban l r t u) w) := by
  have c0 := h.cell
  have hf := h.fz
  have hT := h.lt
  have hz := h.nil rfl
  subst hz
  have hnil := fun w => run_eql_map_nil (P := Try.prog) w 24 _ _ none Try.underlying24
  have hmm := @run_makeMap Try.prog
  obtain ⟨N, hN⟩ : ∃ N, N = w.heap.size := ⟨_, rfl⟩
  obtain ⟨W0, hW0⟩ : ∃ W0, W0 = (w.setCell ⟨T, 0, none⟩ (.map (some N))).alloc (.map #[] 0) := ⟨_, rfl⟩
  have hsz : W0.heap.size = N + 1 := by rw [hW0, hN]; simp
  have hcell : W0.cell? ⟨T, 0, none⟩ = some (.map (some N)) := by
    rw [hW0, World.cell?_alloc_lt _ _ _ (by simp; omega)]
    exact World.cell?_setCell_same w ⟨T, 0, none⟩ _ c0
  have hfz : W0.frozen? ⟨T, 0, none⟩ = false := by
    rw [hW0]
    have h1 := ((Below.refl (w.setCell ⟨T, 0, none⟩ (.map (some N))).heap.size (w.setCell ⟨T, 0, none⟩ (.map (some N)))).alloc (Nat.le_refl _) (.map #[] 0)).frozen (p := ⟨T, 0, none⟩) (by simp; omega)
    rw [h1]; simp [hf]
  have hown : W0.ownsMap Try.prog 51 El N 0 (.map []) := by
    have := World.ownsMap_made (w.setCell ⟨T, 0, none⟩ (.map (some N))) Try.prog 51 El
    rw [World.size_setCell, ← hN, ← hW0] at this
    exact this
  have hA0 : At W0 T (some N) [] := ⟨hcell, hfz, (fun e => by cases e), fun b e => by cases e; exact ⟨_, hown, Rep.nil⟩⟩
  have htur : Tur T none w W0 := by
    rw [hW0]
    refine ⟨rfl, rfl, rfl, by simp, fun k hk h1 _ => ?_⟩
    rw [Below.heap_alloc _ _ _ (by simpa using hk)]
    exact Below.heap_setCell w ⟨T, 0, none⟩ _ k (by simpa using h1)
  obtain ⟨c, hs, hrun, HX0, HX1, HUP⟩ := ban_facts T N [] r t u W0 hA0 (by simp) hr ht hu
  have c1 : (wp2 W0 r t).cell? ⟨T, 0, none⟩ = some (.map (some N)) := (((Below.refl _ _).alloc (Nat.le_refl _) _ : Below W0.heap.size W0 (wp2 W0 r t)).cell (p := ⟨T, 0, none⟩) (by show T < _; omega)).trans hcell
  obtain ⟨d0, d1⟩ := two_cells (w := W0) (x := .int .i64 r) (y := .int .i64 t) (t := 51)
  rw [hsz] at d0 d1
  have HEND : Hid (∀ w3, BanP T (some N) (ban [] r t u) W0 (.returned (.tuple #[])) w3 → BanP T none (ban [] r t u) w (.returned (.tuple #[])) w3) := Lib.hid fun w3 ⟨_, h2, b, h3, h4⟩ => by
    refine ⟨rfl, ⟨h2.os.trans htur.os, h2.tape.trans htur.tape, h2.output.trans htur.output, Nat.le_trans htur.size h2.size, fun k hk n1 _ => ?_⟩, b, h3, .inr ?_⟩
    · exact (h2.block k (by omega) n1 (by intro e; cases e; omega)).trans (htur.block k hk n1 (by simp))
    · rcases h4 with h4 | h4
      · cases h4; omega
      · omega
  have HW0 := Lib.hid hW0
  have HN := Lib.hid hN
  clear hA0 htur hown hcell hfz hsz h hW0 hN
  go_enter Try.func9, Try.ntmps9
  go_wp2_with fail
  rw [← HN.out, ← HW0.out]
  go_quiet (fail)
  go_wp2_with fail
  all_goals
    obtain ⟨w3, hup, HE3⟩ := HUP.out (nq + 1)
  · rename_i hz
    rw [← HX1.out hz] at hup
    go_region
    go_end0
    exact HEND.out _ HE3.out
  · rename_i hz
    rw [← HX0.out hz] at hup
    go_region
    go_end0
    exact HEND.out _ HE3.out
theorem ban_any (T : Nat) (B : Option Nat) (l : List E) (r t u : Int) (w : World) (h : At w T B l) (hl : l.length ≤ 1000) (hr : Wf r) (ht : Wf t) (hu : Wf u) :
    Calls Try.prog 9 #[.pointer (some ⟨T, 0, none⟩), .int .i64 r, .int .i64 t, .int .i64 u] w (BanP T B (ban l r t u) w) := by
  cases B with
  | none => exact ban_none T l r t u w h hr ht hu
  | some b => exact ban_some T b l r t u w h hl hr ht hu
end Tab
end Go.Proofs.Ytjfagekdeapiaaa
