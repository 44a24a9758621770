/- Package verb's readNumbers; over the translated program. -/
import Derived.Test.YtmegapelibaanaaDoorVbRead2
namespace Go.Proofs.YtmegapelibaanaaDoor
namespace Vb
open Go Go.RowKit Deci
set_option linter.unusedVariables false
/-- What a call that tells a command and an error leaves. -/
def CmOut (w : World) (er : Int) (cm : CM) (e : Ending) (w' : World) : Prop :=
  Below w.heap.size w w' ∧ ∃ c da dn dc, e = .returned (.tuple #[CM.v c (.slice da dn dc), .int .i64 er]) ∧ (er = 0 → c = cm ∧ OwnXs w.heap.size w' (.slice da dn dc) cm.draws)
theorem count_one {k m : Nat} (h : countE k m = 0) (hk : k ≠ 5) : (m : Int) = cntN k := by
  unfold countE at h
  split at h
  · omega
  · rename_i h1
    simp only [not_or, not_and, Decidable.not_not] at h1
    by_cases h2 : 0 < (m : Int) - cntN k
    · exact absurd (h1.2 h2) hk
    · omega
theorem count_five {m : Nat} (h : countE 5 m = 0) : 2 ≤ m ∧ m ≤ 4098 := by
  unfold countE at h
  rw [show cntN 5 = 2 from rfl] at h
  split at h
  · omega
  · rename_i h1
    split at h
    · omega
    · simp only [not_or, not_and, Decidable.not_not] at h1
      omega
theorem alloc2 (w : World) (a b : Obj) : ((w.alloc a).alloc b).heap[w.heap.size]? = some a ∧ ((w.alloc a).alloc b).heap[w.heap.size + 1]? = some b :=
  ⟨(Lib.alloc_old _ _ _ (by simp)).trans (World.alloc_heap_new w _), by have := World.alloc_heap_new (w.alloc a) b; simpa using this⟩
/-- The command of a kind alone. -/
def bareC (k : Int) : Obj := .cells #[.int .i64 k, .int .i64 0, .int .i64 0, .int .i64 0, .slice none 0 0, .string ⟨#[]⟩] 37
structure RN (w : World) (k : Int) (X : Nat) (W0 : World) : Prop where
  w0 : W0 = (w.alloc (.cells #[.int .i64 0, .int .i64 0, .int .i64 0, .int .i64 0, .slice none 0 0, .string ⟨#[]⟩] 37)).alloc (.cells #[.int .i64 k, .int .i64 0, .int .i64 0, .int .i64 0, .slice none 0 0, .string ⟨#[]⟩] 37)
  x : X = w.heap.size
  b : Below X w W0
  r : W0.heap[X]? = some (.cells #[.int .i64 0, .int .i64 0, .int .i64 0, .int .i64 0, .slice none 0 0, .string ⟨#[]⟩] 37)
  c : W0.heap[X + 1]? = some (.cells #[.int .i64 k, .int .i64 0, .int .i64 0, .int .i64 0, .slice none 0 0, .string ⟨#[]⟩] 37)
theorem rn_mk (w : World) (k : Int) : ∃ X W0, RN w k X W0 := by
  refine ⟨_, _, rfl, rfl, ((Below.refl _ _).alloc (Nat.le_refl _) _).alloc (by simp) _, (alloc2 w _ _).1, (alloc2 w _ _).2⟩
/-- Six cells laid anew. -/
def six (W : World) (X : Nat) (a0 a1 a2 a3 a4 a5 : Value) : World := (((((W.setCell ⟨X, 0, none⟩ a0).setCell ⟨X, 1, none⟩ a1).setCell ⟨X, 2, none⟩ a2).setCell ⟨X, 3, none⟩ a3).setCell ⟨X, 4, none⟩ a4).setCell ⟨X, 5, none⟩ a5
theorem six_eq (W : World) (X : Nat) (a0 a1 a2 a3 a4 a5 : Value) : (((((W.setCell ⟨X, 0, none⟩ a0).setCell ⟨X, 1, none⟩ a1).setCell ⟨X, 2, none⟩ a2).setCell ⟨X, 3, none⟩ a3).setCell ⟨X, 4, none⟩ a4).setCell ⟨X, 5, none⟩ a5 = six W X a0 a1 a2 a3 a4 a5 := rfl
theorem six_heap {W : World} {X : Nat} {b0 b1 b2 b3 b4 b5 : Value} {T : TypeId} (h : W.heap[X]? = some (.cells #[b0, b1, b2, b3, b4, b5] T)) (a0 a1 a2 a3 a4 a5 : Value) : (six W X a0 a1 a2 a3 a4 a5).heap[X]? = some (.cells #[a0, a1, a2, a3, a4, a5] T) :=
  own_set (own_set (own_set (own_set (own_set (own_set h a0) a1) a2) a3) a4) a5
theorem six_below {B X : Nat} {w W : World} (h : Below B w W) (hB : B ≤ X) (a0 a1 a2 a3 a4 a5 : Value) : Below B w (six W X a0 a1 a2 a3 a4 a5) :=
  (((((h.setCell (p := ⟨X, 0, none⟩) hB _).setCell (p := ⟨X, 1, none⟩) hB _).setCell (p := ⟨X, 2, none⟩) hB _).setCell (p := ⟨X, 3, none⟩) hB _).setCell (p := ⟨X, 4, none⟩) hB _).setCell (p := ⟨X, 5, none⟩) hB _
theorem six_other {W : World} {X G : Nat} {o : Option Obj} (h : W.heap[G]? = o) (hne : G ≠ X) (a0 a1 a2 a3 a4 a5 : Value) : (six W X a0 a1 a2 a3 a4 a5).heap[G]? = o :=
  own_other (own_other (own_other (own_other (own_other (own_other h hne _) hne _) hne _) hne _) hne _) hne _
set_option maxHeartbeats 4000000 in
set_option maxRecDepth 100000 in
theorem rn_one (k : Int) (hk : k = 1 ∨ k = 2 ∨ k = 3) (g o cap : Nat) (s : ByteArray) (w : World) (hE : EnvAt w.heap.size w) (hg : g < w.heap.size) (hc : w.cell? ⟨g, o, none⟩ = some (.string s)) (hcap : 1 ≤ cap) (hsz : s.size ≤ 4294967000) :
    Calls Tryd.prog 54 #[.int .i64 k, .slice (some ⟨g, o, none⟩) 1 cap] w (CmOut w (wholeE s.data.toList) ⟨k, wholeV s.data.toList, 0, 0, [], ⟨#[]⟩⟩) := by
  obtain ⟨X, W0, R⟩ := rn_mk w k
  have c0 : W0.cell? ⟨g, o, none⟩ = some (.string s) := (R.b.cell (p := ⟨g, o, none⟩) (by rw [R.x]; exact hg)).trans hc
  have hrd := whole_any s W0 (hE.below (by rw [← R.x]; exact R.b)).env.base hsz
  generalize wholeE s.data.toList = er at *
  generalize wholeV s.data.toList = val at *
  unfold CmOut
  rw [← R.x]
  have HR := Lib.hid R; clear R
  have HRD := Lib.hid hrd; clear hrd
  clear hE hc hsz hg
  rcases hk with rfl | rfl | rfl
  all_goals
    rw [HR.out.w0] at c0
    go_enter Tryd.func54, Tryd.ntmps54
    go_wp2_with fail
    rw [← HR.out.x, ← HR.out.w0]
    refine HRD.out.mono ?_
    rintro e w1 ⟨rfl, hb1⟩
    have hx1 := (hb1.block _ (own_lt HR.out.c)).trans HR.out.c
    have hr1 := (hb1.block _ (own_lt HR.out.r)).trans HR.out.r
    have hb01 := HR.out.b.trans (hb1.mono (by have := own_lt HR.out.r; omega))
    have y0 : w1.cell? ⟨X + 1, 0, none⟩ = _ := (own_cell hx1).trans rfl
    have y1 : w1.cell? ⟨X + 1, 1, none⟩ = _ := (own_cell hx1).trans rfl
    have y2 : w1.cell? ⟨X + 1, 2, none⟩ = _ := (own_cell hx1).trans rfl
    have y3 : w1.cell? ⟨X + 1, 3, none⟩ = _ := (own_cell hx1).trans rfl
    have y4 : w1.cell? ⟨X + 1, 4, none⟩ = _ := (own_cell hx1).trans rfl
    have y5 : w1.cell? ⟨X + 1, 5, none⟩ = _ := (own_cell hx1).trans rfl
    have r0 : w1.cell? ⟨X, 0, none⟩ = _ := (own_cell hr1).trans rfl
    have r1 : w1.cell? ⟨X, 1, none⟩ = _ := (own_cell hr1).trans rfl
    have r2 : w1.cell? ⟨X, 2, none⟩ = _ := (own_cell hr1).trans rfl
    have r3 : w1.cell? ⟨X, 3, none⟩ = _ := (own_cell hr1).trans rfl
    have r4 : w1.cell? ⟨X, 4, none⟩ = _ := (own_cell hr1).trans rfl
    have r5 : w1.cell? ⟨X, 5, none⟩ = _ := (own_cell hr1).trans rfl
    have f1 : ∀ j, w1.frozen? ⟨X + 1, j, none⟩ = false := fun j => own_free hx1
    have f0 : ∀ j, w1.frozen? ⟨X, j, none⟩ = false := fun j => own_free hr1
    have HR1 := Lib.hid hr1; clear hr1
    have HX1 := Lib.hid hx1; clear hx1
    have HB1 := Lib.hid hb01; clear hb01 hb1
    go_wp2_with fail
    clear y0 y1 y2 y3 y4 y5 r0 r1 r2 r3 r4 r5 f0 f1
    rw [six_eq]
    have hr2 := own_other HR1.out (show X ≠ X + 1 by omega) (i := 1) (.int .i64 val)
    have hx9 := fun a0 a1 a2 a3 a4 a5 => six_heap hr2 a0 a1 a2 a3 a4 a5
    have hb9 := fun a0 a1 a2 a3 a4 a5 => six_below (HB1.out.setCell (p := ⟨X + 1, 1, none⟩) (by show X ≤ X + 1; omega) (.int .i64 val)) (Nat.le_refl X) a0 a1 a2 a3 a4 a5
    refine bodyPost_ret (v := .tuple #[CM.v ⟨_, val, 0, 0, [], ⟨#[]⟩⟩ (.slice none 0 0), .int .i64 er]) (by simp [results, Tryd.results54, go_sem, World.cell?, hx9]; rfl) rfl ?_
    exact ⟨hb9 _ _ _ _ _ _, _, _, _, _, rfl, fun _ => ⟨rfl, OwnXs.nil _ _⟩⟩
set_option maxHeartbeats 4000000 in
set_option maxRecDepth 100000 in
theorem rn_four (g o cap : Nat) (s : ByteArray) (w : World) (hE : EnvAt w.heap.size w) (hg : g < w.heap.size) (hc : w.cell? ⟨g, o, none⟩ = some (.string s)) (hcap : 1 ≤ cap) (hsz : s.size ≤ 4294967000) :
    Calls Tryd.prog 54 #[.int .i64 4, .slice (some ⟨g, o, none⟩) 1 cap] w (CmOut w (readE s.data.toList 0) ⟨4, 0, 0, readV s.data.toList 0, [], ⟨#[]⟩⟩) := by
  obtain ⟨X, W0, R⟩ := rn_mk w 4
  have c0 : W0.cell? ⟨g, o, none⟩ = some (.string s) := (R.b.cell (p := ⟨g, o, none⟩) (by rw [R.x]; exact hg)).trans hc
  have hrd := read_any s 0 W0 (hE.below (by rw [← R.x]; exact R.b)).env.base hsz
  generalize readE s.data.toList 0 = er at *
  generalize readV s.data.toList 0 = val at *
  unfold CmOut
  rw [← R.x]
  have HR := Lib.hid R; clear R
  have HRD := Lib.hid hrd; clear hrd
  clear hE hc hsz hg
  rw [HR.out.w0] at c0
  go_enter Tryd.func54, Tryd.ntmps54
  go_wp2_with fail
  rw [← HR.out.x, ← HR.out.w0]
  refine HRD.out.mono ?_
  rintro e w1 ⟨rfl, hb1⟩
  have hx1 := (hb1.block _ (own_lt HR.out.c)).trans HR.out.c
  have hr1 := (hb1.block _ (own_lt HR.out.r)).trans HR.out.r
  have hb01 := HR.out.b.trans (hb1.mono (by have := own_lt HR.out.r; omega))
  have y0 : w1.cell? ⟨X + 1, 0, none⟩ = _ := (own_cell hx1).trans rfl
  have y1 : w1.cell? ⟨X + 1, 1, none⟩ = _ := (own_cell hx1).trans rfl
  have y2 : w1.cell? ⟨X + 1, 2, none⟩ = _ := (own_cell hx1).trans rfl
  have y3 : w1.cell? ⟨X + 1, 3, none⟩ = _ := (own_cell hx1).trans rfl
  have y4 : w1.cell? ⟨X + 1, 4, none⟩ = _ := (own_cell hx1).trans rfl
  have y5 : w1.cell? ⟨X + 1, 5, none⟩ = _ := (own_cell hx1).trans rfl
  have r0 : w1.cell? ⟨X, 0, none⟩ = _ := (own_cell hr1).trans rfl
  have r1 : w1.cell? ⟨X, 1, none⟩ = _ := (own_cell hr1).trans rfl
  have r2 : w1.cell? ⟨X, 2, none⟩ = _ := (own_cell hr1).trans rfl
  have r3 : w1.cell? ⟨X, 3, none⟩ = _ := (own_cell hr1).trans rfl
  have r4 : w1.cell? ⟨X, 4, none⟩ = _ := (own_cell hr1).trans rfl
  have r5 : w1.cell? ⟨X, 5, none⟩ = _ := (own_cell hr1).trans rfl
  have f1 : ∀ j, w1.frozen? ⟨X + 1, j, none⟩ = false := fun j => own_free hx1
  have f0 : ∀ j, w1.frozen? ⟨X, j, none⟩ = false := fun j => own_free hr1
  have HR1 := Lib.hid hr1; clear hr1
  have HX1 := Lib.hid hx1; clear hx1
  have HB1 := Lib.hid hb01; clear hb01 hb1
  go_wp2_with fail
  clear y0 y1 y2 y3 y4 y5 r0 r1 r2 r3 r4 r5 f0 f1
  rw [six_eq]
  have hr2 := own_other HR1.out (show X ≠ X + 1 by omega) (i := 3) (.int .i64 val)
  have hx9 := fun a0 a1 a2 a3 a4 a5 => six_heap hr2 a0 a1 a2 a3 a4 a5
  have hb9 := fun a0 a1 a2 a3 a4 a5 => six_below (HB1.out.setCell (p := ⟨X + 1, 3, none⟩) (by show X ≤ X + 1; omega) (.int .i64 val)) (Nat.le_refl X) a0 a1 a2 a3 a4 a5
  refine bodyPost_ret (v := .tuple #[CM.v ⟨4, 0, 0, val, [], ⟨#[]⟩⟩ (.slice none 0 0), .int .i64 er]) (by simp [results, Tryd.results54, go_sem, World.cell?, hx9]; rfl) rfl ?_
  exact ⟨hb9 _ _ _ _ _ _, _, _, _, _, rfl, fun _ => ⟨rfl, OwnXs.nil _ _⟩⟩
set_option maxHeartbeats 4000000 in
set_option maxRecDepth 100000 in
theorem rn_bare (k : Int) (hk : k = 6 ∨ k = 7) (v : Value) (w : World) :
    Calls Tryd.prog 54 #[.int .i64 k, v] w (CmOut w 0 ⟨k, 0, 0, 0, [], ⟨#[]⟩⟩) := by
  obtain ⟨X, hX⟩ : ∃ X, X = w.heap.size := ⟨_, rfl⟩
  obtain ⟨W9, hW9⟩ : ∃ W9, W9 = (w.alloc (.cells #[.int .i64 k, .int .i64 0, .int .i64 0, .int .i64 0, .slice none 0 0, .string ⟨#[]⟩] 37)).alloc (.cells #[.int .i64 k, .int .i64 0, .int .i64 0, .int .i64 0, .slice none 0 0, .string ⟨#[]⟩] 37) := ⟨_, rfl⟩
  have hx9 : W9.heap[X]? = some (.cells #[.int .i64 k, .int .i64 0, .int .i64 0, .int .i64 0, .slice none 0 0, .string ⟨#[]⟩] 37) := by rw [hX, hW9]; exact (alloc2 w _ _).1
  have hb9 : Below X w W9 := by rw [hX, hW9]; exact ((Below.refl _ _).alloc (Nat.le_refl _) _).alloc (by simp) _
  unfold CmOut
  rw [← hX]
  have HX := Lib.hid hX; clear hX
  have HW9 := Lib.hid hW9; clear hW9
  rcases hk with rfl | rfl
  all_goals
    go_enter Tryd.func54, Tryd.ntmps54
    go_wp2_with fail
    rw [← HX.out, ← HW9.out]
    refine bodyPost_ret (v := .tuple #[CM.v ⟨_, 0, 0, 0, [], ⟨#[]⟩⟩ (.slice none 0 0), .int .i64 0]) (by simp [results, Tryd.results54, go_sem, World.cell?, hx9]; rfl) rfl ?_
    exact ⟨hb9, _, _, _, _, rfl, fun _ => ⟨rfl, OwnXs.nil _ _⟩⟩
set_option maxHeartbeats 4000000 in
set_option maxRecDepth 100000 in
theorem rn_five (v : Value) (ws : List ByteArray) (w : World) (hE : EnvAt w.heap.size w) (hS : Strs w v ws) (h2 : 2 ≤ ws.length) (hn : ws.length ≤ 5000) (hsz : ∀ s ∈ ws, s.size ≤ 4294967000) :
    Calls Tryd.prog 54 #[.int .i64 5, v] w (CmOut w (wsE ws) ⟨5, (wsV ws).getD 0 0, (wsV ws).getD 1 0, 0, (wsV ws).drop 2, ⟨#[]⟩⟩) := by
  obtain ⟨X, W0, R⟩ := rn_mk w 5
  have hws := wholes_any v ws W0 ((hE.below (by rw [← R.x]; exact R.b)).mono (by have := R.b.size; omega)) (hS.below (by rw [← R.x]; exact R.b)) (by omega) hsz
  unfold WholesOut at hws
  have hvl : (wsV ws).length = ws.length := by unfold wsV; simp
  generalize wsE ws = er at *
  generalize wsV ws = wv at *
  unfold CmOut
  rw [← R.x]
  have hz0 : W0.heap.size = X + 2 := by rw [R.w0, R.x]; simp
  rw [hz0] at hws
  have HR := Lib.hid R; clear R
  have HZ := Lib.hid hz0; clear hz0
  have HWS := Lib.hid hws; clear hws
  have HVL := Lib.hid hvl; clear hvl
  clear hE hsz hS
  go_enter Tryd.func54, Tryd.ntmps54
  go_wp2_with fail
  rw [← HR.out.x, ← HR.out.w0]
  refine HWS.out.mono ?_
  rintro e w1 ⟨hb1, v', rfl, hcase⟩
  have hx1 := (hb1.block _ (show X + 1 < X + 2 by omega)).trans HR.out.c
  have hr1 := (hb1.block _ (show X < X + 2 by omega)).trans HR.out.r
  have hb01 := HR.out.b.trans (hb1.mono (show X ≤ X + 2 by omega))
  have y0 : w1.cell? ⟨X + 1, 0, none⟩ = _ := (own_cell hx1).trans rfl
  have y1 : w1.cell? ⟨X + 1, 1, none⟩ = _ := (own_cell hx1).trans rfl
  have y2 : w1.cell? ⟨X + 1, 2, none⟩ = _ := (own_cell hx1).trans rfl
  have y3 : w1.cell? ⟨X + 1, 3, none⟩ = _ := (own_cell hx1).trans rfl
  have y4 : w1.cell? ⟨X + 1, 4, none⟩ = _ := (own_cell hx1).trans rfl
  have y5 : w1.cell? ⟨X + 1, 5, none⟩ = _ := (own_cell hx1).trans rfl
  have r0 : w1.cell? ⟨X, 0, none⟩ = _ := (own_cell hr1).trans rfl
  have r1 : w1.cell? ⟨X, 1, none⟩ = _ := (own_cell hr1).trans rfl
  have r2 : w1.cell? ⟨X, 2, none⟩ = _ := (own_cell hr1).trans rfl
  have r3 : w1.cell? ⟨X, 3, none⟩ = _ := (own_cell hr1).trans rfl
  have r4 : w1.cell? ⟨X, 4, none⟩ = _ := (own_cell hr1).trans rfl
  have r5 : w1.cell? ⟨X, 5, none⟩ = _ := (own_cell hr1).trans rfl
  have f1 : ∀ j, w1.frozen? ⟨X + 1, j, none⟩ = false := fun j => own_free hx1
  have f0 : ∀ j, w1.frozen? ⟨X, j, none⟩ = false := fun j => own_free hr1
  have HR1 := Lib.hid hr1; clear hr1
  have HX1 := Lib.hid hx1; clear hx1
  have HB1 := Lib.hid hb01; clear hb01 hb1
  rcases hcase with ⟨he, rfl⟩ | ⟨rfl, G, cur, rfl, hG, hg1, hcur⟩
  · go_wp2_with fail
    clear y0 y1 y2 y3 y4 y5 r0 r1 r2 r3 r4 r5 f0 f1
    rw [six_eq]
    have hx9 := fun a0 a1 a2 a3 a4 a5 => six_heap HR1.out a0 a1 a2 a3 a4 a5
    have hb9 := fun a0 a1 a2 a3 a4 a5 => six_below HB1.out (Nat.le_refl X) a0 a1 a2 a3 a4 a5
    refine bodyPost_ret (v := .tuple #[CM.v ⟨5, 0, 0, 0, [], ⟨#[]⟩⟩ (.slice none 0 0), .int .i64 er]) (by simp [results, Tryd.results54, go_sem, World.cell?, hx9]; rfl) rfl ?_
    exact ⟨hb9 _ _ _ _ _ _, _, _, _, _, rfl, fun h => absurd h he⟩
  · have h0 : 0 < wv.length := by rw [HVL.out]; omega
    have h1 : 1 < wv.length := by rw [HVL.out]; omega
    have g0 : w1.cell? ⟨G, 0, none⟩ = some (.int .i64 wv[0]) := (own_cell hg1).trans (hcur 0 h0)
    have g1 : w1.cell? ⟨G, 1, none⟩ = some (.int .i64 wv[1]) := (own_cell hg1).trans (hcur 1 h1)
    have e0 : wv.getD 0 0 = wv[0] := by simp [List.getD, h0]
    have e1 : wv.getD 1 0 = wv[1] := by simp [List.getD, h1]
    generalize hn0 : wv[0] = n0 at *
    generalize hn1 : wv[1] = n1 at *
    have i0 : (0 : Int) < (wv.length : Int) := by omega
    have i1 : (1 : Int) < (wv.length : Int) := by omega
    have i2 : (2 : Int) ≤ (wv.length : Int) := by omega
    go_wp2_with fail
    go_region
    clear y0 y1 y2 y3 y4 y5 r0 r1 r2 r3 r4 r5 f0 f1 i0 i1 g0 g1
    obtain ⟨da, hda⟩ : ∃ da, da = (if wv.length = 2 then some (⟨G, 0, none⟩ : Addr) else some ⟨G, 2, none⟩) := ⟨_, rfl⟩
    obtain ⟨W2, hW2⟩ : ∃ W2, W2 = (((w1.setCell ⟨X + 1, 1, none⟩ (.int .i64 n0)).setCell ⟨X + 1, 2, none⟩ (.int .i64 n1)).setCell ⟨X + 1, 4, none⟩ (.slice da (wv.length - 2) (wv.length - 2))).drew := ⟨_, rfl⟩
    have hx2 : W2.heap[X + 1]? = some (.cells #[.int .i64 5, .int .i64 n0, .int .i64 n1, .int .i64 0, .slice da (wv.length - 2) (wv.length - 2), .string ⟨#[]⟩] 37) := by
      rw [hW2]; exact own_set (own_set (own_set HX1.out _) _) _
    have hr2 : W2.heap[X]? = some (.cells #[.int .i64 0, .int .i64 0, .int .i64 0, .int .i64 0, .slice none 0 0, .string ⟨#[]⟩] 37) := by
      rw [hW2]; exact own_other (own_other (own_other HR1.out (by omega) _) (by omega) _) (by omega) _
    have hg2 : W2.heap[G]? = some (.cells cur 3) := by
      have hne : G ≠ X + 1 := by omega
      rw [hW2]; exact own_other (own_other (own_other hg1 hne _) hne _) hne _
    have hb2 : Below X w W2 := by
      rw [hW2]
      exact Below.drew (((HB1.out.setCell (p := ⟨X + 1, 1, none⟩) (show X ≤ X + 1 by omega) _).setCell (p := ⟨X + 1, 2, none⟩) (show X ≤ X + 1 by omega) _).setCell (p := ⟨X + 1, 4, none⟩) (show X ≤ X + 1 by omega) _)
    rw [← hda, ← hW2]
    clear hW2
    have y0 : W2.cell? ⟨X + 1, 0, none⟩ = _ := (own_cell hx2).trans rfl
    have y1 : W2.cell? ⟨X + 1, 1, none⟩ = _ := (own_cell hx2).trans rfl
    have y2 : W2.cell? ⟨X + 1, 2, none⟩ = _ := (own_cell hx2).trans rfl
    have y3 : W2.cell? ⟨X + 1, 3, none⟩ = _ := (own_cell hx2).trans rfl
    have y4 : W2.cell? ⟨X + 1, 4, none⟩ = _ := (own_cell hx2).trans rfl
    have y5 : W2.cell? ⟨X + 1, 5, none⟩ = _ := (own_cell hx2).trans rfl
    have r0 : W2.cell? ⟨X, 0, none⟩ = _ := (own_cell hr2).trans rfl
    have r1 : W2.cell? ⟨X, 1, none⟩ = _ := (own_cell hr2).trans rfl
    have r2 : W2.cell? ⟨X, 2, none⟩ = _ := (own_cell hr2).trans rfl
    have r3 : W2.cell? ⟨X, 3, none⟩ = _ := (own_cell hr2).trans rfl
    have r4 : W2.cell? ⟨X, 4, none⟩ = _ := (own_cell hr2).trans rfl
    have r5 : W2.cell? ⟨X, 5, none⟩ = _ := (own_cell hr2).trans rfl
    have f0 : ∀ j, W2.frozen? ⟨X, j, none⟩ = false := fun j => own_free hr2
    have hdl : (wv.drop 2).length = wv.length - 2 := by simp
    have how : ∀ a0 a1 a2 a3 a4 a5, OwnXs X (six W2 X a0 a1 a2 a3 a4 a5) (.slice da (wv.length - 2) (wv.length - 2)) (wv.drop 2) := fun a0 a1 a2 a3 a4 a5 => by
      have hdn : da = none → wv.length - 2 = 0 := fun h => by rw [hda] at h; split at h <;> cases h
      refine ⟨da, wv.length - 2, by rw [hdl], by rw [hdl]; exact Nat.le_refl _, hdn, ?_⟩
      by_cases h2' : wv.length = 2
      · exact .inl (List.eq_nil_of_length_eq_zero (by rw [hdl]; omega))
      · refine .inr ⟨G, 2, cur, by rw [hda, if_neg h2'], by omega, six_other hg2 (by omega) _ _ _ _ _ _, fun j hj => ?_⟩
        have hj' : 2 + j < wv.length := by rw [hdl] at hj; omega
        rw [hcur (2 + j) hj']; simp
    have HOW := Lib.hid how; clear how
    have HR2 := Lib.hid hr2; clear hr2
    have HB2 := Lib.hid hb2; clear hb2
    clear hx2 hg2 hcur hg1 hda
    go_wp2_with fail
    clear y0 y1 y2 y3 y4 y5 r0 r1 r2 r3 r4 r5 f0
    rw [six_eq]
    have hx9 := fun a0 a1 a2 a3 a4 a5 => six_heap HR2.out a0 a1 a2 a3 a4 a5
    have hb9 := fun a0 a1 a2 a3 a4 a5 => six_below HB2.out (Nat.le_refl X) a0 a1 a2 a3 a4 a5
    refine bodyPost_ret (v := .tuple #[CM.v ⟨5, n0, n1, 0, wv.drop 2, ⟨#[]⟩⟩ (.slice da (wv.length - 2) (wv.length - 2)), .int .i64 0]) (by simp [results, Tryd.results54, go_sem, World.cell?, hx9]; rfl) rfl ?_
    refine ⟨hb9 _ _ _ _ _ _, _, _, _, _, rfl, ?_⟩
    have hq := HOW.out (.int .i64 5) (.int .i64 n0) (.int .i64 n1) (.int .i64 0) (.slice da (wv.length - 2) (wv.length - 2)) (.string ⟨#[]⟩)
    first
      | exact fun _ => ⟨by rw [e0, e1], hq⟩
      | exact ⟨by rw [← hn0, ← hn1], hq⟩
theorem readNums_any (k : Nat) (v : Value) (ws : List ByteArray) (w : World) (hE : EnvAt w.heap.size w) (hS : Strs w v ws) (h1 : 1 ≤ k) (h7 : k ≤ 7) (hc : countE k ws.length = 0) (hsz : ∀ s ∈ ws, s.size ≤ 4294967000) :
    Calls Tryd.prog 54 #[.int .i64 k, v] w (CmOut w (numE k ws) (numC k ws)) := by
  by_cases h5 : k = 5
  · subst h5
    obtain ⟨h2, hn⟩ := count_five hc
    exact rn_five v ws w hE hS h2 (by omega) hsz
  have hlen := count_one hc h5
  by_cases h67 : 6 ≤ k
  · have hne : numE k ws = 0 := by unfold numE; rw [if_neg (by omega), if_neg h5, if_neg (by omega)]
    have hnc : numC k ws = ⟨k, 0, 0, 0, [], ⟨#[]⟩⟩ := by unfold numC; rw [if_neg (by omega), if_neg h5, if_neg (by omega)]
    rw [hne, hnc]
    exact rn_bare k (by omega) v w
  have hct : cntN k = 1 := by rcases (show k = 1 ∨ k = 2 ∨ k = 3 ∨ k = 4 by omega) with rfl | rfl | rfl | rfl <;> rfl
  obtain ⟨s, rfl⟩ : ∃ s, ws = [s] := List.length_eq_one_iff.1 (by rw [hct] at hlen; omega)
  obtain ⟨a, cap, rfl, hcap, hat⟩ := hS
  obtain ⟨g, o, rfl, hg, hcell⟩ := hat.resolve_left (by simp)
  have hc0 : w.cell? ⟨g, o, none⟩ = some (.string s) := hcell 0 (by simp)
  by_cases h4 : k = 4
  · subst h4
    exact rn_four g o cap s w hE hg hc0 (by simpa using hcap) (hsz s (by simp))
  · have hne : numE k [s] = wholeE s.data.toList := by unfold numE; rw [if_neg h4, if_neg h5, if_pos ⟨h1, by omega⟩]; rfl
    have hnc : numC k [s] = ⟨k, wholeV s.data.toList, 0, 0, [], ⟨#[]⟩⟩ := by unfold numC; rw [if_neg h4, if_neg h5, if_pos ⟨h1, by omega⟩]; rfl
    rw [hne, hnc]
    exact rn_one k (by omega) g o cap s w hE hg hc0 (by simpa using hcap) (hsz s (by simp))
end Vb
end Go.Proofs.YtmegapelibaanaaDoor
