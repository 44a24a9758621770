/- Package sheet's reader: stop; over the translated program. (Printed by drafts/gen_stop.py.) -/
import Derived.Test.YtjmhlabgoegeoaaGreatDoorSheetCar
namespace Go.Proofs.YtjmhlabgoegeoaaGreatDoor
namespace Sheet
open Go Go.RowKit Deci
/-- The walk's rule for a complex number that is stored. -/
theorem store_cx (P : Program) (w : World) (a : Addr) (k : FloatKind) (m : Mode) (re im : Nat) : (store a (.complex k re im) m).run P w = stored P w a (.complex k re im) m := run_store P w a _ m rfl
attribute [local go_sem] store_cx
/-- A block of the call's own, and a store into it. -/
theorem own_set {w : World} {H i : Nat} {cs : Array Value} {t : TypeId} (h : w.heap[H]? = some (.cells cs t)) (u : Value) : (w.setCell ⟨H, i, none⟩ u).heap[H]? = some (.cells (cs.setIfInBounds i u) t) := by
  simp [World.setCell, Array.getElem?_modify, h]
theorem own_other {w : World} {H K i : Nat} {o : Option Obj} (h : w.heap[H]? = o) (hne : H ≠ K) (u : Value) : (w.setCell ⟨K, i, none⟩ u).heap[H]? = o :=
  (Below.heap_setCell w ⟨K, i, none⟩ u H hne).trans h
theorem own_cell {w : World} {H i : Nat} {cs : Array Value} {t : TypeId} (h : w.heap[H]? = some (.cells cs t)) : w.cell? ⟨H, i, none⟩ = cs[i]? := by simp [World.cell?, h]
theorem own_free {w : World} {H i : Nat} {cs : Array Value} {t : TypeId} (h : w.heap[H]? = some (.cells cs t)) : w.frozen? ⟨H, i, none⟩ = false := by simp [World.frozen?, h]
theorem len5 {ws : List ByteArray} (h : ws.length = 5) : ∃ a b c d e, ws = [a, b, c, d, e] := by
  match ws, h with
  | [a, b, c, d, e], _ => exact ⟨a, b, c, d, e, rfl⟩
theorem len7 {ws : List ByteArray} (h : ws.length = 7) : ∃ a b c d e f g, ws = [a, b, c, d, e, f, g] := by
  match ws, h with
  | [a, b, c, d, e, f, g], _ => exact ⟨a, b, c, d, e, f, g, rfl⟩
/-- Of five words: a load and three times. -/
def tailE (p q r s t : ByteArray) (sc : Int) : Int := twoE (loadE p q) (twoE (readE r.data.toList sc) (twoE (readE s.data.toList sc) (readE t.data.toList sc)))
def stopC (L : List ByteArray) (n k : Nat) (sc : Int) : Int := readV (wAt L n k).data.toList sc
def stopS (L : List ByteArray) (n k : Nat) (most : Int) : Int := smallV (wAt L n k).data.toList most
def spotE (p q : ByteArray) : Int := twoE (smallE p.data.toList 16777216) (smallE q.data.toList 16777216)
def stopE (L : List ByteArray) (n : Nat) (sc : Int) (placed : Bool) : Int :=
  if placed then twoE (nextE L n ⟨#[115, 116, 111, 112]⟩ 7) (twoE (spotE (wAt L n 0) (wAt L n 1)) (tailE (wAt L n 2) (wAt L n 3) (wAt L n 4) (wAt L n 5) (wAt L n 6) sc))
  else twoE (nextE L n ⟨#[115, 116, 111, 112]⟩ 5) (tailE (wAt L n 0) (wAt L n 1) (wAt L n 2) (wAt L n 3) (wAt L n 4) sc)
def stopV (L : List ByteArray) (n : Nat) (sc : Int) (placed : Bool) : Value :=
  if placed then .agg #[.int .i64 (stopS L n 2 1000), .int .i64 (stopS L n 3 1000), .int .i64 (stopC L n 4 sc), .int .i64 (stopC L n 5 sc), .int .i64 (stopC L n 6 sc), .complex .f64 (Spot.wd (stopS L n 0 16777216)) (Spot.wd (stopS L n 1 16777216))]
  else .agg #[.int .i64 (stopS L n 0 1000), .int .i64 (stopS L n 1 1000), .int .i64 (stopC L n 2 sc), .int .i64 (stopC L n 3 sc), .int .i64 (stopC L n 4 sc), .complex .f64 0 0]
set_option maxHeartbeats 2000000 in
theorem stop_no (N B M : Nat) (Av : List Nat) (L : List ByteArray) (n : Nat) (sc : Int) (ps : List ByteArray) (w : World) (hn : n ≤ 1000000) (hl : ∀ s ∈ L, s.size ≤ 1000000) (hn2 : L.length ≤ 1000000) (h : St N B M Av L n ps sc w) :
    Calls Tryz.prog 52 #[.pointer (some ⟨B, 0, none⟩), .bool false] w (Res N B M Av L (n + 1) [] sc w (stopE L n sc false) (stopV L n sc false)) := by
  have h0 : ∀ Av w, St N B M Av L n ps sc w → Calls _ _ _ w (Res _ _ _ _ _ _ _ _ w _ _) := fun Av w h => next_any N B M Av L n sc ps ⟨#[115, 116, 111, 112]⟩ 5 w hn hl hn2 (by decide) h
  have HS0 := Lib.hid h; clear h
  have hB : B ≠ w.heap.size := Nat.ne_of_lt HS0.out.lt
  have HB := Lib.hid hB; clear hB
  have hB1 : B ≠ w.heap.size + 1 := by have := HS0.out.lt; omega
  have HB1 := Lib.hid hB1; clear hB1
  have hw := nextW_size (n := n) hl
  unfold stopE stopV stopS stopC wAt
  simp only [if_false, Bool.false_eq_true]
  by_cases he : nextE L n ⟨#[115, 116, 111, 112]⟩ 5 = 0
  · obtain ⟨p, q, r, s, t, hp⟩ := len5 (next_words he)
    rw [he] at h0
    rw [he, twoE_ok]
    rw [hp] at h0 hw ⊢
    have hsp : p.size ≤ 1000000 := hw p (by simp)
    have hsq : q.size ≤ 1000000 := hw q (by simp)
    have hsr : r.size ≤ 1000000 := hw r (by simp)
    have hss : s.size ≤ 1000000 := hw s (by simp)
    have hst : t.size ≤ 1000000 := hw t (by simp)
    have h1 : ∀ Av w1, St N B M Av L (n + 1) [p, q, r, s, t] sc w1 → _ := fun Av w1 h => load_any N B M Av L (n + 1) sc p q [r, s, t] w1 (by simp) (by omega) (by omega) h
    have h2 : ∀ Av w1, St N B M Av L (n + 1) [r, s, t] sc w1 → _ := fun Av w1 h => decimal_res (w := w1) sc (by simp) (by omega) h
    have h3 : ∀ Av w1, St N B M Av L (n + 1) [s, t] sc w1 → _ := fun Av w1 h => decimal_res (w := w1) sc (by simp) (by omega) h
    have h4 : ∀ Av w1, St N B M Av L (n + 1) [t] sc w1 → _ := fun Av w1 h => decimal_res (w := w1) sc (by simp) (by omega) h
    simp only [List.getD_cons_zero, List.getD_cons_succ] at *
    unfold tailE
    change ∀ Av w1, St N B M Av L (n + 1) [p, q, r, s, t] sc w1 → Calls _ _ _ _ (Res N B M Av L (n + 1) [r, s, t] sc w1 (loadE p q) _) at h1
    generalize loadE p q = e1 at *
    generalize smallV p.data.toList 1000 = v0 at *
    generalize smallV q.data.toList 1000 = v1 at *
    generalize readE r.data.toList sc = e2 at *
    generalize readV r.data.toList sc = v2 at *
    generalize readE s.data.toList sc = e3 at *
    generalize readV s.data.toList sc = v3 at *
    generalize readE t.data.toList sc = e4 at *
    generalize readV t.data.toList sc = v4 at *
    have H0 := Lib.hid fun Av w h => ((h0 Av w h).mono fun _ _ h => res_yes h); clear h0
    have H1 := Lib.hid h1; clear h1
    have H2 := Lib.hid h2; clear h2
    have H3 := Lib.hid h3; clear h3
    have H4 := Lib.hid h4; clear h4
    clear hw hl hp hsp hsq hsr hss hst
    go_enter Tryz.func52, Tryz.ntmps52
    go_wp2_with fail
    have s00 := (HS0.out.fresh (.cells #[.int .i64 0, .int .i64 0, .int .i64 0, .int .i64 0, .int .i64 0, .complex .f64 0 0] 57)).fresh (.cells #[.int .i64 0, .int .i64 0, .int .i64 0, .int .i64 0, .int .i64 0, .complex .f64 0 0] 57)
    rw [World.size_alloc] at s00
    have n00 : ((w.alloc (.cells #[.int .i64 0, .int .i64 0, .int .i64 0, .int .i64 0, .int .i64 0, .complex .f64 0 0] 57)).alloc (.cells #[.int .i64 0, .int .i64 0, .int .i64 0, .int .i64 0, .int .i64 0, .complex .f64 0 0] 57)).heap[w.heap.size]? = some (.cells #[.int .i64 0, .int .i64 0, .int .i64 0, .int .i64 0, .int .i64 0, .complex .f64 0 0] 57) := (Below.heap_alloc _ _ _ (by simp)).trans (World.alloc_heap_new w _)
    have n01 : ((w.alloc (.cells #[.int .i64 0, .int .i64 0, .int .i64 0, .int .i64 0, .int .i64 0, .complex .f64 0 0] 57)).alloc (.cells #[.int .i64 0, .int .i64 0, .int .i64 0, .int .i64 0, .int .i64 0, .complex .f64 0 0] 57)).heap[w.heap.size + 1]? = some (.cells #[.int .i64 0, .int .i64 0, .int .i64 0, .int .i64 0, .int .i64 0, .complex .f64 0 0] 57) := by
      have := World.alloc_heap_new (w.alloc (.cells #[.int .i64 0, .int .i64 0, .int .i64 0, .int .i64 0, .int .i64 0, .complex .f64 0 0] 57)) (.cells #[.int .i64 0, .int .i64 0, .int .i64 0, .int .i64 0, .int .i64 0, .complex .f64 0 0] 57)
      rwa [World.size_alloc] at this
    have B0 : Below w.heap.size w ((w.alloc (.cells #[.int .i64 0, .int .i64 0, .int .i64 0, .int .i64 0, .int .i64 0, .complex .f64 0 0] 57)).alloc (.cells #[.int .i64 0, .int .i64 0, .int .i64 0, .int .i64 0, .int .i64 0, .complex .f64 0 0] 57)) := ((Below.refl _ _).alloc (Nat.le_refl _) _).alloc (by simp) _
    generalize (w.alloc (.cells #[.int .i64 0, .int .i64 0, .int .i64 0, .int .i64 0, .int .i64 0, .complex .f64 0 0] 57)).alloc (.cells #[.int .i64 0, .int .i64 0, .int .i64 0, .int .i64 0, .int .i64 0, .complex .f64 0 0] 57) = w0 at *
    refine (H0.out _ _ s00).mono ?_
    rintro e w1 ⟨rfl, hg1, hs1⟩
    have c3 := hs1.c3
    have NR := Lib.hid (own_kept hg1 HB.out n00); clear n00
    have NS := Lib.hid (own_kept hg1 HB1.out n01); clear n01
    have G := Lib.hid ((grown_of B0 _).trans hg1); clear hg1 B0 s00
    have S := Lib.hid hs1; clear hs1
    have f0 : w1.frozen? ⟨w.heap.size + 1, 0, none⟩ = false := own_free NS.out
    clear f0
    go_wp2_with fail
    refine (H1.out _ _ S.out).mono ?_
    rintro e u1 ⟨hg, ho⟩
    rcases ho.symm with ⟨he1, rfl⟩ | ⟨he1, rfl, hs⟩
    · rw [twoE_no _ he1]
      clear c3; go_wp2_with fail
      exact ⟨rfl, G.out.trans hg, .inr ⟨he1, rfl⟩⟩
    clear ho; subst he1
    rw [twoE_ok]
    clear c3
    replace NR := Lib.hid (own_kept hg HB.out NR.out)
    replace NS := Lib.hid (own_kept hg HB1.out NS.out)
    replace G := Lib.hid (G.out.trans hg); clear hg
    replace S := Lib.hid hs; clear hs
    have d0 : u1.cell? ⟨w.heap.size + 1, 0, none⟩ = some (.int .i64 0) := (own_cell NS.out).trans rfl
    have f0 : u1.frozen? ⟨w.heap.size + 1, 0, none⟩ = false := own_free NS.out
    have d1 : u1.cell? ⟨w.heap.size + 1, 1, none⟩ = some (.int .i64 0) := (own_cell NS.out).trans rfl
    have f1 : u1.frozen? ⟨w.heap.size + 1, 1, none⟩ = false := own_free NS.out
    have hG : w.grownBy ((u1.setCell ⟨w.heap.size + 1, 0, none⟩ (.int .i64 v0)).setCell ⟨w.heap.size + 1, 1, none⟩ (.int .i64 v1)) (some B) := (grown_own (grown_own G.out (a := ⟨w.heap.size + 1, 0, none⟩) (by simp) _) (a := ⟨w.heap.size + 1, 1, none⟩) (by simp) _)
    have hS : St N B M ((w.heap.size + 1) :: w.heap.size :: Av) L (n + 1) [r, s, t] sc ((u1.setCell ⟨w.heap.size + 1, 0, none⟩ (.int .i64 v0)).setCell ⟨w.heap.size + 1, 1, none⟩ (.int .i64 v1)) := ((S.out.set (a := ⟨w.heap.size + 1, 0, none⟩) (by simp) _).set (a := ⟨w.heap.size + 1, 1, none⟩) (by simp) _)
    have hNR : ((u1.setCell ⟨w.heap.size + 1, 0, none⟩ (.int .i64 v0)).setCell ⟨w.heap.size + 1, 1, none⟩ (.int .i64 v1)).heap[w.heap.size]? = some (.cells #[.int .i64 0, .int .i64 0, .int .i64 0, .int .i64 0, .int .i64 0, .complex .f64 0 0] 57) := (own_other (own_other NR.out (by omega) _) (by omega) _)
    have hNS : ((u1.setCell ⟨w.heap.size + 1, 0, none⟩ (.int .i64 v0)).setCell ⟨w.heap.size + 1, 1, none⟩ (.int .i64 v1)).heap[w.heap.size + 1]? = some (.cells #[.int .i64 v0, .int .i64 v1, .int .i64 0, .int .i64 0, .int .i64 0, .complex .f64 0 0] 57) := (own_set (own_set NS.out (.int .i64 v0)) (.int .i64 v1))
    replace G := Lib.hid hG; replace S := Lib.hid hS; replace NR := Lib.hid hNR; replace NS := Lib.hid hNS; clear hG hS hNR hNS
    have c3 := S.out.c3
    go_wp2_with fail
    refine (H2.out _ _ S.out).mono ?_
    rintro e u2 ⟨hg, ho⟩
    rcases ho.symm with ⟨he2, rfl⟩ | ⟨he2, rfl, hs⟩
    · rw [twoE_no _ he2]
      clear c3; go_wp2_with fail
      exact ⟨rfl, G.out.trans hg, .inr ⟨he2, rfl⟩⟩
    clear ho; subst he2
    rw [twoE_ok]
    clear c3
    replace NR := Lib.hid (own_kept hg HB.out NR.out)
    replace NS := Lib.hid (own_kept hg HB1.out NS.out)
    replace G := Lib.hid (G.out.trans hg); clear hg
    replace S := Lib.hid hs; clear hs
    have d2 : u2.cell? ⟨w.heap.size + 1, 2, none⟩ = some (.int .i64 0) := (own_cell NS.out).trans rfl
    have f2 : u2.frozen? ⟨w.heap.size + 1, 2, none⟩ = false := own_free NS.out
    have hG : w.grownBy (u2.setCell ⟨w.heap.size + 1, 2, none⟩ (.int .i64 v2)) (some B) := (grown_own G.out (a := ⟨w.heap.size + 1, 2, none⟩) (by simp) _)
    have hS : St N B M ((w.heap.size + 1) :: w.heap.size :: Av) L (n + 1) [s, t] sc (u2.setCell ⟨w.heap.size + 1, 2, none⟩ (.int .i64 v2)) := (S.out.set (a := ⟨w.heap.size + 1, 2, none⟩) (by simp) _)
    have hNR : (u2.setCell ⟨w.heap.size + 1, 2, none⟩ (.int .i64 v2)).heap[w.heap.size]? = some (.cells #[.int .i64 0, .int .i64 0, .int .i64 0, .int .i64 0, .int .i64 0, .complex .f64 0 0] 57) := (own_other NR.out (by omega) _)
    have hNS : (u2.setCell ⟨w.heap.size + 1, 2, none⟩ (.int .i64 v2)).heap[w.heap.size + 1]? = some (.cells #[.int .i64 v0, .int .i64 v1, .int .i64 v2, .int .i64 0, .int .i64 0, .complex .f64 0 0] 57) := (own_set NS.out (.int .i64 v2))
    replace G := Lib.hid hG; replace S := Lib.hid hS; replace NR := Lib.hid hNR; replace NS := Lib.hid hNS; clear hG hS hNR hNS
    have c3 := S.out.c3
    go_wp2_with fail
    refine (H3.out _ _ S.out).mono ?_
    rintro e u3 ⟨hg, ho⟩
    rcases ho.symm with ⟨he3, rfl⟩ | ⟨he3, rfl, hs⟩
    · rw [twoE_no _ he3]
      clear c3; go_wp2_with fail
      exact ⟨rfl, G.out.trans hg, .inr ⟨he3, rfl⟩⟩
    clear ho; subst he3
    rw [twoE_ok]
    clear c3
    replace NR := Lib.hid (own_kept hg HB.out NR.out)
    replace NS := Lib.hid (own_kept hg HB1.out NS.out)
    replace G := Lib.hid (G.out.trans hg); clear hg
    replace S := Lib.hid hs; clear hs
    have d3 : u3.cell? ⟨w.heap.size + 1, 3, none⟩ = some (.int .i64 0) := (own_cell NS.out).trans rfl
    have f3 : u3.frozen? ⟨w.heap.size + 1, 3, none⟩ = false := own_free NS.out
    have hG : w.grownBy (u3.setCell ⟨w.heap.size + 1, 3, none⟩ (.int .i64 v3)) (some B) := (grown_own G.out (a := ⟨w.heap.size + 1, 3, none⟩) (by simp) _)
    have hS : St N B M ((w.heap.size + 1) :: w.heap.size :: Av) L (n + 1) [t] sc (u3.setCell ⟨w.heap.size + 1, 3, none⟩ (.int .i64 v3)) := (S.out.set (a := ⟨w.heap.size + 1, 3, none⟩) (by simp) _)
    have hNR : (u3.setCell ⟨w.heap.size + 1, 3, none⟩ (.int .i64 v3)).heap[w.heap.size]? = some (.cells #[.int .i64 0, .int .i64 0, .int .i64 0, .int .i64 0, .int .i64 0, .complex .f64 0 0] 57) := (own_other NR.out (by omega) _)
    have hNS : (u3.setCell ⟨w.heap.size + 1, 3, none⟩ (.int .i64 v3)).heap[w.heap.size + 1]? = some (.cells #[.int .i64 v0, .int .i64 v1, .int .i64 v2, .int .i64 v3, .int .i64 0, .complex .f64 0 0] 57) := (own_set NS.out (.int .i64 v3))
    replace G := Lib.hid hG; replace S := Lib.hid hS; replace NR := Lib.hid hNR; replace NS := Lib.hid hNS; clear hG hS hNR hNS
    have c3 := S.out.c3
    go_wp2_with fail
    refine (H4.out _ _ S.out).mono ?_
    rintro e u4 ⟨hg, ho⟩
    rcases ho.symm with ⟨he4, rfl⟩ | ⟨he4, rfl, hs⟩
    · clear c3; go_wp2_with fail
      exact ⟨rfl, G.out.trans hg, .inr ⟨he4, rfl⟩⟩
    clear ho; subst he4
    clear c3
    replace NR := Lib.hid (own_kept hg HB.out NR.out)
    replace NS := Lib.hid (own_kept hg HB1.out NS.out)
    have r0 : u4.cell? ⟨w.heap.size, 0, none⟩ = some (.int .i64 0) := (own_cell NR.out).trans rfl
    have y0 : u4.frozen? ⟨w.heap.size, 0, none⟩ = false := own_free NR.out
    have z0 : u4.cell? ⟨w.heap.size + 1, 0, none⟩ = some (.int .i64 v0) := (own_cell NS.out).trans rfl
    have r1 : u4.cell? ⟨w.heap.size, 1, none⟩ = some (.int .i64 0) := (own_cell NR.out).trans rfl
    have y1 : u4.frozen? ⟨w.heap.size, 1, none⟩ = false := own_free NR.out
    have z1 : u4.cell? ⟨w.heap.size + 1, 1, none⟩ = some (.int .i64 v1) := (own_cell NS.out).trans rfl
    have r2 : u4.cell? ⟨w.heap.size, 2, none⟩ = some (.int .i64 0) := (own_cell NR.out).trans rfl
    have y2 : u4.frozen? ⟨w.heap.size, 2, none⟩ = false := own_free NR.out
    have z2 : u4.cell? ⟨w.heap.size + 1, 2, none⟩ = some (.int .i64 v2) := (own_cell NS.out).trans rfl
    have r3 : u4.cell? ⟨w.heap.size, 3, none⟩ = some (.int .i64 0) := (own_cell NR.out).trans rfl
    have y3 : u4.frozen? ⟨w.heap.size, 3, none⟩ = false := own_free NR.out
    have z3 : u4.cell? ⟨w.heap.size + 1, 3, none⟩ = some (.int .i64 v3) := (own_cell NS.out).trans rfl
    have r4 : u4.cell? ⟨w.heap.size, 4, none⟩ = some (.int .i64 0) := (own_cell NR.out).trans rfl
    have y4 : u4.frozen? ⟨w.heap.size, 4, none⟩ = false := own_free NR.out
    have r5 : u4.cell? ⟨w.heap.size, 5, none⟩ = some (.complex .f64 0 0) := (own_cell NR.out).trans rfl
    have y5 : u4.frozen? ⟨w.heap.size, 5, none⟩ = false := own_free NR.out
    have z5 : u4.cell? ⟨w.heap.size + 1, 5, none⟩ = some (.complex .f64 0 0) := (own_cell NS.out).trans rfl
    replace G := Lib.hid (G.out.trans hg); clear hg
    replace S := Lib.hid hs; clear hs
    have d4 : u4.cell? ⟨w.heap.size + 1, 4, none⟩ = some (.int .i64 0) := (own_cell NS.out).trans rfl
    have f4 : u4.frozen? ⟨w.heap.size + 1, 4, none⟩ = false := own_free NS.out
    have hG : w.grownBy (u4.setCell ⟨w.heap.size + 1, 4, none⟩ (.int .i64 v4)) (some B) := (grown_own G.out (a := ⟨w.heap.size + 1, 4, none⟩) (by simp) _)
    have hS : St N B M ((w.heap.size + 1) :: w.heap.size :: Av) L (n + 1) [] sc (u4.setCell ⟨w.heap.size + 1, 4, none⟩ (.int .i64 v4)) := (S.out.set (a := ⟨w.heap.size + 1, 4, none⟩) (by simp) _)
    have hNR : (u4.setCell ⟨w.heap.size + 1, 4, none⟩ (.int .i64 v4)).heap[w.heap.size]? = some (.cells #[.int .i64 0, .int .i64 0, .int .i64 0, .int .i64 0, .int .i64 0, .complex .f64 0 0] 57) := (own_other NR.out (by omega) _)
    have hNS : (u4.setCell ⟨w.heap.size + 1, 4, none⟩ (.int .i64 v4)).heap[w.heap.size + 1]? = some (.cells #[.int .i64 v0, .int .i64 v1, .int .i64 v2, .int .i64 v3, .int .i64 v4, .complex .f64 0 0] 57) := (own_set NS.out (.int .i64 v4))
    replace G := Lib.hid hG; replace S := Lib.hid hS; replace NR := Lib.hid hNR; replace NS := Lib.hid hNS; clear hG hS hNR hNS
    clear H0 H1 H2 H3 H4 HB HB1 hn hn2 he
    go_wp2_with fail
    have hN : (((((((u4.setCell ⟨w.heap.size + 1, 4, none⟩ (.int .i64 v4)).setCell ⟨w.heap.size, 0, none⟩ (.int .i64 v0)).setCell ⟨w.heap.size, 1, none⟩ (.int .i64 v1)).setCell ⟨w.heap.size, 2, none⟩ (.int .i64 v2)).setCell ⟨w.heap.size, 3, none⟩ (.int .i64 v3)).setCell ⟨w.heap.size, 4, none⟩ (.int .i64 v4)).setCell ⟨w.heap.size, 5, none⟩ (.complex .f64 0 0)).heap[w.heap.size]? = some (.cells #[.int .i64 v0, .int .i64 v1, .int .i64 v2, .int .i64 v3, .int .i64 v4, .complex .f64 0 0] 57) := (own_set (own_set (own_set (own_set (own_set (own_set NR.out (.int .i64 v0)) (.int .i64 v1)) (.int .i64 v2)) (.int .i64 v3)) (.int .i64 v4)) (.complex .f64 0 0))
    have hG : w.grownBy (((((((u4.setCell ⟨w.heap.size + 1, 4, none⟩ (.int .i64 v4)).setCell ⟨w.heap.size, 0, none⟩ (.int .i64 v0)).setCell ⟨w.heap.size, 1, none⟩ (.int .i64 v1)).setCell ⟨w.heap.size, 2, none⟩ (.int .i64 v2)).setCell ⟨w.heap.size, 3, none⟩ (.int .i64 v3)).setCell ⟨w.heap.size, 4, none⟩ (.int .i64 v4)).setCell ⟨w.heap.size, 5, none⟩ (.complex .f64 0 0)) (some B) := (grown_own (grown_own (grown_own (grown_own (grown_own (grown_own G.out (a := ⟨w.heap.size, 0, none⟩) (Nat.le_refl _) _) (a := ⟨w.heap.size, 1, none⟩) (Nat.le_refl _) _) (a := ⟨w.heap.size, 2, none⟩) (Nat.le_refl _) _) (a := ⟨w.heap.size, 3, none⟩) (Nat.le_refl _) _) (a := ⟨w.heap.size, 4, none⟩) (Nat.le_refl _) _) (a := ⟨w.heap.size, 5, none⟩) (Nat.le_refl _) _)
    have hS : St N B M Av L (n + 1) [] sc (((((((u4.setCell ⟨w.heap.size + 1, 4, none⟩ (.int .i64 v4)).setCell ⟨w.heap.size, 0, none⟩ (.int .i64 v0)).setCell ⟨w.heap.size, 1, none⟩ (.int .i64 v1)).setCell ⟨w.heap.size, 2, none⟩ (.int .i64 v2)).setCell ⟨w.heap.size, 3, none⟩ (.int .i64 v3)).setCell ⟨w.heap.size, 4, none⟩ (.int .i64 v4)).setCell ⟨w.heap.size, 5, none⟩ (.complex .f64 0 0)) := ((((((S.out.set (a := ⟨w.heap.size, 0, none⟩) (by simp) _).set (a := ⟨w.heap.size, 1, none⟩) (by simp) _).set (a := ⟨w.heap.size, 2, none⟩) (by simp) _).set (a := ⟨w.heap.size, 3, none⟩) (by simp) _).set (a := ⟨w.heap.size, 4, none⟩) (by simp) _).set (a := ⟨w.heap.size, 5, none⟩) (by simp) _).drop.drop
    clear r0 y0 r1 y1 r2 y2 r3 y3 r4 y4 r5 y5 z0 z1 z2 z3 z5 d4 f4
    generalize (((((((u4.setCell ⟨w.heap.size + 1, 4, none⟩ (.int .i64 v4)).setCell ⟨w.heap.size, 0, none⟩ (.int .i64 v0)).setCell ⟨w.heap.size, 1, none⟩ (.int .i64 v1)).setCell ⟨w.heap.size, 2, none⟩ (.int .i64 v2)).setCell ⟨w.heap.size, 3, none⟩ (.int .i64 v3)).setCell ⟨w.heap.size, 4, none⟩ (.int .i64 v4)).setCell ⟨w.heap.size, 5, none⟩ (.complex .f64 0 0)) = W at *
    have e0 : W.cell? ⟨w.heap.size, 0, none⟩ = some (.int .i64 v0) := (own_cell hN).trans rfl
    have e1 : W.cell? ⟨w.heap.size, 1, none⟩ = some (.int .i64 v1) := (own_cell hN).trans rfl
    have e2 : W.cell? ⟨w.heap.size, 2, none⟩ = some (.int .i64 v2) := (own_cell hN).trans rfl
    have e3 : W.cell? ⟨w.heap.size, 3, none⟩ = some (.int .i64 v3) := (own_cell hN).trans rfl
    have e4 : W.cell? ⟨w.heap.size, 4, none⟩ = some (.int .i64 v4) := (own_cell hN).trans rfl
    have e5 : W.cell? ⟨w.heap.size, 5, none⟩ = some (.complex .f64 0 0) := (own_cell hN).trans rfl
    refine bodyPost_ret (v := .agg #[.int .i64 v0, .int .i64 v1, .int .i64 v2, .int .i64 v3, .int .i64 v4, .complex .f64 0 0]) (by simp [results, Tryz.results52, go_sem, e0, e1, e2, e3, e4, e5]) rfl ?_
    exact ⟨hG, .inl ⟨rfl, rfl, hS⟩⟩
  · rw [twoE_no _ he]
    have H0 := Lib.hid fun Av w h => ((h0 Av w h).mono fun _ _ h => res_no h he); clear h0
    generalize nextE L n ⟨#[115, 116, 111, 112]⟩ 5 = er at *
    generalize Value.agg _ = v
    clear hw hl
    go_enter Tryz.func52, Tryz.ntmps52
    go_wp2_with fail
    refine (H0.out _ _ ((HS0.out.fresh _).fresh _)).mono ?_
    rintro e w1 ⟨rfl, hg1⟩
    go_wp2_with fail
    exact ⟨rfl, (grown_of (((Below.refl _ _).alloc (Nat.le_refl _) _).alloc (by simp) _) _).trans hg1, .inr ⟨he, rfl⟩⟩
set_option maxHeartbeats 2000000 in
theorem stop_yes (N B M : Nat) (Av : List Nat) (L : List ByteArray) (n : Nat) (sc : Int) (ps : List ByteArray) (w : World) (hn : n ≤ 1000000) (hl : ∀ s ∈ L, s.size ≤ 1000000) (hn2 : L.length ≤ 1000000) (h : St N B M Av L n ps sc w) :
    Calls Tryz.prog 52 #[.pointer (some ⟨B, 0, none⟩), .bool true] w (Res N B M Av L (n + 1) [] sc w (stopE L n sc true) (stopV L n sc true)) := by
  have h0 : ∀ Av w, St N B M Av L n ps sc w → Calls _ _ _ w (Res _ _ _ _ _ _ _ _ w _ _) := fun Av w h => next_any N B M Av L n sc ps ⟨#[115, 116, 111, 112]⟩ 7 w hn hl hn2 (by decide) h
  have HS0 := Lib.hid h; clear h
  have hB : B ≠ w.heap.size := Nat.ne_of_lt HS0.out.lt
  have HB := Lib.hid hB; clear hB
  have hB1 : B ≠ w.heap.size + 1 := by have := HS0.out.lt; omega
  have HB1 := Lib.hid hB1; clear hB1
  have hw := nextW_size (n := n) hl
  unfold stopE stopV stopS stopC wAt
  simp only [if_true]
  by_cases he : nextE L n ⟨#[115, 116, 111, 112]⟩ 7 = 0
  · obtain ⟨x, y, p, q, r, s, t, hp⟩ := len7 (next_words he)
    rw [he] at h0
    rw [he, twoE_ok]
    rw [hp] at h0 hw ⊢
    have hsx : x.size ≤ 1000000 := hw x (by simp)
    have hsy : y.size ≤ 1000000 := hw y (by simp)
    have hsp : p.size ≤ 1000000 := hw p (by simp)
    have hsq : q.size ≤ 1000000 := hw q (by simp)
    have hsr : r.size ≤ 1000000 := hw r (by simp)
    have hss : s.size ≤ 1000000 := hw s (by simp)
    have hst : t.size ≤ 1000000 := hw t (by simp)
    have hx : ∀ Av w1, St N B M Av L (n + 1) [x, y, p, q, r, s, t] sc w1 → _ := fun Av w1 h => spot_any N B M Av L (n + 1) sc x y [p, q, r, s, t] w1 (by simp) (by omega) (by omega) h
    have h1 : ∀ Av w1, St N B M Av L (n + 1) [p, q, r, s, t] sc w1 → _ := fun Av w1 h => load_any N B M Av L (n + 1) sc p q [r, s, t] w1 (by simp) (by omega) (by omega) h
    have h2 : ∀ Av w1, St N B M Av L (n + 1) [r, s, t] sc w1 → _ := fun Av w1 h => decimal_res (w := w1) sc (by simp) (by omega) h
    have h3 : ∀ Av w1, St N B M Av L (n + 1) [s, t] sc w1 → _ := fun Av w1 h => decimal_res (w := w1) sc (by simp) (by omega) h
    have h4 : ∀ Av w1, St N B M Av L (n + 1) [t] sc w1 → _ := fun Av w1 h => decimal_res (w := w1) sc (by simp) (by omega) h
    simp only [List.getD_cons_zero, List.getD_cons_succ] at *
    unfold tailE
    change ∀ Av w1, St N B M Av L (n + 1) [x, y, p, q, r, s, t] sc w1 → Calls _ _ _ _ (Res N B M Av L (n + 1) [p, q, r, s, t] sc w1 (spotE x y) _) at hx
    change ∀ Av w1, St N B M Av L (n + 1) [p, q, r, s, t] sc w1 → Calls _ _ _ _ (Res N B M Av L (n + 1) [r, s, t] sc w1 (loadE p q) _) at h1
    generalize spotE x y = ex at *
    generalize Spot.wd (smallV x.data.toList 16777216) = vx at *
    generalize Spot.wd (smallV y.data.toList 16777216) = vy at *
    generalize loadE p q = e1 at *
    generalize smallV p.data.toList 1000 = v0 at *
    generalize smallV q.data.toList 1000 = v1 at *
    generalize readE r.data.toList sc = e2 at *
    generalize readV r.data.toList sc = v2 at *
    generalize readE s.data.toList sc = e3 at *
    generalize readV s.data.toList sc = v3 at *
    generalize readE t.data.toList sc = e4 at *
    generalize readV t.data.toList sc = v4 at *
    have H0 := Lib.hid fun Av w h => ((h0 Av w h).mono fun _ _ h => res_yes h); clear h0
    have HX := Lib.hid hx; clear hx
    have H1 := Lib.hid h1; clear h1
    have H2 := Lib.hid h2; clear h2
    have H3 := Lib.hid h3; clear h3
    have H4 := Lib.hid h4; clear h4
    clear hw hl hp hsx hsy hsp hsq hsr hss hst
    go_enter Tryz.func52, Tryz.ntmps52
    go_wp2_with fail
    have s00 := (HS0.out.fresh (.cells #[.int .i64 0, .int .i64 0, .int .i64 0, .int .i64 0, .int .i64 0, .complex .f64 0 0] 57)).fresh (.cells #[.int .i64 0, .int .i64 0, .int .i64 0, .int .i64 0, .int .i64 0, .complex .f64 0 0] 57)
    rw [World.size_alloc] at s00
    have n00 : ((w.alloc (.cells #[.int .i64 0, .int .i64 0, .int .i64 0, .int .i64 0, .int .i64 0, .complex .f64 0 0] 57)).alloc (.cells #[.int .i64 0, .int .i64 0, .int .i64 0, .int .i64 0, .int .i64 0, .complex .f64 0 0] 57)).heap[w.heap.size]? = some (.cells #[.int .i64 0, .int .i64 0, .int .i64 0, .int .i64 0, .int .i64 0, .complex .f64 0 0] 57) := (Below.heap_alloc _ _ _ (by simp)).trans (World.alloc_heap_new w _)
    have n01 : ((w.alloc (.cells #[.int .i64 0, .int .i64 0, .int .i64 0, .int .i64 0, .int .i64 0, .complex .f64 0 0] 57)).alloc (.cells #[.int .i64 0, .int .i64 0, .int .i64 0, .int .i64 0, .int .i64 0, .complex .f64 0 0] 57)).heap[w.heap.size + 1]? = some (.cells #[.int .i64 0, .int .i64 0, .int .i64 0, .int .i64 0, .int .i64 0, .complex .f64 0 0] 57) := by
      have := World.alloc_heap_new (w.alloc (.cells #[.int .i64 0, .int .i64 0, .int .i64 0, .int .i64 0, .int .i64 0, .complex .f64 0 0] 57)) (.cells #[.int .i64 0, .int .i64 0, .int .i64 0, .int .i64 0, .int .i64 0, .complex .f64 0 0] 57)
      rwa [World.size_alloc] at this
    have B0 : Below w.heap.size w ((w.alloc (.cells #[.int .i64 0, .int .i64 0, .int .i64 0, .int .i64 0, .int .i64 0, .complex .f64 0 0] 57)).alloc (.cells #[.int .i64 0, .int .i64 0, .int .i64 0, .int .i64 0, .int .i64 0, .complex .f64 0 0] 57)) := ((Below.refl _ _).alloc (Nat.le_refl _) _).alloc (by simp) _
    generalize (w.alloc (.cells #[.int .i64 0, .int .i64 0, .int .i64 0, .int .i64 0, .int .i64 0, .complex .f64 0 0] 57)).alloc (.cells #[.int .i64 0, .int .i64 0, .int .i64 0, .int .i64 0, .int .i64 0, .complex .f64 0 0] 57) = w0 at *
    refine (H0.out _ _ s00).mono ?_
    rintro e w1 ⟨rfl, hg1, hs1⟩
    have c3 := hs1.c3
    have NR := Lib.hid (own_kept hg1 HB.out n00); clear n00
    have NS := Lib.hid (own_kept hg1 HB1.out n01); clear n01
    have G := Lib.hid ((grown_of B0 _).trans hg1); clear hg1 B0 s00
    have S := Lib.hid hs1; clear hs1
    have f0 : w1.frozen? ⟨w.heap.size + 1, 0, none⟩ = false := own_free NS.out
    clear f0
    go_wp2_with fail
    refine (HX.out _ _ S.out).mono ?_
    rintro e u1 ⟨hg, ho⟩
    rcases ho.symm with ⟨heX, rfl⟩ | ⟨heX, rfl, hs⟩
    · rw [twoE_no _ heX]
      clear c3; go_wp2_with fail
      exact ⟨rfl, G.out.trans hg, .inr ⟨heX, rfl⟩⟩
    clear ho; subst heX
    rw [twoE_ok]
    clear c3
    replace NR := Lib.hid (own_kept hg HB.out NR.out)
    replace NS := Lib.hid (own_kept hg HB1.out NS.out)
    replace G := Lib.hid (G.out.trans hg); clear hg
    replace S := Lib.hid hs; clear hs
    have d5 : u1.cell? ⟨w.heap.size + 1, 5, none⟩ = some (.complex .f64 0 0) := (own_cell NS.out).trans rfl
    have f5 : u1.frozen? ⟨w.heap.size + 1, 5, none⟩ = false := own_free NS.out
    have hG : w.grownBy (u1.setCell ⟨w.heap.size + 1, 5, none⟩ (.complex .f64 vx vy)) (some B) := (grown_own G.out (a := ⟨w.heap.size + 1, 5, none⟩) (by simp) _)
    have hS : St N B M ((w.heap.size + 1) :: w.heap.size :: Av) L (n + 1) [p, q, r, s, t] sc (u1.setCell ⟨w.heap.size + 1, 5, none⟩ (.complex .f64 vx vy)) := (S.out.set (a := ⟨w.heap.size + 1, 5, none⟩) (by simp) _)
    have hNR : (u1.setCell ⟨w.heap.size + 1, 5, none⟩ (.complex .f64 vx vy)).heap[w.heap.size]? = some (.cells #[.int .i64 0, .int .i64 0, .int .i64 0, .int .i64 0, .int .i64 0, .complex .f64 0 0] 57) := (own_other NR.out (by omega) _)
    have hNS : (u1.setCell ⟨w.heap.size + 1, 5, none⟩ (.complex .f64 vx vy)).heap[w.heap.size + 1]? = some (.cells #[.int .i64 0, .int .i64 0, .int .i64 0, .int .i64 0, .int .i64 0, .complex .f64 vx vy] 57) := (own_set NS.out (.complex .f64 vx vy))
    replace G := Lib.hid hG; replace S := Lib.hid hS; replace NR := Lib.hid hNR; replace NS := Lib.hid hNS; clear hG hS hNR hNS
    have c3 := S.out.c3
    go_wp2_with fail
    refine (H1.out _ _ S.out).mono ?_
    rintro e u2 ⟨hg, ho⟩
    rcases ho.symm with ⟨he1, rfl⟩ | ⟨he1, rfl, hs⟩
    · rw [twoE_no _ he1]
      clear c3; go_wp2_with fail
      exact ⟨rfl, G.out.trans hg, .inr ⟨he1, rfl⟩⟩
    clear ho; subst he1
    rw [twoE_ok]
    clear c3
    replace NR := Lib.hid (own_kept hg HB.out NR.out)
    replace NS := Lib.hid (own_kept hg HB1.out NS.out)
    replace G := Lib.hid (G.out.trans hg); clear hg
    replace S := Lib.hid hs; clear hs
    have d0 : u2.cell? ⟨w.heap.size + 1, 0, none⟩ = some (.int .i64 0) := (own_cell NS.out).trans rfl
    have f0 : u2.frozen? ⟨w.heap.size + 1, 0, none⟩ = false := own_free NS.out
    have d1 : u2.cell? ⟨w.heap.size + 1, 1, none⟩ = some (.int .i64 0) := (own_cell NS.out).trans rfl
    have f1 : u2.frozen? ⟨w.heap.size + 1, 1, none⟩ = false := own_free NS.out
    have hG : w.grownBy ((u2.setCell ⟨w.heap.size + 1, 0, none⟩ (.int .i64 v0)).setCell ⟨w.heap.size + 1, 1, none⟩ (.int .i64 v1)) (some B) := (grown_own (grown_own G.out (a := ⟨w.heap.size + 1, 0, none⟩) (by simp) _) (a := ⟨w.heap.size + 1, 1, none⟩) (by simp) _)
    have hS : St N B M ((w.heap.size + 1) :: w.heap.size :: Av) L (n + 1) [r, s, t] sc ((u2.setCell ⟨w.heap.size + 1, 0, none⟩ (.int .i64 v0)).setCell ⟨w.heap.size + 1, 1, none⟩ (.int .i64 v1)) := ((S.out.set (a := ⟨w.heap.size + 1, 0, none⟩) (by simp) _).set (a := ⟨w.heap.size + 1, 1, none⟩) (by simp) _)
    have hNR : ((u2.setCell ⟨w.heap.size + 1, 0, none⟩ (.int .i64 v0)).setCell ⟨w.heap.size + 1, 1, none⟩ (.int .i64 v1)).heap[w.heap.size]? = some (.cells #[.int .i64 0, .int .i64 0, .int .i64 0, .int .i64 0, .int .i64 0, .complex .f64 0 0] 57) := (own_other (own_other NR.out (by omega) _) (by omega) _)
    have hNS : ((u2.setCell ⟨w.heap.size + 1, 0, none⟩ (.int .i64 v0)).setCell ⟨w.heap.size + 1, 1, none⟩ (.int .i64 v1)).heap[w.heap.size + 1]? = some (.cells #[.int .i64 v0, .int .i64 v1, .int .i64 0, .int .i64 0, .int .i64 0, .complex .f64 vx vy] 57) := (own_set (own_set NS.out (.int .i64 v0)) (.int .i64 v1))
    replace G := Lib.hid hG; replace S := Lib.hid hS; replace NR := Lib.hid hNR; replace NS := Lib.hid hNS; clear hG hS hNR hNS
    have c3 := S.out.c3
    go_wp2_with fail
    refine (H2.out _ _ S.out).mono ?_
    rintro e u3 ⟨hg, ho⟩
    rcases ho.symm with ⟨he2, rfl⟩ | ⟨he2, rfl, hs⟩
    · rw [twoE_no _ he2]
      clear c3; go_wp2_with fail
      exact ⟨rfl, G.out.trans hg, .inr ⟨he2, rfl⟩⟩
    clear ho; subst he2
    rw [twoE_ok]
    clear c3
    replace NR := Lib.hid (own_kept hg HB.out NR.out)
    replace NS := Lib.hid (own_kept hg HB1.out NS.out)
    replace G := Lib.hid (G.out.trans hg); clear hg
    replace S := Lib.hid hs; clear hs
    have d2 : u3.cell? ⟨w.heap.size + 1, 2, none⟩ = some (.int .i64 0) := (own_cell NS.out).trans rfl
    have f2 : u3.frozen? ⟨w.heap.size + 1, 2, none⟩ = false := own_free NS.out
    have hG : w.grownBy (u3.setCell ⟨w.heap.size + 1, 2, none⟩ (.int .i64 v2)) (some B) := (grown_own G.out (a := ⟨w.heap.size + 1, 2, none⟩) (by simp) _)
    have hS : St N B M ((w.heap.size + 1) :: w.heap.size :: Av) L (n + 1) [s, t] sc (u3.setCell ⟨w.heap.size + 1, 2, none⟩ (.int .i64 v2)) := (S.out.set (a := ⟨w.heap.size + 1, 2, none⟩) (by simp) _)
    have hNR : (u3.setCell ⟨w.heap.size + 1, 2, none⟩ (.int .i64 v2)).heap[w.heap.size]? = some (.cells #[.int .i64 0, .int .i64 0, .int .i64 0, .int .i64 0, .int .i64 0, .complex .f64 0 0] 57) := (own_other NR.out (by omega) _)
    have hNS : (u3.setCell ⟨w.heap.size + 1, 2, none⟩ (.int .i64 v2)).heap[w.heap.size + 1]? = some (.cells #[.int .i64 v0, .int .i64 v1, .int .i64 v2, .int .i64 0, .int .i64 0, .complex .f64 vx vy] 57) := (own_set NS.out (.int .i64 v2))
    replace G := Lib.hid hG; replace S := Lib.hid hS; replace NR := Lib.hid hNR; replace NS := Lib.hid hNS; clear hG hS hNR hNS
    have c3 := S.out.c3
    go_wp2_with fail
    refine (H3.out _ _ S.out).mono ?_
    rintro e u4 ⟨hg, ho⟩
    rcases ho.symm with ⟨he3, rfl⟩ | ⟨he3, rfl, hs⟩
    · rw [twoE_no _ he3]
      clear c3; go_wp2_with fail
      exact ⟨rfl, G.out.trans hg, .inr ⟨he3, rfl⟩⟩
    clear ho; subst he3
    rw [twoE_ok]
    clear c3
    replace NR := Lib.hid (own_kept hg HB.out NR.out)
    replace NS := Lib.hid (own_kept hg HB1.out NS.out)
    replace G := Lib.hid (G.out.trans hg); clear hg
    replace S := Lib.hid hs; clear hs
    have d3 : u4.cell? ⟨w.heap.size + 1, 3, none⟩ = some (.int .i64 0) := (own_cell NS.out).trans rfl
    have f3 : u4.frozen? ⟨w.heap.size + 1, 3, none⟩ = false := own_free NS.out
    have hG : w.grownBy (u4.setCell ⟨w.heap.size + 1, 3, none⟩ (.int .i64 v3)) (some B) := (grown_own G.out (a := ⟨w.heap.size + 1, 3, none⟩) (by simp) _)
    have hS : St N B M ((w.heap.size + 1) :: w.heap.size :: Av) L (n + 1) [t] sc (u4.setCell ⟨w.heap.size + 1, 3, none⟩ (.int .i64 v3)) := (S.out.set (a := ⟨w.heap.size + 1, 3, none⟩) (by simp) _)
    have hNR : (u4.setCell ⟨w.heap.size + 1, 3, none⟩ (.int .i64 v3)).heap[w.heap.size]? = some (.cells #[.int .i64 0, .int .i64 0, .int .i64 0, .int .i64 0, .int .i64 0, .complex .f64 0 0] 57) := (own_other NR.out (by omega) _)
    have hNS : (u4.setCell ⟨w.heap.size + 1, 3, none⟩ (.int .i64 v3)).heap[w.heap.size + 1]? = some (.cells #[.int .i64 v0, .int .i64 v1, .int .i64 v2, .int .i64 v3, .int .i64 0, .complex .f64 vx vy] 57) := (own_set NS.out (.int .i64 v3))
    replace G := Lib.hid hG; replace S := Lib.hid hS; replace NR := Lib.hid hNR; replace NS := Lib.hid hNS; clear hG hS hNR hNS
    have c3 := S.out.c3
    go_wp2_with fail
    refine (H4.out _ _ S.out).mono ?_
    rintro e u5 ⟨hg, ho⟩
    rcases ho.symm with ⟨he4, rfl⟩ | ⟨he4, rfl, hs⟩
    · clear c3; go_wp2_with fail
      exact ⟨rfl, G.out.trans hg, .inr ⟨he4, rfl⟩⟩
    clear ho; subst he4
    clear c3
    replace NR := Lib.hid (own_kept hg HB.out NR.out)
    replace NS := Lib.hid (own_kept hg HB1.out NS.out)
    have r0 : u5.cell? ⟨w.heap.size, 0, none⟩ = some (.int .i64 0) := (own_cell NR.out).trans rfl
    have y0 : u5.frozen? ⟨w.heap.size, 0, none⟩ = false := own_free NR.out
    have z0 : u5.cell? ⟨w.heap.size + 1, 0, none⟩ = some (.int .i64 v0) := (own_cell NS.out).trans rfl
    have r1 : u5.cell? ⟨w.heap.size, 1, none⟩ = some (.int .i64 0) := (own_cell NR.out).trans rfl
    have y1 : u5.frozen? ⟨w.heap.size, 1, none⟩ = false := own_free NR.out
    have z1 : u5.cell? ⟨w.heap.size + 1, 1, none⟩ = some (.int .i64 v1) := (own_cell NS.out).trans rfl
    have r2 : u5.cell? ⟨w.heap.size, 2, none⟩ = some (.int .i64 0) := (own_cell NR.out).trans rfl
    have y2 : u5.frozen? ⟨w.heap.size, 2, none⟩ = false := own_free NR.out
    have z2 : u5.cell? ⟨w.heap.size + 1, 2, none⟩ = some (.int .i64 v2) := (own_cell NS.out).trans rfl
    have r3 : u5.cell? ⟨w.heap.size, 3, none⟩ = some (.int .i64 0) := (own_cell NR.out).trans rfl
    have y3 : u5.frozen? ⟨w.heap.size, 3, none⟩ = false := own_free NR.out
    have z3 : u5.cell? ⟨w.heap.size + 1, 3, none⟩ = some (.int .i64 v3) := (own_cell NS.out).trans rfl
    have r4 : u5.cell? ⟨w.heap.size, 4, none⟩ = some (.int .i64 0) := (own_cell NR.out).trans rfl
    have y4 : u5.frozen? ⟨w.heap.size, 4, none⟩ = false := own_free NR.out
    have r5 : u5.cell? ⟨w.heap.size, 5, none⟩ = some (.complex .f64 0 0) := (own_cell NR.out).trans rfl
    have y5 : u5.frozen? ⟨w.heap.size, 5, none⟩ = false := own_free NR.out
    have z5 : u5.cell? ⟨w.heap.size + 1, 5, none⟩ = some (.complex .f64 vx vy) := (own_cell NS.out).trans rfl
    replace G := Lib.hid (G.out.trans hg); clear hg
    replace S := Lib.hid hs; clear hs
    have d4 : u5.cell? ⟨w.heap.size + 1, 4, none⟩ = some (.int .i64 0) := (own_cell NS.out).trans rfl
    have f4 : u5.frozen? ⟨w.heap.size + 1, 4, none⟩ = false := own_free NS.out
    have hG : w.grownBy (u5.setCell ⟨w.heap.size + 1, 4, none⟩ (.int .i64 v4)) (some B) := (grown_own G.out (a := ⟨w.heap.size + 1, 4, none⟩) (by simp) _)
    have hS : St N B M ((w.heap.size + 1) :: w.heap.size :: Av) L (n + 1) [] sc (u5.setCell ⟨w.heap.size + 1, 4, none⟩ (.int .i64 v4)) := (S.out.set (a := ⟨w.heap.size + 1, 4, none⟩) (by simp) _)
    have hNR : (u5.setCell ⟨w.heap.size + 1, 4, none⟩ (.int .i64 v4)).heap[w.heap.size]? = some (.cells #[.int .i64 0, .int .i64 0, .int .i64 0, .int .i64 0, .int .i64 0, .complex .f64 0 0] 57) := (own_other NR.out (by omega) _)
    have hNS : (u5.setCell ⟨w.heap.size + 1, 4, none⟩ (.int .i64 v4)).heap[w.heap.size + 1]? = some (.cells #[.int .i64 v0, .int .i64 v1, .int .i64 v2, .int .i64 v3, .int .i64 v4, .complex .f64 vx vy] 57) := (own_set NS.out (.int .i64 v4))
    replace G := Lib.hid hG; replace S := Lib.hid hS; replace NR := Lib.hid hNR; replace NS := Lib.hid hNS; clear hG hS hNR hNS
    clear H0 H1 H2 H3 H4 HB HB1 hn hn2 he
    go_wp2_with fail
    have hN : (((((((u5.setCell ⟨w.heap.size + 1, 4, none⟩ (.int .i64 v4)).setCell ⟨w.heap.size, 0, none⟩ (.int .i64 v0)).setCell ⟨w.heap.size, 1, none⟩ (.int .i64 v1)).setCell ⟨w.heap.size, 2, none⟩ (.int .i64 v2)).setCell ⟨w.heap.size, 3, none⟩ (.int .i64 v3)).setCell ⟨w.heap.size, 4, none⟩ (.int .i64 v4)).setCell ⟨w.heap.size, 5, none⟩ (.complex .f64 vx vy)).heap[w.heap.size]? = some (.cells #[.int .i64 v0, .int .i64 v1, .int .i64 v2, .int .i64 v3, .int .i64 v4, .complex .f64 vx vy] 57) := (own_set (own_set (own_set (own_set (own_set (own_set NR.out (.int .i64 v0)) (.int .i64 v1)) (.int .i64 v2)) (.int .i64 v3)) (.int .i64 v4)) (.complex .f64 vx vy))
    have hG : w.grownBy (((((((u5.setCell ⟨w.heap.size + 1, 4, none⟩ (.int .i64 v4)).setCell ⟨w.heap.size, 0, none⟩ (.int .i64 v0)).setCell ⟨w.heap.size, 1, none⟩ (.int .i64 v1)).setCell ⟨w.heap.size, 2, none⟩ (.int .i64 v2)).setCell ⟨w.heap.size, 3, none⟩ (.int .i64 v3)).setCell ⟨w.heap.size, 4, none⟩ (.int .i64 v4)).setCell ⟨w.heap.size, 5, none⟩ (.complex .f64 vx vy)) (some B) := (grown_own (grown_own (grown_own (grown_own (grown_own (grown_own G.out (a := ⟨w.heap.size, 0, none⟩) (Nat.le_refl _) _) (a := ⟨w.heap.size, 1, none⟩) (Nat.le_refl _) _) (a := ⟨w.heap.size, 2, none⟩) (Nat.le_refl _) _) (a := ⟨w.heap.size, 3, none⟩) (Nat.le_refl _) _) (a := ⟨w.heap.size, 4, none⟩) (Nat.le_refl _) _) (a := ⟨w.heap.size, 5, none⟩) (Nat.le_refl _) _)
    have hS : St N B M Av L (n + 1) [] sc (((((((u5.setCell ⟨w.heap.size + 1, 4, none⟩ (.int .i64 v4)).setCell ⟨w.heap.size, 0, none⟩ (.int .i64 v0)).setCell ⟨w.heap.size, 1, none⟩ (.int .i64 v1)).setCell ⟨w.heap.size, 2, none⟩ (.int .i64 v2)).setCell ⟨w.heap.size, 3, none⟩ (.int .i64 v3)).setCell ⟨w.heap.size, 4, none⟩ (.int .i64 v4)).setCell ⟨w.heap.size, 5, none⟩ (.complex .f64 vx vy)) := ((((((S.out.set (a := ⟨w.heap.size, 0, none⟩) (by simp) _).set (a := ⟨w.heap.size, 1, none⟩) (by simp) _).set (a := ⟨w.heap.size, 2, none⟩) (by simp) _).set (a := ⟨w.heap.size, 3, none⟩) (by simp) _).set (a := ⟨w.heap.size, 4, none⟩) (by simp) _).set (a := ⟨w.heap.size, 5, none⟩) (by simp) _).drop.drop
    clear r0 y0 r1 y1 r2 y2 r3 y3 r4 y4 r5 y5 z0 z1 z2 z3 z5 d4 f4
    generalize (((((((u5.setCell ⟨w.heap.size + 1, 4, none⟩ (.int .i64 v4)).setCell ⟨w.heap.size, 0, none⟩ (.int .i64 v0)).setCell ⟨w.heap.size, 1, none⟩ (.int .i64 v1)).setCell ⟨w.heap.size, 2, none⟩ (.int .i64 v2)).setCell ⟨w.heap.size, 3, none⟩ (.int .i64 v3)).setCell ⟨w.heap.size, 4, none⟩ (.int .i64 v4)).setCell ⟨w.heap.size, 5, none⟩ (.complex .f64 vx vy)) = W at *
    have e0 : W.cell? ⟨w.heap.size, 0, none⟩ = some (.int .i64 v0) := (own_cell hN).trans rfl
    have e1 : W.cell? ⟨w.heap.size, 1, none⟩ = some (.int .i64 v1) := (own_cell hN).trans rfl
    have e2 : W.cell? ⟨w.heap.size, 2, none⟩ = some (.int .i64 v2) := (own_cell hN).trans rfl
    have e3 : W.cell? ⟨w.heap.size, 3, none⟩ = some (.int .i64 v3) := (own_cell hN).trans rfl
    have e4 : W.cell? ⟨w.heap.size, 4, none⟩ = some (.int .i64 v4) := (own_cell hN).trans rfl
    have e5 : W.cell? ⟨w.heap.size, 5, none⟩ = some (.complex .f64 vx vy) := (own_cell hN).trans rfl
    refine bodyPost_ret (v := .agg #[.int .i64 v0, .int .i64 v1, .int .i64 v2, .int .i64 v3, .int .i64 v4, .complex .f64 vx vy]) (by simp [results, Tryz.results52, go_sem, e0, e1, e2, e3, e4, e5]) rfl ?_
    exact ⟨hG, .inl ⟨rfl, rfl, hS⟩⟩
  · rw [twoE_no _ he]
    have H0 := Lib.hid fun Av w h => ((h0 Av w h).mono fun _ _ h => res_no h he); clear h0
    generalize nextE L n ⟨#[115, 116, 111, 112]⟩ 7 = er at *
    generalize Value.agg _ = v
    clear hw hl
    go_enter Tryz.func52, Tryz.ntmps52
    go_wp2_with fail
    refine (H0.out _ _ ((HS0.out.fresh _).fresh _)).mono ?_
    rintro e w1 ⟨rfl, hg1⟩
    go_wp2_with fail
    exact ⟨rfl, (grown_of (((Below.refl _ _).alloc (Nat.le_refl _) _).alloc (by simp) _) _).trans hg1, .inr ⟨he, rfl⟩⟩
end Sheet
end Go.Proofs.YtjmhlabgoegeoaaGreatDoor
