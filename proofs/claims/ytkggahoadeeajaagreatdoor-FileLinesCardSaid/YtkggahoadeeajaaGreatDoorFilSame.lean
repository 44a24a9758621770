/- jitneyref01.SameInts, SameLongs, SameRows and jitneyref22.Same of two plans that hold the same; over the translated program. -/
import Derived.Test.YtkggahoadeeajaaGreatDoorFilA
import Derived.Lib.SmallJoins
import Derived.Deep.RegionHeld3
namespace Go.Proofs.YtkggahoadeeajaaGreatDoor
namespace Fil
open Go Go.RowKit Deci
set_option linter.unusedVariables false
theorem IsRow.draws {w : World} {v : Value} {xs : List Int} (h : IsRow w v xs) (q : Nat) : IsRow (w.drewN q) v xs := h.below (Joins.below_draws _ _ _)
theorem IsRows.draws {w : World} {v : Value} {xs : List (List Int)} (h : IsRows w v xs) (q : Nat) : IsRows (w.drewN q) v xs := h.below (Joins.below_draws _ _ _)
theorem drewN_drewN (w : World) (a b : Nat) : (w.drewN a).drewN b = w.drewN (a + b) := by simp only [World.drewN, Nat.add_assoc]
theorem row_at {w : World} {v : Value} {xs : List Int} (h : IsRow w v xs) : ∃ a cap, v = .slice a xs.length cap ∧ ∀ k, k < xs.length → ∃ g o, a = some ⟨g, o, none⟩ ∧ g < w.heap.size ∧ w.cell? ⟨g, o + k, none⟩ = some (.int .i64 (xs.getD k 0)) := by
  obtain ⟨a, cap, h1, h2, h3⟩ := h
  refine ⟨a, cap, h1, fun k hk => ?_⟩
  rcases h3 with rfl | ⟨g, o, h4, h5, h6⟩
  · simp at hk
  · exact ⟨g, o, h4, h5, by rw [h6 k hk]; simp [hk]⟩
theorem rows_at {w : World} {v : Value} {rs : List (List Int)} (h : IsRows w v rs) : ∃ a cap, v = .slice a rs.length cap ∧ ∀ k, k < rs.length → ∃ g o u, a = some ⟨g, o, none⟩ ∧ g < w.heap.size ∧ w.cell? ⟨g, o + k, none⟩ = some u ∧ IsRow w u (rs.getD k []) := by
  obtain ⟨a, cap, h1, h2, h3⟩ := h
  refine ⟨a, cap, h1, fun k hk => ?_⟩
  rcases h3 with rfl | ⟨g, o, h4, h5, h6⟩
  · simp at hk
  · obtain ⟨u, h7, h8⟩ := h6 k hk
    exact ⟨g, o, u, h4, h5, h7, by rw [show rs.getD k [] = rs[k] by simp [hk]]; exact h8⟩
set_option maxHeartbeats 1000000 in
theorem sameInts_any (v1 v2 : Value) (xs : List Int) (w : World) (hn : xs.length ≤ 1000000) (h1 : IsRow w v1 xs) (h2 : IsRow w v2 xs) :
    Calls Tryz.prog 24 #[v1, v2] w fun e w' => e = .returned (.bool true) ∧ ∃ m, w' = w.drewN m := by
  obtain ⟨a1, c1, rfl, g1⟩ := row_at h1
  obtain ⟨a2, c2, rfl, g2⟩ := row_at h2
  clear h1 h2
  have H1 := Lib.hid g1; clear g1
  have H2 := Lib.hid g2; clear g2
  generalize hl : xs.length = n at *
  clear hl
  go_enter Tryz.func24, Tryz.ntmps24
  go_wp2_with fail
  go_loopw [5] (fun i wr => ∃ k : Nat, k ≤ n ∧ i = .int .i64 k ∧ Hid (∃ q, wr = w.drewN q)) (fun i _ => n - (intOf i).toNat)
  case atStart => exact ⟨0, Nat.zero_le _, rfl, Lib.hid ⟨0, rfl⟩⟩
  case round =>
    obtain ⟨k, hk, rfl, HD⟩ := hrel
    obtain ⟨qq, rfl⟩ := HD.out; clear HD
    by_cases hlt : k < n
    · obtain ⟨b1, o1, rfl, hb1, d1⟩ := H1.out k hlt
      obtain ⟨b2, o2, rfl, hb2, d2⟩ := H2.out k hlt
      have i0 : (0 : Int) ≤ (k : Int) := by omega
      have i1 : (k : Int) < (n : Int) := by omega
      generalize xs.getD k 0 = xk at *
      go_wp2_with fail
      go_quiet (fail)
      clear i0 i1
      go_wp2_with fail
      go_roundw
      case rel => exact ⟨k + 1, by omega, by go_num, Lib.hid ⟨_, rfl⟩⟩
      case measure => simp [intOf]; omega
    · obtain rfl : k = n := by omega
      go_wp2_with fail
      go_ret
      exact ⟨rfl, qq, rfl⟩
set_option maxHeartbeats 1000000 in
theorem sameLongs_any (v1 v2 : Value) (xs : List Int) (w : World) (hn : xs.length ≤ 1000000) (h1 : IsRow w v1 xs) (h2 : IsRow w v2 xs) :
    Calls Tryz.prog 25 #[v1, v2] w fun e w' => e = .returned (.bool true) ∧ ∃ m, w' = w.drewN m := by
  obtain ⟨a1, c1, rfl, g1⟩ := row_at h1
  obtain ⟨a2, c2, rfl, g2⟩ := row_at h2
  clear h1 h2
  have H1 := Lib.hid g1; clear g1
  have H2 := Lib.hid g2; clear g2
  generalize hl : xs.length = n at *
  clear hl
  go_enter Tryz.func25, Tryz.ntmps25
  go_wp2_with fail
  go_loopw [5] (fun i wr => ∃ k : Nat, k ≤ n ∧ i = .int .i64 k ∧ Hid (∃ q, wr = w.drewN q)) (fun i _ => n - (intOf i).toNat)
  case atStart => exact ⟨0, Nat.zero_le _, rfl, Lib.hid ⟨0, rfl⟩⟩
  case round =>
    obtain ⟨k, hk, rfl, HD⟩ := hrel
    obtain ⟨qq, rfl⟩ := HD.out; clear HD
    by_cases hlt : k < n
    · obtain ⟨b1, o1, rfl, hb1, d1⟩ := H1.out k hlt
      obtain ⟨b2, o2, rfl, hb2, d2⟩ := H2.out k hlt
      have i0 : (0 : Int) ≤ (k : Int) := by omega
      have i1 : (k : Int) < (n : Int) := by omega
      generalize xs.getD k 0 = xk at *
      go_wp2_with fail
      go_quiet (fail)
      clear i0 i1
      go_wp2_with fail
      go_roundw
      case rel => exact ⟨k + 1, by omega, by go_num, Lib.hid ⟨_, rfl⟩⟩
      case measure => simp [intOf]; omega
    · obtain rfl : k = n := by omega
      go_wp2_with fail
      go_ret
      exact ⟨rfl, qq, rfl⟩
set_option maxHeartbeats 1000000 in
theorem sameRows_any (v1 v2 : Value) (rs : List (List Int)) (w : World) (hn : rs.length ≤ 1000000) (hr : ∀ r ∈ rs, r.length ≤ 1000000) (h1 : IsRows w v1 rs) (h2 : IsRows w v2 rs) :
    Calls Tryz.prog 23 #[v1, v2] w fun e w' => e = .returned (.bool true) ∧ ∃ m, w' = w.drewN m := by
  obtain ⟨a1, c1, rfl, g1⟩ := rows_at h1
  obtain ⟨a2, c2, rfl, g2⟩ := rows_at h2
  clear h1 h2
  have H1 := Lib.hid g1; clear g1
  have H2 := Lib.hid g2; clear g2
  have HR := Lib.hid hr; clear hr
  generalize hl : rs.length = n at *
  have HL := Lib.hid hl; clear hl
  go_enter Tryz.func23, Tryz.ntmps23
  go_wp2_with fail
  go_loopw [5] (fun i wr => ∃ k : Nat, k ≤ n ∧ i = .int .i64 k ∧ Hid (∃ q, wr = w.drewN q)) (fun i _ => n - (intOf i).toNat)
  case atStart => exact ⟨0, Nat.zero_le _, rfl, Lib.hid ⟨0, rfl⟩⟩
  case round =>
    obtain ⟨k, hk, rfl, HD⟩ := hrel
    obtain ⟨qq, hqq⟩ := HD.out; clear HD
    have HQQ := Lib.hid hqq; clear hqq
    by_cases hlt : k < n
    · have hk2 : k < rs.length := by rw [HL.out]; exact hlt
      obtain ⟨b1, o1, u1, rfl, hb1, d1, r1⟩ := H1.out k hlt
      obtain ⟨b2, o2, u2, rfl, hb2, d2, r2⟩ := H2.out k hlt
      have hrl : (rs.getD k []).length ≤ 1000000 := by rw [show rs.getD k [] = rs[k] by simp [hk2]]; exact HR.out _ (List.getElem_mem hk2)
      have hcall : ∀ q, Calls Tryz.prog 24 #[u1, u2] (wr.drewN q) fun e w' => e = .returned (.bool true) ∧ ∃ m, w' = (wr.drewN q).drewN m :=
        fun q => sameInts_any u1 u2 _ _ hrl (by rw [HQQ.out]; exact (r1.draws qq).draws q) (by rw [HQQ.out]; exact (r2.draws qq).draws q)
      have d1' : wr.cell? ⟨b1, o1 + k, none⟩ = some u1 := by rw [HQQ.out]; exact d1
      have d2' : wr.cell? ⟨b2, o2 + k, none⟩ = some u2 := by rw [HQQ.out]; exact d2
      clear d1 d2
      obtain ⟨e1, f1, rfl⟩ := r1.form
      obtain ⟨e2, f2, rfl⟩ := r2.form
      generalize (rs.getD k []).length = rl at *
      have HC := Lib.hid hcall; clear hcall r1 r2
      have i0 : (0 : Int) ≤ (k : Int) := by omega
      have i1 : (k : Int) < (n : Int) := by omega
      go_wp2_with fail
      go_quiet ((go_at_call 24; exact Calls.quiet_of (HC.out _)))
      clear i0 i1
      go_wp2_with fail
      go_roundw
      case rel => exact ⟨k + 1, by omega, by go_num, Lib.hid (by rw [HQQ.out]; exact ⟨_, by rw [drewN_drewN]⟩)⟩
      case measure => simp [intOf]; omega
    · obtain rfl : k = n := by omega
      go_wp2_with fail
      go_ret
      exact ⟨rfl, qq, HQQ.out⟩
/-- A plan not too long. -/
def PL.Fit (p : PL) : Prop := p.routes.length ≤ 1000000 ∧ p.times.length ≤ 1000000 ∧ p.left.length ≤ 1000000 ∧ (∀ r ∈ p.routes, r.length ≤ 1000000) ∧ ∀ r ∈ p.times, r.length ≤ 1000000
set_option maxHeartbeats 4000000 in
set_option maxRecDepth 100000 in
theorem refSame_any (v1 v2 : Value) (p : PL) (w : World) (hf : p.Fit) (h1 : IsPlan w v1 p) (h2 : IsPlan w v2 p) :
    Calls Tryz.prog 11 #[v1, v2] w fun e w' => e = .returned (.bool true) ∧ Below w.heap.size w w' := by
  obtain ⟨n1, n2, n3, n4, n5⟩ := hf
  obtain ⟨a1, a2, a3, rfl, ha1, ha2, ha3⟩ := h1
  obtain ⟨b1, b2, b3, rfl, hb1, hb2, hb3⟩ := h2
  obtain ⟨a1', a1c, rfl⟩ := ha1.form
  obtain ⟨a3', a3c, rfl⟩ := ha3.form
  obtain ⟨b1', b1c, rfl⟩ := hb1.form
  obtain ⟨b3', b3c, rfl⟩ := hb3.form
  obtain ⟨a2', a2c, rfl, ka⟩ := rows_at ha2
  obtain ⟨b2', b2c, rfl, kb⟩ := rows_at hb2
  obtain ⟨X, hX⟩ : ∃ X, X = w.heap.size := ⟨_, rfl⟩
  obtain ⟨W0, hW0⟩ : ∃ W0, W0 = (w.alloc (.cells #[.slice a1' p.routes.length a1c, .slice a2' p.times.length a2c, .slice a3' p.left.length a3c, .int .i64 p.cost] 31)).alloc (.cells #[.slice b1' p.routes.length b1c, .slice b2' p.times.length b2c, .slice b3' p.left.length b3c, .int .i64 p.cost] 31) := ⟨_, rfl⟩
  have hb0 : Below w.heap.size w W0 := by rw [hW0]; exact ((Below.refl _ _).alloc (Nat.le_refl _) _).alloc (by simp) _
  have hx0 : W0.heap[X]? = some (.cells #[.slice a1' p.routes.length a1c, .slice a2' p.times.length a2c, .slice a3' p.left.length a3c, .int .i64 p.cost] 31) := by rw [hX, hW0, Below.heap_alloc _ _ _ (by simp)]; exact World.alloc_heap_new w _
  have hy0 : W0.heap[X + 1]? = some (.cells #[.slice b1' p.routes.length b1c, .slice b2' p.times.length b2c, .slice b3' p.left.length b3c, .int .i64 p.cost] 31) := by
    rw [hX, hW0]
    rw [← World.size_alloc w (.cells #[.slice a1' p.routes.length a1c, .slice a2' p.times.length a2c, .slice a3' p.left.length a3c, .int .i64 p.cost] 31)]; exact World.alloc_heap_new _ _
  have hc1 : Calls Tryz.prog 23 #[.slice a1' p.routes.length a1c, .slice b1' p.routes.length b1c] W0 fun e w' => e = .returned (.bool true) ∧ ∃ m, w' = W0.drewN m :=
    sameRows_any _ _ p.routes _ n1 n4 (ha1.below hb0) (hb1.below hb0)
  have hc2 : ∀ q, Calls Tryz.prog 24 #[.slice a3' p.left.length a3c, .slice b3' p.left.length b3c] (W0.drewN q) fun e w' => e = .returned (.bool true) ∧ ∃ m, w' = (W0.drewN q).drewN m :=
    fun q => sameInts_any _ _ p.left _ n3 ((ha3.below hb0).draws q) ((hb3.below hb0).draws q)
  have x0 : W0.cell? ⟨X, 0, none⟩ = some (.slice a1' p.routes.length a1c) := (own_cell hx0).trans rfl
  have x1 : W0.cell? ⟨X, 1, none⟩ = some (.slice a2' p.times.length a2c) := (own_cell hx0).trans rfl
  have x2 : W0.cell? ⟨X, 2, none⟩ = some (.slice a3' p.left.length a3c) := (own_cell hx0).trans rfl
  have x3 : W0.cell? ⟨X, 3, none⟩ = some (.int .i64 p.cost) := (own_cell hx0).trans rfl
  have y0 : W0.cell? ⟨X + 1, 0, none⟩ = some (.slice b1' p.routes.length b1c) := (own_cell hy0).trans rfl
  have y1 : W0.cell? ⟨X + 1, 1, none⟩ = some (.slice b2' p.times.length b2c) := (own_cell hy0).trans rfl
  have y2 : W0.cell? ⟨X + 1, 2, none⟩ = some (.slice b3' p.left.length b3c) := (own_cell hy0).trans rfl
  have y3 : W0.cell? ⟨X + 1, 3, none⟩ = some (.int .i64 p.cost) := (own_cell hy0).trans rfl
  have hka : ∀ k, k < p.times.length → ∃ g o u g' o' u', a2' = some ⟨g, o, none⟩ ∧ W0.cell? ⟨g, o + k, none⟩ = some u ∧ b2' = some ⟨g', o', none⟩ ∧ W0.cell? ⟨g', o' + k, none⟩ = some u' ∧ (∃ e c, u = .slice e (p.times.getD k []).length c) ∧ (∃ e c, u' = .slice e (p.times.getD k []).length c) ∧
      (∀ q r, Calls Tryz.prog 25 #[u, u'] ((W0.drewN q).drewN r) fun e w' => e = .returned (.bool true) ∧ ∃ m, w' = ((W0.drewN q).drewN r).drewN m) := fun k hk => by
    obtain ⟨g, o, u, e1, e2, e3, e4⟩ := ka k hk
    obtain ⟨g', o', u', f1, f2, f3, f4⟩ := kb k hk
    refine ⟨g, o, u, g', o', u', e1, (hb0.cell (p := ⟨g, o + k, none⟩) e2).trans e3, f1, (hb0.cell (p := ⟨g', o' + k, none⟩) f2).trans f3, e4.form, f4.form, fun q r => ?_⟩
    exact sameLongs_any u u' _ _ (by rw [show p.times.getD k [] = p.times[k] by simp [hk]]; exact n5 _ (List.getElem_mem hk)) (((e4.below hb0).draws q).draws r) (((f4.below hb0).draws q).draws r)
  have HKA := Lib.hid hka; clear hka ka kb
  have HC1 := Lib.hid hc1; clear hc1
  have HC2 := Lib.hid hc2; clear hc2
  have HB0 := Lib.hid hb0; clear hb0
  clear ha1 ha2 ha3 hb1 hb2 hb3 n4 n5 hx0 hy0
  generalize p.cost = cost at *
  generalize p.routes.length = nr at *
  generalize p.left.length = nl at *
  generalize hts : p.times = ts at *
  generalize hnt : ts.length = nt at *
  clear hts
  have HNT := Lib.hid hnt; clear hnt
  have HX := Lib.hid hX; clear hX
  have HW := Lib.hid hW0; clear hW0
  go_enter Tryz.func11, Tryz.ntmps11
  go_wp2_with fail
  rw [show w.heap.size + 1 = X + 1 by rw [HX.out], ← HX.out, ← HW.out]
  refine HC1.out.mono ?_
  rintro e w1 ⟨rfl, m1, rfl⟩
  go_wp2_with fail
  refine (HC2.out m1).mono ?_
  rintro e w2 ⟨rfl, m2, rfl⟩
  rw [drewN_drewN]
  have hb2 : Hid (∃ q, W0.drewN (m1 + m2) = W0.drewN q) := Lib.hid ⟨_, rfl⟩
  generalize W0.drewN (m1 + m2) = W2 at *
  obtain ⟨q2, hq2⟩ := hb2.out
  have x0' : W2.cell? ⟨X, 0, none⟩ = some (.slice a1' nr a1c) := by rw [hq2]; exact x0
  have x1' : W2.cell? ⟨X, 1, none⟩ = some (.slice a2' nt a2c) := by rw [hq2]; exact x1
  have x3' : W2.cell? ⟨X, 3, none⟩ = some (.int .i64 cost) := by rw [hq2]; exact x3
  have y1' : W2.cell? ⟨X + 1, 1, none⟩ = some (.slice b2' nt b2c) := by rw [hq2]; exact y1
  have y3' : W2.cell? ⟨X + 1, 3, none⟩ = some (.int .i64 cost) := by rw [hq2]; exact y3
  have hx1 := Lib.hid x1; have hy1 := Lib.hid y1
  clear hq2 x0 y0 x1 y1 x2 y2 x3 y3 HC1 HC2
  go_wp2_with fail
  clear x0' x1' x3' y1' y3'
  go_loopw [5] (fun i wr => ∃ k : Nat, k ≤ nt ∧ i = .int .i64 k ∧ Hid (∃ q, wr = W0.drewN q)) (fun i _ => nt - (intOf i).toNat)
  case atStart => exact ⟨0, Nat.zero_le _, rfl, hb2⟩
  case round =>
    obtain ⟨k, hk, rfl, HD⟩ := hrel
    obtain ⟨qq, hqq⟩ := HD.out; clear HD
    have x1' : wr.cell? ⟨X, 1, none⟩ = some (.slice a2' nt a2c) := by rw [hqq]; exact hx1.out
    have y1' : wr.cell? ⟨X + 1, 1, none⟩ = some (.slice b2' nt b2c) := by rw [hqq]; exact hy1.out
    by_cases hlt : k < nt
    · obtain ⟨g, o, u, g', o', u', rfl, d1, rfl, d2, ⟨e1, f1, rfl⟩, ⟨e2, f2, rfl⟩, hcall⟩ := HKA.out k hlt
      have d1' : wr.cell? ⟨g, o + k, none⟩ = some (.slice e1 (ts.getD k []).length f1) := by rw [hqq]; exact d1
      have d2' : wr.cell? ⟨g', o' + k, none⟩ = some (.slice e2 (ts.getD k []).length f2) := by rw [hqq]; exact d2
      have hcall' : ∀ r, Calls Tryz.prog 25 #[.slice e1 (ts.getD k []).length f1, .slice e2 (ts.getD k []).length f2] (wr.drewN r) fun e w' => e = .returned (.bool true) ∧ ∃ m, w' = (wr.drewN r).drewN m := fun r => by rw [hqq]; exact hcall qq r
      have HC := Lib.hid hcall'; clear hcall hcall' d1 d2
      have HQQ := Lib.hid hqq; clear hqq
      generalize (ts.getD k []).length = rl at *
      have i0 : (0 : Int) ≤ (k : Int) := by omega
      have i1 : (k : Int) < (nt : Int) := by omega
      go_wp2_with fail
      go_quiet ((go_at_call 25; exact Calls.quiet_of (HC.out _)))
      clear i0 i1
      go_wp2_with fail
      go_roundw
      case rel => exact ⟨k + 1, by omega, by go_num, Lib.hid (by rw [HQQ.out]; exact ⟨_, by rw [drewN_drewN]⟩)⟩
      case measure => simp [intOf]; omega
    · obtain rfl : k = nt := by omega
      have HQQ := Lib.hid hqq; clear hqq
      go_wp2_with fail
      go_ret
      refine ⟨rfl, ?_⟩
      rw [HQQ.out]
      exact HB0.out.trans ((Joins.below_draws _ _ _).mono HB0.out.size)
end Fil
end Go.Proofs.YtkggahoadeeajaaGreatDoor
