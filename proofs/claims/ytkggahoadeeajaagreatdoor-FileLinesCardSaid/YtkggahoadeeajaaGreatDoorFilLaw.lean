/- jitneylaw23's as and few; over the translated program. -/
import Derived.Test.YtkggahoadeeajaaGreatDoorFilAlive
namespace Go.Proofs.YtkggahoadeeajaaGreatDoor
namespace Fil
open Go Go.RowKit Deci
set_option linter.unusedVariables false
set_option maxHeartbeats 1000000 in
set_option maxRecDepth 100000 in
theorem as_any (v : Value) (p : PL) (w : World) (h : IsPlan w v p) :
    Calls Tryz.prog 12 #[v] w fun e w' => e = .returned v ∧ Below w.heap.size w w' := by
  obtain ⟨v1, v2, v3, rfl, i1, i2, i3⟩ := h
  obtain ⟨a1, c1, rfl⟩ := i1.form
  obtain ⟨a2, c2, rfl⟩ := i2.form
  obtain ⟨a3, c3, rfl⟩ := i3.form
  clear i1 i2 i3
  generalize p.routes.length = nr at *
  generalize p.times.length = nt at *
  generalize p.left.length = nl at *
  generalize p.cost = cost at *
  go_enter Tryz.func12, Tryz.ntmps12
  go_wp2_with fail
  have hb : Below w.heap.size w ((w.alloc (.cells #[.slice a1 nr c1, .slice a2 nt c2, .slice a3 nl c3, .int .i64 cost] 27)).alloc (.cells #[.slice a1 nr c1, .slice a2 nt c2, .slice a3 nl c3, .int .i64 cost] 31)) := ((Below.refl _ _).alloc (Nat.le_refl _) _).alloc (by simp) _
  have hh : ((w.alloc (.cells #[.slice a1 nr c1, .slice a2 nt c2, .slice a3 nl c3, .int .i64 cost] 27)).alloc (.cells #[.slice a1 nr c1, .slice a2 nt c2, .slice a3 nl c3, .int .i64 cost] 31)).heap[w.heap.size + 1]? = some (.cells #[.slice a1 nr c1, .slice a2 nt c2, .slice a3 nl c3, .int .i64 cost] 31) := by
    rw [← World.size_alloc w (.cells #[.slice a1 nr c1, .slice a2 nt c2, .slice a3 nl c3, .int .i64 cost] 27)]; exact World.alloc_heap_new _ _
  generalize (w.alloc (.cells #[.slice a1 nr c1, .slice a2 nt c2, .slice a3 nl c3, .int .i64 cost] 27)).alloc (.cells #[.slice a1 nr c1, .slice a2 nt c2, .slice a3 nl c3, .int .i64 cost] 31) = W at *
  first
    | (refine bodyPost_ret (v := .agg #[.slice a1 nr c1, .slice a2 nt c2, .slice a3 nl c3, .int .i64 cost]) (by simp [results, Tryz.results12, go_sem, World.cell?, hh]) rfl ⟨rfl, hb⟩)
    | (go_ret; exact ⟨rfl, hb⟩)
/-- Few parts. -/
def fewB (p : PL) : Bool := !(p.routes.any fun r => decide (60 < r.length)) && (!(p.times.any fun r => decide (60 < r.length)) && (decide (p.routes.length ≤ 70) && (decide (p.times.length ≤ 70) && decide (p.left.length ≤ 60))))
theorem fewB_iff {p : PL} : fewB p = true ↔ (∀ r ∈ p.routes, r.length ≤ 60) ∧ (∀ r ∈ p.times, r.length ≤ 60) ∧ p.routes.length ≤ 70 ∧ p.times.length ≤ 70 ∧ p.left.length ≤ 60 := by
  unfold fewB
  simp only [Bool.and_eq_true, Bool.not_eq_true', List.any_eq_false, decide_eq_true_eq, Nat.not_lt]
theorem few_fit {p : PL} (h : fewB p = true) : p.Fit := by
  obtain ⟨h1, h2, h3, h4, h5⟩ := fewB_iff.1 h
  exact ⟨by omega, by omega, by omega, fun r hr => by have := h1 r hr; omega, fun r hr => by have := h2 r hr; omega⟩
set_option maxHeartbeats 2000000 in
set_option maxRecDepth 100000 in
theorem few_any (v : Value) (p : PL) (w : World) (h : IsPlan w v p) (hbig : p.routes.length ≤ 9223372036854775807 ∧ p.times.length ≤ 9223372036854775807 ∧ p.left.length ≤ 9223372036854775807 ∧ (∀ r ∈ p.routes, r.length ≤ 9223372036854775807) ∧ ∀ r ∈ p.times, r.length ≤ 9223372036854775807) :
    Calls Tryz.prog 13 #[v] w fun e w' => e = .returned (.bool (fewB p)) ∧ Below w.heap.size w w' := by
  obtain ⟨z1, z2, z3, z4, z5⟩ := hbig
  obtain ⟨v1, v2, v3, rfl, i1, i2, i3⟩ := h
  obtain ⟨a1, c1, rfl, k1⟩ := rows_at i1
  obtain ⟨a2, c2, rfl, k2⟩ := rows_at i2
  obtain ⟨a3, c3, rfl⟩ := i3.form
  have hk1 : ∀ k, k < p.routes.length → ∃ g o e c, a1 = some ⟨g, o, none⟩ ∧ g < w.heap.size ∧ w.cell? ⟨g, o + k, none⟩ = some (.slice e (p.routes.getD k []).length c) ∧ (p.routes.getD k []).length ≤ 9223372036854775807 := fun k hk => by
    obtain ⟨g, o, u, q1, q2, q3, q4⟩ := k1 k hk
    obtain ⟨e, c, rfl⟩ := q4.form
    exact ⟨g, o, e, c, q1, q2, q3, list_at z4 hk⟩
  have hk2 : ∀ k, k < p.times.length → ∃ g o e c, a2 = some ⟨g, o, none⟩ ∧ g < w.heap.size ∧ w.cell? ⟨g, o + k, none⟩ = some (.slice e (p.times.getD k []).length c) ∧ (p.times.getD k []).length ≤ 9223372036854775807 := fun k hk => by
    obtain ⟨g, o, u, q1, q2, q3, q4⟩ := k2 k hk
    obtain ⟨e, c, rfl⟩ := q4.form
    exact ⟨g, o, e, c, q1, q2, q3, list_at z5 hk⟩
  unfold fewB
  rw [← anyTo_list p.routes [] (fun r => decide (60 < r.length)), ← anyTo_list p.times [] (fun r => decide (60 < r.length))]
  obtain ⟨f1, hf1⟩ : ∃ f : Nat → Bool, f = fun j => decide (60 < (p.routes.getD j []).length) := ⟨_, rfl⟩
  obtain ⟨f2, hf2⟩ : ∃ f : Nat → Bool, f = fun j => decide (60 < (p.times.getD j []).length) := ⟨_, rfl⟩
  have e1 : ∀ j, f1 j = decide (60 < (p.routes.getD j []).length) := fun j => by rw [hf1]
  have e2 : ∀ j, f2 j = decide (60 < (p.times.getD j []).length) := fun j => by rw [hf2]
  rw [← hf1, ← hf2]
  clear hf1 hf2 k1 k2 i1 i2 i3 z4 z5
  have K1 := Lib.hid hk1; clear hk1
  have K2 := Lib.hid hk2; clear hk2
  have E1 := Lib.hid e1; clear e1
  have E2 := Lib.hid e2; clear e2
  generalize p.routes.length = nr at *
  generalize p.times.length = nt at *
  generalize p.left.length = nl at *
  generalize p.cost = cost at *
  obtain ⟨W0, hW0⟩ : ∃ W, W = w.alloc (.cells #[.slice a1 nr c1, .slice a2 nt c2, .slice a3 nl c3, .int .i64 cost] 27) := ⟨_, rfl⟩
  have hb : Below w.heap.size w W0 := by rw [hW0]; exact (Below.refl _ _).alloc (Nat.le_refl _) _
  have hx : W0.heap[w.heap.size]? = some (.cells #[.slice a1 nr c1, .slice a2 nt c2, .slice a3 nl c3, .int .i64 cost] 27) := by rw [hW0]; exact World.alloc_heap_new _ _
  have x0 : W0.cell? ⟨w.heap.size, 0, none⟩ = some (.slice a1 nr c1) := (own_cell hx).trans rfl
  have x1 : W0.cell? ⟨w.heap.size, 1, none⟩ = some (.slice a2 nt c2) := (own_cell hx).trans rfl
  have x2 : W0.cell? ⟨w.heap.size, 2, none⟩ = some (.slice a3 nl c3) := (own_cell hx).trans rfl
  have HB := Lib.hid hb; clear hb hx
  have HW := Lib.hid hW0; clear hW0
  go_enter Tryz.func13, Tryz.ntmps13
  go_wp2_with fail
  rw [← HW.out]
  go_loopw [10] (fun i wr => ∃ k : Nat, k ≤ nr ∧ i = .int .i64 k ∧ Hid (anyTo f1 k = false ∧ wr = W0)) (fun i _ => nr - (intOf i).toNat)
  case atStart => exact ⟨0, Nat.zero_le _, rfl, Lib.hid ⟨rfl, rfl⟩⟩
  case round =>
    obtain ⟨k, hk, rfl, HA⟩ := hrel
    obtain ⟨hany, hwr⟩ := HA.out
    obtain rfl := hwr.symm
    clear HA
    have HAN1 := Lib.hid hany; clear hany
    by_cases hlt : k < nr
    · obtain ⟨g, o, e, c, rfl, hg, q1, hl⟩ := K1.out k hlt
      have d1 := (HB.out.cell (p := ⟨g, o + k, none⟩) hg).trans q1
      have he := E1.out k
      clear q1
      generalize (p.routes.getD k []).length = rl at *
      have HE := Lib.hid he; clear he
      have i0 : (k : Int) < (nr : Int) := by omega
      by_cases h60 : 60 < rl
      · have j0 : (60 : Int) < (rl : Int) := by omega
        go_wp2_with fail
        go_ret
        refine ⟨ret_bool ?_, HB.out⟩
        rw [anyTo_iff.2 ⟨k, hlt, by rw [HE.out]; simpa using h60⟩]; simp
      · have j0 : ¬ (60 : Int) < (rl : Int) := by omega
        have HN : Hid (anyTo f1 (k + 1) = false) := Lib.hid (by unfold anyTo; rw [HAN1.out, HE.out]; simpa using h60)
        go_wp2_with fail
        go_roundw
        case rel => exact ⟨k + 1, by omega, by go_num, Lib.hid ⟨HN.out, trivial⟩⟩
        case measure => simp [intOf]; omega
    · obtain rfl : k = nr := by omega
      go_wp2_with fail
      go_loopw [21] (fun i wr => ∃ k : Nat, k ≤ nt ∧ i = .int .i64 k ∧ Hid (anyTo f2 k = false ∧ wr = W0)) (fun i _ => nt - (intOf i).toNat)
      case atStart => exact ⟨0, Nat.zero_le _, rfl, Lib.hid ⟨rfl, rfl⟩⟩
      case round =>
        obtain ⟨k, hk, rfl, HA⟩ := hrel
        obtain ⟨hany, hwr⟩ := HA.out
        obtain rfl := hwr.symm
        clear HA
        have HAN2 := Lib.hid hany; clear hany
        by_cases hlt : k < nt
        · obtain ⟨g, o, e, c, rfl, hg, q1, hl⟩ := K2.out k hlt
          have d1 := (HB.out.cell (p := ⟨g, o + k, none⟩) hg).trans q1
          have he := E2.out k
          clear q1
          generalize (p.times.getD k []).length = rl at *
          have HE := Lib.hid he; clear he
          have i0 : (k : Int) < (nt : Int) := by omega
          by_cases h60 : 60 < rl
          · have j0 : (60 : Int) < (rl : Int) := by omega
            go_wp2_with fail
            go_ret
            refine ⟨ret_bool ?_, HB.out⟩
            rw [HAN1.out, anyTo_iff.2 ⟨k, hlt, by rw [HE.out]; simpa using h60⟩]; simp
          · have j0 : ¬ (60 : Int) < (rl : Int) := by omega
            have HN : Hid (anyTo f2 (k + 1) = false) := Lib.hid (by unfold anyTo; rw [HAN2.out, HE.out]; simpa using h60)
            go_wp2_with fail
            go_roundw
            case rel => exact ⟨k + 1, by omega, by go_num, Lib.hid ⟨HN.out, trivial⟩⟩
            case measure => simp [intOf]; omega
        · obtain rfl : k = nt := by omega
          go_wp2_with fail
          all_goals
            go_ret
            refine ⟨ret_bool ?_, HB.out⟩
            rw [HAN1.out, HAN2.out]
            first
              | (simp; done)
              | (simp; omega)
              | (rw [Bool.eq_iff_iff]; simp; omega)
/-- Whatever numbers an int64 holds. -/
def W64 (x : Int) : Prop := -9223372036854775808 ≤ x ∧ x ≤ 9223372036854775807
/-- What is parsed isn't too long. -/
theorem rowsR_bd {L : List ByteArray} {m : Nat} (hl : ∀ s ∈ L, s.size ≤ m) : ∀ k n, ∀ r ∈ rowsR L n k, r.length ≤ m
  | 0, _, r, h => by cases h
  | k + 1, n, r, h => by
    rw [rowsR] at h
    rcases List.mem_cons.1 h with rfl | h
    · rw [numsV, List.length_map]; exact nextW_many hl
    · exact rowsR_bd hl k (n + 2) r h
theorem rowsT_bd {L : List ByteArray} {m : Nat} (hl : ∀ s ∈ L, s.size ≤ m) : ∀ k n, ∀ r ∈ rowsT L n k, r.length ≤ m
  | 0, _, r, h => by cases h
  | k + 1, n, r, h => by
    rw [rowsT] at h
    rcases List.mem_cons.1 h with rfl | h
    · rw [numsV, List.length_map]; exact nextW_many hl
    · exact rowsT_bd hl k (n + 2) r h
theorem head_rows {L : List ByteArray} (h : headE L = 0) : rowsN L ≤ 64 := by
  unfold headE at h
  obtain ⟨_, h⟩ := twoE_zero h
  split at h
  · obtain ⟨_, h⟩ := twoE_zero h
    obtain ⟨_, h⟩ := twoE_zero h
    split at h
    · cases h
    · unfold rowsN; omega
  · cases h
theorem read_head {l : List UInt8} (h : (readF l).2 = 0) : linesE l = 0 ∧ headE (linesP l) = 0 := by
  unfold readF at h
  split at h
  · rename_i h1; exact absurd h h1
  · rename_i h1
    refine ⟨Decidable.not_not.1 h1, ?_⟩
    unfold planF at h
    split at h
    · rename_i h2; exact absurd h h2
    · rename_i h2; exact Decidable.not_not.1 h2
theorem parse_fit (l : List UInt8) (hl : l.length ≤ 1000000) : (parseP l).Fit := by
  unfold parseP
  split
  · rename_i h
    have h64 := head_rows (read_head h).2
    have hs : ∀ s ∈ linesP l, s.size ≤ 1000000 := fun s hs => by have := lines_size l s hs; omega
    refine ⟨?_, ?_, ?_, rowsR_bd hs _ _, rowsT_bd hs _ _⟩
    · show (rowsR _ _ _).length ≤ _; rw [rowsR_len]; omega
    · show (rowsT _ _ _).length ≤ _; rw [rowsT_len]; omega
    · show (numsV _ _).length ≤ _; rw [numsV, List.length_map]; exact nextW_many hs
  · unfold PL.Fit PL.none; simp
/-- Two plans that hold the same, in two blocks. -/
structure Two (w : World) (p : PL) (X Y : Nat) (x0 x1 x2 y0 y1 y2 : Value) (cost : Int) (W : World) : Prop where
  low : Below w.heap.size w W
  ix : IsPlan W (.agg #[x0, x1, x2, .int .i64 cost]) p
  iy : IsPlan W (.agg #[y0, y1, y2, .int .i64 cost]) p
  cx : W.heap[X]? = some (.cells #[x0, x1, x2, .int .i64 cost] 27)
  cy : W.heap[Y]? = some (.cells #[y0, y1, y2, .int .i64 cost] 31)
section
variable {w : World} {p : PL} {X Y : Nat} {x0 x1 x2 y0 y1 y2 : Value} {cost : Int} {W W' : World}
theorem Two.bel (h : Two w p X Y x0 x1 x2 y0 y1 y2 cost W) (hb : Below W.heap.size W W') : Two w p X Y x0 x1 x2 y0 y1 y2 cost W' :=
  ⟨h.low.trans (hb.mono h.low.size), h.ix.below hb, h.iy.below hb, (hb.block X (own_lt h.cx)).trans h.cx, (hb.block Y (own_lt h.cy)).trans h.cy⟩
theorem Two.drew (h : Two w p X Y x0 x1 x2 y0 y1 y2 cost W) : Two w p X Y x0 x1 x2 y0 y1 y2 cost W.drew := h.bel (Below.refl _ _).drew
theorem Two.all (h : Two w p X Y x0 x1 x2 y0 y1 y2 cost W) : Two w p X Y x0 x1 x2 y0 y1 y2 cost W ∧ (W.cell? ⟨X, 0, none⟩ = some x0 ∧ W.cell? ⟨X, 1, none⟩ = some x1 ∧ W.cell? ⟨X, 2, none⟩ = some x2 ∧ W.cell? ⟨X, 3, none⟩ = some (.int .i64 cost)) ∧
    W.cell? ⟨Y, 0, none⟩ = some y0 ∧ W.cell? ⟨Y, 1, none⟩ = some y1 ∧ W.cell? ⟨Y, 2, none⟩ = some y2 ∧ W.cell? ⟨Y, 3, none⟩ = some (.int .i64 cost) :=
  ⟨h, ⟨(own_cell h.cx).trans rfl, (own_cell h.cx).trans rfl, (own_cell h.cx).trans rfl, (own_cell h.cx).trans rfl⟩, (own_cell h.cy).trans rfl, (own_cell h.cy).trans rfl, (own_cell h.cy).trans rfl, (own_cell h.cy).trans rfl⟩
end
end Fil
end Go.Proofs.YtkggahoadeeajaaGreatDoor
