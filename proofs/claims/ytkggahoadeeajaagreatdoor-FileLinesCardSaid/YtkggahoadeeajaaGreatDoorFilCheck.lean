/- Package file's check: tooMany, paired, beyond, anyBeyond; over the translated program. -/
import Derived.Test.YtkggahoadeeajaaGreatDoorFilFind
namespace Go.Proofs.YtkggahoadeeajaaGreatDoor
namespace Fil
open Go Go.RowKit Deci
set_option linter.unusedVariables false
/-- Below 0, or above 2^40. -/
def byd (x : Int) : Bool := decide (x < 0) || decide (1099511627776 < x)
theorem beyond_int (x : Int) (w : World) : Calls Tryz.prog 63 #[.int .i64 x] w fun e w' => e = .returned (.bool (byd x)) ∧ Below w.heap.size w w' := by
  by_cases h1 : x < 0
  · have hr : byd x = true := by unfold byd; simp [h1]
    generalize byd x = z at *
    subst hr
    go_enter Tryz.func63, Tryz.ntmps63
    go_wp2
    go_ret
    exact ⟨rfl, Below.refl _ _⟩
  · have hd : decide (x < 0) = false := by simp; omega
    have hr : byd x = decide (1099511627776 < x) := by unfold byd; simp [hd]
    rw [hr]; clear hr
    go_enter Tryz.func63, Tryz.ntmps63
    go_wp2
    go_ret
    exact ⟨rfl, Below.refl _ _⟩
set_option maxHeartbeats 1000000 in
set_option maxRecDepth 100000 in
theorem anyBeyond_int (v : Value) (xs : List Int) (w : World) (h : IsRow w v xs) (hm : xs.length ≤ 1000000) :
    Calls Tryz.prog 42 #[v] w fun e w' => e = .returned (.bool (xs.any byd)) ∧ Below w.heap.size w w' := by
  have hc := contains_int v xs byd 63 #[] w (fun _ _ => rfl) h hm (fun j _ W _ => beyond_int _ W)
  obtain ⟨a, c, rfl⟩ := h.form
  generalize xs.any byd = z at *
  generalize xs.length = n at *
  have HC := Lib.hid hc; clear hc h
  go_enter Tryz.func42, Tryz.ntmps42
  go_wp2_with fail
  refine HC.out.mono ?_
  rintro e w' ⟨rfl, hb⟩
  have HB := Lib.hid hb; clear hb
  go_wp2_with fail
  go_ret
  exact ⟨rfl, HB.out⟩
theorem beyond_long (x : Int) (w : World) : Calls Tryz.prog 45 #[.int .i64 x] w fun e w' => e = .returned (.bool (byd x)) ∧ Below w.heap.size w w' := by
  by_cases h1 : x < 0
  · have hr : byd x = true := by unfold byd; simp [h1]
    generalize byd x = z at *
    subst hr
    go_enter Tryz.func45, Tryz.ntmps45
    go_wp2
    go_ret
    exact ⟨rfl, Below.refl _ _⟩
  · have hd : decide (x < 0) = false := by simp; omega
    have hr : byd x = decide (1099511627776 < x) := by unfold byd; simp [hd]
    rw [hr]; clear hr
    go_enter Tryz.func45, Tryz.ntmps45
    go_wp2
    go_ret
    exact ⟨rfl, Below.refl _ _⟩
set_option maxHeartbeats 1000000 in
set_option maxRecDepth 100000 in
theorem anyBeyond_long (v : Value) (xs : List Int) (w : World) (h : IsRow w v xs) (hm : xs.length ≤ 1000000) :
    Calls Tryz.prog 44 #[v] w fun e w' => e = .returned (.bool (xs.any byd)) ∧ Below w.heap.size w w' := by
  have hc := contains_long v xs byd 45 #[] w (fun _ _ => rfl) h hm (fun j _ W _ => beyond_long _ W)
  obtain ⟨a, c, rfl⟩ := h.form
  generalize xs.any byd = z at *
  generalize xs.length = n at *
  have HC := Lib.hid hc; clear hc h
  go_enter Tryz.func44, Tryz.ntmps44
  go_wp2_with fail
  refine HC.out.mono ?_
  rintro e w' ⟨rfl, hb⟩
  have HB := Lib.hid hb; clear hb
  go_wp2_with fail
  go_ret
  exact ⟨rfl, HB.out⟩
def longB (r : List Int) : Bool := decide (4096 < r.length)
theorem long_any (u : Value) (r : List Int) (w : World) (h : IsRow w u r) (hr : r.length ≤ 1000000) :
    Calls Tryz.prog 60 #[u] w fun e w' => e = .returned (.bool (longB r)) ∧ Below w.heap.size w w' := by
  obtain ⟨a, c, rfl⟩ := h.form
  unfold longB
  clear h
  generalize r.length = n at *
  go_enter Tryz.func60, Tryz.ntmps60
  go_wp2_with fail
  go_ret
  exact ⟨ret_bool (by simp; omega), Below.refl _ _⟩
theorem list_at {α : Type} {l : List α} {d : α} {P : α → Prop} (h : ∀ r ∈ l, P r) {j : Nat} (hj : j < l.length) : P (l.getD j d) := by
  rw [show l.getD j d = l[j] by simp [hj]]; exact h _ (List.getElem_mem hj)
def tooB (p : PL) : Bool := decide (64 < p.routes.length) || (p.routes.any longB || longB p.left)
def badP (rs ts : List (List Int)) (j : Nat) : Bool := decide ((rs.getD j []).length = 0) || (!decide ((ts.getD j []).length = 0) && !decide ((ts.getD j []).length = (rs.getD j []).length))
def pairB (p : PL) : Bool := decide (p.times.length = p.routes.length) && !anyTo (badP p.routes p.times) p.routes.length
def rangeB (p : PL) : Bool := p.routes.any (·.any byd) || (p.left.any byd || (p.times.any (·.any byd) || byd p.cost))
def checkE (p : PL) : Int := if tooB p then 3 else if !pairB p then 1 else if rangeB p then 23 else 0
set_option maxHeartbeats 2000000 in
set_option maxRecDepth 100000 in
theorem tooMany_any (v : Value) (p : PL) (w : World) (hf : p.Fit) (h : IsPlan w v p) :
    Calls Tryz.prog 39 #[v] w fun e w' => e = .returned (.bool (tooB p)) ∧ Below w.heap.size w w' := by
  obtain ⟨n1, n2, n3, n4, n5⟩ := hf
  obtain ⟨v1, v2, v3, rfl, h1, h2, h3⟩ := h
  have hb : Below w.heap.size w (w.alloc (.cells #[v1, v2, v3, .int .i64 p.cost] 27)) := (Below.refl _ _).alloc (Nat.le_refl _) _
  have hx : (w.alloc (.cells #[v1, v2, v3, .int .i64 p.cost] 27)).heap[w.heap.size]? = some (.cells #[v1, v2, v3, .int .i64 p.cost] 27) := World.alloc_heap_new _ _
  have hc := contains_ints v1 p.routes longB 60 #[] _ (fun _ _ => rfl) (h1.below hb) n1 (fun j hj W u _ hu => long_any u _ W hu (list_at n4 hj))
  have hl := fun W (hW : Below w.heap.size w W) => long_any v3 p.left W (h3.below hW) n3
  obtain ⟨a1, c1, rfl⟩ := h1.form
  obtain ⟨a2, c2, rfl⟩ := h2.form
  obtain ⟨a3, c3, rfl⟩ := h3.form
  unfold tooB
  generalize p.routes.any longB = z1 at *
  generalize longB p.left = z2 at *
  generalize p.routes.length = nr at *
  generalize p.times.length = nt at *
  generalize p.left.length = nl at *
  generalize p.cost = cost at *
  have HC := Lib.hid hc; clear hc
  have HL := Lib.hid hl; clear hl
  have HB := Lib.hid hb; clear hb
  have HX := Lib.hid hx; clear hx
  clear h1 h2 h3 n4 n5
  by_cases h64 : 64 < (nr : Int)
  · go_enter Tryz.func39, Tryz.ntmps39
    go_wp2_with fail
    go_ret
    exact ⟨ret_bool (by simp; omega), HB.out⟩
  · have hz : decide (64 < nr) = false := by simp; omega
    go_enter Tryz.func39, Tryz.ntmps39
    go_wp2_with fail
    refine HC.out.mono ?_
    rintro e w1 ⟨rfl, hb1⟩
    have hb2 : Below w.heap.size w w1 := HB.out.trans (hb1.mono HB.out.size)
    have hx1 := (hb1.block _ (own_lt HX.out)).trans HX.out
    have x2 : w1.cell? ⟨w.heap.size, 2, none⟩ = some (.slice a3 nl c3) := (own_cell hx1).trans rfl
    have HB2 := Lib.hid hb2; clear hb2 hb1 hx1
    cases z1 with
    | true =>
      go_wp2_with fail
      go_ret
      exact ⟨ret_bool (by simp), HB2.out⟩
    | false =>
      go_wp2_with fail
      refine (HL.out _ HB2.out).mono ?_
      rintro e w2 ⟨rfl, hb3⟩
      have HB3 := Lib.hid (HB2.out.trans (hb3.mono HB2.out.size)); clear hb3
      go_wp2_with fail
      go_ret
      exact ⟨ret_bool (by rw [hz]; simp), HB3.out⟩
set_option maxHeartbeats 2000000 in
set_option maxRecDepth 100000 in
theorem paired_any (v : Value) (p : PL) (w : World) (hf : p.Fit) (h : IsPlan w v p) :
    Calls Tryz.prog 40 #[v] w fun e w' => e = .returned (.bool (pairB p)) ∧ Below w.heap.size w w' := by
  obtain ⟨n1, n2, n3, n4, n5⟩ := hf
  obtain ⟨v1, v2, v3, rfl, h1, h2, h3⟩ := h
  have hb : Below w.heap.size w (w.alloc (.cells #[v1, v2, v3, .int .i64 p.cost] 27)) := (Below.refl _ _).alloc (Nat.le_refl _) _
  have hx : (w.alloc (.cells #[v1, v2, v3, .int .i64 p.cost] 27)).heap[w.heap.size]? = some (.cells #[v1, v2, v3, .int .i64 p.cost] 27) := World.alloc_heap_new _ _
  obtain ⟨a1, c1, rfl, k1⟩ := rows_at h1
  obtain ⟨a2, c2, rfl, k2⟩ := rows_at h2
  obtain ⟨a3, c3, rfl⟩ := h3.form
  have hbad : ∀ j, badP p.routes p.times j = (decide ((p.routes.getD j []).length = 0) || (!decide ((p.times.getD j []).length = 0) && !decide ((p.times.getD j []).length = (p.routes.getD j []).length))) := fun j => rfl
  have hrl : ∀ j, j < p.routes.length → (p.routes.getD j []).length ≤ 1000000 := fun j hj => list_at n4 hj
  have htl : ∀ j, j < p.times.length → (p.times.getD j []).length ≤ 1000000 := fun j hj => list_at n5 hj
  unfold pairB
  generalize badP p.routes p.times = bad at *
  have hk1 : ∀ k, k < p.routes.length → ∃ g o e c, a1 = some ⟨g, o, none⟩ ∧ g < w.heap.size ∧ w.cell? ⟨g, o + k, none⟩ = some (.slice e (p.routes.getD k []).length c) := fun k hk => by
    obtain ⟨g, o, u, q1, q2, q3, q4⟩ := k1 k hk
    obtain ⟨e, c, rfl⟩ := q4.form
    exact ⟨g, o, e, c, q1, q2, q3⟩
  have hk2 : ∀ k, k < p.times.length → ∃ g o e c, a2 = some ⟨g, o, none⟩ ∧ g < w.heap.size ∧ w.cell? ⟨g, o + k, none⟩ = some (.slice e (p.times.getD k []).length c) := fun k hk => by
    obtain ⟨g, o, u, q1, q2, q3, q4⟩ := k2 k hk
    obtain ⟨e, c, rfl⟩ := q4.form
    exact ⟨g, o, e, c, q1, q2, q3⟩
  generalize p.routes.length = nr at *
  generalize p.times.length = nt at *
  generalize p.left.length = nl at *
  generalize p.cost = cost at *
  have K1 := Lib.hid hk1; clear hk1 k1
  have K2 := Lib.hid hk2; clear hk2 k2
  have HBAD := Lib.hid hbad; clear hbad
  have HRL := Lib.hid hrl; clear hrl
  have HTL := Lib.hid htl; clear htl
  have HB := Lib.hid hb; clear hb
  have HX := Lib.hid hx; clear hx
  clear h1 h2 h3 n4 n5
  by_cases hne : nt = nr
  · subst hne
    go_enter Tryz.func40, Tryz.ntmps40
    go_wp2_with fail
    have x1 : (w.alloc (.cells #[.slice a1 nt c1, .slice a2 nt c2, .slice a3 nl c3, .int .i64 cost] 27)).cell? ⟨w.heap.size, 1, none⟩ = some (.slice a2 nt c2) := (own_cell HX.out).trans rfl
    generalize hW0 : w.alloc (.cells #[.slice a1 nt c1, .slice a2 nt c2, .slice a3 nl c3, .int .i64 cost] 27) = W0 at *
    clear hW0 HX
    go_loopw [16] (fun i wr => ∃ k : Nat, k ≤ nt ∧ i = .int .i64 k ∧ Hid (anyTo bad k = false ∧ wr = W0)) (fun i _ => nt - (intOf i).toNat)
    case atStart => exact ⟨0, Nat.zero_le _, rfl, Lib.hid ⟨rfl, rfl⟩⟩
    case round =>
      obtain ⟨k, hk, rfl, HA⟩ := hrel
      obtain ⟨hany, rfl⟩ := HA.out
      clear HA
      have HAN := Lib.hid hany; clear hany
      by_cases hlt : k < nt
      · obtain ⟨g, o, e1, f1, rfl, hg, q1⟩ := K1.out k hlt
        obtain ⟨g', o', e2, f2, rfl, hg', q2⟩ := K2.out k hlt
        have d1 := (HB.out.cell (p := ⟨g, o + k, none⟩) hg).trans q1
        have d2 := (HB.out.cell (p := ⟨g', o' + k, none⟩) hg').trans q2
        have hb1 := HBAD.out k
        have hr1 := HRL.out k hlt
        have ht1 := HTL.out k hlt
        clear q1 q2
        generalize (p.routes.getD k []).length = rl at *
        generalize (p.times.getD k []).length = tl at *
        have HBK := Lib.hid hb1; clear hb1
        have i0 : (k : Int) < (nt : Int) := by omega
        by_cases hr0 : rl = 0
        · subst hr0
          go_wp2_with fail
          go_ret
          refine ⟨ret_bool ?_, HB.out⟩
          rw [anyTo_iff.2 ⟨k, hlt, by rw [HBK.out]; simp⟩]; simp
        · have z1 : ((rl : Int) == 0) = false := by simp; exact hr0
          have z2 : decide (rl = 0) = false := by simp; exact hr0
          by_cases ht0 : tl = 0
          · subst ht0
            have HN : Hid (anyTo bad (k + 1) = false) := Lib.hid (by unfold anyTo; rw [HAN.out, HBK.out, z2]; simp)
            go_wp2_with fail
            go_roundw
            case rel => exact ⟨k + 1, by omega, by go_num, Lib.hid ⟨HN.out, trivial⟩⟩
            case measure => simp [intOf]; omega
          · have y1 : ((tl : Int) != 0) = true := by simp; exact ht0
            have y2 : decide (tl = 0) = false := by simp; exact ht0
            by_cases hee : tl = rl
            · subst hee
              have HN : Hid (anyTo bad (k + 1) = false) := Lib.hid (by unfold anyTo; rw [HAN.out, HBK.out, z2]; simp)
              go_wp2_with fail
              go_roundw
              case rel => exact ⟨k + 1, by omega, by go_num, Lib.hid ⟨HN.out, trivial⟩⟩
              case measure => simp [intOf]; omega
            · have y3 : ((tl : Int) != (rl : Int)) = true := by simp; omega
              have y4 : decide (tl = rl) = false := by simp; exact hee
              go_wp2_with fail
              go_ret
              refine ⟨ret_bool ?_, HB.out⟩
              rw [anyTo_iff.2 ⟨k, hlt, by rw [HBK.out, z2, y2, y4]; rfl⟩]; simp
      · obtain rfl : k = nt := by omega
        go_wp2_with fail
        go_ret
        exact ⟨ret_bool (by rw [HAN.out]; simp), HB.out⟩
  · have hd : ((nt : Int) != (nr : Int)) = true := by simp; omega
    go_enter Tryz.func40, Tryz.ntmps40
    go_wp2_with fail
    go_ret
    exact ⟨ret_bool (by simp [hne]), HB.out⟩
set_option maxHeartbeats 4000000 in
set_option maxRecDepth 100000 in
theorem check_any (v : Value) (p : PL) (w : World) (hf : p.Fit) (h : IsPlan w v p) :
    Calls Tryz.prog 26 #[v] w fun e w' => e = .returned (.int .i64 (checkE p)) ∧ Below w.heap.size w w' := by
  have hk1 := fun W (hW : Below w.heap.size w W) => tooMany_any v p W hf (h.below hW)
  have hk2 := fun W (hW : Below w.heap.size w W) => paired_any v p W hf (h.below hW)
  obtain ⟨n1, n2, n3, n4, n5⟩ := hf
  obtain ⟨v1, v2, v3, rfl, h1, h2, h3⟩ := h
  have hb : Below w.heap.size w (w.alloc (.cells #[v1, v2, v3, .int .i64 p.cost] 27)) := (Below.refl _ _).alloc (Nat.le_refl _) _
  have hx : (w.alloc (.cells #[v1, v2, v3, .int .i64 p.cost] 27)).heap[w.heap.size]? = some (.cells #[v1, v2, v3, .int .i64 p.cost] 27) := World.alloc_heap_new _ _
  have hc1 := fun W (hW : Below w.heap.size w W) => contains_ints v1 p.routes (·.any byd) 42 #[] W (fun _ _ => rfl) (h1.below hW) n1 (fun j hj W' u _ hu => anyBeyond_int u _ W' hu (list_at n4 hj))
  have hc2 := fun W (hW : Below w.heap.size w W) => anyBeyond_int v3 p.left W (h3.below hW) n3
  have hc3 := fun W (hW : Below w.heap.size w W) => contains_longs v2 p.times (·.any byd) 44 #[] W (fun _ _ => rfl) (h2.below hW) n2 (fun j hj W' u _ hu => anyBeyond_long u _ W' hu (list_at n5 hj))
  have hc4 := fun W => beyond_long p.cost W
  obtain ⟨a1, c1, rfl⟩ := h1.form
  obtain ⟨a2, c2, rfl⟩ := h2.form
  obtain ⟨a3, c3, rfl⟩ := h3.form
  have hce : (tooB p = true → checkE p = 3) ∧ (tooB p = false → pairB p = false → checkE p = 1) ∧ (tooB p = false → pairB p = true → checkE p = if rangeB p then 23 else 0) := by
    unfold checkE
    refine ⟨fun h => by rw [if_pos h], fun h1 h2 => by rw [if_neg (by rw [h1]; simp), if_pos (by rw [h2]; rfl)], fun h1 h2 => by rw [if_neg (by rw [h1]; simp), if_neg (by rw [h2]; simp)]⟩
  unfold rangeB at hce
  clear h1 h2 h3 n4 n5
  generalize tooB p = t1 at *
  generalize pairB p = t2 at *
  generalize p.routes.any (·.any byd) = z1 at *
  generalize p.left.any byd = z2 at *
  generalize p.times.any (·.any byd) = z3 at *
  generalize byd p.cost = z4 at *
  generalize checkE p = ce at *
  generalize p.routes.length = nr at *
  generalize p.times.length = nt at *
  generalize p.left.length = nl at *
  generalize p.cost = cost at *
  have K1 := Lib.hid hk1; clear hk1
  have K2 := Lib.hid hk2; clear hk2
  have C1 := Lib.hid hc1; clear hc1
  have C2 := Lib.hid hc2; clear hc2
  have C3 := Lib.hid hc3; clear hc3
  have C4 := Lib.hid hc4; clear hc4
  have HCE := Lib.hid hce; clear hce
  have HB := Lib.hid hb; clear hb
  have HX := Lib.hid hx; clear hx
  go_enter Tryz.func26, Tryz.ntmps26
  go_wp2_with fail
  refine (K1.out _ HB.out).mono ?_
  rintro e w1 ⟨rfl, hb1⟩
  have HB1 := Lib.hid (HB.out.trans (hb1.mono HB.out.size))
  have HX1 := Lib.hid ((hb1.block _ (own_lt HX.out)).trans HX.out); clear hb1
  have x01 : w1.cell? ⟨w.heap.size, 0, none⟩ = some (.slice a1 nr c1) := (own_cell HX1.out).trans rfl
  have x11 : w1.cell? ⟨w.heap.size, 1, none⟩ = some (.slice a2 nt c2) := (own_cell HX1.out).trans rfl
  have x21 : w1.cell? ⟨w.heap.size, 2, none⟩ = some (.slice a3 nl c3) := (own_cell HX1.out).trans rfl
  have x31 : w1.cell? ⟨w.heap.size, 3, none⟩ = some (.int .i64 cost) := (own_cell HX1.out).trans rfl
  cases t1 with
  | true =>
    have hz := HCE.out.1 (by trivial)
    subst hz
    go_wp2_with fail
    go_ret
    exact ⟨rfl, HB1.out⟩
  | false =>
    go_wp2_with fail
    refine (K2.out _ HB1.out).mono ?_
    rintro e w2 ⟨rfl, hb2⟩
    have HB2 := Lib.hid (HB1.out.trans (hb2.mono HB1.out.size))
    have HX2 := Lib.hid ((hb2.block _ (own_lt HX1.out)).trans HX1.out); clear hb2
    have x02 : w2.cell? ⟨w.heap.size, 0, none⟩ = some (.slice a1 nr c1) := (own_cell HX2.out).trans rfl
    have x12 : w2.cell? ⟨w.heap.size, 1, none⟩ = some (.slice a2 nt c2) := (own_cell HX2.out).trans rfl
    have x22 : w2.cell? ⟨w.heap.size, 2, none⟩ = some (.slice a3 nl c3) := (own_cell HX2.out).trans rfl
    have x32 : w2.cell? ⟨w.heap.size, 3, none⟩ = some (.int .i64 cost) := (own_cell HX2.out).trans rfl
    cases t2 with
    | false =>
      have hz := HCE.out.2.1 (by trivial) (by trivial)
      subst hz
      go_wp2_with fail
      go_ret
      exact ⟨rfl, HB2.out⟩
    | true =>
      have hz := HCE.out.2.2 (by trivial) (by trivial)
      have HZ := Lib.hid hz; clear hz HCE K1 K2
      go_wp2_with fail
      refine (C1.out _ HB2.out).mono ?_
      rintro e w3 ⟨rfl, hb3⟩
      have HB3 := Lib.hid (HB2.out.trans (hb3.mono HB2.out.size))
      have HX3 := Lib.hid ((hb3.block _ (own_lt HX2.out)).trans HX2.out); clear hb3
      have x03 : w3.cell? ⟨w.heap.size, 0, none⟩ = some (.slice a1 nr c1) := (own_cell HX3.out).trans rfl
      have x13 : w3.cell? ⟨w.heap.size, 1, none⟩ = some (.slice a2 nt c2) := (own_cell HX3.out).trans rfl
      have x23 : w3.cell? ⟨w.heap.size, 2, none⟩ = some (.slice a3 nl c3) := (own_cell HX3.out).trans rfl
      have x33 : w3.cell? ⟨w.heap.size, 3, none⟩ = some (.int .i64 cost) := (own_cell HX3.out).trans rfl
      cases z1 with
      | true =>
        have hz := HZ.out
        simp at hz
        subst hz
        go_wp2_with fail
        go_ret
        exact ⟨rfl, HB3.out⟩
      | false =>
        go_wp2_with fail
        refine (C2.out _ HB3.out).mono ?_
        rintro e w4 ⟨rfl, hb4⟩
        have HB4 := Lib.hid (HB3.out.trans (hb4.mono HB3.out.size))
        have HX4 := Lib.hid ((hb4.block _ (own_lt HX3.out)).trans HX3.out); clear hb4
        have x04 : w4.cell? ⟨w.heap.size, 0, none⟩ = some (.slice a1 nr c1) := (own_cell HX4.out).trans rfl
        have x14 : w4.cell? ⟨w.heap.size, 1, none⟩ = some (.slice a2 nt c2) := (own_cell HX4.out).trans rfl
        have x24 : w4.cell? ⟨w.heap.size, 2, none⟩ = some (.slice a3 nl c3) := (own_cell HX4.out).trans rfl
        have x34 : w4.cell? ⟨w.heap.size, 3, none⟩ = some (.int .i64 cost) := (own_cell HX4.out).trans rfl
        cases z2 with
        | true =>
          have hz := HZ.out
          simp at hz
          subst hz
          go_wp2_with fail
          go_ret
          exact ⟨rfl, HB4.out⟩
        | false =>
          go_wp2_with fail
          refine (C3.out _ HB4.out).mono ?_
          rintro e w5 ⟨rfl, hb5⟩
          have HB5 := Lib.hid (HB4.out.trans (hb5.mono HB4.out.size))
          have HX5 := Lib.hid ((hb5.block _ (own_lt HX4.out)).trans HX4.out); clear hb5
          have x05 : w5.cell? ⟨w.heap.size, 0, none⟩ = some (.slice a1 nr c1) := (own_cell HX5.out).trans rfl
          have x15 : w5.cell? ⟨w.heap.size, 1, none⟩ = some (.slice a2 nt c2) := (own_cell HX5.out).trans rfl
          have x25 : w5.cell? ⟨w.heap.size, 2, none⟩ = some (.slice a3 nl c3) := (own_cell HX5.out).trans rfl
          have x35 : w5.cell? ⟨w.heap.size, 3, none⟩ = some (.int .i64 cost) := (own_cell HX5.out).trans rfl
          cases z3 with
          | true =>
            have hz := HZ.out
            simp at hz
            subst hz
            go_wp2_with fail
            go_ret
            exact ⟨rfl, HB5.out⟩
          | false =>
            go_wp2_with fail
            refine (C4.out _).mono ?_
            rintro e w6 ⟨rfl, hb6⟩
            have HB6 := Lib.hid (HB5.out.trans (hb6.mono HB5.out.size))
            have HX6 := Lib.hid ((hb6.block _ (own_lt HX5.out)).trans HX5.out); clear hb6
            have x06 : w6.cell? ⟨w.heap.size, 0, none⟩ = some (.slice a1 nr c1) := (own_cell HX6.out).trans rfl
            have x16 : w6.cell? ⟨w.heap.size, 1, none⟩ = some (.slice a2 nt c2) := (own_cell HX6.out).trans rfl
            have x26 : w6.cell? ⟨w.heap.size, 2, none⟩ = some (.slice a3 nl c3) := (own_cell HX6.out).trans rfl
            have x36 : w6.cell? ⟨w.heap.size, 3, none⟩ = some (.int .i64 cost) := (own_cell HX6.out).trans rfl
            cases z4 with
            | true =>
              have hz := HZ.out
              simp at hz
              subst hz
              go_wp2_with fail
              go_ret
              exact ⟨rfl, HB6.out⟩
            | false =>
              have hz := HZ.out
              simp at hz
              subst hz
              go_wp2_with fail
              go_ret
              exact ⟨rfl, HB6.out⟩
end Fil
end Go.Proofs.YtkggahoadeeajaaGreatDoor
