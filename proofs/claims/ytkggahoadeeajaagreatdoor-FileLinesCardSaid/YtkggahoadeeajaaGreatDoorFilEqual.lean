/- slices.Equal, EqualFunc of rows of numbers, and plan.Same: just of plans that hold the same; over the translated program. (Printed by drafts/gen_filequal.py.) -/
import Derived.Test.YtkggahoadeeajaaGreatDoorFilCheck
namespace Go.Proofs.YtkggahoadeeajaaGreatDoor
namespace Fil
open Go Go.RowKit Deci
set_option linter.unusedVariables false
/-- Does anything stand otherwise? -/
def difB {α : Type} [DecidableEq α] (d : α) (xs ys : List α) (j : Nat) : Bool := !decide (xs.getD j d = ys.getD j d)
theorem dif_iff {α : Type} [DecidableEq α] {d : α} {xs ys : List α} (h : xs.length = ys.length) : (!anyTo (difB d xs ys) xs.length) = decide (xs = ys) := by
  rw [Bool.eq_iff_iff, decide_eq_true_eq, Bool.not_eq_true']
  constructor
  · intro ha
    refine List.ext_getElem h fun j h1 h2 => ?_
    have := anyTo_iff (p := difB d xs ys) (k := xs.length)
    by_cases e : xs[j] = ys[j]
    · exact e
    · have : anyTo (difB d xs ys) xs.length = true := this.2 ⟨j, h1, by unfold difB; simp [h1, h2, e]⟩
      rw [ha] at this; cases this
  · rintro rfl
    cases hh : anyTo (difB d xs xs) xs.length with
    | false => rfl
    | true => obtain ⟨i, _, h2⟩ := anyTo_iff.1 hh; unfold difB at h2; simp at h2
theorem dif_len {α : Type} [DecidableEq α] {xs ys : List α} (h : xs.length ≠ ys.length) : decide (xs = ys) = false := by
  rw [decide_eq_false_iff_not]; rintro rfl; exact h rfl
set_option maxHeartbeats 2000000 in
theorem equal_int (v1 v2 : Value) (xs ys : List Int) (w : World) (hx : xs.length ≤ 1000000) (hy : ys.length ≤ 1000000) (h1 : IsRow w v1 xs) (h2 : IsRow w v2 ys) :
    Calls Tryz.prog 31 #[v1, v2] w fun e w' => e = .returned (.bool (decide (xs = ys))) ∧ Below w.heap.size w w' := by
  obtain ⟨a1, c1, rfl, g1⟩ := row_at h1
  obtain ⟨a2, c2, rfl, g2⟩ := row_at h2
  clear h1 h2
  by_cases hl : xs.length = ys.length
  · rw [← dif_iff (d := 0) hl]
    rw [← hl] at g2 ⊢
    obtain ⟨D, hD⟩ : ∃ D, D = difB 0 xs ys := ⟨_, rfl⟩
    have hDk : ∀ k, D k = !decide (xs.getD k 0 = ys.getD k 0) := fun k => by rw [hD]; rfl
    rw [← hD]
    clear hD hl hy
    have H1 := Lib.hid g1; clear g1
    have H2 := Lib.hid g2; clear g2
    have HD := Lib.hid hDk; clear hDk
    generalize xs.length = n at *
    go_enter Tryz.func31, Tryz.ntmps31
    go_wp2_with fail
    go_loopw [13] (fun i wr => ∃ k : Nat, k ≤ n ∧ i = .int .i64 k ∧ Hid (∃ q, wr = w.drewN q) ∧ Hid (anyTo D k = false)) (fun i _ => n - (intOf i).toNat)
    case atStart => exact ⟨0, Nat.zero_le _, rfl, Lib.hid ⟨0, rfl⟩, Lib.hid rfl⟩
    case round =>
      obtain ⟨k, hk, rfl, HQ, AN⟩ := hrel
      obtain ⟨qq, rfl⟩ := HQ.out; clear HQ
      by_cases hlt : k < n
      · obtain ⟨b1, o1, rfl, hb1, d1⟩ := H1.out k hlt
        obtain ⟨b2, o2, rfl, hb2, d2⟩ := H2.out k hlt
        have hdk := HD.out k
        have i0 : (0 : Int) ≤ (k : Int) := by omega
        have i1 : (k : Int) < (n : Int) := by omega
        generalize xs.getD k 0 = xk at *
        generalize ys.getD k 0 = yk at *
        have HDK := Lib.hid hdk; clear hdk
        by_cases he : xk = yk
        · subst he
          have HN : Hid (anyTo D (k + 1) = false) := Lib.hid (by unfold anyTo; rw [AN.out, HDK.out]; simp)
          go_wp2_with fail
          go_quiet (fail)
          clear i0 i1
          go_wp2_with fail
          go_roundw
          case rel => exact ⟨k + 1, by omega, by go_num, Lib.hid ⟨_, rfl⟩, HN⟩
          case measure => simp [intOf]; omega
        · have HT : Hid (anyTo D n = true) := Lib.hid (anyTo_iff.2 ⟨k, hlt, by rw [HDK.out]; simp [he]⟩)
          have z1 : (xk != yk) = true := by simpa using he
          have z2 : (xk == yk) = false := by simpa using he
          go_wp2_with fail
          go_quiet (fail)
          clear i0 i1
          go_wp2_with fail
          go_ret
          exact ⟨ret_bool (by rw [HT.out]; rfl), by rw [drewN_drewN]; exact Joins.below_draws _ _ _⟩
      · obtain rfl : k = n := by omega
        go_wp2_with fail
        go_ret
        exact ⟨ret_bool (by rw [AN.out]; rfl), Joins.below_draws _ _ _⟩
  · have hd := dif_len hl
    have z1 : ((xs.length : Int) != (ys.length : Int)) = true := by simp; omega
    generalize decide (xs = ys) = r at *
    subst hd
    clear g1 g2 hl
    generalize xs.length = n at *
    generalize ys.length = m at *
    go_enter Tryz.func31, Tryz.ntmps31
    go_wp2_with fail
    go_ret
    exact ⟨rfl, Below.refl _ _⟩
set_option maxHeartbeats 2000000 in
theorem equal_long (v1 v2 : Value) (xs ys : List Int) (w : World) (hx : xs.length ≤ 1000000) (hy : ys.length ≤ 1000000) (h1 : IsRow w v1 xs) (h2 : IsRow w v2 ys) :
    Calls Tryz.prog 33 #[v1, v2] w fun e w' => e = .returned (.bool (decide (xs = ys))) ∧ Below w.heap.size w w' := by
  obtain ⟨a1, c1, rfl, g1⟩ := row_at h1
  obtain ⟨a2, c2, rfl, g2⟩ := row_at h2
  clear h1 h2
  by_cases hl : xs.length = ys.length
  · rw [← dif_iff (d := 0) hl]
    rw [← hl] at g2 ⊢
    obtain ⟨D, hD⟩ : ∃ D, D = difB 0 xs ys := ⟨_, rfl⟩
    have hDk : ∀ k, D k = !decide (xs.getD k 0 = ys.getD k 0) := fun k => by rw [hD]; rfl
    rw [← hD]
    clear hD hl hy
    have H1 := Lib.hid g1; clear g1
    have H2 := Lib.hid g2; clear g2
    have HD := Lib.hid hDk; clear hDk
    generalize xs.length = n at *
    go_enter Tryz.func33, Tryz.ntmps33
    go_wp2_with fail
    go_loopw [13] (fun i wr => ∃ k : Nat, k ≤ n ∧ i = .int .i64 k ∧ Hid (∃ q, wr = w.drewN q) ∧ Hid (anyTo D k = false)) (fun i _ => n - (intOf i).toNat)
    case atStart => exact ⟨0, Nat.zero_le _, rfl, Lib.hid ⟨0, rfl⟩, Lib.hid rfl⟩
    case round =>
      obtain ⟨k, hk, rfl, HQ, AN⟩ := hrel
      obtain ⟨qq, rfl⟩ := HQ.out; clear HQ
      by_cases hlt : k < n
      · obtain ⟨b1, o1, rfl, hb1, d1⟩ := H1.out k hlt
        obtain ⟨b2, o2, rfl, hb2, d2⟩ := H2.out k hlt
        have hdk := HD.out k
        have i0 : (0 : Int) ≤ (k : Int) := by omega
        have i1 : (k : Int) < (n : Int) := by omega
        generalize xs.getD k 0 = xk at *
        generalize ys.getD k 0 = yk at *
        have HDK := Lib.hid hdk; clear hdk
        by_cases he : xk = yk
        · subst he
          have HN : Hid (anyTo D (k + 1) = false) := Lib.hid (by unfold anyTo; rw [AN.out, HDK.out]; simp)
          go_wp2_with fail
          go_quiet (fail)
          clear i0 i1
          go_wp2_with fail
          go_roundw
          case rel => exact ⟨k + 1, by omega, by go_num, Lib.hid ⟨_, rfl⟩, HN⟩
          case measure => simp [intOf]; omega
        · have HT : Hid (anyTo D n = true) := Lib.hid (anyTo_iff.2 ⟨k, hlt, by rw [HDK.out]; simp [he]⟩)
          have z1 : (xk != yk) = true := by simpa using he
          have z2 : (xk == yk) = false := by simpa using he
          go_wp2_with fail
          go_quiet (fail)
          clear i0 i1
          go_wp2_with fail
          go_ret
          exact ⟨ret_bool (by rw [HT.out]; rfl), by rw [drewN_drewN]; exact Joins.below_draws _ _ _⟩
      · obtain rfl : k = n := by omega
        go_wp2_with fail
        go_ret
        exact ⟨ret_bool (by rw [AN.out]; rfl), Joins.below_draws _ _ _⟩
  · have hd := dif_len hl
    have z1 : ((xs.length : Int) != (ys.length : Int)) = true := by simp; omega
    generalize decide (xs = ys) = r at *
    subst hd
    clear g1 g2 hl
    generalize xs.length = n at *
    generalize ys.length = m at *
    go_enter Tryz.func33, Tryz.ntmps33
    go_wp2_with fail
    go_ret
    exact ⟨rfl, Below.refl _ _⟩
set_option maxHeartbeats 2000000 in
set_option maxRecDepth 100000 in
theorem equal_ints (v1 v2 : Value) (rs qs : List (List Int)) (w : World) (hx : rs.length ≤ 1000000) (hy : qs.length ≤ 1000000) (hrs : ∀ r ∈ rs, r.length ≤ 1000000) (hqs : ∀ r ∈ qs, r.length ≤ 1000000) (h1 : IsRows w v1 rs) (h2 : IsRows w v2 qs) :
    Calls Tryz.prog 30 #[v1, v2, .func (.func 31) #[] #[]] w fun e w' => e = .returned (.bool (decide (rs = qs))) ∧ Below w.heap.size w w' := by
  have eg : ∀ args w, (callFunc 31 args).run Tryz.prog w = .ok (.enter 31 args) w := fun _ _ => rfl
  obtain ⟨a1, c1, rfl, g1⟩ := rows_at h1
  obtain ⟨a2, c2, rfl, g2⟩ := rows_at h2
  clear h1 h2
  by_cases hl : rs.length = qs.length
  · have hlr : ∀ k, k < rs.length → (rs.getD k []).length ≤ 1000000 := fun k hk => list_at (d := []) hrs hk
    have hlq : ∀ k, k < rs.length → (qs.getD k []).length ≤ 1000000 := fun k hk => list_at (d := []) hqs (by omega)
    rw [← dif_iff (d := []) hl]
    rw [← hl] at g2 ⊢
    obtain ⟨D, hD⟩ : ∃ D, D = difB [] rs qs := ⟨_, rfl⟩
    have hDk : ∀ k, D k = !decide (rs.getD k [] = qs.getD k []) := fun k => by rw [hD]; rfl
    rw [← hD]
    clear hD hl hy hrs hqs
    have H1 := Lib.hid g1; clear g1
    have H2 := Lib.hid g2; clear g2
    have HD := Lib.hid hDk; clear hDk
    have HR := Lib.hid hlr; clear hlr
    have HS := Lib.hid hlq; clear hlq
    have EG := Lib.hid eg; clear eg
    generalize rs.length = n at *
    go_enter Tryz.func30, Tryz.ntmps30
    go_wp2_with fail
    go_loopw [17] (fun i wr => ∃ k : Nat, k ≤ n ∧ i = .int .i64 k ∧ Hid (Below w.heap.size w wr) ∧ Hid (anyTo D k = false)) (fun i _ => n - (intOf i).toNat)
    case atStart => exact ⟨0, Nat.zero_le _, rfl, Lib.hid (Below.refl _ _), Lib.hid rfl⟩
    case round =>
      obtain ⟨k, hk, rfl, BW, AN⟩ := hrel
      by_cases hlt : k < n
      · obtain ⟨b1, o1, u1, rfl, hb1, q1, r1⟩ := H1.out k hlt
        obtain ⟨b2, o2, u2, rfl, hb2, q2, r2⟩ := H2.out k hlt
        have hcall := equal_int u1 u2 _ _ wr (HR.out k hlt) (HS.out k hlt) (r1.below BW.out) (r2.below BW.out)
        have d1 := (BW.out.cell (p := ⟨b1, o1 + k, none⟩) hb1).trans q1
        have d2 := (BW.out.cell (p := ⟨b2, o2 + k, none⟩) hb2).trans q2
        have hdk := HD.out k
        obtain ⟨e1, f1, rfl⟩ := r1.form
        obtain ⟨e2, f2, rfl⟩ := r2.form
        clear q1 q2 r1 r2
        have i0 : (0 : Int) ≤ (k : Int) := by omega
        have i1 : (k : Int) < (n : Int) := by omega
        generalize (rs.getD k []).length = l1 at *
        generalize (qs.getD k []).length = l2 at *
        generalize decide (rs.getD k [] = qs.getD k []) = B at *
        have HDK := Lib.hid hdk; clear hdk
        have HC := Lib.hid hcall; clear hcall
        have eg := EG.out
        cases B with
        | true =>
          have HN : Hid (anyTo D (k + 1) = false) := Lib.hid (by unfold anyTo; rw [AN.out, HDK.out]; rfl)
          go_wp2_with fail
          refine HC.out.mono ?_
          rintro e w' ⟨rfl, hb⟩
          have HB := Lib.hid hb
          clear hb eg d1 d2
          go_wp2_with fail
          go_roundw
          case rel => exact ⟨k + 1, by omega, by go_num, Lib.hid (BW.out.trans (HB.out.mono BW.out.size)), HN⟩
          case measure => simp [intOf]; omega
        | false =>
          have HT : Hid (anyTo D n = true) := Lib.hid (anyTo_iff.2 ⟨k, hlt, by rw [HDK.out]; rfl⟩)
          go_wp2_with fail
          refine HC.out.mono ?_
          rintro e w' ⟨rfl, hb⟩
          have HB := Lib.hid hb
          clear hb eg d1 d2
          go_wp2_with fail
          go_ret
          exact ⟨ret_bool (by rw [HT.out]; rfl), BW.out.trans (HB.out.mono BW.out.size)⟩
      · obtain rfl : k = n := by omega
        go_wp2_with fail
        go_ret
        exact ⟨ret_bool (by rw [AN.out]; rfl), BW.out⟩
  · have hd := dif_len hl
    have z1 : ((rs.length : Int) != (qs.length : Int)) = true := by simp; omega
    generalize decide (rs = qs) = r at *
    subst hd
    clear g1 g2 hl hrs hqs eg
    generalize rs.length = n at *
    generalize qs.length = m at *
    go_enter Tryz.func30, Tryz.ntmps30
    go_wp2_with fail
    go_ret
    exact ⟨rfl, Below.refl _ _⟩
set_option maxHeartbeats 2000000 in
set_option maxRecDepth 100000 in
theorem equal_longs (v1 v2 : Value) (rs qs : List (List Int)) (w : World) (hx : rs.length ≤ 1000000) (hy : qs.length ≤ 1000000) (hrs : ∀ r ∈ rs, r.length ≤ 1000000) (hqs : ∀ r ∈ qs, r.length ≤ 1000000) (h1 : IsRows w v1 rs) (h2 : IsRows w v2 qs) :
    Calls Tryz.prog 32 #[v1, v2, .func (.func 33) #[] #[]] w fun e w' => e = .returned (.bool (decide (rs = qs))) ∧ Below w.heap.size w w' := by
  have eg : ∀ args w, (callFunc 33 args).run Tryz.prog w = .ok (.enter 33 args) w := fun _ _ => rfl
  obtain ⟨a1, c1, rfl, g1⟩ := rows_at h1
  obtain ⟨a2, c2, rfl, g2⟩ := rows_at h2
  clear h1 h2
  by_cases hl : rs.length = qs.length
  · have hlr : ∀ k, k < rs.length → (rs.getD k []).length ≤ 1000000 := fun k hk => list_at (d := []) hrs hk
    have hlq : ∀ k, k < rs.length → (qs.getD k []).length ≤ 1000000 := fun k hk => list_at (d := []) hqs (by omega)
    rw [← dif_iff (d := []) hl]
    rw [← hl] at g2 ⊢
    obtain ⟨D, hD⟩ : ∃ D, D = difB [] rs qs := ⟨_, rfl⟩
    have hDk : ∀ k, D k = !decide (rs.getD k [] = qs.getD k []) := fun k => by rw [hD]; rfl
    rw [← hD]
    clear hD hl hy hrs hqs
    have H1 := Lib.hid g1; clear g1
    have H2 := Lib.hid g2; clear g2
    have HD := Lib.hid hDk; clear hDk
    have HR := Lib.hid hlr; clear hlr
    have HS := Lib.hid hlq; clear hlq
    have EG := Lib.hid eg; clear eg
    generalize rs.length = n at *
    go_enter Tryz.func32, Tryz.ntmps32
    go_wp2_with fail
    go_loopw [17] (fun i wr => ∃ k : Nat, k ≤ n ∧ i = .int .i64 k ∧ Hid (Below w.heap.size w wr) ∧ Hid (anyTo D k = false)) (fun i _ => n - (intOf i).toNat)
    case atStart => exact ⟨0, Nat.zero_le _, rfl, Lib.hid (Below.refl _ _), Lib.hid rfl⟩
    case round =>
      obtain ⟨k, hk, rfl, BW, AN⟩ := hrel
      by_cases hlt : k < n
      · obtain ⟨b1, o1, u1, rfl, hb1, q1, r1⟩ := H1.out k hlt
        obtain ⟨b2, o2, u2, rfl, hb2, q2, r2⟩ := H2.out k hlt
        have hcall := equal_long u1 u2 _ _ wr (HR.out k hlt) (HS.out k hlt) (r1.below BW.out) (r2.below BW.out)
        have d1 := (BW.out.cell (p := ⟨b1, o1 + k, none⟩) hb1).trans q1
        have d2 := (BW.out.cell (p := ⟨b2, o2 + k, none⟩) hb2).trans q2
        have hdk := HD.out k
        obtain ⟨e1, f1, rfl⟩ := r1.form
        obtain ⟨e2, f2, rfl⟩ := r2.form
        clear q1 q2 r1 r2
        have i0 : (0 : Int) ≤ (k : Int) := by omega
        have i1 : (k : Int) < (n : Int) := by omega
        generalize (rs.getD k []).length = l1 at *
        generalize (qs.getD k []).length = l2 at *
        generalize decide (rs.getD k [] = qs.getD k []) = B at *
        have HDK := Lib.hid hdk; clear hdk
        have HC := Lib.hid hcall; clear hcall
        have eg := EG.out
        cases B with
        | true =>
          have HN : Hid (anyTo D (k + 1) = false) := Lib.hid (by unfold anyTo; rw [AN.out, HDK.out]; rfl)
          go_wp2_with fail
          refine HC.out.mono ?_
          rintro e w' ⟨rfl, hb⟩
          have HB := Lib.hid hb
          clear hb eg d1 d2
          go_wp2_with fail
          go_roundw
          case rel => exact ⟨k + 1, by omega, by go_num, Lib.hid (BW.out.trans (HB.out.mono BW.out.size)), HN⟩
          case measure => simp [intOf]; omega
        | false =>
          have HT : Hid (anyTo D n = true) := Lib.hid (anyTo_iff.2 ⟨k, hlt, by rw [HDK.out]; rfl⟩)
          go_wp2_with fail
          refine HC.out.mono ?_
          rintro e w' ⟨rfl, hb⟩
          have HB := Lib.hid hb
          clear hb eg d1 d2
          go_wp2_with fail
          go_ret
          exact ⟨ret_bool (by rw [HT.out]; rfl), BW.out.trans (HB.out.mono BW.out.size)⟩
      · obtain rfl : k = n := by omega
        go_wp2_with fail
        go_ret
        exact ⟨ret_bool (by rw [AN.out]; rfl), BW.out⟩
  · have hd := dif_len hl
    have z1 : ((rs.length : Int) != (qs.length : Int)) = true := by simp; omega
    generalize decide (rs = qs) = r at *
    subst hd
    clear g1 g2 hl hrs hqs eg
    generalize rs.length = n at *
    generalize qs.length = m at *
    go_enter Tryz.func32, Tryz.ntmps32
    go_wp2_with fail
    go_ret
    exact ⟨rfl, Below.refl _ _⟩
/-- Are two plans the same? -/
def sameP (p q : PL) : Bool := decide (p.routes = q.routes) && (decide (p.times = q.times) && (decide (p.left = q.left) && decide (p.cost = q.cost)))
theorem sameP_iff {p q : PL} : sameP p q = true ↔ p = q := by
  obtain ⟨a1, a2, a3, a4⟩ := p
  obtain ⟨b1, b2, b3, b4⟩ := q
  unfold sameP
  simp
theorem sameP_self (p : PL) : sameP p p = true := sameP_iff.2 rfl
set_option maxHeartbeats 4000000 in
set_option maxRecDepth 100000 in
theorem planSame_any (v1 v2 : Value) (p q : PL) (w : World) (hp : p.Fit) (hq : q.Fit) (h1 : IsPlan w v1 p) (h2 : IsPlan w v2 q) :
    Calls Tryz.prog 16 #[v1, v2] w fun e w' => e = .returned (.bool (sameP p q)) ∧ Below w.heap.size w w' := by
  obtain ⟨m1, m2, m3, m4, m5⟩ := hp
  obtain ⟨n1, n2, n3, n4, n5⟩ := hq
  obtain ⟨a1, a2, a3, rfl, ha1, ha2, ha3⟩ := h1
  obtain ⟨b1, b2, b3, rfl, hb1, hb2, hb3⟩ := h2
  have c1 := fun W (hW : Below w.heap.size w W) => equal_ints a1 b1 p.routes q.routes W m1 n1 m4 n4 (ha1.below hW) (hb1.below hW)
  have c2 := fun W (hW : Below w.heap.size w W) => equal_longs a2 b2 p.times q.times W m2 n2 m5 n5 (ha2.below hW) (hb2.below hW)
  have c3 := fun W (hW : Below w.heap.size w W) => equal_int a3 b3 p.left q.left W m3 n3 (ha3.below hW) (hb3.below hW)
  obtain ⟨a1, ac1, rfl⟩ := ha1.form
  obtain ⟨a2, ac2, rfl⟩ := ha2.form
  obtain ⟨a3, ac3, rfl⟩ := ha3.form
  obtain ⟨b1, bc1, rfl⟩ := hb1.form
  obtain ⟨b2, bc2, rfl⟩ := hb2.form
  obtain ⟨b3, bc3, rfl⟩ := hb3.form
  clear ha1 ha2 ha3 hb1 hb2 hb3 m4 m5 n4 n5
  have hs : sameP p q = (decide (p.routes = q.routes) && (decide (p.times = q.times) && (decide (p.left = q.left) && (p.cost == q.cost)))) := by unfold sameP; congr 3
  rw [hs]; clear hs
  generalize decide (p.routes = q.routes) = z1 at *
  generalize decide (p.times = q.times) = z2 at *
  generalize decide (p.left = q.left) = z3 at *
  generalize p.routes.length = la1 at *
  generalize p.times.length = la2 at *
  generalize p.left.length = la3 at *
  generalize q.routes.length = lb1 at *
  generalize q.times.length = lb2 at *
  generalize q.left.length = lb3 at *
  generalize p.cost = ca at *
  generalize q.cost = cb at *
  have C1 := Lib.hid c1; clear c1
  have C2 := Lib.hid c2; clear c2
  have C3 := Lib.hid c3; clear c3
  obtain ⟨X, hX⟩ : ∃ X, X = w.heap.size := ⟨_, rfl⟩
  obtain ⟨W0, hW0⟩ : ∃ W0, W0 = (w.alloc (.cells #[.slice a1 la1 ac1, .slice a2 la2 ac2, .slice a3 la3 ac3, .int .i64 ca] 27)).alloc (.cells #[.slice b1 lb1 bc1, .slice b2 lb2 bc2, .slice b3 lb3 bc3, .int .i64 cb] 27) := ⟨_, rfl⟩
  have hb0 : Below w.heap.size w W0 := by rw [hW0]; exact ((Below.refl _ _).alloc (Nat.le_refl _) _).alloc (by simp) _
  have hx0 : W0.heap[X]? = some (.cells #[.slice a1 la1 ac1, .slice a2 la2 ac2, .slice a3 la3 ac3, .int .i64 ca] 27) := by rw [hX, hW0, Below.heap_alloc _ _ _ (by simp)]; exact World.alloc_heap_new w _
  have hy0 : W0.heap[X + 1]? = some (.cells #[.slice b1 lb1 bc1, .slice b2 lb2 bc2, .slice b3 lb3 bc3, .int .i64 cb] 27) := by
    rw [hX, hW0]
    rw [← World.size_alloc w (.cells #[.slice a1 la1 ac1, .slice a2 la2 ac2, .slice a3 la3 ac3, .int .i64 ca] 27)]; exact World.alloc_heap_new _ _
  have hxl : X < W0.heap.size := own_lt hx0
  have hyl : X + 1 < W0.heap.size := own_lt hy0
  have key : ∀ W, Below W0.heap.size W0 W → Below w.heap.size w W ∧ (W.cell? ⟨X, 0, none⟩ = some (.slice a1 la1 ac1) ∧ W.cell? ⟨X, 1, none⟩ = some (.slice a2 la2 ac2) ∧ W.cell? ⟨X, 2, none⟩ = some (.slice a3 la3 ac3) ∧ W.cell? ⟨X, 3, none⟩ = some (.int .i64 ca)) ∧
      W.cell? ⟨X + 1, 0, none⟩ = some (.slice b1 lb1 bc1) ∧ W.cell? ⟨X + 1, 1, none⟩ = some (.slice b2 lb2 bc2) ∧ W.cell? ⟨X + 1, 2, none⟩ = some (.slice b3 lb3 bc3) ∧ W.cell? ⟨X + 1, 3, none⟩ = some (.int .i64 cb) := fun W hW => by
    have hx := (hW.block X hxl).trans hx0
    have hy := (hW.block (X + 1) hyl).trans hy0
    exact ⟨hb0.trans (hW.mono hb0.size), ⟨(own_cell hx).trans rfl, (own_cell hx).trans rfl, (own_cell hx).trans rfl, (own_cell hx).trans rfl⟩, (own_cell hy).trans rfl, (own_cell hy).trans rfl, (own_cell hy).trans rfl, (own_cell hy).trans rfl⟩
  have KEY := Lib.hid key; clear key
  have HX := Lib.hid hX; clear hX
  have HW := Lib.hid hW0; clear hW0
  clear hb0 hx0 hy0 hxl hyl
  obtain ⟨B0, ⟨x0, x1, x2, x3⟩, y0, y1, y2, y3⟩ := KEY.out W0 (Below.refl _ _)
  have HB0 := Lib.hid B0; clear B0
  go_enter Tryz.func16, Tryz.ntmps16
  go_wp2_with fail
  rw [show w.heap.size + 1 = X + 1 by rw [HX.out], ← HX.out, ← HW.out]
  refine (C1.out _ HB0.out).mono ?_
  rintro e W1 ⟨rfl, hb1⟩
  have HB1 := Lib.hid hb1; clear hb1
  clear x0 x1 x2 x3 y0 y1 y2 y3
  obtain ⟨B1, ⟨x0, x1, x2, x3⟩, y0, y1, y2, y3⟩ := KEY.out W1 HB1.out
  have HL1 := Lib.hid B1; clear B1
  cases z1 with
  | false =>
    go_wp2_with fail
    go_ret
    exact ⟨rfl, HL1.out⟩
  | true =>
    go_wp2_with fail
    refine (C2.out _ HL1.out).mono ?_
    rintro e W2 ⟨rfl, hb2⟩
    have HB2 := Lib.hid (HB1.out.trans (hb2.mono HB1.out.size)); clear hb2
    clear x0 x1 x2 x3 y0 y1 y2 y3
    obtain ⟨B2, ⟨x0, x1, x2, x3⟩, y0, y1, y2, y3⟩ := KEY.out W2 HB2.out
    have HL2 := Lib.hid B2; clear B2
    cases z2 with
    | false =>
      go_wp2_with fail
      go_ret
      exact ⟨rfl, HL2.out⟩
    | true =>
      go_wp2_with fail
      refine (C3.out _ HL2.out).mono ?_
      rintro e W3 ⟨rfl, hb3⟩
      have HB3 := Lib.hid (HB2.out.trans (hb3.mono HB2.out.size)); clear hb3
      clear x0 x1 x2 x3 y0 y1 y2 y3
      obtain ⟨B3, ⟨x0, x1, x2, x3⟩, y0, y1, y2, y3⟩ := KEY.out W3 HB3.out
      have HL3 := Lib.hid B3; clear B3
      cases z3 with
      | false =>
        go_wp2_with fail
        go_ret
        exact ⟨rfl, HL3.out⟩
      | true =>
        go_wp2_with fail
        go_ret
        exact ⟨rfl, HL3.out⟩
end Fil
end Go.Proofs.YtkggahoadeeajaaGreatDoor
