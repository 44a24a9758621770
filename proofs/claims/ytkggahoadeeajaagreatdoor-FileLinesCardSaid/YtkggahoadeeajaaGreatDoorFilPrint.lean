/- Package file's write and Print; over the translated program. -/
import Derived.Test.YtkggahoadeeajaaGreatDoorFilWrite
namespace Go.Proofs.YtkggahoadeeajaaGreatDoor
namespace Fil
open Go Go.RowKit Deci
set_option linter.unusedVariables false
/-- The text of a plan. -/
def bodyT (rs ts : List (List Int)) : Nat → List UInt8
  | 0 => []
  | k + 1 => bodyT rs ts k ++ (lineT wRoute (rs.getD k []) ++ lineT wTimes (ts.getD k []))
def planT (p : PL) : List UInt8 := lineT wPlan [(p.routes.length : Int), p.cost] ++ bodyT p.routes p.times p.routes.length ++ lineT wLeft p.left
/-- A number that has a text. -/
def OkN (x : Int) : Prop := 0 ≤ x ∧ x ≤ 1099511627776
/-- A plan that has a text. -/
structure PL.Ok (p : PL) : Prop where
  many : p.routes.length ≤ 64
  long : ∀ r ∈ p.routes, r.length ≤ 4096
  left : p.left.length ≤ 4096
  same : p.times.length = p.routes.length
  pair : ∀ j, j < p.routes.length → (p.routes.getD j []).length ≠ 0 ∧ ((p.times.getD j []).length = 0 ∨ (p.times.getD j []).length = (p.routes.getD j []).length)
  okr : ∀ r ∈ p.routes, ∀ x ∈ r, OkN x
  okl : ∀ x ∈ p.left, OkN x
  okt : ∀ r ∈ p.times, ∀ x ∈ r, OkN x
  okc : OkN p.cost
theorem byd_false {x : Int} : byd x = false ↔ OkN x := by unfold byd OkN; simp only [Bool.or_eq_false_iff, decide_eq_false_iff_not]; omega
theorem any_byd {l : List Int} : l.any byd = false ↔ ∀ x ∈ l, OkN x := by
  rw [List.any_eq_false]
  exact forall_congr' fun x => forall_congr' fun _ => by rw [Bool.not_eq_true]; exact byd_false
theorem any_any {l : List (List Int)} : l.any (·.any byd) = false ↔ ∀ r ∈ l, ∀ x ∈ r, OkN x := by
  rw [List.any_eq_false]
  exact forall_congr' fun x => forall_congr' fun _ => by rw [Bool.not_eq_true]; exact any_byd
theorem check_ok {p : PL} : checkE p = 0 ↔ p.Ok := by
  unfold checkE
  constructor
  · intro h
    split at h
    · cases h
    · rename_i h1
      split at h
      · cases h
      · rename_i h2
        split at h
        · cases h
        · rename_i h3
          rw [Bool.not_eq_true] at h1 h3
          unfold tooB longB at h1
          unfold rangeB at h3
          simp only [Bool.or_eq_false_iff, decide_eq_false_iff_not, List.any_eq_false, decide_eq_true_eq] at h1
          rw [Bool.or_eq_false_iff, Bool.or_eq_false_iff, Bool.or_eq_false_iff, any_any, any_byd, any_any, byd_false] at h3
          have h2' : pairB p = true := by simpa using h2
          unfold pairB at h2'
          rw [Bool.and_eq_true, decide_eq_true_eq, Bool.not_eq_true'] at h2'
          have hb := fun j (hj : j < p.routes.length) => (show badP p.routes p.times j = false from by
            cases hh : badP p.routes p.times j with
            | false => rfl
            | true => have := anyTo_iff.2 ⟨j, hj, hh⟩; rw [h2'.2] at this; cases this)
          refine ⟨by omega, fun r hr => by have := h1.2.1 r hr; omega, by omega, h2'.1, fun j hj => ?_, h3.1, h3.2.1, h3.2.2.1, h3.2.2.2⟩
          have := hb j hj
          unfold badP at this
          simp only [Bool.or_eq_false_iff, Bool.and_eq_false_iff, Bool.not_eq_false', decide_eq_false_iff_not, decide_eq_true_eq] at this
          exact this
  · rintro ⟨h1, h2, h3, h4, h5, h6, h7, h8, h9⟩
    have e1 : tooB p = false := by
      unfold tooB longB
      simp only [Bool.or_eq_false_iff, decide_eq_false_iff_not, List.any_eq_false, decide_eq_true_eq]
      exact ⟨by omega, fun r hr => by have := h2 r hr; omega, by omega⟩
    have e2 : pairB p = true := by
      unfold pairB
      rw [Bool.and_eq_true, decide_eq_true_eq, Bool.not_eq_true']
      refine ⟨h4, ?_⟩
      cases hh : anyTo (badP p.routes p.times) p.routes.length with
      | false => rfl
      | true =>
        obtain ⟨j, hj, hb⟩ := anyTo_iff.1 hh
        unfold badP at hb
        have := h5 j hj
        simp only [Bool.or_eq_true, Bool.and_eq_true, Bool.not_eq_true', decide_eq_false_iff_not, decide_eq_true_eq] at hb
        rcases hb with hb | hb
        · exact absurd hb this.1
        · rcases this.2 with h | h
          · exact absurd h hb.1
          · exact absurd h hb.2
    have e3 : rangeB p = false := by
      unfold rangeB
      rw [Bool.or_eq_false_iff, Bool.or_eq_false_iff, Bool.or_eq_false_iff, any_any, any_byd, any_any, byd_false]
      exact ⟨h6, h7, h8, h9⟩
    rw [e1, e2, e3]; rfl
theorem write_nat {x : Int} (h : OkN x) : writeV x 0 = Lib.decDigits x.natAbs ∧ (writeV x 0).length ≤ 13 := by
  have hlen : (Lib.decDigits x.natAbs).length ≤ 13 := dig_len 12 x.natAbs (by have := h.1; have := h.2; omega)
  have hne := dig_ne x.natAbs
  have hpad : padL (scV 0).toNat (Lib.decDigits x.natAbs) = Lib.decDigits x.natAbs := by
    unfold padL
    have : (scV 0).toNat = 0 := by unfold scV heldV; decide
    have hl : 0 < (Lib.decDigits x.natAbs).length := List.length_pos_iff.2 hne
    rw [this, show 0 + 1 - (Lib.decDigits x.natAbs).length = 0 by omega]; rfl
  have hsc : (scV 0).toNat = 0 := by unfold scV heldV; decide
  have hpart : partV x 0 = [] := by
    unfold partV
    rw [hpad, hsc, Nat.sub_zero, List.drop_length]
    unfold Lib.trimRightB
    simp
  have hhead : headV x 0 = Lib.decDigits x.natAbs := by
    unfold headV
    rw [hpad, hsc, Nat.sub_zero, List.take_length]
  have : writeV x 0 = Lib.decDigits x.natAbs := by
    unfold writeV
    rw [if_neg (by have := h.1; omega), hhead, hpart]; simp
  rw [this]
  exact ⟨rfl, hlen⟩
theorem okn_row {x : Int} (h : OkN x) : (-9223372036854775808 ≤ x ∧ x ≤ 9223372036854775807) ∧ (writeV x 0).length ≤ 100 := by
  have := (write_nat h).2
  have h1 := h.1
  have h2 := h.2
  exact ⟨⟨by omega, by omega⟩, by omega⟩
theorem lineT_len {name : ByteArray} {xs : List Int} (hn : name.size ≤ 10) (h : ∀ x ∈ xs, (writeV x 0).length ≤ 100) (hl : xs.length ≤ 5000) : (lineT name xs).length ≤ 600000 := by
  have := numsT_len h
  unfold lineT
  simp only [List.length_append, List.length_cons, List.length_nil, Array.length_toList]
  have : name.data.size = name.size := rfl
  omega
set_option maxHeartbeats 4000000 in
set_option maxRecDepth 100000 in
theorem writeAll_any (v : Value) (p : PL) (w : World) (hE : EnvAt w.heap.size w) (hok : p.Ok) (h : IsPlan w v p) :
    Calls Tryz.prog 27 #[v] w fun e w' => e = .returned (.string (strOf (planT p))) ∧ Below w.heap.size w w' := by
  obtain ⟨n1, n2, n3, n4, n5, n6, n7, n8, n9⟩ := hok
  obtain ⟨v1, v2, v3, rfl, h1, h2, h3⟩ := h
  obtain ⟨a1, c1, rfl, k1⟩ := rows_at h1
  obtain ⟨a2, c2, rfl, k2⟩ := rows_at h2
  obtain ⟨a3, c3, rfl⟩ := h3.form
  have hpt : planT p = lineT wPlan [(p.routes.length : Int), p.cost] ++ bodyT p.routes p.times p.routes.length ++ lineT wLeft p.left := rfl
  generalize planT p = pt at *
  have hlT : ∀ j, j < p.routes.length → (lineT wRoute (p.routes.getD j [])).length ≤ 600000 ∧ (lineT wTimes (p.times.getD j [])).length ≤ 600000 := fun j hj => by
    have hr := list_at (d := []) n2 hj
    have ht : (p.times.getD j []).length ≤ 4096 := by have := n5 j hj; omega
    exact ⟨lineT_len (by decide) (fun x hm => (okn_row (list_at (d := []) n6 hj x hm)).2) (by omega), lineT_len (by decide) (fun x hm => (okn_row (list_at (d := []) n8 (by omega : j < p.times.length) x hm)).2) (by omega)⟩
  have hbl : ∀ k, k ≤ p.routes.length → (bodyT p.routes p.times k).length ≤ k * 1200000 := fun k => by
    induction k with
    | zero => intro _; simp [bodyT]
    | succ k ih =>
      intro hk
      have h1 := ih (by omega)
      have h2 := hlT k (by omega)
      simp only [bodyT, List.length_append]
      omega
  have hcostok : OkN (p.routes.length : Int) := ⟨by omega, by omega⟩
  have hl0 : (lineT wPlan [(p.routes.length : Int), p.cost]).length ≤ 600000 := lineT_len (by decide) (fun x hm => by
    simp at hm
    rcases hm with rfl | rfl
    · exact (okn_row hcostok).2
    · exact (okn_row n9).2) (by simp)
  have hkr : ∀ k, k < p.routes.length → ∃ g o e c g' o' e' c', a1 = some ⟨g, o, none⟩ ∧ g < w.heap.size ∧ w.cell? ⟨g, o + k, none⟩ = some (.slice e (p.routes.getD k []).length c) ∧ IsRow w (.slice e (p.routes.getD k []).length c) (p.routes.getD k []) ∧
      a2 = some ⟨g', o', none⟩ ∧ g' < w.heap.size ∧ w.cell? ⟨g', o' + k, none⟩ = some (.slice e' (p.times.getD k []).length c') ∧ IsRow w (.slice e' (p.times.getD k []).length c') (p.times.getD k []) := fun k hk => by
    obtain ⟨g, o, u, q1, q2, q3, q4⟩ := k1 k hk
    obtain ⟨g', o', u', r1, r2, r3, r4⟩ := k2 k (by omega)
    obtain ⟨e, c, rfl⟩ := q4.form
    obtain ⟨e', c', rfl⟩ := r4.form
    exact ⟨g, o, e, c, g', o', e', c', q1, q2, q3, q4, r1, r2, r3, r4⟩
  have hor : ∀ k, k < p.routes.length → (∀ x ∈ p.routes.getD k [], (-9223372036854775808 ≤ x ∧ x ≤ 9223372036854775807) ∧ (writeV x 0).length ≤ 100) ∧ (p.routes.getD k []).length ≤ 10000 ∧ (∀ x ∈ p.times.getD k [], (-9223372036854775808 ≤ x ∧ x ≤ 9223372036854775807) ∧ (writeV x 0).length ≤ 100) ∧ (p.times.getD k []).length ≤ 10000 := fun k hk => by
    have hr := list_at (d := []) n2 hk
    have ht := n5 k hk
    exact ⟨fun x hm => okn_row (list_at (d := []) n6 hk x hm), by omega, fun x hm => okn_row (list_at (d := []) n8 (by omega : k < p.times.length) x hm), by omega⟩
  have holeft : ∀ x ∈ p.left, (-9223372036854775808 ≤ x ∧ x ≤ 9223372036854775807) ∧ (writeV x 0).length ≤ 100 := fun x hm => okn_row (n7 x hm)
  have hbs : ∀ k, bodyT p.routes p.times (k + 1) = bodyT p.routes p.times k ++ (lineT wRoute (p.routes.getD k []) ++ lineT wTimes (p.times.getD k [])) := fun _ => rfl
  have hb0 : bodyT p.routes p.times 0 = [] := rfl
  rw [n4]
  have hcr := (okn_row n9)
  have hnr := (okn_row hcostok)
  generalize bodyT p.routes p.times = body at *
  generalize p.cost = cost at *
  clear k1 k2 n2 n4 n5 n6 n7 n8 n9 hcostok h1 h2
  obtain ⟨B, hB⟩ : ∃ B, B = w.heap.size + 1 := ⟨_, rfl⟩
  obtain ⟨W2, hW2⟩ : ∃ W2, W2 = (((w.alloc (.cells #[.slice a1 p.routes.length c1, .slice a2 p.routes.length c2, .slice a3 p.left.length c3, .int .i64 cost] 27)).alloc (.cells #[.pointer none, .slice none 0 0] 83)).alloc (.cells #[.int .i64 p.routes.length, .int .i64 cost] 2)) := ⟨_, rfl⟩
  have hz2 : W2.heap.size = B + 2 := by rw [hW2, hB]; simp
  have hb2 : Below w.heap.size w W2 := by rw [hW2]; exact (((Below.refl _ _).alloc (Nat.le_refl _) _).alloc (by simp) _).alloc (by simp <;> omega) _
  have hx2 : W2.heap[w.heap.size]? = some (.cells #[.slice a1 p.routes.length c1, .slice a2 p.routes.length c2, .slice a3 p.left.length c3, .int .i64 cost] 27) := by
    rw [hW2, Below.heap_alloc _ _ _ (by simp <;> omega), Below.heap_alloc _ _ _ (by simp)]; exact World.alloc_heap_new w _
  have hp2 : W2.heap[B]? = some (.cells #[.pointer none, .slice none 0 0] 83) := by
    rw [hW2, hB, Below.heap_alloc _ _ _ (by simp)]
    rw [← World.size_alloc w (.cells #[.slice a1 p.routes.length c1, .slice a2 p.routes.length c2, .slice a3 p.left.length c3, .int .i64 cost] 27)]; exact World.alloc_heap_new _ _
  have hr2 : W2.heap[B + 1]? = some (.cells #[.int .i64 p.routes.length, .int .i64 cost] 2) := by
    rw [hW2, hB]
    rw [← World.size_alloc w (.cells #[.slice a1 p.routes.length c1, .slice a2 p.routes.length c2, .slice a3 p.left.length c3, .int .i64 cost] 27), ← World.size_alloc _ (.cells #[.pointer none, .slice none 0 0] 83)]; exact World.alloc_heap_new _ _
  have hpage : IsPage B B [] W2 := .inl ⟨Nat.le_refl _, _, hp2, World.ownsRow_nil _ _ _ _⟩
  have hhead : ∀ w', Below B W2 w' → Lib.OthersKept 5 (some B) W2 w' → IsRow w' (.slice (some ⟨B + 1, 0, none⟩) 2 2) [(p.routes.length : Int), cost] := fun w' _ hk => by
    have hh : w'.heap[B + 1]? = _ := hk (B + 1) _ hr2 (by simp) (by rintro c fz e; simp at e)
    refine ⟨_, 2, rfl, Nat.le_refl _, .inr ⟨B + 1, 0, rfl, own_lt hh, fun j hj => ?_⟩⟩
    rw [own_cell hh]
    match j, hj with
    | 0, _ => rfl
    | 1, _ => rfl
  have hE2 : EnvAt B W2 := (hE.below hb2).mono (by omega)
  have hc0 := writeLine_long B B [] wPlan _ [(p.routes.length : Int), cost] W2 hpage hE2 (by omega) hhead (fun x hm => by
    simp at hm
    rcases hm with rfl | rfl
    · exact hnr
    · exact hcr) (by simp) (by decide) (by simp)
  rw [List.nil_append] at hc0
  generalize hh0 : lineT wPlan [(p.routes.length : Int), cost] = head at *
  clear hh0 hhead hpage hp2 hr2 hE hcr hnr
  have HOR := Lib.hid hor; clear hor
  have HKR := Lib.hid hkr; clear hkr
  have HLT := Lib.hid hlT; clear hlT
  have HBL := Lib.hid hbl; clear hbl
  have HBS := Lib.hid hbs; clear hbs
  have HPT := Lib.hid hpt; clear hpt
  have HOL := Lib.hid holeft; clear holeft
  have H3 := Lib.hid h3; clear h3
  generalize p.left = left at *
  generalize p.routes = rs at *
  generalize p.times = ts at *
  generalize hnr : rs.length = nr at *
  generalize hnl : left.length = nl at *
  have HC0 := Lib.hid hc0; clear hc0
  have HB2 := Lib.hid hb2; clear hb2
  have HX2 := Lib.hid hx2; clear hx2
  have HE2 := Lib.hid hE2; clear hE2
  have HW2 := Lib.hid hW2; clear hW2
  have HB := Lib.hid hB; clear hB
  have HNR := Lib.hid hnr; clear hnr
  have HNL := Lib.hid hnl; clear hnl
  unfold wPlan at HC0
  go_enter Tryz.func27, Tryz.ntmps27
  go_wp2_with fail
  rw [show w.heap.size + 1 = B from HB.out.symm, ← HW2.out]
  refine HC0.out.mono ?_
  rintro e w3 ⟨rfl, hp3⟩
  have x0 : w3.cell? ⟨w.heap.size, 0, none⟩ = some (.slice a1 nr c1) := (own_cell ((hp3.2.1.block _ (by have := HB.out; omega)).trans HX2.out)).trans rfl
  have HP3 := Lib.hid hp3; clear hp3
  go_wp2_with fail
  clear x0
  have hstart : Hid (head = head ++ body 0) := Lib.hid (by rw [hb0]; simp)
  go_loopw [16] (fun i wr => ∃ k : Nat, k ≤ nr ∧ i = .int .i64 k ∧ Hid (Pg B B (head ++ body k) W2 wr)) (fun i _ => nr - (intOf i).toNat)
  case atStart => exact ⟨0, Nat.zero_le _, rfl, Lib.hid (by rw [← hstart.out]; exact HP3.out)⟩
  case round =>
    obtain ⟨k, hk, rfl, HP⟩ := hrel
    have hBr : B ≤ wr.heap.size := by have := HP.out.2.1.size; omega
    have hlow : Below w.heap.size w wr := HB2.out.trans (HP.out.2.1.mono (by have := HB.out; omega))
    have hxr := (HP.out.2.1.block _ (by have := HB.out; omega)).trans HX2.out
    have hbk := HBL.out k hk
    have hpre : (head ++ body k).length ≤ 100000000 := by rw [List.length_append]; omega
    by_cases hlt : k < nr
    · obtain ⟨g, o, e1, f1, g', o', e2, f2, rfl, q1, q2, q3, rfl, r1, r2, r3⟩ := HKR.out k hlt
      obtain ⟨o1, o2, o3, o4⟩ := HOR.out k hlt
      have d1 := (hlow.cell (p := ⟨g, o + k, none⟩) q1).trans q2
      have hbs := HBS.out k
      obtain ⟨l1, l2⟩ := HLT.out k hlt
      have hcc := writeLine_int B B (head ++ body k) wRoute _ (rs.getD k []) wr HP.out.1 (HE2.out.below HP.out.2.1) hBr
        (fun w' h1 _ => q3.below (hlow.trans (h1.mono (by have := HB.out; omega)))) o1 o2 (by decide) (by omega)
      have hc2 := fun (W : World) (hp : Pg B B (head ++ body k ++ lineT wRoute (rs.getD k [])) W2 W) => writeLine_long B B (head ++ body k ++ lineT wRoute (rs.getD k [])) wTimes (.slice e2 (ts.getD k []).length f2) (ts.getD k []) W hp.1 (HE2.out.below hp.2.1) (by have := hp.2.1.size; omega)
        (fun w' h1 _ => r3.below (HB2.out.trans ((hp.2.1.trans h1).mono (by have := HB.out; omega)))) o3 o4 (by decide) (by rw [List.length_append]; omega)
      have hnext : head ++ body k ++ lineT wRoute (rs.getD k []) ++ lineT wTimes (ts.getD k []) = head ++ body (k + 1) := by rw [hbs]; simp only [List.append_assoc]
      simp only [hnext] at hc2
      generalize hw1 : head ++ body k ++ lineT wRoute (rs.getD k []) = l9 at *
      have HCC := Lib.hid hcc; clear hcc
      have HC2 := Lib.hid hc2; clear hc2
      have HR2 := Lib.hid r2; clear r2
      have HR1 := Lib.hid r1; clear r1
      clear q2 q3 r3 o1 o2 o3 o4 hbs l1 l2 hnext hw1
      generalize (rs.getD k []).length = rl at *
      generalize (ts.getD k []).length = tl at *
      have i0 : (k : Int) < (nr : Int) := by omega
      unfold wRoute at HCC
      unfold wTimes at HC2
      go_wp2_with fail
      refine HCC.out.mono ?_
      rintro e w4 ⟨rfl, hp4⟩
      have hp4' := HP.out.trans hp4
      have x1 : w4.cell? ⟨w.heap.size, 1, none⟩ = some (.slice (some ⟨g', o', none⟩) nr c2) := (own_cell ((hp4'.2.1.block _ (by have := HB.out; omega)).trans HX2.out)).trans rfl
      have d2 : w4.cell? ⟨g', o' + k, none⟩ = some (.slice e2 tl f2) := ((HB2.out.trans (hp4'.2.1.mono (by have := HB.out; omega))).cell (p := ⟨g', o' + k, none⟩) HR1.out).trans HR2.out
      have HP4 := Lib.hid hp4'; clear hp4 hp4' d1 HCC
      go_wp2_with fail
      refine (HC2.out _ HP4.out).mono ?_
      rintro e w5 ⟨rfl, hp5⟩
      have HP5 := Lib.hid (HP4.out.trans hp5); clear hp5 x1 d2
      go_wp2_with fail
      go_roundw
      case rel => exact ⟨k + 1, by omega, by go_num, HP5⟩
      case measure => simp [intOf]; omega
    · obtain rfl : k = nr := by omega
      have x2 : wr.cell? ⟨w.heap.size, 2, none⟩ = some (.slice a3 nl c3) := (own_cell hxr).trans rfl
      have hcc := writeLine_int B B (head ++ body k) wLeft (.slice a3 nl c3) left wr HP.out.1 (HE2.out.below HP.out.2.1) hBr
        (fun w' h1 _ => H3.out.below (hlow.trans (h1.mono (by have := HB.out; omega)))) HOL.out (by have := HNL.out; omega) (by decide) (by omega)
      rw [← HPT.out] at hcc
      have hne : pt ≠ [] := by
        rw [HPT.out]; unfold lineT wLeft; simp
      have HCC := Lib.hid hcc; clear hcc
      have HNE := Lib.hid hne; clear hne
      unfold wLeft at HCC
      clear hxr
      have HLOW := Lib.hid hlow; clear hlow
      go_wp2_with fail
      refine HCC.out.mono ?_
      rintro e w4 ⟨rfl, hp4⟩
      have HP4 := Lib.hid (HP.out.trans hp4); clear hp4
      go_wp2_with fail
      refine (string_any B B pt w4 HP4.out.1 HNE.out).mono ?_
      rintro e w5 ⟨rfl, hb5⟩
      have HB5 := Lib.hid hb5; clear hb5
      go_wp2_with fail
      go_ret
      exact ⟨rfl, HB2.out.trans ((HP4.out.2.1.trans HB5.out).mono (by have := HB.out; omega))⟩
/-- What Print leaves. -/
def PrintOut (p : PL) (e : Ending) : Prop := e = .returned (.tuple #[.string (strOf (if checkE p = 0 then planT p else [])), .int .i64 (checkE p)])
set_option maxHeartbeats 1000000 in
set_option maxRecDepth 100000 in
theorem print_any (v : Value) (p : PL) (w : World) (hE : EnvAt w.heap.size w) (hf : p.Fit) (h : IsPlan w v p) :
    Calls Tryz.prog 14 #[v] w fun e w' => PrintOut p e ∧ Below w.heap.size w w' := by
  have h1 := fun (W : World) (hW : Below w.heap.size w W) => check_any v p W hf (h.below hW)
  have hba : ∀ o, Below w.heap.size w (w.alloc o) := fun o => (Below.refl _ _).alloc (Nat.le_refl _) o
  have h2 := fun (hk : checkE p = 0) (W : World) (hW : Below w.heap.size w W) => writeAll_any v p W ((hE.below hW).mono hW.size) (check_ok.1 hk) (h.below hW)
  unfold PrintOut
  obtain ⟨v1, v2, v3, rfl, i1, i2, i3⟩ := h
  obtain ⟨a1, c1, rfl⟩ := i1.form
  obtain ⟨a2, c2, rfl⟩ := i2.form
  obtain ⟨a3, c3, rfl⟩ := i3.form
  clear i1 i2 i3 hf hE
  generalize planT p = pt at *
  generalize checkE p = ce at *
  generalize p.routes.length = nr at *
  generalize p.times.length = nt at *
  generalize p.left.length = nl at *
  generalize p.cost = cost at *
  by_cases hce : ce = 0
  · have h2' := h2 hce
    rw [if_pos hce]
    subst hce
    have H1 := Lib.hid h1; clear h1
    have H2 := Lib.hid h2'; clear h2 h2'
    generalize strOf pt = t at *
    go_enter Tryz.func14, Tryz.ntmps14
    go_wp2_with fail
    refine (H1.out _ (hba _)).mono ?_
    rintro e w1 ⟨rfl, hb1⟩
    have hx1 := (hb1.block w.heap.size (by simp)).trans (World.alloc_heap_new w _)
    have x0 : w1.cell? ⟨w.heap.size, 0, none⟩ = some (.slice a1 nr c1) := (own_cell hx1).trans rfl
    have x1 : w1.cell? ⟨w.heap.size, 1, none⟩ = some (.slice a2 nt c2) := (own_cell hx1).trans rfl
    have x2 : w1.cell? ⟨w.heap.size, 2, none⟩ = some (.slice a3 nl c3) := (own_cell hx1).trans rfl
    have x3 : w1.cell? ⟨w.heap.size, 3, none⟩ = some (.int .i64 cost) := (own_cell hx1).trans rfl
    have HB1 := Lib.hid ((hba _).trans (hb1.mono (hba _).size)); clear hb1 hx1
    go_wp2_with fail
    refine (H2.out _ HB1.out).mono ?_
    rintro e w2 ⟨rfl, hb2⟩
    have HB2 := Lib.hid (HB1.out.trans (hb2.mono HB1.out.size)); clear hb2
    go_wp2_with fail
    go_ret2
    exact ⟨rfl, HB2.out⟩
  · rw [if_neg hce, show strOf [] = ⟨#[]⟩ from rfl]
    have H1 := Lib.hid h1; clear h1 h2
    go_enter Tryz.func14, Tryz.ntmps14
    go_wp2_with fail
    refine (H1.out _ (hba _)).mono ?_
    rintro e w1 ⟨rfl, hb1⟩
    have HB1 := Lib.hid ((hba _).trans (hb1.mono (hba _).size)); clear hb1
    go_wp2_with fail
    go_ret2
    exact ⟨rfl, HB1.out⟩
end Fil
end Go.Proofs.YtkggahoadeeajaaGreatDoor
