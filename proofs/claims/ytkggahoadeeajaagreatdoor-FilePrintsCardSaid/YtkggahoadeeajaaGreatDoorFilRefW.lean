/- jitneyref23.Print; over the translated program. -/
import Derived.Test.YtkggahoadeeajaaGreatDoorFilItoa
import Derived.Test.YtkggahoadeeajaaGreatDoorFilLaw
import Derived.Deep.DeepCutAuto
import Derived.Deep.CutBlock
import Derived.Outline
import Derived.Deep.RegionHeld3
namespace Go.Proofs.YtkggahoadeeajaaGreatDoor
namespace Fil
open Go Go.RowKit Deci
set_option linter.unusedVariables false
/-- A blank and a number each, whatever the number. -/
def itT (xs : List Int) : List UInt8 := xs.flatMap fun x => 32 :: Lib.itoa x
theorem itoa_ok {x : Int} (h : OkN x) : Lib.itoa x = writeV x 0 := by
  rw [(write_nat h).1]
  unfold Lib.itoa
  rw [if_neg (by have := h.1; omega)]
  congr 1
  have := h.1; omega
theorem itT_ok {xs : List Int} (h : ∀ x ∈ xs, OkN x) : itT xs = numsT xs := by
  unfold itT numsT
  induction xs with
  | nil => rfl
  | cons x xs ih =>
    rw [List.flatMap_cons, List.flatMap_cons, ih fun y hy => h y (List.mem_cons_of_mem _ hy), itoa_ok (h x (List.mem_cons_self ..))]
theorem itT_snoc (xs : List Int) (x : Int) : itT (xs ++ [x]) = itT xs ++ 32 :: Lib.itoa x := by unfold itT; simp
/-- The texts of rows, whatever the numbers. -/
def rowI (r t : List Int) : List UInt8 := [114, 111, 117, 116, 101] ++ itT r ++ [10, 116, 105, 109, 101, 115] ++ itT t ++ [10]
def bodyI (rs ts : List (List Int)) : Nat → List UInt8
  | 0 => []
  | k + 1 => bodyI rs ts k ++ rowI (rs.getD k []) (ts.getD k [])
def headI (n : Nat) (c : Int) : List UInt8 := [112, 108, 97, 110, 32] ++ Lib.itoa n ++ [32] ++ Lib.itoa c ++ [10]
def textI (p : PL) : List UInt8 := headI p.routes.length p.cost ++ bodyI p.routes p.times p.routes.length ++ [108, 101, 102, 116] ++ itT p.left ++ [10]
theorem bodyI_ok {rs ts : List (List Int)} (hr : ∀ r ∈ rs, ∀ x ∈ r, OkN x) (ht : ∀ r ∈ ts, ∀ x ∈ r, OkN x) (hl : ts.length = rs.length) : ∀ k, k ≤ rs.length → bodyI rs ts k = bodyT rs ts k
  | 0, _ => rfl
  | k + 1, hk => by
    rw [bodyI, bodyT, bodyI_ok hr ht hl k (by omega)]
    congr 1
    unfold rowI lineT wRoute wTimes
    rw [itT_ok (list_at (d := []) hr (by omega : k < rs.length)), itT_ok (list_at (d := []) ht (by omega : k < ts.length))]
    simp
theorem textI_ok {p : PL} (h : p.Ok) : textI p = planT p := by
  unfold textI planT headI
  have hn : OkN (p.routes.length : Int) := ⟨by omega, by have := h.many; omega⟩
  rw [bodyI_ok h.okr h.okt h.same _ (Nat.le_refl _), itT_ok h.okl, itoa_ok hn, itoa_ok h.okc]
  unfold lineT wPlan wLeft numsT
  simp
theorem rangeB_split (p : PL) (hl : p.times.length = p.routes.length) : rangeB p = (byd p.cost || (anyTo (fun j => (p.routes.getD j []).any byd || (p.times.getD j []).any byd) p.routes.length || p.left.any byd)) := by
  have h1 := anyTo_list p.routes [] (·.any byd)
  have h2 := anyTo_list p.times [] (·.any byd)
  rw [hl] at h2
  have h3 : ∀ n, anyTo (fun j => (p.routes.getD j []).any byd || (p.times.getD j []).any byd) n = (anyTo (fun j => (p.routes.getD j []).any byd) n || anyTo (fun j => (p.times.getD j []).any byd) n) := fun n => by
    induction n with
    | zero => rfl
    | succ n ih =>
      simp only [anyTo, ih]
      cases anyTo (fun j => (p.routes.getD j []).any byd) n <;> cases anyTo (fun j => (p.times.getD j []).any byd) n <;> simp
  unfold rangeB
  rw [h3, h1, h2]
  cases p.routes.any (·.any byd) <;> cases p.times.any (·.any byd) <;> cases p.left.any byd <;> cases byd p.cost <;> rfl
theorem itoa_any (n : Int) (w : World) (h0 : -9223372036854775808 ≤ n) (h1 : n ≤ 9223372036854775807) (hE : Env w) :
    Calls Tryz.prog 28 #[.int .i64 n] w fun e w' => e = .returned (.string (strOf (Lib.itoa n))) ∧ Below w.heap.size w w' :=
  (Sh.strconv_Itoa n h0 h1 w hE.tab).mono fun e w' ⟨he, k, os, hw⟩ => ⟨he, by rw [hw]; exact Lib.below_grow w.heap.size w (Nat.le_refl _) k os⟩
theorem format_any (n : Int) (w : World) (h0 : -9223372036854775808 ≤ n) (h1 : n ≤ 9223372036854775807) (hE : Env w) :
    Calls Tryz.prog 29 #[.int .i64 n, .int .i64 10] w fun e w' => e = .returned (.string (strOf (Lib.itoa n))) ∧ Below w.heap.size w w' :=
  (Sh.strconv_FormatInt_10 n h0 h1 w hE.tab).mono fun e w' ⟨he, k, os, hw⟩ => ⟨he, by rw [hw]; exact Lib.below_grow w.heap.size w (Nat.le_refl _) k os⟩
theorem itoa_len (x : Int) (h : W64 x) : (Lib.itoa x).length ≤ 30 := by
  unfold Lib.itoa
  have h1 : (Lib.decDigits x.natAbs).length ≤ 20 := dig_len 19 x.natAbs (by have := h.1; have := h.2; omega)
  have h2 : (Lib.decDigits x.toNat).length ≤ 20 := dig_len 19 x.toNat (by have := h.1; have := h.2; omega)
  split
  · simp; omega
  · omega
/-- The first q numbers' text. -/
def itN (r : List Int) : Nat → List UInt8
  | 0 => []
  | q + 1 => itN r q ++ 32 :: Lib.itoa (r.getD q 0)
theorem itN_all (r : List Int) : itN r r.length = itT r := by
  have h : ∀ q, q ≤ r.length → itN r q = itT (r.take q) := fun q => by
    induction q with
    | zero => intro _; rfl
    | succ q ih =>
      intro h
      have hq : q < r.length := by omega
      rw [itN, ih (by omega), ← List.take_append_getElem hq, itT_snoc, show r.getD q 0 = r[q] by simp [hq]]
  rw [h _ (Nat.le_refl _), List.take_length]
theorem itN_len {r : List Int} (h : ∀ x ∈ r, W64 x) : ∀ q, q ≤ r.length → (itN r q).length ≤ 31 * q
  | 0, _ => by simp [itN]
  | q + 1, hq => by
    have h1 := itN_len h q (by omega)
    have h2 := itoa_len _ (list_at (d := 0) h (by omega : q < r.length))
    rw [itN, List.length_append, List.length_cons]
    omega
theorem str_num (l m : List UInt8) : strOf l ++ (⟨#[32]⟩ : ByteArray) ++ strOf m = strOf (l ++ 32 :: m) := by
  rw [show (⟨#[32]⟩ : ByteArray) = strOf [32] from rfl, strOf_append, strOf_append]; simp
theorem str_size (l : List UInt8) : (strOf l).size = l.length := rfl
set_option maxHeartbeats 4000000 in
set_option maxRecDepth 100000 in
theorem refPrint_any (v : Value) (p : PL) (w : World) (hE : EnvAt w.heap.size w) (hfew : fewB p = true) (h64 : (∀ r ∈ p.routes, ∀ x ∈ r, W64 x) ∧ (∀ r ∈ p.times, ∀ x ∈ r, W64 x) ∧ (∀ x ∈ p.left, W64 x) ∧ W64 p.cost) (h : IsPlan w v p) :
    Calls Tryz.prog 15 #[v] w fun e w' => PrintOut p e ∧ Below w.heap.size w w' := by
  obtain ⟨f1, f2, f3, f4, f5⟩ := fewB_iff.1 hfew
  obtain ⟨g1, g2, g3, g4⟩ := h64
  obtain ⟨v1, v2, v3, rfl, i1, i2, i3⟩ := h
  obtain ⟨a1, c1, rfl, k1⟩ := rows_at i1
  obtain ⟨a2, c2, rfl, k2⟩ := rows_at i2
  obtain ⟨a3, c3, rfl, k3⟩ := row_at i3
  -- a row of routes, of times: where it lies, how long it is, what it holds
  have hk1 : ∀ k, k < p.routes.length → ∃ g o e c, a1 = some ⟨g, o, none⟩ ∧ g < w.heap.size ∧ w.cell? ⟨g, o + k, none⟩ = some (.slice e (p.routes.getD k []).length c) ∧ (p.routes.getD k []).length ≤ 60 ∧ IsRow w (.slice e (p.routes.getD k []).length c) (p.routes.getD k []) := fun k hk => by
    obtain ⟨g, o, u, q1, q2, q3, q4⟩ := k1 k hk
    obtain ⟨e, c, rfl⟩ := q4.form
    exact ⟨g, o, e, c, q1, q2, q3, list_at f1 hk, q4⟩
  have hk2 : ∀ k, k < p.times.length → ∃ g o e c, a2 = some ⟨g, o, none⟩ ∧ g < w.heap.size ∧ w.cell? ⟨g, o + k, none⟩ = some (.slice e (p.times.getD k []).length c) ∧ (p.times.getD k []).length ≤ 60 ∧ IsRow w (.slice e (p.times.getD k []).length c) (p.times.getD k []) := fun k hk => by
    obtain ⟨g, o, u, q1, q2, q3, q4⟩ := k2 k hk
    obtain ⟨e, c, rfl⟩ := q4.form
    exact ⟨g, o, e, c, q1, q2, q3, list_at f2 hk, q4⟩
  have ht : tooB p = decide (64 < p.routes.length) := by
    unfold tooB longB
    have e1 : (p.routes.any fun r => decide (4096 < r.length)) = false := by
      rw [List.any_eq_false]; intro r hr; have := f1 r hr; simp; omega
    rw [e1, show decide (4096 < p.left.length) = false by simp; omega]; simp
  have hpo : ∀ (s : ByteArray) (er : Int), s = strOf (if checkE p = 0 then planT p else []) → er = checkE p → PrintOut p (.returned (.tuple #[.string s, .int .i64 er])) := fun s er h1 h2 => by rw [h1, h2]; rfl
  have hno : ∀ er : Int, er ≠ 0 → checkE p = er → PrintOut p (.returned (.tuple #[.string ⟨#[]⟩, .int .i64 er])) := fun er h1 h2 => hpo _ _ (by rw [if_neg (by rw [h2]; exact h1)]; rfl) h2.symm
  have e3 : decide (64 < p.routes.length) = true → checkE p = 3 := fun h => by unfold checkE; rw [ht, h]; rfl
  have e1 : decide (64 < p.routes.length) = false → pairB p = false → checkE p = 1 := fun h h2 => by unfold checkE; rw [ht, h, h2]; rfl
  have e23 : decide (64 < p.routes.length) = false → pairB p = true → rangeB p = true → checkE p = 23 := fun h h2 h3 => by unfold checkE; rw [ht, h, h2, h3]; rfl
  have hyes : decide (64 < p.routes.length) = false → pairB p = true → rangeB p = false → PrintOut p (.returned (.tuple #[.string (strOf (textI p)), .int .i64 0])) := fun h h2 h3 => by
    have h0 : checkE p = 0 := by unfold checkE; rw [ht, h, h2, h3]; rfl
    exact hpo _ _ (by rw [if_pos h0, textI_ok (check_ok.1 h0)]) h0.symm
  have hpair : pairB p = (decide (p.times.length = p.routes.length) && !anyTo (badP p.routes p.times) p.routes.length) := rfl
  have hbad : ∀ j, badP p.routes p.times j = (decide ((p.routes.getD j []).length = 0) || (!decide ((p.times.getD j []).length = 0) && !decide ((p.times.getD j []).length = (p.routes.getD j []).length))) := fun j => rfl
  obtain ⟨PO, hPO⟩ : ∃ PO, PO = PrintOut p := ⟨_, rfl⟩
  rw [← hPO] at hpo hno hyes ⊢
  clear hPO hpo ht k1 k2 i1 i2 f1 f2
  have K1 := Lib.hid hk1; clear hk1
  have K2 := Lib.hid hk2; clear hk2
  have HNO := Lib.hid hno; clear hno
  have E3 := Lib.hid e3; clear e3
  have E1 := Lib.hid e1; clear e1
  have E23 := Lib.hid e23; clear e23
  have HYES := Lib.hid hyes; clear hyes
  have HPAIR := Lib.hid hpair; clear hpair
  have HBAD := Lib.hid hbad; clear hbad
  have K3 := Lib.hid k3; clear k3
  have HEE := Lib.hid hE; clear hE
  have G1 := Lib.hid g1; clear g1
  have G2 := Lib.hid g2; clear g2
  have G3 := Lib.hid g3; clear g3
  have G4 := Lib.hid g4; clear g4
  generalize badP p.routes p.times = bad at *
  generalize hnr : p.routes.length = nr at *
  generalize hnt : p.times.length = nt at *
  generalize hnl : p.left.length = nl at *
  have HNR := Lib.hid hnr; clear hnr
  have HNT := Lib.hid hnt; clear hnt
  have HNL := Lib.hid hnl; clear hnl
  generalize hcost : p.cost = cost at *
  have HCO := Lib.hid hcost; clear hcost
  obtain ⟨W0, hW0⟩ : ∃ W, W = w.alloc (.cells #[.slice a1 nr c1, .slice a2 nt c2, .slice a3 nl c3, .int .i64 cost] 31) := ⟨_, rfl⟩
  have hb : Below w.heap.size w W0 := by rw [hW0]; exact (Below.refl _ _).alloc (Nat.le_refl _) _
  have hx : W0.heap[w.heap.size]? = some (.cells #[.slice a1 nr c1, .slice a2 nt c2, .slice a3 nl c3, .int .i64 cost] 31) := by rw [hW0]; exact World.alloc_heap_new _ _
  have HB := Lib.hid hb; clear hb
  have HX := Lib.hid hx; clear hx
  have HW := Lib.hid hW0; clear hW0
  clear i3 hfew
  by_cases h64 : 64 < (nr : Int)
  · have hd : decide (64 < nr) = true := by simp; omega
    go_enter Tryz.func15, Tryz.ntmps15
    go_wp2_with fail
    rw [← HW.out]
    go_ret2
    exact ⟨HNO.out 3 (by decide) (E3.out hd), HB.out⟩
  · have hd : decide (64 < nr) = false := by simp; omega
    have x0 : W0.cell? ⟨w.heap.size, 0, none⟩ = some (.slice a1 nr c1) := (own_cell HX.out).trans rfl
    have x1 : W0.cell? ⟨w.heap.size, 1, none⟩ = some (.slice a2 nt c2) := (own_cell HX.out).trans rfl
    have x2 : W0.cell? ⟨w.heap.size, 2, none⟩ = some (.slice a3 nl c3) := (own_cell HX.out).trans rfl
    have x3 : W0.cell? ⟨w.heap.size, 3, none⟩ = some (.int .i64 cost) := (own_cell HX.out).trans rfl
    go_enter Tryz.func15, Tryz.ntmps15
    go_wp2_with fail
    rw [← HW.out]
    go_loopw [4] (fun i wr => ∃ k : Nat, k ≤ nr ∧ i = .int .i64 k ∧ Hid (wr = W0)) (fun i _ => nr - (intOf i).toNat)
    case atStart => exact ⟨0, Nat.zero_le _, rfl, Lib.hid rfl⟩
    case round => as_aux_lemma =>
      obtain ⟨k, hk, rfl, HA⟩ := hrel
      obtain rfl := HA.out.symm
      clear HA
      by_cases hlt : k < nr
      · obtain ⟨g, o, e, c, rfl, hg, q1, hl, -⟩ := K1.out k hlt
        have d1 := (HB.out.cell (p := ⟨g, o + k, none⟩) hg).trans q1
        clear q1
        generalize (p.routes.getD k []).length = rl at *
        have i0 : (k : Int) < (nr : Int) := by omega
        go_wp2_with fail
        go_roundw
        case rel => exact ⟨k + 1, by omega, by go_num, Lib.hid trivial⟩
        case measure => simp [intOf]; omega
      · obtain rfl : k = nr := by omega
        clear hlt hk
        by_cases hne : nt = k
        · subst hne
          go_wp2_with fail
          go_loopw [5] (fun i wr => ∃ k : Nat, k ≤ nt ∧ i = .int .i64 k ∧ Hid ((∃ q, wr = W0.drewN q) ∧ anyTo bad k = false)) (fun i _ => nt - (intOf i).toNat)
          case atStart => exact ⟨0, Nat.zero_le _, rfl, Lib.hid ⟨⟨0, rfl⟩, rfl⟩⟩
          case round => as_aux_lemma =>
            obtain ⟨k, hk, rfl, HA⟩ := hrel
            obtain ⟨⟨qq, hqq⟩, hany⟩ := HA.out
            have HAN := Lib.hid hany; clear hany
            clear HA
            have HBr : Hid (Below w.heap.size w wr) := Lib.hid (by rw [hqq]; exact HB.out.trans ((Joins.below_draws _ _ _).mono HB.out.size))
            have HXr : Hid (wr.heap[w.heap.size]? = some (.cells #[.slice a1 nt c1, .slice a2 nt c2, .slice a3 nl c3, .int .i64 cost] 31)) := Lib.hid (by rw [hqq]; exact HX.out)
            have HQQ := Lib.hid hqq; clear hqq
            clear x0 x1 x2 x3
            have x0 : wr.cell? ⟨w.heap.size, 0, none⟩ = some (.slice a1 nt c1) := (own_cell HXr.out).trans rfl
            have x1 : wr.cell? ⟨w.heap.size, 1, none⟩ = some (.slice a2 nt c2) := (own_cell HXr.out).trans rfl
            by_cases hlt : k < nt
            · obtain ⟨g, o, e, c, rfl, hg, q1, hl, -⟩ := K1.out k hlt
              obtain ⟨g', o', e', c', rfl, hg', q1', hl', -⟩ := K2.out k hlt
              have d1 := (HBr.out.cell (p := ⟨g, o + k, none⟩) hg).trans q1
              have d2 := (HBr.out.cell (p := ⟨g', o' + k, none⟩) hg').trans q1'
              have hb1 := HBAD.out k
              clear q1 q1'
              generalize (p.routes.getD k []).length = rl at *
              generalize (p.times.getD k []).length = tl at *
              have HBK := Lib.hid hb1; clear hb1
              have i0 : (k : Int) < (nt : Int) := by omega
              have i1 : (0 : Int) ≤ (k : Int) := by omega
              by_cases hr0 : rl = 0
              · subst hr0
                have hbk : bad k = true := by rw [HBK.out]; simp
                have hpf : pairB p = false := by rw [HPAIR.out, anyTo_iff.2 ⟨k, hlt, hbk⟩]; simp
                have z1 : (((0 : Nat) : Int) == 0) = true := rfl
                go_wp2_with fail
                go_quiet (fail)
                go_wp2_with fail
                go_ret2
                exact ⟨HNO.out 1 (by decide) (E1.out hd hpf), HBr.out.trans ((Joins.below_draws _ _ _).mono HBr.out.size)⟩
              · have z1 : ((rl : Int) == 0) = false := by simp; exact hr0
                have z2 : decide (rl = 0) = false := by simp; exact hr0
                by_cases hee : tl = rl
                · subst hee
                  have HN : Hid (anyTo bad (k + 1) = false) := Lib.hid (by unfold anyTo; rw [HAN.out, HBK.out, z2]; simp)
                  have y5 : ((tl : Int) != (tl : Int)) = false := by simp
                  go_wp2_with fail
                  go_quiet (fail)
                  clear i0 i1
                  go_wp2_with fail
                  go_roundw
                  case rel => exact ⟨k + 1, by omega, by go_num, Lib.hid ⟨by rw [HQQ.out]; exact ⟨_, by rw [drewN_drewN]⟩, HN.out⟩⟩
                  case measure => simp [intOf]; omega
                · have y3 : ((tl : Int) != (rl : Int)) = true := by simp; omega
                  have y4 : decide (tl = rl) = false := by simp; exact hee
                  by_cases ht0 : tl = 0
                  · have HN : Hid (anyTo bad (k + 1) = false) := Lib.hid (by unfold anyTo; rw [HAN.out, HBK.out, z2, ht0]; simp)
                    have y6 : decide ((0 : Int) < (tl : Int)) = false := by simp; exact ht0
                    have HT0 := Lib.hid ht0; clear ht0
                    go_wp2_with fail
                    go_quiet (fail)
                    clear i0 i1
                    go_wp2_with fail
                    · exfalso
                      have := HT0.out
                      omega
                    · refine ⟨⟨k + 1, by omega, by go_num, Lib.hid ⟨by rw [HQQ.out]; exact ⟨_, by rw [drewN_drewN]⟩, HN.out⟩⟩, ?_⟩
                      first | omega | (simp [intOf]; omega) | (show _ < _; omega)
                  · have y2 : decide (tl = 0) = false := by simp; exact ht0
                    have y1 : decide ((0 : Int) < (tl : Int)) = true := by simp; omega
                    have hbk : bad k = true := by rw [HBK.out, z2, y2, y4]; rfl
                    have hpf : pairB p = false := by rw [HPAIR.out, anyTo_iff.2 ⟨k, hlt, hbk⟩]; simp
                    go_wp2_with fail
                    go_quiet (fail)
                    go_wp2_with fail
                    go_ret2
                    exact ⟨HNO.out 1 (by decide) (E1.out hd hpf), HBr.out.trans ((Joins.below_draws _ _ _).mono HBr.out.size)⟩
            · obtain rfl : k = nt := by omega
              have hpt : pairB p = true := by rw [HPAIR.out, HAN.out]; simp
              clear hlt hk HAN HQQ HB HX x0 x1
              obtain ⟨X, hX⟩ : ∃ X, X = w.heap.size := ⟨_, rfl⟩
              rw [← hX] at HXr ⊢
              -- what stands from here on
              obtain ⟨P2, hP2⟩ : ∃ P2 : World → Prop, P2 = fun W => Below X w W ∧ W.heap[X]? = some (.cells #[.slice a1 k c1, .slice a2 k c2, .slice a3 nl c3, .int .i64 cost] 31) := ⟨_, rfl⟩
              have HP := Lib.hid (show P2 wr by rw [hP2]; exact ⟨by rw [hX]; exact HBr.out, HXr.out⟩)
              have HBE : Hid (∀ W W', P2 W → Below W.heap.size W W' → P2 W') := Lib.hid fun W W' h hb => by
                rw [hP2] at h ⊢
                exact ⟨h.1.trans (hb.mono (Nat.le_of_lt (own_lt h.2))), (hb.block X (own_lt h.2)).trans h.2⟩
              have HDR : Hid (∀ W, P2 W → P2 W.drew) := Lib.hid fun W h => HBE.out W _ h (Below.refl _ _).drew
              have HAL : Hid (∀ W, P2 W → P2 W ∧ W.cell? ⟨X, 0, none⟩ = some (.slice a1 k c1) ∧ W.cell? ⟨X, 1, none⟩ = some (.slice a2 k c2) ∧ W.cell? ⟨X, 2, none⟩ = some (.slice a3 nl c3) ∧ W.cell? ⟨X, 3, none⟩ = some (.int .i64 cost)) := Lib.hid fun W h => by
                have h' := h
                rw [hP2] at h'
                exact ⟨h, (own_cell h'.2).trans rfl, (own_cell h'.2).trans rfl, (own_cell h'.2).trans rfl, (own_cell h'.2).trans rfl⟩
              have HLO : Hid (∀ W, P2 W → Below X w W) := Lib.hid fun W h => by rw [hP2] at h; exact h.1
              have HIT : Hid (∀ W x, P2 W → W64 x → Calls Tryz.prog 28 #[.int .i64 x] W fun e w' => e = .returned (.string (strOf (Lib.itoa x))) ∧ Below W.heap.size W w') := Lib.hid fun W x h hx => itoa_any x W hx.1 hx.2 (HEE.out.below (by have := HLO.out W h; rw [hX] at this; exact this)).env
              have HFO : Hid (∀ W x, P2 W → W64 x → Calls Tryz.prog 29 #[.int .i64 x, .int .i64 10] W fun e w' => e = .returned (.string (strOf (Lib.itoa x))) ∧ Below W.heap.size W w') := Lib.hid fun W x h hx => format_any x W hx.1 hx.2 (HEE.out.below (by have := HLO.out W h; rw [hX] at this; exact this)).env
              have HXX := Lib.hid hX; clear hX hP2 HBr HXr
              obtain ⟨-, k0, k1, k2, k3⟩ := HAL.out _ HP.out
              have hnr64 : W64 (k : Int) := ⟨by omega, by omega⟩
              have H64 := Lib.hid hnr64; clear hnr64
              go_upto_region 15 with fail
              have hP2 := HP.out
              have ls1 : (strOf (Lib.itoa (k : Int))).size ≤ 30 := itoa_len _ H64.out
              have ls2 : (strOf (Lib.itoa cost)).size ≤ 30 := itoa_len _ G4.out
              generalize hIn : strOf (Lib.itoa (k : Int)) = tn at *
              generalize hIc : strOf (Lib.itoa cost) = tc at *
              have hin : Hid (∀ W, P2 W → Calls Tryz.prog 28 #[.int .i64 k] W fun e w' => e = .returned (.string tn) ∧ Below W.heap.size W w') := Lib.hid fun W h => by rw [← hIn]; exact HIT.out W _ h H64.out
              have hfc : Hid (∀ W, P2 W → Calls Tryz.prog 29 #[.int .i64 cost, .int .i64 10] W fun e w' => e = .returned (.string tc) ∧ Below W.heap.size W w') := Lib.hid fun W h => by rw [← hIc]; exact HFO.out W _ h G4.out
              have hs4 : ∀ W, (Op.stringOp .add ⟨#[112, 108, 97, 110, 32]⟩ tn).run Tryz.prog W = .ok (.string (⟨#[112, 108, 97, 110, 32]⟩ ++ tn)) W := fun W => run_string_add_sum W _ _ (by rw [show (⟨#[112, 108, 97, 110, 32]⟩ : ByteArray).size = 5 from rfl]; omega)
              have hs5 : ∀ W, (Op.stringOp .add (⟨#[112, 108, 97, 110, 32]⟩ ++ tn) ⟨#[32]⟩).run Tryz.prog W = .ok (.string (⟨#[112, 108, 97, 110, 32]⟩ ++ tn ++ ⟨#[32]⟩)) W := fun W => run_string_add_sum W _ _ (by rw [ByteArray.size_append, show (⟨#[112, 108, 97, 110, 32]⟩ : ByteArray).size = 5 from rfl, show (⟨#[32]⟩ : ByteArray).size = 1 from rfl]; omega)
              have hs9 : ∀ W, (Op.stringOp .add (⟨#[112, 108, 97, 110, 32]⟩ ++ tn ++ ⟨#[32]⟩) tc).run Tryz.prog W = .ok (.string (⟨#[112, 108, 97, 110, 32]⟩ ++ tn ++ ⟨#[32]⟩ ++ tc)) W := fun W => run_string_add_sum W _ _ (by rw [ByteArray.size_append, ByteArray.size_append, show (⟨#[112, 108, 97, 110, 32]⟩ : ByteArray).size = 5 from rfl, show (⟨#[32]⟩ : ByteArray).size = 1 from rfl]; omega)
              have hs10 : ∀ W, (Op.stringOp .add (⟨#[112, 108, 97, 110, 32]⟩ ++ tn ++ ⟨#[32]⟩ ++ tc) ⟨#[10]⟩).run Tryz.prog W = .ok (.string (⟨#[112, 108, 97, 110, 32]⟩ ++ tn ++ ⟨#[32]⟩ ++ tc ++ ⟨#[10]⟩)) W := fun W => run_string_add_sum W _ _ (by rw [ByteArray.size_append, ByteArray.size_append, ByteArray.size_append, show (⟨#[112, 108, 97, 110, 32]⟩ : ByteArray).size = 5 from rfl, show (⟨#[32]⟩ : ByteArray).size = 1 from rfl, show (⟨#[10]⟩ : ByteArray).size = 1 from rfl]; omega)
              go_cut [6] (fun s6 wx => s6 = .string (⟨#[112, 108, 97, 110, 32]⟩ ++ tn ++ ⟨#[32]⟩ ++ tc ++ ⟨#[10]⟩) ∧ Hid (P2 wx))
              case first => as_aux_lemma =>
                go_region_held3 (fun w' => P2 w' ∧ w'.cell? ⟨X, 0, none⟩ = some (.slice a1 k c1) ∧ w'.cell? ⟨X, 1, none⟩ = some (.slice a2 k c2) ∧ w'.cell? ⟨X, 2, none⟩ = some (.slice a3 nl c3) ∧ w'.cell? ⟨X, 3, none⟩ = some (.int .i64 cost))
                  (first
                    | exact HAL.out _ ‹P2 _›
                    | exact HAL.out _ (HDR.out _ (And.left ‹P2 _ ∧ _›))
                    | exact HAL.out _ (HDR.out _ ‹P2 _›))
                  (first
                    | (go_at_call 28; (with_reducible refine (hin.out _ (And.left ‹P2 _ ∧ _›)).mono ?_); rintro e w' ⟨rfl, hb⟩; have hka := HBE.out _ _ (And.left ‹P2 _ ∧ _›) hb; clear hb)
                    | (go_at_call 29; (with_reducible refine (hfc.out _ (And.left ‹P2 _ ∧ _›)).mono ?_); rintro e w' ⟨rfl, hb⟩; have hka := HBE.out _ _ (And.left ‹P2 _ ∧ _›) hb; clear hb))
                all_goals
                  go_wp2_with fail
                  go_meet
                  exact ⟨rfl, Lib.hid (And.left ‹P2 _ ∧ _›)⟩
              case rest => as_aux_lemma =>
                obtain ⟨rfl, HPh⟩ := hcut
                have HDN : Hid (∀ W n, P2 W → P2 (W.drewN n)) := Lib.hid fun W n h => HBE.out W _ h (Joins.below_draws _ _ _)
                have HLW : Hid (∀ W, P2 W → ∀ (b o : Nat) (v : Value), b < w.heap.size → w.cell? ⟨b, o, none⟩ = some v → W.cell? ⟨b, o, none⟩ = some v) := Lib.hid fun W h b o v hb hv => by
                  have h1 := HLO.out W h
                  rw [HXX.out] at h1
                  exact (h1.cell (p := ⟨b, o, none⟩) hb).trans hv
                clear k0 k1 k2 k3 hP2
                obtain ⟨-, k0, k1, k2, k3⟩ := HAL.out _ HPh.out
                have hhd : (⟨#[112, 108, 97, 110, 32]⟩ ++ tn ++ ⟨#[32]⟩ ++ tc ++ ⟨#[10]⟩ : ByteArray) = strOf (headI k cost) := by
                  unfold headI
                  rw [← hIn, ← hIc, show (⟨#[112, 108, 97, 110, 32]⟩ : ByteArray) = strOf [112, 108, 97, 110, 32] from rfl, show (⟨#[32]⟩ : ByteArray) = strOf [32] from rfl, show (⟨#[10]⟩ : ByteArray) = strOf [10] from rfl, strOf_append, strOf_append, strOf_append, strOf_append]
                have hhl : (⟨#[112, 108, 97, 110, 32]⟩ ++ tn ++ ⟨#[32]⟩ ++ tc ++ ⟨#[10]⟩ : ByteArray).size ≤ 100 := by
                  simp only [ByteArray.size_append, show (⟨#[112, 108, 97, 110, 32]⟩ : ByteArray).size = 5 from rfl, show (⟨#[32]⟩ : ByteArray).size = 1 from rfl, show (⟨#[10]⟩ : ByteArray).size = 1 from rfl]; omega
                generalize (⟨#[112, 108, 97, 110, 32]⟩ ++ tn ++ ⟨#[32]⟩ ++ tc ++ ⟨#[10]⟩ : ByteArray) = th at *
                have HHD := Lib.hid hhd; clear hhd
                clear hs4 hs5 hs9 hs10 hin hfc hIn hIc ls1 ls2 tn tc
                go_upto_region 16 with fail
                go_cut [7] (fun s7 wx => s7 = .bool (byd cost) ∧ Hid (P2 wx))
                case first => as_aux_lemma =>
                  by_cases x0 : cost < 0
                  · have z0 : decide (cost < 0) = true := by simp; exact x0
                    go_wp2_with fail
                    go_meet
                    exact ⟨by unfold byd; rw [z0]; rfl, HPh⟩
                  · have z0 : decide (cost < 0) = false := by simp; omega
                    go_wp2_with fail
                    go_meet
                    exact ⟨by unfold byd; rw [z0]; rfl, HPh⟩
                case rest => as_aux_lemma =>
                  clear HPh k0 k1 k2 k3
                  obtain ⟨rfl, HPh⟩ := hcut
                  obtain ⟨-, k0, k1, k2, k3⟩ := HAL.out _ HPh.out
                  obtain ⟨FB, hFB⟩ : ∃ FB : Nat → Bool, FB = fun j => (p.routes.getD j []).any byd || (p.times.getD j []).any byd := ⟨_, rfl⟩
                  have HFB := Lib.hid hFB; clear hFB
                  go_wp2_with fail
                  go_loopw [6, 7, 8] (fun s b i wr => ∃ (j : Nat) (ts : ByteArray) (bj : Bool), j ≤ k ∧ s = .string ts ∧ b = .bool bj ∧ i = .int .i64 j ∧ ts.size ≤ 100 + 3800 * j ∧ Hid (ts = strOf (headI k cost ++ bodyI p.routes p.times j) ∧ bj = (byd cost || anyTo FB j)) ∧ Hid (P2 wr)) (fun _ _ i _ => k - (intOf i).toNat)
                  case atStart => exact ⟨0, _, _, Nat.zero_le _, rfl, rfl, rfl, by omega, Lib.hid ⟨by rw [HHD.out]; simp [bodyI], by simp [anyTo]⟩, HPh⟩
                  case round => as_aux_lemma =>
                    obtain ⟨j, ts, bj, hj, rfl, rfl, rfl, hsz, HTB, HP⟩ := hrel
                    clear HPh k0 k1 k2 k3
                    obtain ⟨-, k0, k1, k2, k3⟩ := HAL.out _ HP.out
                    by_cases hlt : j < k
                    · obtain ⟨g, o, e, c, rfl, hg, q1, hl, hrw⟩ := K1.out j hlt
                      obtain ⟨e', c', he, hce⟩ := row_at hrw
                      cases he
                      clear hrw
                      have hr64 : ∀ x ∈ p.routes.getD j [], W64 x := list_at (P := fun r => ∀ x ∈ r, W64 x) (d := []) G1.out (by rw [HNR.out]; exact hlt)
                      obtain ⟨r, hr⟩ : ∃ r, r = p.routes.getD j [] := ⟨_, rfl⟩
                      rw [← hr] at q1 hl hce hr64
                      obtain ⟨rl, hrl⟩ : ∃ rl, rl = r.length := ⟨_, rfl⟩
                      rw [← hrl] at q1 hl hce
                      have HR64 := Lib.hid hr64; clear hr64
                      have HCE9 := Lib.hid hce; clear hce
                      have HR649 := HR64
                      have HRL9 := Lib.hid hrl; clear hrl
                      have HRR := Lib.hid hr; clear hr
                      have HQ9 : Hid (∀ W, P2 W → W.cell? ⟨g, o + j, none⟩ = some (.slice e rl c)) := Lib.hid fun W h => HLW.out W h _ _ _ hg q1
                      clear q1
                      have hP2 := HP.out
                      have j0 : (j : Int) < (k : Int) := by omega
                      obtain ⟨T, hT⟩ : ∃ T, T = headI k cost ++ bodyI p.routes p.times j ++ [114, 111, 117, 116, 101] := ⟨_, rfl⟩
                      have htt : ts ++ ⟨#[114, 111, 117, 116, 101]⟩ = strOf T := by
                        rw [HTB.out.1, show (⟨#[114, 111, 117, 116, 101]⟩ : ByteArray) = strOf [114, 111, 117, 116, 101] from rfl, strOf_append, hT]
                      have HTT9 := Lib.hid htt; clear htt
                      have HTD := Lib.hid hT; clear hT
                      have HSZ9 : Hid ((ts ++ ⟨#[114, 111, 117, 116, 101]⟩).size ≤ 105 + 3800 * j + 31 * 0) := Lib.hid (by rw [ByteArray.size_append, show (⟨#[114, 111, 117, 116, 101]⟩ : ByteArray).size = 5 from rfl]; omega)
                      go_wp2_with fail
                      go_loopw [6, 7, 9] (fun s b i wr => ∃ (q : Nat) (ts : ByteArray) (bq : Bool), q ≤ rl ∧ s = .string ts ∧ b = .bool bq ∧ i = .int .i64 q ∧ ts.size ≤ 105 + 3800 * j + 31 * q ∧ Hid (ts = strOf (T ++ itN r q) ∧ bq = (bj || anyTo (fun i => byd (r.getD i 0)) q)) ∧ Hid (P2 wr)) (fun _ _ i _ => rl - (intOf i).toNat)
                      case atStart => exact ⟨0, _, _, Nat.zero_le _, rfl, rfl, rfl, HSZ9.out, Lib.hid ⟨by rw [HTT9.out]; simp [itN], by simp [anyTo]⟩, HP⟩
                      case round => as_aux_lemma =>
                        clear k0 k1 k2 k3 HP HTT9 HSZ9
                        obtain ⟨q, ts, bq, hq, rfl, rfl, rfl, hsz, HTQ, HP⟩ := hrel
                        obtain ⟨-, k0, k1, k2, k3⟩ := HAL.out _ HP.out
                        have d1 := HQ9.out _ HP.out
                        by_cases hlt : q < rl
                        · obtain ⟨x, hx⟩ : ∃ x, x = r.getD q 0 := ⟨_, rfl⟩
                          obtain ⟨g2, o2, rfl, hg2, q2⟩ := HCE9.out q hlt
                          rw [← hx] at q2
                          have q0 : (q : Int) < (rl : Int) := by omega
                          have HC : Hid (∀ W, P2 W → P2 W ∧ W.cell? ⟨X, 0, none⟩ = some (.slice (some ⟨g, o, none⟩) k c1) ∧ W.cell? ⟨g, o + j, none⟩ = some (.slice (some ⟨g2, o2, none⟩) rl c) ∧ W.cell? ⟨g2, o2 + q, none⟩ = some (.int .i64 x)) := Lib.hid fun W h => ⟨h, (HAL.out W h).2.1, HQ9.out W h, HLW.out W h _ _ _ hg2 q2⟩
                          have hx64 : Hid (W64 x) := Lib.hid (by rw [hx]; exact list_at (P := W64) (d := 0) HR649.out (by first | (rw [← HRL9.out]; exact hlt) | (rw [HRL9.out]; exact hlt)))
                          have HX := Lib.hid hx; clear hx
                          have ls1 : (strOf (Lib.itoa x)).size ≤ 30 := itoa_len _ hx64.out
                          generalize hIn : strOf (Lib.itoa x) = tn at *
                          have hin : Hid (∀ W, P2 W → Calls Tryz.prog 28 #[.int .i64 x] W fun e w' => e = .returned (.string tn) ∧ Below W.heap.size W w') := Lib.hid fun W h => by rw [← hIn]; exact HIT.out W _ h hx64.out
                          have hst : ts ++ ⟨#[32]⟩ ++ tn = strOf (T ++ itN r (q + 1)) := by
                            rw [HTQ.out.1, ← hIn, str_num, itN, HX.out, List.append_assoc]
                          have hss : (ts ++ ⟨#[32]⟩ ++ tn).size ≤ 105 + 3800 * j + 31 * (q + 1) := by
                            rw [ByteArray.size_append, ByteArray.size_append, show (⟨#[32]⟩ : ByteArray).size = 1 from rfl]; omega
                          have hbq : (bq || byd x) = (bj || anyTo (fun i => byd (r.getD i 0)) (q + 1)) := by
                            rw [HTQ.out.2, anyTo, HX.out, Bool.or_assoc]
                          have HIN := Lib.hid hIn; clear hIn
                          have HST := Lib.hid hst; clear hst
                          have HBQ := Lib.hid hbq; clear hbq
                          obtain ⟨-, y0, y1, y2⟩ := HC.out _ HP.out
                          go_wp2_with fail
                          refine (hin.out _ HP.out).mono ?_
                          rintro e w' ⟨rfl, hb⟩
                          have HPw := Lib.hid (HBE.out _ _ HP.out hb); clear hb
                          clear y0 y1 y2 k0 k1 k2 k3 d1
                          obtain ⟨-, y0, y1, y2⟩ := HC.out _ HPw.out
                          cases bq with
                          | true =>
                            go_wp2_with fail
                            go_roundw
                            case rel => exact ⟨q + 1, _, _, by omega, rfl, rfl, by go_num, hss, Lib.hid ⟨HST.out, by rw [← HBQ.out]; rfl⟩, HPw⟩
                            case measure => simp [intOf]; omega
                          | false =>
                            by_cases x0 : x < 0
                            · have z0 : decide (x < 0) = true := by simp; exact x0
                              go_wp2_with fail
                              go_roundw
                              case rel => exact ⟨q + 1, _, _, by omega, rfl, rfl, by go_num, hss, Lib.hid ⟨HST.out, by rw [← HBQ.out]; unfold byd; rw [z0]; rfl⟩, HPw⟩
                              case measure => simp [intOf]; omega
                            · have z0 : decide (x < 0) = false := by simp; omega
                              go_wp2_with fail
                              go_roundw
                              case rel => exact ⟨q + 1, _, _, by omega, rfl, rfl, by go_num, hss, Lib.hid ⟨HST.out, by rw [← HBQ.out]; unfold byd; rw [z0]; rfl⟩, HPw⟩
                              case measure => simp [intOf]; omega
                        · obtain rfl : q = rl := by omega
                          clear hlt hq
                          obtain ⟨b1, rfl⟩ : ∃ b1, b1 = bq := ⟨_, rfl⟩
                          have HI9 : Hid (itN r q = itT r) := Lib.hid (by have h := itN_all r; rw [← HRL9.out] at h; exact h)
                          have HB9 : Hid (b1 = (bj || r.any byd)) := Lib.hid (by rw [HTQ.out.2]; have h := anyTo_list r 0 byd; rw [← HRL9.out] at h; rw [h])
                          obtain ⟨gt, ot, et, ct, rfl, hgt, qt1, hlq, hrwt⟩ := K2.out j (by omega)
                          obtain ⟨e', c', he, hcet⟩ := row_at hrwt
                          cases he
                          clear hrwt
                          have hrt64 : ∀ x ∈ p.times.getD j [], W64 x := list_at (P := fun r => ∀ x ∈ r, W64 x) (d := []) G2.out (by rw [HNT.out]; omega)
                          obtain ⟨rt, hrt⟩ : ∃ rt, rt = p.times.getD j [] := ⟨_, rfl⟩
                          rw [← hrt] at qt1 hlq hcet hrt64
                          obtain ⟨tl, htl⟩ : ∃ tl, tl = rt.length := ⟨_, rfl⟩
                          rw [← htl] at qt1 hlq hcet
                          have HR6410 := Lib.hid hrt64; clear hrt64
                          have HCE10 := Lib.hid hcet; clear hcet
                          have HRL10 := Lib.hid htl; clear htl
                          have HRT := Lib.hid hrt; clear hrt
                          have HQ10 : Hid (∀ W, P2 W → W.cell? ⟨gt, ot + j, none⟩ = some (.slice et tl ct)) := Lib.hid fun W h => HLW.out W h _ _ _ hgt qt1
                          clear qt1
                          obtain ⟨T2, hT2⟩ : ∃ T2, T2 = T ++ itT r ++ [10, 116, 105, 109, 101, 115] := ⟨_, rfl⟩
                          have htt : ts ++ ⟨#[10, 116, 105, 109, 101, 115]⟩ = strOf T2 := by
                            rw [HTQ.out.1, HI9.out, show (⟨#[10, 116, 105, 109, 101, 115]⟩ : ByteArray) = strOf [10, 116, 105, 109, 101, 115] from rfl, strOf_append, hT2]
                          have HTT10 := Lib.hid htt; clear htt
                          have HTD2 := Lib.hid hT2; clear hT2
                          have HSZ10 : Hid ((ts ++ ⟨#[10, 116, 105, 109, 101, 115]⟩).size ≤ 111 + 3800 * j + 1860 + 31 * 0) := Lib.hid (by rw [ByteArray.size_append, show (⟨#[10, 116, 105, 109, 101, 115]⟩ : ByteArray).size = 6 from rfl]; omega)
                          go_wp2_with fail
                          go_loopw [6, 7, 10] (fun s b i wr => ∃ (q : Nat) (ts : ByteArray) (bq : Bool), q ≤ tl ∧ s = .string ts ∧ b = .bool bq ∧ i = .int .i64 q ∧ ts.size ≤ 111 + 3800 * j + 1860 + 31 * q ∧ Hid (ts = strOf (T2 ++ itN rt q) ∧ bq = (b1 || anyTo (fun i => byd (rt.getD i 0)) q)) ∧ Hid (P2 wr)) (fun _ _ i _ => tl - (intOf i).toNat)
                          case atStart => exact ⟨0, _, _, Nat.zero_le _, rfl, rfl, rfl, HSZ10.out, Lib.hid ⟨by rw [HTT10.out]; simp [itN], by simp [anyTo]⟩, HP⟩
                          case round => as_aux_lemma =>
                            clear k0 k1 k2 k3 HP HTT10 HSZ10
                            obtain ⟨q, ts, bq, hq, rfl, rfl, rfl, hsz, HTQ, HP⟩ := hrel
                            obtain ⟨-, k0, k1, k2, k3⟩ := HAL.out _ HP.out
                            have d1 := HQ10.out _ HP.out
                            by_cases hlt : q < tl
                            · obtain ⟨x, hx⟩ : ∃ x, x = rt.getD q 0 := ⟨_, rfl⟩
                              obtain ⟨g2, o2, rfl, hg2, q2⟩ := HCE10.out q hlt
                              rw [← hx] at q2
                              have q0 : (q : Int) < (tl : Int) := by omega
                              have HC : Hid (∀ W, P2 W → P2 W ∧ W.cell? ⟨X, 1, none⟩ = some (.slice (some ⟨gt, ot, none⟩) k c2) ∧ W.cell? ⟨gt, ot + j, none⟩ = some (.slice (some ⟨g2, o2, none⟩) tl ct) ∧ W.cell? ⟨g2, o2 + q, none⟩ = some (.int .i64 x)) := Lib.hid fun W h => ⟨h, (HAL.out W h).2.2.1, HQ10.out W h, HLW.out W h _ _ _ hg2 q2⟩
                              have hx64 : Hid (W64 x) := Lib.hid (by rw [hx]; exact list_at (P := W64) (d := 0) HR6410.out (by first | (rw [← HRL10.out]; exact hlt) | (rw [HRL10.out]; exact hlt)))
                              have HX := Lib.hid hx; clear hx
                              have ls1 : (strOf (Lib.itoa x)).size ≤ 30 := itoa_len _ hx64.out
                              generalize hIn : strOf (Lib.itoa x) = tn at *
                              have hin : Hid (∀ W, P2 W → Calls Tryz.prog 29 #[.int .i64 x, .int .i64 10] W fun e w' => e = .returned (.string tn) ∧ Below W.heap.size W w') := Lib.hid fun W h => by rw [← hIn]; exact HFO.out W _ h hx64.out
                              have hst : ts ++ ⟨#[32]⟩ ++ tn = strOf (T2 ++ itN rt (q + 1)) := by
                                rw [HTQ.out.1, ← hIn, str_num, itN, HX.out, List.append_assoc]
                              have hss : (ts ++ ⟨#[32]⟩ ++ tn).size ≤ 111 + 3800 * j + 1860 + 31 * (q + 1) := by
                                rw [ByteArray.size_append, ByteArray.size_append, show (⟨#[32]⟩ : ByteArray).size = 1 from rfl]; omega
                              have hbq : (bq || byd x) = (b1 || anyTo (fun i => byd (rt.getD i 0)) (q + 1)) := by
                                rw [HTQ.out.2, anyTo, HX.out, Bool.or_assoc]
                              have HIN := Lib.hid hIn; clear hIn
                              have HST := Lib.hid hst; clear hst
                              have HBQ := Lib.hid hbq; clear hbq
                              obtain ⟨-, y0, y1, y2⟩ := HC.out _ HP.out
                              go_wp2_with fail
                              refine (hin.out _ HP.out).mono ?_
                              rintro e w' ⟨rfl, hb⟩
                              have HPw := Lib.hid (HBE.out _ _ HP.out hb); clear hb
                              clear y0 y1 y2 k0 k1 k2 k3 d1
                              obtain ⟨-, y0, y1, y2⟩ := HC.out _ HPw.out
                              cases bq with
                              | true =>
                                go_wp2_with fail
                                go_roundw
                                case rel => exact ⟨q + 1, _, _, by omega, rfl, rfl, by go_num, hss, Lib.hid ⟨HST.out, by rw [← HBQ.out]; rfl⟩, HPw⟩
                                case measure => simp [intOf]; omega
                              | false =>
                                by_cases x0 : x < 0
                                · have z0 : decide (x < 0) = true := by simp; exact x0
                                  go_wp2_with fail
                                  go_roundw
                                  case rel => exact ⟨q + 1, _, _, by omega, rfl, rfl, by go_num, hss, Lib.hid ⟨HST.out, by rw [← HBQ.out]; unfold byd; rw [z0]; rfl⟩, HPw⟩
                                  case measure => simp [intOf]; omega
                                · have z0 : decide (x < 0) = false := by simp; omega
                                  go_wp2_with fail
                                  go_roundw
                                  case rel => exact ⟨q + 1, _, _, by omega, rfl, rfl, by go_num, hss, Lib.hid ⟨HST.out, by rw [← HBQ.out]; unfold byd; rw [z0]; rfl⟩, HPw⟩
                                  case measure => simp [intOf]; omega
                            · obtain rfl : q = tl := by omega
                              clear hlt hq
                              have HI10 : Hid (itN rt q = itT rt) := Lib.hid (by have h := itN_all rt; rw [← HRL10.out] at h; exact h)
                              have HB10 : Hid (bq = (b1 || rt.any byd)) := Lib.hid (by rw [HTQ.out.2]; have h := anyTo_list rt 0 byd; rw [← HRL10.out] at h; rw [h])
                              have HSTE : Hid (ts ++ ⟨#[10]⟩ = strOf (headI k cost ++ bodyI p.routes p.times (j + 1))) := Lib.hid (by
                                rw [HTQ.out.1, HI10.out, show (⟨#[10]⟩ : ByteArray) = strOf [10] from rfl, strOf_append, HTD2.out, HTD.out, bodyI, rowI, ← HRR.out, ← HRT.out]
                                simp [List.append_assoc])
                              have HBE1 : Hid (bq = (byd cost || anyTo FB (j + 1))) := Lib.hid (by
                                have hf : FB j = (r.any byd || rt.any byd) := by rw [HFB.out, HRR.out, HRT.out]
                                rw [HB10.out, HB9.out, HTB.out.2, anyTo, hf]; simp [Bool.or_assoc])
                              have hss : (ts ++ ⟨#[10]⟩).size ≤ 100 + 3800 * (j + 1) := by
                                rw [ByteArray.size_append, show (⟨#[10]⟩ : ByteArray).size = 1 from rfl]; omega
                              go_wp2_with fail
                              go_roundw
                              case rel => exact ⟨j + 1, _, _, by omega, rfl, rfl, by go_num, hss, Lib.hid ⟨HSTE.out, HBE1.out⟩, HP⟩
                              case measure => simp [intOf]; omega
                    · obtain rfl : k = j := by omega
                      clear hlt hj
                      have HR6411 := G3
                      have HRL11 := HNL
                      have hP2 := HP.out
                      obtain ⟨T3, hT3⟩ : ∃ T3, T3 = headI k cost ++ bodyI p.routes p.times k ++ [108, 101, 102, 116] := ⟨_, rfl⟩
                      have htt : ts ++ ⟨#[108, 101, 102, 116]⟩ = strOf T3 := by
                        rw [HTB.out.1, show (⟨#[108, 101, 102, 116]⟩ : ByteArray) = strOf [108, 101, 102, 116] from rfl, strOf_append, hT3]
                      have HTT11 := Lib.hid htt; clear htt
                      have HTD := Lib.hid hT3; clear hT3
                      have HSZ11 : Hid ((ts ++ ⟨#[108, 101, 102, 116]⟩).size ≤ 104 + 3800 * k + 31 * 0) := Lib.hid (by rw [ByteArray.size_append, show (⟨#[108, 101, 102, 116]⟩ : ByteArray).size = 4 from rfl]; omega)
                      go_wp2_with fail
                      go_loopw [6, 7, 11] (fun s b i wr => ∃ (q : Nat) (ts : ByteArray) (bq : Bool), q ≤ nl ∧ s = .string ts ∧ b = .bool bq ∧ i = .int .i64 q ∧ ts.size ≤ 104 + 3800 * k + 31 * q ∧ Hid (ts = strOf (T3 ++ itN p.left q) ∧ bq = (bj || anyTo (fun i => byd (p.left.getD i 0)) q)) ∧ Hid (P2 wr)) (fun _ _ i _ => nl - (intOf i).toNat)
                      case atStart => exact ⟨0, _, _, Nat.zero_le _, rfl, rfl, rfl, HSZ11.out, Lib.hid ⟨by rw [HTT11.out]; simp [itN], by simp [anyTo]⟩, HP⟩
                      case round => as_aux_lemma =>
                        clear k0 k1 k2 k3 HP HTT11 HSZ11
                        obtain ⟨q, ts, bq, hq, rfl, rfl, rfl, hsz, HTQ, HP⟩ := hrel
                        obtain ⟨-, k0, k1, k2, k3⟩ := HAL.out _ HP.out

                        by_cases hlt : q < nl
                        · obtain ⟨x, hx⟩ : ∃ x, x = p.left.getD q 0 := ⟨_, rfl⟩
                          obtain ⟨g2, o2, rfl, hg2, q2⟩ := K3.out q hlt
                          rw [← hx] at q2
                          have q0 : (q : Int) < (nl : Int) := by omega
                          have HC : Hid (∀ W, P2 W → P2 W ∧ W.cell? ⟨X, 2, none⟩ = some (.slice (some ⟨g2, o2, none⟩) nl c3) ∧ W.cell? ⟨g2, o2 + q, none⟩ = some (.int .i64 x)) := Lib.hid fun W h => ⟨h, (HAL.out W h).2.2.2.1, HLW.out W h _ _ _ hg2 q2⟩
                          have hx64 : Hid (W64 x) := Lib.hid (by rw [hx]; exact list_at (P := W64) (d := 0) HR6411.out (by first | (rw [← HRL11.out]; exact hlt) | (rw [HRL11.out]; exact hlt)))
                          have HX := Lib.hid hx; clear hx
                          have ls1 : (strOf (Lib.itoa x)).size ≤ 30 := itoa_len _ hx64.out
                          generalize hIn : strOf (Lib.itoa x) = tn at *
                          have hin : Hid (∀ W, P2 W → Calls Tryz.prog 28 #[.int .i64 x] W fun e w' => e = .returned (.string tn) ∧ Below W.heap.size W w') := Lib.hid fun W h => by rw [← hIn]; exact HIT.out W _ h hx64.out
                          have hst : ts ++ ⟨#[32]⟩ ++ tn = strOf (T3 ++ itN p.left (q + 1)) := by
                            rw [HTQ.out.1, ← hIn, str_num, itN, HX.out, List.append_assoc]
                          have hss : (ts ++ ⟨#[32]⟩ ++ tn).size ≤ 104 + 3800 * k + 31 * (q + 1) := by
                            rw [ByteArray.size_append, ByteArray.size_append, show (⟨#[32]⟩ : ByteArray).size = 1 from rfl]; omega
                          have hbq : (bq || byd x) = (bj || anyTo (fun i => byd (p.left.getD i 0)) (q + 1)) := by
                            rw [HTQ.out.2, anyTo, HX.out, Bool.or_assoc]
                          have HIN := Lib.hid hIn; clear hIn
                          have HST := Lib.hid hst; clear hst
                          have HBQ := Lib.hid hbq; clear hbq
                          obtain ⟨-, y0, y1⟩ := HC.out _ HP.out
                          go_wp2_with fail
                          refine (hin.out _ HP.out).mono ?_
                          rintro e w' ⟨rfl, hb⟩
                          have HPw := Lib.hid (HBE.out _ _ HP.out hb); clear hb
                          clear y0 y1 k0 k1 k2 k3 
                          obtain ⟨-, y0, y1⟩ := HC.out _ HPw.out
                          cases bq with
                          | true =>
                            go_wp2_with fail
                            go_roundw
                            case rel => exact ⟨q + 1, _, _, by omega, rfl, rfl, by go_num, hss, Lib.hid ⟨HST.out, by rw [← HBQ.out]; rfl⟩, HPw⟩
                            case measure => simp [intOf]; omega
                          | false =>
                            by_cases x0 : x < 0
                            · have z0 : decide (x < 0) = true := by simp; exact x0
                              go_wp2_with fail
                              go_roundw
                              case rel => exact ⟨q + 1, _, _, by omega, rfl, rfl, by go_num, hss, Lib.hid ⟨HST.out, by rw [← HBQ.out]; unfold byd; rw [z0]; rfl⟩, HPw⟩
                              case measure => simp [intOf]; omega
                            · have z0 : decide (x < 0) = false := by simp; omega
                              go_wp2_with fail
                              go_roundw
                              case rel => exact ⟨q + 1, _, _, by omega, rfl, rfl, by go_num, hss, Lib.hid ⟨HST.out, by rw [← HBQ.out]; unfold byd; rw [z0]; rfl⟩, HPw⟩
                              case measure => simp [intOf]; omega
                        · obtain rfl : q = nl := by omega
                          clear hlt hq
                          have HI11 : itN p.left q = itT p.left := by have h := itN_all p.left; rw [HNL.out] at h; exact h
                          have HSTE : ts ++ ⟨#[10]⟩ = strOf (textI p) := by
                            rw [HTQ.out.1, HI11, show (⟨#[10]⟩ : ByteArray) = strOf [10] from rfl, strOf_append, HTD.out, textI, HNR.out, HCO.out]
                          have hrg : bq = rangeB p := by
                            have h := anyTo_list p.left 0 byd
                            rw [HNL.out] at h
                            rw [HTQ.out.2, h, HTB.out.2, rangeB_split p (by rw [HNT.out, HNR.out]), HNR.out, HCO.out, HFB.out, Bool.or_assoc]
                          have HRG := Lib.hid hrg; clear hrg
                          have HST := Lib.hid HSTE; clear HSTE
                          have hts : (ts ++ ⟨#[10]⟩).size ≤ 1000000 := by
                            rw [ByteArray.size_append, show (⟨#[10]⟩ : ByteArray).size = 1 from rfl]; omega
                          cases bq with
                          | true =>
                            go_wp2_with fail
                            go_ret2
                            exact ⟨HNO.out 23 (by decide) (E23.out hd hpt HRG.out.symm), by rw [← HXX.out]; exact HLO.out _ HP.out⟩
                          | false =>
                            go_wp2_with fail
                            go_ret2
                            exact ⟨by rw [HST.out]; exact HYES.out hd hpt HRG.out.symm, by rw [← HXX.out]; exact HLO.out _ HP.out⟩
        · have hz : ((nt : Int) != (k : Int)) = true := by simp; omega
          go_wp2_with fail
          go_ret2
          exact ⟨HNO.out 1 (by decide) (E1.out hd (by rw [HPAIR.out]; simp [hne])), HB.out⟩
end Fil
end Go.Proofs.YtkggahoadeeajaaGreatDoor
