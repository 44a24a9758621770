/- sweep.Order at the example's instance: the requests 1 to m + 1 (three or four) as a sweep comes to them. -/
import Derived.Test.YtelblgnleaffoaaSwRise
import Derived.Test.YtelblgnleaffoaaSwSaid
import Derived.Deep.AppendLies
import Derived.Laws.OwnMore
import Derived.Deep.RegionLaw
namespace Go.Proofs.Ytelblgnleaffoaa
open Go.RowKit
namespace Sw
open Fl Go.Lib Spot Go.Sort
set_option linter.unusedVariables false
/-- An append to a row of the call's own, as one step of a region that draws. -/
theorem step_owned {P : Program} {ops : Array Oper} {o : Oper} {a : Act} {w : World} {K : Act → World → Prop} {Q : Exit → Act → World → Prop} {E : Prop}
    (hg : o.guard = none) (s x : Operand) (t : TypeId) (hop : o.op = Op.call { callee := Callee.builtin Builtin.append, args := #[s, x], argTypes := #[t, t] })
    (base : Nat) (e : TypeId) (i : TypeInfo) (z : Value) (size bytes : Nat) (h1 : P.underlying t = some (.slice e)) (h2 : P.info? e = some i) (h3 : i.zero = some z) (h4 : i.size = size) (h5 : i.bytes = bytes) (h6 : z.cells.size = size) (h7 : 0 < size)
    (v : Value) (n : Nat) (xs : List Value) (hs : a.eval s = v) (hown : w.ownsRow base e size v n xs)
    (ad : Addr) (m c : Nat) (news : List Value) (hx : a.eval x = .slice (some ad) m c) (hn : news.length = m * size) (hc : ∀ j u, news[j]? = some u → w.cell? (ad.add j) = some u) (h1c : ∀ u ∈ news, u.oneCell' = true)
    (b1 : n + m ≤ maxLen) (b2 : (n + m) * bytes ≤ 140737488355328) (hb : base ≤ w.heap.size)
    (hK : ∀ v' w', w'.ownsRow base e size v' (n + m) (xs ++ news) → w.grownBy w' v.ownBlock → K (a.put o.dst v') w') :
    if Region.wanted o (yielded ops a.tmps) = true then Oper.wp P o a w K Q else E := by
  have hw : Region.wanted o (yielded ops a.tmps) = true := by simp [Region.wanted, hg]
  rw [if_pos hw]
  obtain ⟨v', w', hrun, r1, r2, _⟩ := run_append_own (P := P) (w := w) base t o.type e i z size bytes h1 h2 h3 h4 h5 h6 h7 v n xs hown ad m c news hn hc h1c b1 b2 hb
  unfold Oper.wp
  simp [execOp, hop, resolve, invoke, builtin, hs, hx, hrun, Result.andThen]
  exact hK v' w' r1 r2
/-- The same of nothing. -/
theorem step_owned_none {P : Program} {ops : Array Oper} {o : Oper} {a : Act} {w : World} {K : Act → World → Prop} {Q : Exit → Act → World → Prop} {E : Prop}
    (hg : o.guard = none) (s x : Operand) (t : TypeId) (hop : o.op = Op.call { callee := Callee.builtin Builtin.append, args := #[s, x], argTypes := #[t, t] })
    (base : Nat) (e : TypeId) (i : TypeInfo) (size : Nat) (h1 : P.underlying t = some (.slice e)) (h2 : P.info? e = some i)
    (v : Value) (n : Nat) (xs : List Value) (hs : a.eval s = v) (hown : w.ownsRow base e size v n xs) (hx : a.eval x = .slice none 0 0)
    (hK : K (a.put o.dst v) w) : if Region.wanted o (yielded ops a.tmps) = true then Oper.wp P o a w K Q else E := by
  have hw : Region.wanted o (yielded ops a.tmps) = true := by simp [Region.wanted, hg]
  rw [if_pos hw]
  have hrun := run_append_owned_none (P := P) (w := w) base t o.type e i size h1 h2 v n xs hown
  unfold Oper.wp
  simp [execOp, hop, resolve, invoke, builtin, hs, hx, hrun, Result.andThen]
  exact hK
theorem one_cell (w : World) (v : Value) (t : TypeId) : ∀ j u, [v][j]? = some u → (w.alloc (.cells #[v] t)).cell? ((⟨w.heap.size, 0, none⟩ : Addr).add j) = some u := by
  intro j u hj
  match j, hj with
  | 0, hj =>
    simp at hj
    subst hj
    rw [Addr.add_lit, Nat.add_zero, World.cell?_alloc_new]
    rfl
theorem row_keep {w w' : World} {base : Nat} {e : TypeId} {v : Value} {n : Nat} {xs : List Value} (h : w.ownsRow base e 1 v n xs) (hb : Below w.heap.size w w') : w'.ownsRow base e 1 v n xs := by
  obtain ⟨h1, h2⟩ := h
  refine ⟨h1, h2.imp id ?_⟩
  rintro ⟨g, cap, cur, a, c, d, r⟩
  exact ⟨g, cap, cur, a, c, by rw [hb.block g (Array.getElem?_eq_some_iff.1 d).1]; exact d, r⟩
theorem own_mono {w : World} {base base' n : Nat} {e : TypeId} {v : Value} {xs : List Value} (h : w.ownsRow base e 1 v n xs) (hb : base' ≤ base) : w.ownsRow base' e 1 v n xs :=
  ⟨h.1, h.2.imp id fun ⟨g, cap, cur, a, b, r⟩ => ⟨g, cap, cur, a, Nat.le_trans hb b, r⟩⟩
theorem row_ne {w : World} {base : Nat} {e : TypeId} {v : Value} {n k : Nat} {xs : List Value} (h : w.ownsRow base e 1 v n xs) (hk : k < base) : v.ownBlock ≠ some k := fun e' => by have := (h.lt k e').1; omega
theorem below_grew {w wr w1 : World} {B b : Nat} {e : TypeId} {v : Value} {k : Nat} {xs : List Value} (hB : Below B w wr) (hs : B ≤ wr.heap.size) (hb : B ≤ b) (hrow : wr.ownsRow b e 1 v k xs) (hgrow : wr.grownBy w1 v.ownBlock) : Below B w w1 := by
  refine hB.grown hgrow hs fun j ej => ?_
  rcases Nat.lt_or_ge j B with h | h
  · exact absurd ej (row_ne hrow (by omega))
  · exact h
theorem info_complex : (Try.prog.info? 40).map (fun i => (i.zero, i.size, i.bytes)) = some (some (.complex .f64 0 0), 1, 16) := by kernel_rfl
def oX (k : Nat) : Int := pX (k + 1)
def oY (k : Nat) : Int := pY (k + 1)
/-- The order: places of a sweep, as requests. -/
def ordL (m : Nat) : List Int := (sweepP m oX oY 0 0).map fun i => (i.val : Int) + 1
theorem ordL_three : ordL 3 = [2, 4, 3, 1] := by
  unfold ordL
  rw [sweepP_only 3 oX oY 0 0 [1, 3, 2, 0] (by decide +kernel) (by decide +kernel)]
  rfl
theorem ordL_two : ordL 2 = [2, 3, 1] := by
  unfold ordL
  rw [sweepP_only 2 oX oY 0 0 [1, 2, 0] (by decide +kernel) (by decide +kernel)]
  rfl
theorem vals_next {w : World} {b : Nat} {t : TypeId} {v : Value} {k K p q : Nat} {xs : List Value} (h : w.ownsRow b t 1 v (k + 1) (xs ++ [.complex .f64 p q])) (hx : xs = (List.range k).map fun i => Value.complex .f64 (pP (i + 1)) (pQ (i + 1))) (hp : pP K = p ∧ pQ K = q) (hK : K = k + 1) :
    w.ownsRow b t 1 v (k + 1) ((List.range (k + 1)).map fun i => Value.complex .f64 (pP (i + 1)) (pQ (i + 1))) := by
  rw [List.range_succ, List.map_append, ← hx]
  subst hK
  rw [← hp.1, ← hp.2] at h
  exact h
/-- The j-th place of the sweep. -/
def swN (m j : Nat) : Nat := ((sweepP m oX oY 0 0).getD j 0).val
theorem swN_lt (m j : Nat) : swN m j < m + 1 := Fin.isLt _
theorem sweepP_len (m : Nat) : (sweepP m oX oY 0 0).length = m + 1 := by rw [(sweepP_perm m oX oY 0 0).length_eq]; simp
theorem ord_vals (m : Nat) : ((List.range (m + 1)).map fun i => Value.int .i64 ((swN m i : Int) + 1)) = (ordL m).map (Value.int .i64) := by
  have hl := sweepP_len m
  unfold ordL
  apply List.ext_getElem?
  intro j
  by_cases hj : j < m + 1
  · simp [hj, hl, swN, List.getD]
  · rw [List.getElem?_eq_none (by simp; omega), List.getElem?_eq_none (by simp; omega)]
theorem sweep_at (N m lb cap : Nat) (w : World) (hN : N = m + 1) (hm : m ≤ 3) (hlb : lb < w.heap.size) (hc : ∀ j, j < N → w.cell? ⟨lb, j, none⟩ = some (.complex .f64 (pP (j + 1)) (pQ (j + 1)))) :
    Calls Try.prog 17 #[.complex .f64 0 0, .slice (some ⟨lb, 0, none⟩) N cap] w fun e w' => ∃ g c, e = .returned (.slice (some ⟨g, 0, none⟩) N c) ∧ w.heap.size ≤ g ∧ g < w'.heap.size ∧ (∀ j, j < N → w'.cell? ⟨g, j, none⟩ = some (.int .i64 (swN m j : Int))) ∧ Below w.heap.size w w' := by
  subst hN
  refine (sweep_loop m oX oY 0 0 (fun k => pP (k + 1)) (fun k => pQ (k + 1)) 0 0 lb 0 cap w (by omega) hlb (fun j hj => by rw [Nat.zero_add]; exact hc j hj) (fun k _ => p_sp (k + 1)) (fun k _ => p_near (k + 1)) ⟨isz_zero, isz_zero⟩ ⟨near_small (by decide) (by decide), near_small (by decide) (by decide)⟩ sortSaid).mono ?_
  rintro e w' ⟨g, c, rfl, hg, hown, hb⟩
  refine ⟨g, c, rfl, by omega, (hown.lt g rfl).2, fun j hj => ?_, hb⟩
  rw [hown.cellAt j (by omega), List.getElem?_map, List.getElem?_eq_getElem (by rw [sweepP_len]; exact hj)]
  simp [encP, swN, List.getD, sweepP_len, hj]
set_option maxHeartbeats 4000000 in
set_option maxRecDepth 100000 in
theorem order_any (c s r b o n cap m : Nat) (z kept : List Int) (w : World) (hsm : Smp w s) (hb0 : b < w.heap.size) (hn : n = z.length) (hn1 : n ≤ 13) (hk1 : 1 ≤ kept.length) (hk2 : kept.length ≤ 12)
    (hc : ∀ j, j < n → w.cell? ⟨b, o + j, none⟩ = some (.int .i64 (z.getD j 0))) (hk : ∀ j, j < kept.length → (pickV (kept.getD j 0) == 0) = false)
    (hkk : z = kept ∨ ∃ y, z = kept ++ [y] ∧ (pickV y == 0) = true) (hs : ∀ j, j + 1 < kept.length → ¬ kept.getD (j + 1) 0 < kept.getD j 0) (hl : (compL kept).length ≤ kept.length)
    (hm : m ≤ 3) (hl1 : (compL kept).length = m + 1) (hl2 : ∀ j, j < m + 1 → (compL kept).getD j 0 = (j : Int) + 1) :
    Calls Try.prog 10 #[smpV c s r, .slice (some ⟨b, o, none⟩) n cap] w fun e w' => ∃ v, e = .returned v ∧ w'.ownsRow w.heap.size 3 1 v (m + 1) ((ordL m).map (Value.int .i64)) ∧ Below w.heap.size w w' := by
  have bx := box_new w c s r
  have b0 : Below w.heap.size w (w.alloc (boxO c s r)) := (Below.refl _ _).alloc (Nat.le_refl _) _
  have z0 : (w.alloc (boxO c s r)).heap.size = w.heap.size + 1 := by simp
  have hri := rising_any c s r b o n cap z kept (w.alloc (boxO c s r)) (by rw [z0]; omega) hn hn1 hk1 hk2 (fun j hj => (b0.cell (by exact hb0)).trans (hc j hj)) hk hkk hs hl
  rw [hl1] at hri
  have HL2 := Lib.hid hl2; have HLE := Lib.hid hl1; clear hl2 hl1 hl hs hkk hk hc hk1 hk2 hn hn1
  obtain ⟨i0, hi, hz0, hz1, hz2⟩ := info_parts info_complex
  obtain ⟨j0, ji, jz0, jz1, jz2⟩ := info_parts info_int
  have hpk := fun q w => pick_any c s r q w
  have hli := fun k hk w h => lies_yes c s r k hk w h
  unfold smpV at *
  have HPK := Lib.hid hpk; clear hpk
  have HLI := Lib.hid hli; clear hli
  obtain ⟨N, hN⟩ : ∃ N, N = m + 1 := ⟨_, rfl⟩
  rw [← hN] at hri
  go_enter Try.func10, Try.ntmps10
  go_wp2_with fail
  generalize hW : w.alloc (Obj.cells #[.slice (some ⟨c, 0, none⟩) 2 2, .slice (some ⟨s, 0, none⟩) 10 10, .slice (some ⟨r, 0, none⟩) 4 4, .slice none 0 0] 34) = W
  rw [show w.alloc (boxO c s r) = W from hW] at *
  clear hW
  have Z0 := Lib.hid z0; clear z0
  have BX := Lib.hid bx; clear bx
  have B0 := Lib.hid b0; clear b0
  refine hri.mono ?_
  rintro e w1 ⟨g, c1, rfl, hc1, hg, hrow, hb1⟩
  clear hri
  rw [Z0.out] at hg
  obtain ⟨x0, x1, x2, x3, x4⟩ := BX.out.below hb1 (by rw [Z0.out]; omega)
  have HSM := Lib.hid ((hsm.below B0.out hsm.1).below hb1 (by rw [Z0.out]; have := hsm.1; omega))
  have HB1 := Lib.hid (B0.out.trans (hb1.mono (by rw [Z0.out]; omega))); clear hb1
  have HR := Lib.hid hrow; clear hrow
  have HSS := Lib.hid hsm.1; clear hsm
  have HN := Lib.hid hN; clear hN
  have hN1 : N ≤ 4 := by rw [HN.out]; omega
  go_wp2_with fail
  go_loopw [6, 22] (fun s6 s22 wr => ∃ k : Nat, k ≤ N ∧ s22 = .int .i64 k ∧ wr.ownsRow w1.heap.size 40 1 s6 k ((List.range k).map fun i => Value.complex .f64 (pP (i + 1)) (pQ (i + 1))) ∧ Below w1.heap.size w1 wr)
    (fun _ s22 _ => N - (intOf s22).toNat)
  case atStart => exact ⟨0, Nat.zero_le _, rfl, World.ownsRow_nil _ _ _ _, Below.refl _ _⟩
  case round =>
    obtain ⟨k, hk, rfl, hown, hb⟩ := hrel
    have HO := Lib.hid hown; clear hown
    have HW := Lib.hid hb
    have y1 := (hb.cell (p := ⟨w.heap.size, 0, none⟩) (by exact x0)).trans x1
    have y2 := (hb.cell (p := ⟨w.heap.size, 1, none⟩) (by exact x0)).trans x2
    have y3 := (hb.cell (p := ⟨w.heap.size, 2, none⟩) (by exact x0)).trans x3
    have y4 := (hb.cell (p := ⟨w.heap.size, 3, none⟩) (by exact x0)).trans x4
    have y0 : w.heap.size < wr.heap.size := Nat.lt_of_lt_of_le x0 hb.size
    have hsl : s < w1.heap.size := HSM.out.1
    have HSR := Lib.hid (HSM.out.below hb hsl)
    have hsr : s < wr.heap.size := HSR.out.1
    by_cases hlt : k < N
    · have cg := ((HR.out.below hb HR.out.1).2 k (by have := HN.out; have := HLE.out; omega)).1
      rw [HL2.out k (by have := HN.out; omega)] at cg
      clear hb
      obtain ⟨K, hK⟩ : ∃ K, K = k + 1 := ⟨_, rfl⟩
      have hki : (k : Int) + 1 = (K : Int) := by omega
      rw [hki] at cg
      have hp1 : ∀ w, Calls _ _ _ w _ := fun w => HPK.out (K : Int) w
      rw [show pickV (K : Int) = K by unfold pickV; rw [if_pos (by omega)]] at hp1
      have hl1 := HLI.out K (by omega)
      have HP1 := Lib.hid hp1; clear hp1
      have HL1 := Lib.hid hl1; clear hl1
      have HKK := Lib.hid hK; clear hK hki
      obtain ⟨xs, hxs⟩ : ∃ xs, xs = (List.range k).map fun i => Value.complex .f64 (pP (i + 1)) (pQ (i + 1)) := ⟨_, rfl⟩
      rw [← hxs] at HO
      have HXS := Lib.hid hxs; clear hxs
      generalize hp : pP K = p at *
      generalize hq : pQ K = q at *
      have HPQ := Lib.hid (And.intro hp hq); clear hp hq
      go_wp2_with fail
      go_region_held3 (fun w' => w'.cell? ⟨w.heap.size, 0, none⟩ = some (.slice (some ⟨c, 0, none⟩) 2 2) ∧ w'.cell? ⟨w.heap.size, 1, none⟩ = some (.slice (some ⟨s, 0, none⟩) 10 10) ∧ w'.cell? ⟨w.heap.size, 2, none⟩ = some (.slice (some ⟨r, 0, none⟩) 4 4) ∧ w'.cell? ⟨w.heap.size, 3, none⟩ = some (.slice none 0 0))
        (first | go_keep | exact ⟨k1, k2, k3, k4⟩ | exact ⟨m1, m2, m3, m4⟩ | exact ⟨n1, n2, n3, n4⟩)
        (first
          | (go_at_call 16; (with_reducible refine (HP1.out _).mono ?_); rintro e w2 ⟨rfl, hb⟩; have HB2 : Hid (Below wr.heap.size wr w2) := Lib.hid (((Below.refl wr.heap.size wr).drew).trans hb); have k1 := (HB2.out.cell (p := ⟨w.heap.size, 0, none⟩) (by exact y0)).trans y1; have k2 := (HB2.out.cell (p := ⟨w.heap.size, 1, none⟩) (by exact y0)).trans y2; have k3 := (HB2.out.cell (p := ⟨w.heap.size, 2, none⟩) (by exact y0)).trans y3; have k4 := (HB2.out.cell (p := ⟨w.heap.size, 3, none⟩) (by exact y0)).trans y4; clear hb)
          | (go_at_call 15; (with_reducible refine (HL1.out _ (HSR.out.below HB2.out hsr)).mono ?_); rintro e w3 ⟨rfl, hb⟩; have HB3 := Lib.hid (HB2.out.trans (hb.mono HB2.out.size)); have m1 := (HB3.out.cell (p := ⟨w.heap.size, 0, none⟩) (by exact y0)).trans y1; have m2 := (HB3.out.cell (p := ⟨w.heap.size, 1, none⟩) (by exact y0)).trans y2; have m3 := (HB3.out.cell (p := ⟨w.heap.size, 2, none⟩) (by exact y0)).trans y3; have m4 := (HB3.out.cell (p := ⟨w.heap.size, 3, none⟩) (by exact y0)).trans y4; have HO3 := Lib.hid (row_keep HO.out HB3.out); clear hb)
          | (refine step_owned rfl (.tmp 26) (.tmp 32) 41 rfl w1.heap.size 40 i0 (.complex .f64 0 0) 1 16 Try.underlying41 hi hz0 hz1 hz2 rfl (by decide) u6 k xs rfl (HO3.out.alloc _) ⟨w3.heap.size, 0, none⟩ 1 1 [.complex .f64 p q] rfl rfl (one_cell _ _ _) (by intro u hu; simp at hu; subst hu; rfl) (by unfold maxLen; omega) (by omega) (by have := HB3.out.size; have := HW.out.size; simp; omega) ?_; intro v4 w4 ho4 hg4; have HB4 := Lib.hid (below_grew ((HW.out.trans (HB3.out.mono HW.out.size)).alloc (Nat.le_trans HW.out.size HB3.out.size) _) (Nat.le_trans (Nat.le_trans HW.out.size HB3.out.size) (by simp)) (Nat.le_refl _) (HO3.out.alloc _) hg4); have HO4 := Lib.hid ho4; clear ho4 hg4; have n1 := (HB4.out.cell (p := ⟨w.heap.size, 0, none⟩) (by exact x0)).trans x1; have n2 := (HB4.out.cell (p := ⟨w.heap.size, 1, none⟩) (by exact x0)).trans x2; have n3 := (HB4.out.cell (p := ⟨w.heap.size, 2, none⟩) (by exact x0)).trans x3; have n4 := (HB4.out.cell (p := ⟨w.heap.size, 3, none⟩) (by exact x0)).trans x4)
          | fail)
      all_goals
        go_wp2_with fail
        go_roundw
        case rel => exact ⟨k + 1, by omega, by go_num, vals_next HO4.out HXS.out HPQ.out HKK.out, HB4.out⟩
        case measure => simp [intOf]; omega
    · have hkn : k = N := by omega
      rw [hkn] at HO ⊢
      clear hlt hk
      obtain ⟨lb, cp, rfl, hlb⟩ : ∃ lb cp, u6 = .slice (some ⟨lb, 0, none⟩) N cp ∧ lb < wr.heap.size := by
        rcases HO.out.2 with ⟨_, h0⟩ | ⟨g', cap', _, h1, _, h2, _⟩
        · have := HN.out; omega
        · exact ⟨g', cap', h1, (Array.getElem?_eq_some_iff.1 h2).1⟩
      have hcells : ∀ j, j < N → wr.cell? ⟨lb, j, none⟩ = some (.complex .f64 (pP (j + 1)) (pQ (j + 1))) := fun j hj => by
        rw [HO.out.cellAt j (by omega)]; simp [hj]
      have HCE := Lib.hid hcells; clear hcells
      have hl0 := HLI.out 0 (by omega) wr HSR.out
      rw [show ((0 : Nat) : Int) = 0 from rfl, show pP 0 = 0 from rfl, show pQ 0 = 0 from rfl] at hl0
      have HL0 := Lib.hid hl0; clear hl0
      have hN2 : (N : Int) ≤ (N : Int) := by omega
      clear hb
      go_wp2_with fail
      refine HL0.out.mono ?_
      rintro e w2 ⟨rfl, hb⟩
      have hsw := sweep_at N m lb cp w2 HN.out hm (Nat.lt_of_lt_of_le hlb hb.size) (fun j hj => (hb.cell (by exact hlb)).trans (HCE.out j hj))
      have HB2 := Lib.hid hb; clear hb
      have HSW := Lib.hid hsw; clear hsw
      clear y0 y1 y2 y3 y4 x1 x2 x3 x4
      go_wp2_with fail
      refine HSW.out.mono ?_
      rintro e w3 ⟨g3, c3, rfl, hg3, hg3', hce, hb⟩
      have HB3 := Lib.hid (HW.out.trans ((HB2.out.mono HW.out.size).trans (hb.mono (Nat.le_trans HW.out.size HB2.out.size)))); clear hb
      have HC3 := Lib.hid hce; clear hce
      go_wp2_with fail
      have hwb : Below w.heap.size w w3 := HB1.out.trans (HB3.out.mono HB1.out.size)
      have HWB := Lib.hid hwb; clear hwb
      go_loopw [9, 11, 40] (fun s9 _ s40 wx => ∃ k : Nat, k ≤ N ∧ s40 = .int .i64 k ∧ wx.ownsRow w3.heap.size 3 1 s9 k ((List.range k).map fun i => Value.int .i64 ((swN m i : Int) + 1)) ∧ Below w3.heap.size w3 wx)
        (fun _ _ s40 _ => N - (intOf s40).toNat)
      case atStart => exact ⟨0, Nat.zero_le _, rfl, World.ownsRow_nil _ _ _ _, Below.refl _ _⟩
      case round =>
        obtain ⟨k2, hk2, rfl, hown, hb⟩ := hrel
        have HO2 := Lib.hid hown; clear hown
        by_cases hlt : k2 < N
        · have hsn : swN m k2 < N := by have := swN_lt m k2; have := HN.out; omega
          have d1 := (hb.cell (p := ⟨g3, k2, none⟩) (by exact hg3')).trans (HC3.out k2 hlt)
          have d2 := (((HR.out.below HB3.out HR.out.1).below hb (by have := HB3.out.size; have := HR.out.1; omega)).2 (swN m k2) (by rw [HLE.out, ← HN.out]; exact hsn)).1
          rw [HL2.out _ (by rw [← HN.out]; exact hsn)] at d2
          obtain ⟨xs, hxs⟩ : ∃ xs, xs = (List.range k2).map fun i => Value.int .i64 ((swN m i : Int) + 1) := ⟨_, rfl⟩
          rw [← hxs] at HO2
          have HXS := Lib.hid hxs; clear hxs
          have HB4 := Lib.hid hb; clear hb
          generalize hsw : swN m k2 = sw at *
          have HSW2 := Lib.hid hsw; clear hsw
          have t1 : (sw : Int) < (N : Int) := by omega
          have t0 : (0 : Int) ≤ (sw : Int) := by omega
          generalize hx : (sw : Int) + 1 = xv at *
          have HX := Lib.hid hx; clear hx
          go_wp2_with ((at_builtin; refine wpList_append_own _ rfl _ _ 22 rfl w3.heap.size 3 j0 (.int .i64 0) 1 8 Try.underlying22 ji jz0 jz1 jz2 rfl (by decide) _ _ _ rfl (HO2.out.alloc _) ⟨wr.heap.size, 0, none⟩ 1 1 [.int .i64 xv] rfl rfl ?c1 ?c2 ?c3 ?c4 ?c5 ?_))
          case c1 => exact one_cell _ _ _
          case c2 => intro u hu; simp at hu; subst hu; rfl
          case c3 => unfold maxLen; omega
          case c4 => omega
          case c5 => have := HB4.out.size; simp; omega
          intro v' w5 hown' hgrow _
          have HB5 := Lib.hid (below_grew (HB4.out.alloc HB4.out.size _) (Nat.le_trans HB4.out.size (by simp)) (Nat.le_refl _) (HO2.out.alloc _) hgrow)
          have hown2 : w5.ownsRow w3.heap.size 3 1 v' (k2 + 1) ((List.range (k2 + 1)).map fun i => Value.int .i64 ((swN m i : Int) + 1)) := by
            rw [List.range_succ, List.map_append, ← HXS.out]
            have h := hown'
            rw [← HX.out, ← HSW2.out] at h
            exact h
          have HO5 := Lib.hid hown2; clear hown2 hown' hgrow d1 d2
          go_wp2_with fail
          go_roundw
          case rel => exact ⟨k2 + 1, by omega, by go_num, HO5.out, HB5.out⟩
          case measure => simp [intOf]; omega
        · have hkn2 : k2 = N := by omega
          rw [hkn2] at HO2 ⊢
          clear hlt hk2
          have HB4 := Lib.hid hb; clear hb
          go_wp2_with fail
          go_ret
          have ho := HO2.out
          rw [HN.out, ord_vals] at ho
          exact ⟨_, rfl, own_mono ho HWB.out.size, HWB.out.trans (HB4.out.mono HWB.out.size)⟩
end Sw
end Go.Proofs.Ytelblgnleaffoaa
