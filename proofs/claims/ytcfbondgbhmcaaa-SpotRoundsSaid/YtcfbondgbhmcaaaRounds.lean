/- The law SpotRounds at a list that is not empty: its walk. -/
import Derived.Test.YtcfbondgbhmcaaaSweepMore
import Derived.Test.YtcfbondgbhmcaaaSpotFacts
import Derived.Maps.AppendAt
import Derived.Maps.OwnSet
import Derived.Maps.Views
namespace Go.Proofs.Ytcfbondgbhmcaaa
open Go.RowKit
namespace Spot
open Fl Go.Sort Go.Lib
set_option linter.unusedVariables false
theorem info_cplx : (Try.prog.info? 36).map (fun i => (i.zero, i.size, i.bytes)) = some (some (.complex .f64 0 0), 1, 16) := by kernel_rfl
/-- The words of a sum of two spots. -/
def sumW (a b c d : Nat) : Nat × Nat := (cSumBits .add .f64 a b c d).getD (0, 0)
theorem sumW_eq {a b c d : Nat} {x y u v : Int} (h : Sp a b x y) (g : Sp c d u v) (hx : (x + u).natAbs < 2 ^ 53) (hy : (y + v).natAbs < 2 ^ 53) :
    cSumBits .add .f64 a b c d = some ((sumW a b c d).1, (sumW a b c d).2) ∧ Sp (sumW a b c d).1 (sumW a b c d).2 (x + u) (y + v) := by
  obtain ⟨re, im, he, hs⟩ := cadd h g hx hy
  unfold sumW
  rw [he]
  exact ⟨rfl, hs⟩
def cRow (P Q : Nat → Nat) (k : Nat) : List Value := (List.range k).map fun i => .complex .f64 (P i) (Q i)
theorem cRow_succ (P Q : Nat → Nat) (k : Nat) : cRow P Q (k + 1) = cRow P Q k ++ [.complex .f64 (P k) (Q k)] := by
  unfold cRow; rw [List.range_succ, List.map_append]; rfl
/-- A row of n cells, n not 0: where it lies, and what its cells hold. -/
theorem row_addr {w : World} {base e n : Nat} {v : Value} {xs : List Value} (h : w.ownsRow base e 1 v n xs) (h0 : n ≠ 0) :
    ∃ g c, v = .slice (some ⟨g, 0, none⟩) n c ∧ base ≤ g ∧ g < w.heap.size ∧ ∀ j u, xs[j]? = some u → w.cell? ⟨g, 0 + j, none⟩ = some u := by
  rcases h.2 with ⟨_, h1⟩ | ⟨g, c, cur, rfl, h1, _⟩
  · exact absurd h1 h0
  · refine ⟨g, c, rfl, h1, (h.lt g rfl).2, fun j u hj => ?_⟩
    have := h.cells (g := g) rfl j u hj
    rw [← Go.WideShapes.add_plain]; exact this
theorem cRow_get (P Q : Nat → Nat) (k j : Nat) (h : j < k) : (cRow P Q k)[j]? = some (.complex .f64 (P j) (Q j)) := by
  unfold cRow; simp [h]
theorem encP_get {m : Nat} (l : List (Fin (m + 1))) (j : Nat) (h : j < l.length) : (l.map encP)[j]? = some (.int .i64 (at' l j : Nat)) := by
  rw [List.getElem?_map, getElem?_at' l j h]; rfl
/-- A map of what was seen: the first k places of a sweep, and no other one. -/
def Seen {m : Nat} (w : World) (mb : Nat) (l : List (Fin (m + 1))) (k : Nat) : Prop :=
  ∃ D : DataW Unit, w.ownsMap Try.prog 3 (plainElem Try.prog 4) mb k D ∧ ∀ j : Int, (∀ i, i < k → ((at' l i : Nat) : Int) ≠ j) → D.atKey (.int .i64 j) (.lit (.bool false)) = .lit (.bool false)
theorem law_int : Maps.Keyed Try.prog 3 := Maps.int_keyed Try.underlying3
theorem zero_bool (w : World) : (zeroValue 4).run Try.prog w = .ok (.bool false) w := by kernel_rfl
theorem key_int (j : Nat) (hj : j < 1048578) : keyOf Try.prog 3 (.int .i64 (j : Int)) = some (.int .i64 (j : Int)) :=
  Maps.keyOf_int_mk Try.underlying3 (by simp [Lit.wf, IntKind.min, IntKind.max, IntKind.bits, IntKind.signed]; omega)
theorem Seen.look {m : Nat} {w : World} {mb k : Nat} {l : List (Fin (m + 1))} (h : Seen w mb l k) (j : Nat) (hj : j < 1048578) (hne : ∀ i, i < k → at' l i ≠ j) :
    (Instr.lookup 45 (.map (some mb)) (.int .i64 (j : Int)) false).run Try.prog w = .ok (.bool false) w := by
  obtain ⟨D, ho, hD⟩ := h
  obtain ⟨v, ps, hrun, hv⟩ := ho.lookup law_int Try.underlying45 (zero_bool w) (plainElem_bool Try.underlying4 false) (key_int j hj)
  rw [hD j (fun i hi => by have := hne i hi; omega)] at hv
  have hvb : v = .bool false := by
    unfold plainElem at hv
    rw [Try.underlying4] at hv
    cases v <;> simp at hv
    rw [hv.1]
  rw [hrun, hvb]
theorem seen_put {m : Nat} {w : World} {mb k κ : Nat} {l : List (Fin (m + 1))} {D : DataW Unit} (ho : w.ownsMap Try.prog 3 (plainElem Try.prog 4) mb (k + 1) (D.put (.int .i64 (κ : Int)) (.lit (.bool true))))
    (hD : ∀ j : Int, (∀ i, i < k → ((at' l i : Nat) : Int) ≠ j) → D.atKey (.int .i64 j) (.lit (.bool false)) = .lit (.bool false)) (hκ : κ = at' l k) : Seen w mb l (k + 1) := by
  refine ⟨_, ho, fun j hj => ?_⟩
  have hne : (Lit.int .i64 j) ≠ .int .i64 (κ : Int) := by
    intro h
    injection h with _ h
    exact hj k (by omega) (by rw [← hκ]; exact h.symm)
  rw [Maps.atKey_put_other hne]
  exact hD j (fun i hi => hj i (by omega))
theorem dis_step {w : World} {base e size n N : Nat} {u v v' : Value} {xs : List Value} (h : w.ownsRow base e size u n xs) (hd : u.ownBlock ≠ v.ownBlock) (hat : v'.ownBlock = v.ownBlock ∨ v'.ownBlock = some N) (hN : w.heap.size ≤ N) : u.ownBlock ≠ v'.ownBlock := by
  rcases hat with hat | hat
  · rw [hat]; exact hd
  · rw [hat]
    intro hu
    have := (h.lt _ hu).2
    omega
theorem below_step {B : Nat} {W wr w' : World} {base e size n : Nat} {v : Value} {xs : List Value} (hb : Below B W wr) (hB : B ≤ base) (hB' : B ≤ wr.heap.size) (h : wr.ownsRow base e size v n xs) (o : Obj) (hg : (wr.alloc o).grownBy w' v.ownBlock) : Below B W w' :=
  (hb.alloc hB' o).grown hg (by simp; omega) (fun g hg => by have := (h.lt g hg).1; omega)
set_option maxHeartbeats 4000000 in
set_option maxRecDepth 100000 in
theorem rounds_full (m b0 off0 cap0 b1 off1 len1 cap1 : Nat) (x y : Nat → Int) (dx dy : Int) (w : World) (hm : m + 1 ≤ 60) (h1 : m + 1 ≤ len1) (hl : len1 ≤ 9223372036854775807)
    (hb0 : b0 < w.heap.size) (hb1 : b1 < w.heap.size) (hcx : ∀ j, j < m + 1 → w.cell? ⟨b0, off0 + j, none⟩ = some (.int .i64 (x j))) (hcy : ∀ j, j < m + 1 → w.cell? ⟨b1, off1 + j, none⟩ = some (.int .i64 (y j)))
    (hx : ∀ j, j < m + 1 → -9223372036854775808 ≤ x j ∧ x j ≤ 9223372036854775807) (hy : ∀ j, j < m + 1 → -9223372036854775808 ≤ y j ∧ y j ≤ 9223372036854775807)
    (d1 : -9223372036854775808 ≤ dx) (d2 : dx ≤ 9223372036854775807) (d3 : -9223372036854775808 ≤ dy) (d4 : dy ≤ 9223372036854775807) :
    Calls Try.prog 10 #[.slice (some ⟨b0, off0, none⟩) (m + 1) cap0, .slice (some ⟨b1, off1, none⟩) len1 cap1, .int .i64 dx, .int .i64 dy] w fun e w' => e = .returned (.bool true) ∧ Below w.heap.size w w' := by
  have HCX := Lib.hid hcx; clear hcx
  have HCY := Lib.hid hcy; clear hcy
  have HX := Lib.hid hx; clear hx
  have HY := Lib.hid hy; clear hy
  have rx := tmod_range dx 1000 (by omega)
  have ry := tmod_range dy 1000 (by omega)
  generalize ho1 : dx.tmod 1000 = ox at *
  generalize ho2 : dy.tmod 1000 = oy at *
  have no1 : Near ox := ⟨by omega, by omega⟩
  have no2 : Near oy := ⟨by omega, by omega⟩
  have k0 := fun w => at_yes ox oy w no1 no2
  have so : Sp (wd ox) (wd oy) ox oy := ⟨isz_wd no1, isz_wd no2⟩
  generalize wd ox = o1 at *
  generalize wd oy = o2 at *
  have K0 := Lib.hid k0; clear k0
  have SO := Lib.hid so; clear so
  have NO1 := Lib.hid no1; clear no1
  have NO2 := Lib.hid no2; clear no2
  obtain ⟨n, hn'⟩ : ∃ n, n = m + 1 := ⟨_, rfl⟩
  rw [show Value.slice (some ⟨b0, off0, none⟩) (m + 1) cap0 = Value.slice (some ⟨b0, off0, none⟩) n cap0 from by rw [hn']]
  have hn1 : n ≤ 60 := by omega
  have hn2 : n ≤ len1 := by omega
  have HN := Lib.hid hn'; clear hn'
  clear hm h1
  obtain ⟨rx1, rx2⟩ := rx
  obtain ⟨ry1, ry2⟩ := ry
  go_enter Try.func10, Try.ntmps10
  go_wp2_with fail
  refine (alive_any sortSaid _).mono ?_
  rintro e W1 ⟨rfl, hbel1⟩
  go_wp2_with fail
  refine (K0.out _).mono ?_
  rintro e w' ⟨rfl, rfl⟩
  have hX : ∀ j, Near ((x j).tmod 1000000) := fun j => tmod_near (x j) 1000000 (by omega) (by omega)
  have hY : ∀ j, Near ((y j).tmod 1000000) := fun j => tmod_near (y j) 1000000 (by omega) (by omega)
  have HNX := Lib.hid hX; clear hX
  have HNY := Lib.hid hY; clear hY
  obtain ⟨X, hXd⟩ : ∃ X : Nat → Int, X = fun j => (x j).tmod 1000000 := ⟨_, rfl⟩
  obtain ⟨Y, hYd⟩ : ∃ Y : Nat → Int, Y = fun j => (y j).tmod 1000000 := ⟨_, rfl⟩
  obtain ⟨P, hPd⟩ : ∃ P : Nat → Nat, P = fun j => wd (X j) := ⟨_, rfl⟩
  obtain ⟨Q, hQd⟩ : ∃ Q : Nat → Nat, Q = fun j => wd (Y j) := ⟨_, rfl⟩
  obtain ⟨P', hPd'⟩ : ∃ P' : Nat → Nat, P' = fun j => (sumW (P j) (Q j) o1 o2).1 := ⟨_, rfl⟩
  obtain ⟨Q', hQd'⟩ : ∃ Q' : Nat → Nat, Q' = fun j => (sumW (P j) (Q j) o1 o2).2 := ⟨_, rfl⟩
  have nX : ∀ j, Near (X j) := fun j => by rw [hXd]; exact HNX.out j
  have nY : ∀ j, Near (Y j) := fun j => by rw [hYd]; exact HNY.out j
  have sp : ∀ j, Sp (P j) (Q j) (X j) (Y j) := fun j => by rw [hPd, hQd]; exact ⟨isz_wd (nX j), isz_wd (nY j)⟩
  have hsum : ∀ j, cSumBits .add .f64 (P j) (Q j) o1 o2 = some (P' j, Q' j) ∧ Sp (P' j) (Q' j) (X j + ox) (Y j + oy) := fun j => by
    have := nX j; have := nY j
    rw [hPd', hQd']
    exact sumW_eq (sp j) SO.out (abs_of (b := 33554432) (by have := (nX j).1; omega) (by have := (nX j).2; omega) (by decide)) (abs_of (b := 33554432) (by have := (nY j).1; omega) (by have := (nY j).2; omega) (by decide))
  have kAt : ∀ j w, Calls Try.prog 25 #[.int .i64 (X j), .int .i64 (Y j)] w fun e w' => e = .returned (.tuple #[.complex .f64 (P j) (Q j), .bool true]) ∧ w' = w := fun j w => by
    rw [hPd, hQd]; exact (at_yes (X j) (Y j) w (nX j) (nY j)).mono fun _ _ ⟨he, hw⟩ => ⟨he, hw.symm⟩
  have hxj : ∀ j, (x j).tmod 1000000 = X j := fun j => by rw [hXd]
  have hyj : ∀ j, (y j).tmod 1000000 = Y j := fun j => by rw [hYd]
  have hXb : ∀ j, -1000000 < X j ∧ X j < 1000000 := fun j => by rw [hXd]; exact tmod_range (x j) 1000000 (by omega)
  have hYb : ∀ j, -1000000 < Y j ∧ Y j < 1000000 := fun j => by rw [hYd]; exact tmod_range (y j) 1000000 (by omega)
  have HXB := Lib.hid hXb; clear hXb
  have HYB := Lib.hid hYb; clear hYb
  have NX := Lib.hid nX; clear nX
  have NY := Lib.hid nY; clear nY
  have SPj := Lib.hid sp; clear sp
  have HSUM := Lib.hid hsum; clear hsum
  have KAT := Lib.hid kAt; clear kAt
  have HXJ := Lib.hid hxj; clear hxj
  have HYJ := Lib.hid hyj; clear hyj
  clear hXd hYd hPd hQd hPd' hQd' HNX HNY
  obtain ⟨i0, hi, hz0, hz1, hz2⟩ := info_parts info_cplx
  go_wp2_with fail
  obtain ⟨W2, hW2⟩ : ∃ W2, W2 = (W1.alloc (.cells #[] 36)).alloc (.cells #[] 36) := ⟨_, rfl⟩
  have b2 : Below W1.heap.size W1 W2 := by rw [hW2]; exact ((Below.refl _ _).alloc (Nat.le_refl _) _).alloc (by simp) _
  have ov : W2.ownsRow W1.heap.size 36 1 (.slice (some ⟨W1.heap.size, 0, none⟩) 0 0) 0 (cRow P Q 0) := by
    rw [hW2]; exact (World.ownsRow_made W1 #[] 0 (Nat.le_refl _) (by unfold maxLen; omega) rfl).alloc _
  have ou : W2.ownsRow W1.heap.size 36 1 (.slice (some ⟨W1.heap.size + 1, 0, none⟩) 0 0) 0 (cRow P' Q' 0) := by
    rw [hW2]
    have := World.ownsRow_made (base := W1.heap.size) (e := 36) (size := 1) (W1.alloc (.cells #[] 36)) #[] 0 (by simp) (by unfold maxLen; omega) rfl
    simpa [cRow] using this
  rw [← hW2]
  have HW2 := Lib.hid hW2; clear hW2
  have HB2 := Lib.hid b2; clear b2
  have HOV := Lib.hid ov; clear ov
  have HOU := Lib.hid ou; clear ou
  go_loopw [11, 12, 44] (fun v u i wr => ∃ k : Nat, k ≤ n ∧ i = .int .i64 k ∧ wr.ownsRow W1.heap.size 36 1 v k (cRow P Q k) ∧ wr.ownsRow W1.heap.size 36 1 u k (cRow P' Q' k) ∧ u.ownBlock ≠ v.ownBlock ∧ Below W1.heap.size W1 wr)
    (fun _ _ i _ => n - (intOf i).toNat)
  case atStart => exact ⟨0, Nat.zero_le _, rfl, HOV.out, HOU.out, by simp [Value.ownBlock], HB2.out⟩
  case round =>
    obtain ⟨k, hk, rfl, hov, hou, hdis, hb⟩ := hrel
    have hsz := hb.size
    have hsz1 := hbel1.size
    by_cases hlt : k < n
    · have hcx : wr.cell? ⟨b0, off0 + k, none⟩ = some (.int .i64 (x k)) := ((hb.cell (by show b0 < W1.heap.size; omega)).trans (hbel1.cell hb0)).trans (HCX.out k (by have := HN.out; omega))
      have hcy : wr.cell? ⟨b1, off1 + k, none⟩ = some (.int .i64 (y k)) := ((hb.cell (by show b1 < W1.heap.size; omega)).trans (hbel1.cell hb1)).trans (HCY.out k (by have := HN.out; omega))
      have hxk := HXJ.out k
      have hyk := HYJ.out k
      have hat := KAT.out k
      obtain ⟨x1, x2⟩ := HX.out k (by have := HN.out; omega)
      obtain ⟨y1, y2⟩ := HY.out k (by have := HN.out; omega)
      have hadd := fun w => run_complex_sum w .add (Or.inl rfl) 36 .f64 (P k) (Q k) o1 o2 (P' k) (Q' k) (HSUM.out k).1 (P := Try.prog)
      have e1 := cRow_succ P Q k
      have e2 := cRow_succ P' Q' k
      have E1 := Lib.hid e1; clear e1
      have E2 := Lib.hid e2; clear e2
      generalize P k = pk at *
      generalize Q k = qk at *
      generalize P' k = pk' at *
      generalize Q' k = qk' at *
      generalize x k = xk at *
      generalize y k = yk at *
      generalize X k = Xk at *
      generalize Y k = Yk at *
      have HAT := Lib.hid hat; clear hat
      have HOV1 := Lib.hid hov; clear hov
      have HOU1 := Lib.hid hou; clear hou
      have HDIS := Lib.hid hdis; clear hdis
      have hk1 : k < len1 := by omega
      go_wp2_with fail
      go_quiet ((go_at_call 25; exact Calls.quiet_of_same (HAT.out _)))
      obtain ⟨wq, hwq⟩ : ∃ wq, wq = wr.drewN nq := ⟨_, rfl⟩
      have zq : wq.heap.size = wr.heap.size := by rw [hwq]; rfl
      have bq : Below W1.heap.size W1 wq := by rw [hwq]; exact below_drewN hb nq
      have ovq : wq.ownsRow W1.heap.size 36 1 u11 k (cRow P Q k) := by rw [hwq]; exact HOV1.out
      have ouq : wq.ownsRow W1.heap.size 36 1 u12 k (cRow P' Q' k) := by rw [hwq]; exact HOU1.out
      rw [← hwq]
      have hzq : wr.heap.size ≤ wq.heap.size := by omega
      clear zq
      have OUQ := Lib.hid ouq; clear ouq
      have BQ := Lib.hid bq; clear bq
      clear hb hcx hcy hwq hxk hyk
      go_wp2_with ((at_builtin; refine wpList_append_own_at _ rfl (.tmp 61) (.tmp 63) 43 rfl W1.heap.size 36 i0 (.complex .f64 0 0) 1 16 Try.underlying43 hi hz0 hz1 hz2 rfl (by decide) _ _ _ rfl (ovq.alloc _) ⟨wq.heap.size, 0, none⟩ 1 1 [.complex .f64 pk qk] rfl rfl ?c1 ?c2 ?c3 ?c4 ?c5 ?_))
      case c1 =>
        intro j z hj
        match j, hj with
        | 0, hj => simp at hj; subst hj; simp [Addr.add]
      case c2 => intro z hz; simp at hz; subst hz; rfl
      case c3 => unfold maxLen; omega
      case c4 => omega
      case c5 => simp; omega
      intro v' w3 hov3 hg3 _ hat3
      have hou3 : w3.ownsRow W1.heap.size 36 1 u12 k (cRow P' Q' k) := (OUQ.out.alloc _).kept hg3 (Or.inr HDIS.out)
      have hdis3 := dis_step (OUQ.out.alloc (.cells #[.complex .f64 pk qk] 36)) HDIS.out hat3 (by simp)
      have hb3 := below_step BQ.out (Nat.le_refl _) (by omega) ovq _ hg3
      rw [← E1.out] at hov3
      have hsz3 := hb3.size
      have HOV3 := Lib.hid hov3; clear hov3
      have HOU3 := Lib.hid hou3
      have HDIS3 := Lib.hid hdis3; clear hdis3
      have HB3 := Lib.hid hb3; clear hb3
      clear hg3 hat3 ovq OUQ BQ HDIS HOU1 HOV1
      go_wp2_with ((at_builtin; refine wpList_append_own_at _ rfl (.tmp 65) (.tmp 69) 43 rfl W1.heap.size 36 i0 (.complex .f64 0 0) 1 16 Try.underlying43 hi hz0 hz1 hz2 rfl (by decide) _ _ _ rfl (hou3.alloc _) ⟨w3.heap.size, 0, none⟩ 1 1 [.complex .f64 pk' qk'] rfl rfl ?c1 ?c2 ?c3 ?c4 ?c5 ?_))
      case c1 =>
        intro j z hj
        match j, hj with
        | 0, hj => simp at hj; subst hj; simp [Addr.add]
      case c2 => intro z hz; simp at hz; subst hz; rfl
      case c3 => unfold maxLen; omega
      case c4 => omega
      case c5 => simp; omega
      intro u' w4 hou4 hg4 _ hat4
      have hov4 : w4.ownsRow W1.heap.size 36 1 v' (k + 1) (cRow P Q (k + 1)) := (HOV3.out.alloc _).kept hg4 (Or.inr HDIS3.out.symm)
      have hdis4 := dis_step (HOV3.out.alloc (.cells #[.complex .f64 pk' qk'] 36)) HDIS3.out.symm hat4 (by simp)
      have hb4 := below_step HB3.out (Nat.le_refl _) (by omega) hou3 _ hg4
      rw [← E2.out] at hou4
      have HOV4 := Lib.hid hov4; clear hov4
      have HOU4 := Lib.hid hou4; clear hou4
      have HDIS4 := Lib.hid hdis4; clear hdis4
      have HB4 := Lib.hid hb4; clear hb4
      clear hg4 hat4 hou3 HOU3 HOV3 HDIS3 HB3
      go_wp2_with fail
      go_roundw
      case rel => exact ⟨k + 1, by omega, by go_num, HOV4.out, HOU4.out, HDIS4.out.symm, HB4.out⟩
      case measure => simp [intOf]; omega
    · have hkn : k = n := by omega
      subst hkn
      have hkm := HN.out
      subst hkm
      obtain ⟨g, c, rfl, hg1, hg2, hgc⟩ := row_addr hov (by omega)
      obtain ⟨g', c', rfl, hg1', hg2', hgc'⟩ := row_addr hou (by omega)
      have hc1 : ∀ j, j < m + 1 → wr.cell? ⟨g, 0 + j, none⟩ = some (.complex .f64 (P j) (Q j)) := fun j hj => hgc j _ (cRow_get P Q (m + 1) j hj)
      have hc2 : ∀ j, j < m + 1 → wr.cell? ⟨g', 0 + j, none⟩ = some (.complex .f64 (P' j) (Q' j)) := fun j hj => hgc' j _ (cRow_get P' Q' (m + 1) j hj)
      have hsw := sweep_loop m X Y 0 0 P Q 0 0 g 0 c wr (by omega) hg2 hc1 (fun j _ => SPj.out j) (fun j _ => ⟨NX.out j, NY.out j⟩) ⟨isz_zero, isz_zero⟩ ⟨near_small (by decide) (by decide), near_small (by decide) (by decide)⟩ sortSaid
      have HC1 := Lib.hid hc1; clear hc1
      have HC2 := Lib.hid hc2; clear hc2
      have HSW := Lib.hid hsw; clear hsw
      have HB := Lib.hid hb; clear hb
      clear hgc hgc' hov hou hdis
      have hmm := @run_makeMap Try.prog
      go_wp2_with fail
      refine HSW.out.mono ?_
      rintro e w5 ⟨g2, c2, rfl, hr1, hrow, hb5⟩
      obtain ⟨g2', c2', hr2, hr3, hr4, hr5⟩ := row_addr hrow (by omega)
      injection hr2 with hr6 hr7 hr8
      injection hr6 with hr9
      injection hr9 with hr10
      subst hr10
      generalize hσ : sweepP m X Y 0 0 = σ at *
      have hσl : σ.length = m + 1 := by rw [← hσ]; exact sweepP_length m X Y 0 0
      have hc3 : ∀ j, j < m + 1 → w5.cell? ⟨g2, 0 + j, none⟩ = some (.int .i64 (at' σ j : Nat)) := fun j hj => hr5 j _ (encP_get σ j (by omega))
      have HC3 := Lib.hid hc3; clear hc3
      have HS := Lib.hid hσ; clear hσ
      have HSL := Lib.hid hσl; clear hσl
      have HB5 := Lib.hid hb5
      have hsz5 := hb5.size
      clear hr5 hrow hr7 hr8 hb5 HSW
      go_wp2_with fail
      have hs0 : Seen (w5.alloc (.map #[] 0)) w5.heap.size σ 0 := ⟨.map [], World.ownsMap_made w5 _ _ _, fun _ _ => rfl⟩
      have hb6 : Below w5.heap.size w5 (w5.alloc (.map #[] 0)) := (Below.refl _ _).alloc (Nat.le_refl _) _
      have HS0 := Lib.hid hs0; clear hs0
      have HB6 := Lib.hid hb6; clear hb6
      obtain ⟨wo, rfl⟩ : ∃ wo : World, wo = wr := ⟨_, rfl⟩
      go_loopw [77] (fun i wr2 => ∃ k : Nat, k ≤ m + 1 ∧ i = .int .i64 k ∧ Seen wr2 w5.heap.size σ k ∧ Below w5.heap.size w5 wr2) (fun i _ => m + 1 - (intOf i).toNat)
      case atStart => exact ⟨0, Nat.zero_le _, rfl, HS0.out, HB6.out⟩
      case round =>
        obtain ⟨k, hk2, rfl, hseen, hb7⟩ := hrel
        have hsz7 := hb7.size
        by_cases hlt2 : k < m + 1
        · obtain ⟨κ, hκ⟩ : ∃ κ, κ = at' σ k := ⟨_, rfl⟩
          have hκm : κ < m + 1 := by rw [hκ]; exact at'_lt σ k
          have hinj : ∀ i, i < k → at' σ i ≠ κ := fun i hi h => by
            rw [hκ, ← HS.out] at h
            have := at'_inj m X Y 0 0 i k (by omega) hlt2 h
            omega
          have f1 : wr.cell? ⟨g2, k, none⟩ = some (.int .i64 (κ : Int)) := by
            have := (hb7.cell (p := ⟨g2, 0 + k, none⟩) (by exact hr4)).trans (HC3.out k hlt2)
            rw [Nat.zero_add] at this
            rw [this, hκ]
          have f2 : wr.cell? ⟨g, κ, none⟩ = some (.complex .f64 (P κ) (Q κ)) := by
            have := ((hb7.cell (p := ⟨g, 0 + κ, none⟩) (by show g < w5.heap.size; omega)).trans (HB5.out.cell (p := ⟨g, 0 + κ, none⟩) (by exact hg2))).trans (HC1.out κ hκm)
            rw [Nat.zero_add] at this
            exact this
          have hl : ∀ q, (Instr.lookup 45 (.map (some w5.heap.size)) (.int .i64 (κ : Int)) false).run Try.prog (wr.drewN q) = .ok (.bool false) (wr.drewN q) := fun q =>
            Seen.look (w := wr.drewN q) (l := σ) (k := k) hseen κ (by omega) hinj
          have hl0 : (Instr.lookup 45 (.map (some w5.heap.size)) (.int .i64 (κ : Int)) false).run Try.prog wr = .ok (.bool false) wr := hl 0
          have hl1 : (Instr.lookup 45 (.map (some w5.heap.size)) (.int .i64 (κ : Int)) false).run Try.prog wr.drew = .ok (.bool false) wr.drew := hl 1
          have hi1 : (κ : Int) < (m : Int) + 1 := by omega
          have HSEEN := Lib.hid hseen; clear hseen
          have HB7 := Lib.hid hb7; clear hb7
          have HK := Lib.hid hκ; clear hκ
          have HINJ := Lib.hid hinj; clear hinj
          have t1 : decide ((κ : Int) < 0) = false := by simp
          have t2 : decide ((m : Int) + 1 ≤ (κ : Int)) = false := by simp; omega
          by_cases h0 : k = 0
          · have t3 : decide ((0 : Int) < (k : Int)) = false := by simp; omega
            have t4 : decide (0 < k) = false := by simp; omega
            clear h0
            generalize P κ = pκ at *
            generalize Q κ = qκ at *
            go_wp2_with fail
            go_quiet (fail)
            obtain ⟨wq, hwq⟩ : ∃ wq, wq = wr.drewN nq := ⟨_, rfl⟩
            have sq' : Seen wq w5.heap.size σ k := by rw [hwq]; exact HSEEN.out
            have bq : Below w5.heap.size w5 wq := by rw [hwq]; exact below_drewN HB7.out nq
            rw [← hwq]
            clear hwq f1 f2 hl hl0 hl1
            obtain ⟨D, hoq, hDq⟩ := sq'
            have HDQ := Lib.hid hDq; clear hDq
            have BQ := Lib.hid bq; clear bq
            go_wp2_with ((at_mapUpdate; refine wpList_mapUpdate_own _ rfl _ _ _ 45 rfl 3 4 law_int Try.underlying45 (plainElem Try.prog 4) w5.heap.size k D rfl hoq ?c6 _ _ _ rfl rfl (key_int κ ?c7) (.lit (.bool true)) [] (plainElem_bool Try.underlying4 true) ?_))
            case c6 => unfold maxLen; omega
            case c7 => omega
            intro w6 ho6 hg6
            have hs6 := seen_put ho6 HDQ.out HK.out
            have hb6' : Below w5.heap.size w5 w6 := BQ.out.grown hg6 BQ.out.size (fun b hb => by injection hb with hb; omega)
            have HS6 := Lib.hid hs6; clear hs6
            have HB6' := Lib.hid hb6'; clear hb6'
            clear ho6 hg6 hoq
            go_wp2_with fail
            go_roundw
            case rel => exact ⟨k + 1, by omega, by go_num, HS6.out, HB6'.out⟩
            case measure => simp [intOf]; omega
          · obtain ⟨i, hik⟩ : ∃ i, k = i + 1 := ⟨k - 1, by omega⟩
            have t3 : decide ((0 : Int) < (k : Int)) = true := by simp; omega
            have t4 : decide (0 < k) = true := by simp; omega
            have he : (k : Int) - 1 = (i : Int) := by omega
            have hi2 : i < m + 1 := by omega
            have hi3 : (i : Int) < (m : Int) + 1 := by omega
            obtain ⟨κ', hκ'⟩ : ∃ κ', κ' = at' σ i := ⟨_, rfl⟩
            have hκm' : κ' < m + 1 := by rw [hκ']; exact at'_lt σ i
            have hi4 : (κ' : Int) < (m : Int) + 1 := by omega
            have f3 : wr.cell? ⟨g2, i, none⟩ = some (.int .i64 (κ' : Int)) := by
              have := (HB7.out.cell (p := ⟨g2, 0 + i, none⟩) (by exact hr4)).trans (HC3.out i hi2)
              rw [Nat.zero_add] at this
              rw [this, hκ']
            have f4 : wr.cell? ⟨g, κ', none⟩ = some (.complex .f64 (P κ') (Q κ')) := by
              have := ((HB7.out.cell (p := ⟨g, 0 + κ', none⟩) (by show g < w5.heap.size; omega)).trans (HB5.out.cell (p := ⟨g, 0 + κ', none⟩) (by exact hg2))).trans (HC1.out κ' hκm')
              rw [Nat.zero_add] at this
              exact this
            have hbf := fun w => before_yes 0 0 (P κ) (Q κ) (P κ') (Q κ') 0 0 _ _ _ _ w ⟨isz_zero, isz_zero⟩ (SPj.out κ) (SPj.out κ') (near_small (by decide) (by decide)) (near_small (by decide) (by decide)) (NX.out κ) (NY.out κ) (NX.out κ') (NY.out κ')
            have hnb := not_before m X Y i (by omega)
            rw [HS.out, ← hik, ← HK.out, ← hκ'] at hnb
            rw [hnb] at hbf
            generalize cmpObj (X κ - 0) (Y κ - 0) (X κ' - 0) (Y κ' - 0) = ob at *
            generalize P κ = pκ at *
            generalize Q κ = qκ at *
            generalize P κ' = pκ' at *
            generalize Q κ' = qκ' at *
            have HBF := Lib.hid hbf; clear hbf
            have n1 : wr.heap.size ≠ g := World.new_ne wr ⟨g, κ, none⟩ f2
            have n2 : wr.heap.size ≠ g2 := World.new_ne wr ⟨g2, i, none⟩ f3
            have hk3 : 1 ≤ (k : Int) := by omega
            have hi5 : (0 : Int) ≤ (i : Int) := by omega
            have hwr : IntKind.i64.wrap (i : Int) = (i : Int) := by rw [IntKind.wrap_i64]; omega
            clear h0 hik hκ' hnb
            go_wp2_with fail
            go_region_held3 (fun w' => w'.cell? ⟨g, κ, none⟩ = some (.complex .f64 pκ qκ) ∧ w'.cell? ⟨g2, i, none⟩ = some (.int .i64 (κ' : Int)) ∧ w'.cell? ⟨g, κ', none⟩ = some (.complex .f64 pκ' qκ')) (go_keep)
              (first | (go_at_call 30; refine (HBF.out _).mono ?_; rintro e w' ⟨rfl, rfl⟩))
            obtain ⟨wq, hwq⟩ : ∃ wq, wq = (wr.alloc ob).drew := ⟨_, rfl⟩
            have sq' : Seen wq w5.heap.size σ k := by rw [hwq]; obtain ⟨D, h1, h2⟩ := HSEEN.out; exact ⟨D, (h1.alloc ob).drew, h2⟩
            have bq : Below w5.heap.size w5 wq := by rw [hwq]; exact (HB7.out.alloc (by omega) ob).drew
            rw [← hwq]
            clear hwq f1 f2 f3 f4 hl hl0 hl1 he hwr n1 n2
            obtain ⟨D, hoq, hDq⟩ := sq'
            have HDQ := Lib.hid hDq; clear hDq
            have BQ := Lib.hid bq; clear bq
            go_wp2_with ((at_mapUpdate; refine wpList_mapUpdate_own _ rfl _ _ _ 45 rfl 3 4 law_int Try.underlying45 (plainElem Try.prog 4) w5.heap.size k D rfl hoq ?c6 _ _ _ rfl rfl (key_int κ ?c7) (.lit (.bool true)) [] (plainElem_bool Try.underlying4 true) ?_))
            case c6 => unfold maxLen; omega
            case c7 => omega
            intro w6 ho6 hg6
            have hs6 := seen_put ho6 HDQ.out HK.out
            have hb6' : Below w5.heap.size w5 w6 := BQ.out.grown hg6 BQ.out.size (fun b hb => by injection hb with hb; omega)
            have HS6 := Lib.hid hs6; clear hs6
            have HB6' := Lib.hid hb6'; clear hb6'
            clear ho6 hg6 hoq
            go_wp2_with fail
            go_roundw
            case rel => exact ⟨k + 1, by omega, by go_num, HS6.out, HB6'.out⟩
            case measure => simp [intOf]; omega
        · have hkm2 : k = m + 1 := by omega
          subst hkm2
          have hc4 : ∀ j, j < m + 1 → wr.cell? ⟨g', 0 + j, none⟩ = some (.complex .f64 (P' j) (Q' j)) := fun j hj =>
            ((hb7.cell (p := ⟨g', 0 + j, none⟩) (by show g' < w5.heap.size; omega)).trans (HB5.out.cell (p := ⟨g', 0 + j, none⟩) (by exact hg2'))).trans (HC2.out j hj)
          have hc5 : ∀ j, j < m + 1 → wr.cell? ⟨g2, 0 + j, none⟩ = some (.int .i64 (at' σ j : Nat)) := fun j hj => (hb7.cell (p := ⟨g2, 0 + j, none⟩) (by exact hr4)).trans (HC3.out j hj)
          have hsw2 := sweep_loop m (fun j => X j + ox) (fun j => Y j + oy) ox oy P' Q' o1 o2 g' 0 c' wr (by omega) (by omega) hc4 (fun j _ => (HSUM.out j).2)
            (fun j _ => ⟨⟨by have := (HXB.out j).1; show -16777216 ≤ X j + ox; omega, by have := (HXB.out j).2; show X j + ox ≤ 16777216; omega⟩, ⟨by have := (HYB.out j).1; show -16777216 ≤ Y j + oy; omega, by have := (HYB.out j).2; show Y j + oy ≤ 16777216; omega⟩⟩) SO.out ⟨NO1.out, NO2.out⟩ sortSaid
          have hmv : sweepP m (fun j => X j + ox) (fun j => Y j + oy) ox oy = σ := by
            rw [← HS.out]
            exact sweepP_moved m X Y _ _ 0 0 ox oy (fun k _ => by show X k + ox - ox = X k - 0; omega) (fun k _ => by show Y k + oy - oy = Y k - 0; omega)
          rw [hmv] at hsw2
          have HSW2 := Lib.hid hsw2; clear hsw2
          have HC5 := Lib.hid hc5; clear hc5
          have HB7 := Lib.hid hb7; clear hb7
          clear hc4 hmv hseen hmm
          go_wp2_with fail
          refine HSW2.out.mono ?_
          rintro e w7 ⟨g3, c3, rfl, hq1, hrow7, hb8⟩
          obtain ⟨g3', c3', hq2, hq3, hq4, hq5⟩ := row_addr hrow7 (by omega)
          injection hq2 with hq6 hq7 hq8
          injection hq6 with hq9
          injection hq9 with hq10
          subst hq10
          have hsame := same_any g3 0 c3 g2 0 c2 (m + 1) (fun j => ((at' σ j : Nat) : Int)) w7 (by omega) (fun j hj => hq5 j _ (encP_get σ j (by have := HSL.out; omega)))
            (fun j hj => (hb8.cell (p := ⟨g2, 0 + j, none⟩) (by show g2 < wr.heap.size; omega)).trans (HC5.out j hj))
          have HSA := Lib.hid hsame; clear hsame
          have HB8 := Lib.hid hb8; clear hb8
          clear hq5 hrow7 hq7 hq8
          go_wp2_with fail
          refine HSA.out.mono ?_
          rintro e w8 ⟨rfl, hd⟩
          go_wp2_with fail
          go_ret
          refine ⟨rfl, ?_⟩
          exact ((((hbel1.trans (HB.out.mono (by omega))).trans (HB5.out.mono (by omega))).trans (HB7.out.mono (by omega))).trans (HB8.out.mono (by omega))).trans (hd.below _)
end Spot
end Go.Proofs.Ytcfbondgbhmcaaa
