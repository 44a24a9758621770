/- The document's table: a row of bans (Live, Forbid). -/
import Derived.Test.YtjfagekdeapiaaaTabAt
import Derived.Maps.AppendAt
namespace Go.Proofs.Ytjfagekdeapiaaa
open Go.RowKit Go.Lib
namespace Tab
set_option linter.unusedVariables false
theorem info_one : (Try.prog.info? 54).map (fun i => (i.zero, i.size, i.bytes)) = some (some (.agg #[.int .i64 0, .int .i64 0, .int .i64 0]), 3, 24) := by kernel_rfl
theorem cell_three (w : World) (x y z : Value) (t : TypeId) (n : Nat) (hn : n = w.heap.size) : ∀ j u, [x, y, z][j]? = some u → (w.alloc (.cells #[x, y, z] t)).cell? ((⟨n, 0, none⟩ : Addr).add j) = some u := by
  subst hn
  intro j u hj
  rw [Go.WideShapes.add_plain]
  match j, hj with
  | 0, hj => simp at hj; subst hj; simp [go_sem]
  | 1, hj => simp at hj; subst hj; simp [go_sem]
  | 2, hj => simp at hj; subst hj; simp [go_sem]
  | j + 3, hj => simp at hj
/-- a row of bans that the call has made -/
def Own (w : World) (v : Value) (l : List E) (wr : World) : Prop := wr.ownsRow w.heap.size 54 3 v l.length (cellsL l) ∧ Below w.heap.size w wr
theorem own_start (w : World) : Own w (.slice (some ⟨w.heap.size, 0, none⟩) 0 0) [] (w.alloc (.cells #[] 54)) :=
  ⟨World.ownsRow_made w #[] 0 (Nat.le_refl _) (by unfold maxLen; omega) (by simp), (Below.refl _ _).alloc (Nat.le_refl _) _⟩
theorem own_step {w W w' : World} {v v' : Value} {l : List E} {e : E} (h : Own w v l W) {o : Obj} (h1 : w'.ownsRow w.heap.size 54 3 v' (l.length + 1) (cellsL l ++ [.int .i64 e.r, .int .i64 e.t, .int .i64 e.u])) (h2 : (W.alloc o).grownBy w' v.ownBlock) : Own w v' (l ++ [e]) w' := by
  refine ⟨?_, ?_⟩
  · rw [cellsL_append, List.length_append]; exact h1
  · exact (h.2.alloc h.2.size o).grown h2 (by have := h.2.size; simp; omega) (fun k hk => (h.1.lt k hk).1)
theorem Own.out {w wr : World} {v : Value} {l : List E} (h : Own w v l wr) : ∃ a c, v = .slice a l.length c ∧ (∀ x, a = some x → w.heap.size ≤ x.block) ∧ IsL wr a l := isL_own h.1 rfl
theorem own_len {w W : World} {v : Value} {l : List E} {q : Nat} (h : Own w v l W) (hq : q = l.length) : W.ownsRow w.heap.size 54 3 v q (cellsL l) := by rw [hq]; exact h.1
theorem own_eq {w W : World} {v : Value} {l l' : List E} (h : Own w v l W) (hl : l = l') : Own w v l' W := by rw [← hl]; exact h
/-- what Live and Forbid hand back -/
def RowP (l : List E) (w : World) (e : Ending) (w' : World) : Prop :=
  ∃ a c, e = .returned (.slice a l.length c) ∧ Below w.heap.size w w' ∧ IsL w' a l ∧ ∀ x, a = some x → w.heap.size ≤ x.block
theorem live_snoc (now : Int) (l : List E) (k : Nat) (hk : k < l.length) : live now (l.take (k + 1)) = live now (l.take k) ++ if now < l[k].u then [l[k]] else [] := by
  unfold live
  rw [List.take_succ_eq_append_getElem hk, List.filter_append]
  congr 1
  by_cases h : now < l[k].u <;> simp [h]
set_option maxHeartbeats 2000000 in
theorem refLive_any (a : Option Addr) (c : Nat) (l : List E) (now : Int) (w : World) (he : IsL w a l) (hm : l.length ≤ 1000) :
    Calls Try.prog 12 #[.slice a l.length c, .int .i64 now] w (RowP (live now l) w) := by
  obtain ⟨i0, hi, hz0, hz1, hz2⟩ := info_parts info_one
  have HE := Lib.hid he; clear he
  obtain ⟨m, hml⟩ : ∃ m, m = l.length := ⟨_, rfl⟩
  rw [← hml] at hm ⊢
  have HML := Lib.hid hml; clear hml
  go_enter Try.func12, Try.ntmps12
  go_wp2_with fail
  go_loopg [5, 6] m (fun gg s5 s6 wr => ∃ k : Nat, k ≤ m ∧ m - k ≤ gg ∧ s6 = .int .i64 k ∧ Hid (Own w s5 (live now (l.take k)) wr))
  case atStart => exact ⟨0, Nat.zero_le _, by omega, rfl, Lib.hid (own_start w)⟩
  case round =>
    obtain ⟨k, hk, hg, rfl, HO⟩ := hrel
    by_cases hlt : k < m
    · have hkl : k < l.length := by have := HML.out; omega
      have hll : (live now (l.take k)).length ≤ 1000 := by
        have h1 := live_le now (l.take k)
        have h2 : (l.take k).length ≤ k := by simp; omega
        omega
      have hsz := HO.out.2.size
      rcases HE.out with h0 | ⟨b, off, rfl, hb, hmx, hc⟩
      · rw [h0] at hkl; simp at hkl
      obtain ⟨d0, d1, d2⟩ := hc k hkl
      have e0 := (HO.out.2.cell hb).trans d0
      have e1 := (HO.out.2.cell hb).trans d1
      have e2 := (HO.out.2.cell hb).trans d2
      have HS := Lib.hid (live_snoc now l k hkl)
      clear hc hmx d0 d1 d2
      obtain ⟨e, hee⟩ : ∃ e, e = l[k] := ⟨_, rfl⟩
      rw [← hee] at e0 e1 e2 HS
      clear hee
      by_cases h3 : now < e.u
      · have HS2 := Lib.hid (show live now (l.take (k + 1)) = live now (l.take k) ++ [e] by rw [HS.out, if_pos h3])
        obtain ⟨u, hu⟩ : ∃ u, u = e.u := ⟨_, rfl⟩
        have HU := Lib.hid hu
        rw [← hu] at h3 e2
        obtain ⟨x, hx⟩ : ∃ x, x = e.r := ⟨_, rfl⟩
        have HX := Lib.hid hx
        rw [← hx] at e0
        obtain ⟨y, hy⟩ : ∃ y, y = e.t := ⟨_, rfl⟩
        have HY := Lib.hid hy
        rw [← hy] at e1
        obtain ⟨q, hq⟩ : ∃ q, q = (live now (l.take k)).length := ⟨_, rfl⟩
        have HQ := Lib.hid hq
        rw [← hq] at hll
        have HOW := Lib.hid (own_len HO.out hq)
        clear hu hx hy hq
        go_wp2_with (at_builtin; refine wpList_append_own _ rfl _ _ 27 rfl w.heap.size 54 i0 (.agg #[.int .i64 0, .int .i64 0, .int .i64 0]) 3 24 Try.underlying27 hi hz0 hz1 hz2 rfl (by decide) _ _ _ rfl (HOW.out.alloc _) ⟨wr.heap.size, 0, none⟩ 1 1 [.int .i64 x, .int .i64 y, .int .i64 u] rfl rfl ?c1 ?c2 ?c3 ?c4 ?c5 ?_)
        case c1 => exact cell_three _ _ _ _ _ _ rfl
        case c2 => intro z hz; simp at hz; rcases hz with rfl | rfl | rfl <;> rfl
        case c3 => unfold maxLen; omega
        case c4 => omega
        case c5 => simp; omega
        intro v' w' hown' hgrow' _
        have HN := Lib.hid (show Own w v' (live now (l.take (k + 1))) w' by
          rw [HS2.out]
          exact own_step HO.out (by rw [← HX.out, ← HY.out, ← HU.out, ← HQ.out]; exact hown') hgrow')
        clear hown' hgrow'
        go_wp2_with fail
        go_roundg (m - (k + 1))
        case measure => omega
        case rel => exact ⟨k + 1, by omega, by omega, by go_num, HN⟩
      · have HN := Lib.hid (own_eq HO.out (show live now (l.take k) = live now (l.take (k + 1)) by rw [HS.out, if_neg h3, List.append_nil]))
        obtain ⟨u, hu⟩ : ∃ u, u = e.u := ⟨_, rfl⟩
        rw [← hu] at h3 e2
        clear hu
        go_wp2_with fail
        go_roundg (m - (k + 1))
        case measure => omega
        case rel => exact ⟨k + 1, by omega, by omega, by go_num, HN⟩
    · have hkm : k = m := by omega
      have HN := Lib.hid (own_eq HO.out (show live now (l.take k) = live now l by rw [hkm, HML.out, List.take_length]))
      subst hkm
      go_wp2_with fail
      go_ret
      obtain ⟨a', c', rfl, h1, h2⟩ := Own.out HN.out
      exact ⟨a', c', rfl, HN.out.2, h2, h1⟩
theorem oth_snoc (r t : Int) (l : List E) (k : Nat) (hk : k < l.length) : oth r t (l.take (k + 1)) = oth r t (l.take k) ++ if sm r t l[k] = true then [] else [l[k]] := by
  unfold oth
  rw [List.take_succ_eq_append_getElem hk, List.filter_append]
  congr 1
  by_cases h : sm r t l[k] = true <;> simp [h]
theorem un_snoc (r t u : Int) (l : List E) (k : Nat) (hk : k < l.length) : un r t (l.take (k + 1)) u = if sm r t l[k] = true ∧ un r t (l.take k) u < l[k].u then l[k].u else un r t (l.take k) u := by
  rw [List.take_succ_eq_append_getElem hk, un_append]
  rfl
set_option maxHeartbeats 4000000 in
theorem refBan_any (a : Option Addr) (c : Nat) (l : List E) (r t u0 : Int) (w : World) (he : IsL w a l) (hm : l.length ≤ 1000) :
    Calls Try.prog 10 #[.slice a l.length c, .int .i64 r, .int .i64 t, .int .i64 u0] w (RowP (ban l r t u0) w) := by
  obtain ⟨i0, hi, hz0, hz1, hz2⟩ := info_parts info_one
  have HE := Lib.hid he; clear he
  obtain ⟨m, hml⟩ : ∃ m, m = l.length := ⟨_, rfl⟩
  rw [← hml] at hm ⊢
  have HML := Lib.hid hml; clear hml
  go_enter Try.func10, Try.ntmps10
  go_wp2_with fail
  go_loopg [3, 9, 10] m (fun gg s3 s9 s10 wr => ∃ (k : Nat) (n : Int), k ≤ m ∧ m - k ≤ gg ∧ s3 = .int .i64 n ∧ s10 = .int .i64 k ∧ Hid (n = un r t (l.take k) u0) ∧ Hid (Own w s9 (oth r t (l.take k)) wr))
  case atStart => exact ⟨0, u0, Nat.zero_le _, by omega, rfl, rfl, Lib.hid rfl, Lib.hid (own_start w)⟩
  case round =>
    obtain ⟨k, n, hk, hg, rfl, rfl, HN0, HO⟩ := hrel
    have hll : (oth r t (l.take k)).length ≤ 1000 := by
      have h1 := List.length_filter_le (fun e => !sm r t e) (l.take k)
      have h2 : (l.take k).length ≤ k := by simp; omega
      unfold oth
      omega
    have hsz := HO.out.2.size
    by_cases hlt : k < m
    · have hkl : k < l.length := by have := HML.out; omega
      rcases HE.out with h0 | ⟨b, off, rfl, hb, hmx, hc⟩
      · rw [h0] at hkl; simp at hkl
      obtain ⟨d0, d1, d2⟩ := hc k hkl
      have e0 := (HO.out.2.cell hb).trans d0
      have e1 := (HO.out.2.cell hb).trans d1
      have e2 := (HO.out.2.cell hb).trans d2
      have HS := Lib.hid (oth_snoc r t l k hkl)
      have HUS := Lib.hid (un_snoc r t u0 l k hkl)
      clear hc hmx d0 d1 d2
      obtain ⟨e, hee⟩ : ∃ e, e = l[k] := ⟨_, rfl⟩
      rw [← hee] at e0 e1 e2 HS HUS
      rw [← HN0.out] at HUS
      clear hee
      obtain ⟨x, hx⟩ : ∃ x, x = e.r := ⟨_, rfl⟩
      obtain ⟨y, hy⟩ : ∃ y, y = e.t := ⟨_, rfl⟩
      have hsm : sm r t e = (decide (x = r) && decide (y = t)) := by rw [hx, hy]; rfl
      have HX := Lib.hid hx
      have HY := Lib.hid hy
      rw [← hx] at e0
      rw [← hy] at e1
      clear hx hy
      by_cases h1 : x = r
      · by_cases h2 : y = t
        · have hst : sm r t e = true := by rw [hsm]; simp [h1, h2]
          have HN := Lib.hid (own_eq HO.out (show oth r t (l.take k) = oth r t (l.take (k + 1)) by rw [HS.out, if_pos hst, List.append_nil]))
          obtain ⟨u, hu⟩ : ∃ u, u = e.u := ⟨_, rfl⟩
          rw [← hu] at e2
          by_cases h3 : n < u
          · have HUN := Lib.hid (show u = un r t (l.take (k + 1)) u0 by rw [HUS.out, if_pos ⟨hst, by rw [← hu]; exact h3⟩]; exact hu)
            subst h1 h2
            clear hsm hst hu
            go_wp2_with fail
            go_roundg (m - (k + 1))
            case measure => omega
            case rel => exact ⟨k + 1, u, by omega, by omega, rfl, by go_num, HUN, HN⟩
          · have HUN := Lib.hid (show n = un r t (l.take (k + 1)) u0 by rw [HUS.out, if_neg (fun hc => h3 (by rw [hu]; exact hc.2))])
            subst h1 h2
            clear hsm hst hu
            go_wp2_with fail
            go_roundg (m - (k + 1))
            case measure => omega
            case rel => exact ⟨k + 1, n, by omega, by omega, rfl, by go_num, HUN, HN⟩
        · have hst : ¬ sm r t e = true := by rw [hsm]; simp [h2]
          have HUN := Lib.hid (show n = un r t (l.take (k + 1)) u0 by rw [HUS.out, if_neg (fun hc => hst hc.1)])
          have HS2 := Lib.hid (show oth r t (l.take (k + 1)) = oth r t (l.take k) ++ [e] by rw [HS.out, if_neg hst])
          have q2 : (y == t) = false := by simpa using h2
          clear hst
          obtain rfl : r = x := h1.symm
          clear h1
          obtain ⟨u, hu⟩ : ∃ u, u = e.u := ⟨_, rfl⟩
          have HU := Lib.hid hu
          rw [← hu] at e2
          obtain ⟨q, hq⟩ : ∃ q, q = (oth r t (l.take k)).length := ⟨_, rfl⟩
          have HQ := Lib.hid hq
          rw [← hq] at hll
          have HOW := Lib.hid (own_len HO.out hq)
          clear hu hq hsm
          go_wp2_with (at_builtin; refine wpList_append_own _ rfl _ _ 27 rfl w.heap.size 54 i0 (.agg #[.int .i64 0, .int .i64 0, .int .i64 0]) 3 24 Try.underlying27 hi hz0 hz1 hz2 rfl (by decide) _ _ _ rfl (HOW.out.alloc _) ⟨wr.heap.size, 0, none⟩ 1 1 [.int .i64 r, .int .i64 y, .int .i64 u] rfl rfl ?c1 ?c2 ?c3 ?c4 ?c5 ?_)
          (try case c1 => exact cell_three _ _ _ _ _ _ rfl)
          case c2 => intro z hz; simp at hz; rcases hz with rfl | rfl | rfl <;> rfl
          case c3 => unfold maxLen; omega
          case c4 => omega
          case c5 => simp; omega
          intro v' w' hown' hgrow' _
          have HN := Lib.hid (show Own w v' (oth r t (l.take (k + 1))) w' by
            rw [HS2.out]
            exact own_step HO.out (by rw [← HX.out, ← HY.out, ← HU.out, ← HQ.out]; exact hown') hgrow')
          clear hown' hgrow'
          go_wp2_with fail
          go_roundg (m - (k + 1))
          case measure => omega
          case rel => exact ⟨k + 1, n, by omega, by omega, rfl, by go_num, HUN, HN⟩
      · have hst : ¬ sm r t e = true := by rw [hsm]; simp [h1]
        have HUN := Lib.hid (show n = un r t (l.take (k + 1)) u0 by rw [HUS.out, if_neg (fun hc => hst hc.1)])
        have HS2 := Lib.hid (show oth r t (l.take (k + 1)) = oth r t (l.take k) ++ [e] by rw [HS.out, if_neg hst])
        have q1 : (x == r) = false := by simpa using h1
        clear hst
        obtain ⟨u, hu⟩ : ∃ u, u = e.u := ⟨_, rfl⟩
        have HU := Lib.hid hu
        rw [← hu] at e2
        obtain ⟨q, hq⟩ : ∃ q, q = (oth r t (l.take k)).length := ⟨_, rfl⟩
        have HQ := Lib.hid hq
        rw [← hq] at hll
        have HOW := Lib.hid (own_len HO.out hq)
        clear hu hq hsm
        go_wp2_with (at_builtin; refine wpList_append_own _ rfl _ _ 27 rfl w.heap.size 54 i0 (.agg #[.int .i64 0, .int .i64 0, .int .i64 0]) 3 24 Try.underlying27 hi hz0 hz1 hz2 rfl (by decide) _ _ _ rfl (HOW.out.alloc _) ⟨wr.heap.size, 0, none⟩ 1 1 [.int .i64 x, .int .i64 y, .int .i64 u] rfl rfl ?k1 ?k2 ?k3 ?k4 ?k5 ?_)
        (try case k1 => exact cell_three _ _ _ _ _ _ rfl)
        case k2 => intro z hz; simp at hz; rcases hz with rfl | rfl | rfl <;> rfl
        case k3 => unfold maxLen; omega
        case k4 => omega
        case k5 => simp; omega
        intro v' w' hown' hgrow' _
        have HN := Lib.hid (show Own w v' (oth r t (l.take (k + 1))) w' by
          rw [HS2.out]
          exact own_step HO.out (by rw [← HX.out, ← HY.out, ← HU.out, ← HQ.out]; exact hown') hgrow')
        clear hown' hgrow'
        go_wp2_with fail
        go_roundg (m - (k + 1))
        case measure => omega
        case rel => exact ⟨k + 1, n, by omega, by omega, rfl, by go_num, HUN, HN⟩
    · have hkm : k = m := by omega
      have HOL := Lib.hid (own_eq HO.out (show oth r t (l.take k) = oth r t l by rw [hkm, HML.out, List.take_length]))
      have HUL := Lib.hid (show n = un r t l u0 by rw [HN0.out, hkm, HML.out, List.take_length])
      have hll : (oth r t l).length ≤ 1000 := by rw [hkm, HML.out, List.take_length] at hll; exact hll
      obtain ⟨q, hq⟩ : ∃ q, q = (oth r t l).length := ⟨_, rfl⟩
      have HQ := Lib.hid hq
      rw [← hq] at hll
      have HOW := Lib.hid (own_len HOL.out hq)
      clear hq
      subst hkm
      go_wp2_with (at_builtin; refine wpList_append_own _ rfl _ _ 27 rfl w.heap.size 54 i0 (.agg #[.int .i64 0, .int .i64 0, .int .i64 0]) 3 24 Try.underlying27 hi hz0 hz1 hz2 rfl (by decide) _ _ _ rfl (HOW.out.alloc _) ⟨wr.heap.size, 0, none⟩ 1 1 [.int .i64 r, .int .i64 t, .int .i64 n] rfl rfl ?b1 ?b2 ?b3 ?b4 ?b5 ?_)
      (try case b1 => exact cell_three _ _ _ _ _ _ rfl)
      case b2 => intro z hz; simp at hz; rcases hz with rfl | rfl | rfl <;> rfl
      case b3 => unfold maxLen; omega
      case b4 => omega
      case b5 => simp; omega
      intro v' w' hown' hgrow' _
      have HN := Lib.hid (show Own w v' (ban l r t u0) w' from own_step (e := ⟨r, t, un r t l u0⟩) HOL.out (by rw [← HUL.out, ← HQ.out]; exact hown') hgrow')
      clear hown' hgrow'
      go_wp2_with fail
      go_ret
      obtain ⟨a', c', rfl, h1, h2⟩ := Own.out HN.out
      exact ⟨a', c', rfl, HN.out.2, h2, h1⟩
end Tab
end Go.Proofs.Ytjfagekdeapiaaa
