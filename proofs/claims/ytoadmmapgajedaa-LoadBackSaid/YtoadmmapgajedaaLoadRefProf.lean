/- The document's answer for Profile (jitneyref04.Profile). -/
import Derived.Test.YtoadmmapgajedaaLoadRefFst
import Derived.Maps.AppendAt
namespace Go.Proofs.Ytoadmmapgajedaa
open Go.RowKit
namespace Load
def cellsQ (b off B k : Nat) (X Y : Nat → Int) : List (Addr × Value) := [(⟨B, 0, none⟩, .int .i64 (S X k)), (⟨B, 1, none⟩, .int .i64 (S Y k)), (⟨b, off + k * 2, none⟩, .int .i64 (X k)), (⟨b, off + k * 2 + 1, none⟩, .int .i64 (Y k))]
theorem cellsQ_all {w0 W : World} {b off B k : Nat} {X Y : Nat → Int} (h : KA w0 (cellsQ b off B k X Y) W) : KA w0 (cellsQ b off B k X Y) W ∧ W.cell? ⟨B, 0, none⟩ = some (.int .i64 (S X k)) ∧ W.cell? ⟨B, 1, none⟩ = some (.int .i64 (S Y k)) ∧ W.cell? ⟨b, off + k * 2, none⟩ = some (.int .i64 (X k)) ∧ W.cell? ⟨b, off + k * 2 + 1, none⟩ = some (.int .i64 (Y k)) :=
  ⟨h, h.at (by simp [cellsQ]), h.at (by simp [cellsQ]), h.at (by simp [cellsQ]), h.at (by simp [cellsQ])⟩
theorem cell_two_new (w : World) (x y : Value) (t : TypeId) : ∀ j u, [x, y][j]? = some u → (w.alloc (.cells #[x, y] t)).cell? ((⟨w.heap.size, 0, none⟩ : Addr).add j) = some u := by
  intro j u hj
  match j, hj with
  | 0, hj => simp at hj; subst hj; simp [Addr.add]
  | 1, hj => simp at hj; subst hj; simp [Addr.add]
  | j + 2, hj => simp at hj
theorem cell_two_newW (w : World) (x y : Value) (t : TypeId) (n : Nat) (hn : n = w.heap.size) : ∀ j u, [x, y][j]? = some u → (w.alloc (.cells #[x, y] t)).cell? ((⟨n, 0, none⟩ : Addr).add j) = some u := by
  subst hn; exact cell_two_new w x y t
theorem owns_kept {w w' : World} {base e size n : Nat} {v : Value} {xs : List Value} (h : w.ownsRow base e size v n xs) (hb : Below w.heap.size w w') : w'.ownsRow base e size v n xs := by
  refine ⟨h.1, ?_⟩
  rcases h.2 with ⟨h', h0⟩ | ⟨g, cap, cur, h', hbg, hg, hr⟩
  · exact .inl ⟨h', h0⟩
  · have hlt : g < w.heap.size := by
      rcases Nat.lt_or_ge g w.heap.size with h | h
      · exact h
      · rw [Array.getElem?_eq_none h] at hg; cases hg
    exact .inr ⟨g, cap, cur, h', hbg, by rw [hb.block g hlt]; exact hg, hr⟩
theorem owns_store {w : World} {base e size n : Nat} {v : Value} {xs : List Value} (h : w.ownsRow base e size v n xs) (p : Addr) (u : Value) (hne : v.ownBlock ≠ some p.block) : (w.setCell p u).ownsRow base e size v n xs :=
  h.kept (row := some p.block) ⟨rfl, rfl, rfl, by simp, fun k _ hk => heap_setCell_other w p k u (fun e => hk (by simp [e]))⟩ (.inr hne)
/-- the running sums, cell by cell -/
def sRow (X Y : Nat → Int) : Nat → List Value
  | 0 => []
  | k + 1 => sRow X Y k ++ [.int .i64 (S X (k + 1)), .int .i64 (S Y (k + 1))]
theorem sRow_len (X Y : Nat → Int) (k : Nat) : (sRow X Y k).length = k * 2 := by
  induction k with
  | zero => rfl
  | succ k ih => rw [sRow, List.length_append, ih]; simp; omega
theorem sRow_at (X Y : Nat → Int) (k j : Nat) (hj : j < k) : (sRow X Y k)[j * 2]? = some (.int .i64 (S X (j + 1))) ∧ (sRow X Y k)[j * 2 + 1]? = some (.int .i64 (S Y (j + 1))) := by
  induction k with
  | zero => omega
  | succ k ih =>
    have hl := sRow_len X Y k
    rw [sRow]
    rcases Nat.lt_or_ge j k with h | h
    · rw [List.getElem?_append_left (by omega), List.getElem?_append_left (by omega)]
      exact ih h
    · obtain rfl : j = k := by omega
      rw [List.getElem?_append_right (by omega), List.getElem?_append_right (by omega), hl]
      simp
/-- between two rounds -/
def RelQ (w : World) (B : Nat) (X Y : Nat → Int) (k : Nat) (v : Value) (wr : World) : Prop :=
  wr.ownsRow w.heap.size 23 2 v k (sRow X Y k) ∧ v.ownBlock ≠ some B ∧ wr.cell? ⟨B, 0, none⟩ = some (.int .i64 (S X k)) ∧ wr.cell? ⟨B, 1, none⟩ = some (.int .i64 (S Y k)) ∧ wr.frozen? ⟨B, 0, none⟩ = false ∧ wr.frozen? ⟨B, 1, none⟩ = false ∧
  Below w.heap.size w wr ∧ B < wr.heap.size
/-- what the document's Profile hands back -/
def RProfP (X Y : Nat → Int) (n : Nat) (w : World) (e : Ending) (w' : World) : Prop :=
  Below w.heap.size w w' ∧ ((okTo X Y n = false ∧ e = .returned (.tuple #[.slice none 0 0, .bool false])) ∨
    (okTo X Y n = true ∧ ∃ g c, e = .returned (.tuple #[.slice (some ⟨g, 0, none⟩) n c, .bool true]) ∧ g < w'.heap.size ∧ ∀ j, j < n → w'.cell? ⟨g, j * 2, none⟩ = some (.int .i64 (S X (j + 1))) ∧ w'.cell? ⟨g, j * 2 + 1, none⟩ = some (.int .i64 (S Y (j + 1)))))
theorem relQ_end {w W : World} {B n : Nat} {X Y : Nat → Int} {v : Value} (h : RelQ w B X Y n v W) (h0 : 0 < n) (hok : okTo X Y n = true) : RProfP X Y n w (.returned (.tuple #[v, .bool true])) W := by
  obtain ⟨ho, _, _, _, _, _, hb, _⟩ := h
  refine ⟨hb, .inr ⟨hok, ?_⟩⟩
  rcases ho.2 with ⟨_, h1⟩ | ⟨g, c, cur, rfl, h1, _⟩
  · omega
  · refine ⟨g, c, rfl, (ho.lt g rfl).2, fun j hj => ?_⟩
    rw [ho.cellAt _ (by omega), ho.cellAt _ (by omega)]
    exact sRow_at X Y n j hj
theorem relQ_step {w W W' : World} {B k : Nat} {X Y : Nat → Int} {v v' : Value} {u0 u1 : Value} (hk : v.ownBlock ≠ some B) (hbel : Below w.heap.size w W) (hB : B < W.heap.size) (hwB : w.heap.size ≤ B)
    (hown : W.ownsRow w.heap.size 23 2 v k (sRow X Y k)) (b0 : W.cell? ⟨B, 0, none⟩ = some u0) (b1 : W.cell? ⟨B, 1, none⟩ = some u1) (f0 : W.frozen? ⟨B, 0, none⟩ = false) (f1 : W.frozen? ⟨B, 1, none⟩ = false) {V : World}
    (hV : V = ((W.setCell ⟨B, 0, none⟩ (.int .i64 (S X (k + 1)))).setCell ⟨B, 1, none⟩ (.int .i64 (S Y (k + 1)))).alloc (.cells #[.int .i64 (S X (k + 1)), .int .i64 (S Y (k + 1))] 23))
    (hown' : W'.ownsRow w.heap.size 23 2 v' (k + 1) (sRow X Y k ++ [.int .i64 (S X (k + 1)), .int .i64 (S Y (k + 1))])) (hg : V.grownBy W' v.ownBlock) (hat : v'.ownBlock = v.ownBlock ∨ v'.ownBlock = some V.heap.size) :
    RelQ w B X Y (k + 1) v' W' := by
  obtain ⟨g1, gs, g2, g3, g4, g5⟩ := two_put (a := .int .i64 (S X (k + 1))) (b := .int .i64 (S Y (k + 1))) (Below.refl (B + 1) W) b0 b1 f0 f1
  have hA := (Below.refl ((W.setCell ⟨B, 0, none⟩ (.int .i64 (S X (k + 1)))).setCell ⟨B, 1, none⟩ (.int .i64 (S Y (k + 1)))).heap.size ((W.setCell ⟨B, 0, none⟩ (.int .i64 (S X (k + 1)))).setCell ⟨B, 1, none⟩ (.int .i64 (S Y (k + 1))))).alloc (Nat.le_refl _) (.cells #[.int .i64 (S X (k + 1)), .int .i64 (S Y (k + 1))] 23)
  rw [← hV] at hA
  have hBs : B < ((W.setCell ⟨B, 0, none⟩ (.int .i64 (S X (k + 1)))).setCell ⟨B, 1, none⟩ (.int .i64 (S Y (k + 1)))).heap.size := by omega
  have hBV : B < V.heap.size := by have := hA.size; omega
  have hblk := hg.block B hBV (fun e => hk e.symm)
  have c := fun o => World.cell?_of_block (w := V) (w' := W') (a := ⟨B, o, none⟩) hblk
  have f := fun o => World.frozen?_of_block (w := V) (w' := W') (a := ⟨B, o, none⟩) hblk
  refine ⟨hown', ?_, ?_, ?_, ?_, ?_, ?_, by have := hg.size; omega⟩
  · rcases hat with h | h
    · rw [h]; exact hk
    · rw [h]; intro e; injection e with e; omega
  · rw [c, hA.cell (by exact hBs)]; exact g2
  · rw [c, hA.cell (by exact hBs)]; exact g3
  · rw [f, hA.frozen (by exact hBs)]; exact g4
  · rw [f, hA.frozen (by exact hBs)]; exact g5
  · exact ((hbel.trans (g1.mono hwB)).trans (hA.mono (by omega))).grown hg (by have := hbel.size; omega) (fun g e => (hown.lt g e).1)
set_option maxHeartbeats 4000000 in
set_option maxRecDepth 100000 in
theorem refProf_any (b off cap n : Nat) (X Y : Nat → Int) (w : World) (hn : n ≤ 1000) (h0 : 0 < n) (hb : b < w.heap.size)
    (hc : ∀ j, j < n → w.cell? ⟨b, off + j * 2, none⟩ = some (.int .i64 (X j)) ∧ w.cell? ⟨b, off + j * 2 + 1, none⟩ = some (.int .i64 (Y j))) :
    Calls Try.prog 18 #[.slice (some ⟨b, off, none⟩) n cap] w (RProfP X Y n w) := by
  obtain ⟨i0, hi, hz0, hz1, hz2⟩ := info_parts info_load
  have HC := Lib.hid hc; clear hc
  go_enter Try.func18, Try.ntmps18
  go_wp2_with fail
  have hrel0 : RelQ w (w.heap.size + 1) X Y 0 (.slice (some ⟨w.heap.size, 0, none⟩) 0 0) ((w.alloc (.cells #[] 23)).alloc (.cells #[.int .i64 0, .int .i64 0] 23)) := by
    refine ⟨(World.ownsRow_made w #[] 0 (Nat.le_refl _) (by unfold maxLen; omega) (by simp)).alloc _, by simp [Value.ownBlock], by simp [go_sem, S_zero], by simp [go_sem, S_zero], by simp, by simp, ((Below.refl _ _).alloc (Nat.le_refl _) _).alloc (by simp) _, by simp⟩
  have HREL0 := Lib.hid hrel0; clear hrel0
  obtain ⟨R, hR⟩ : ∃ R, R = w.heap.size := ⟨_, rfl⟩
  rw [← hR] at HREL0 hb ⊢
  have HRR := Lib.hid hR; clear hR
  go_loopg [4, 6] n (fun g o i wr => ∃ k : Nat, k ≤ n ∧ g = n - k ∧ i = .int .i64 k ∧ Hid (okTo X Y k = true) ∧ Hid (RelQ w (R + 1) X Y k o wr))
  case atStart => exact ⟨0, Nat.zero_le _, rfl, rfl, Lib.hid rfl, HREL0⟩
  case round =>
    obtain ⟨k, hk, rfl, rfl, HOK, HREL⟩ := hrel
    obtain ⟨hown, hne, c0, c1, f0, f1, hbel, hBs⟩ := HREL.out
    by_cases hlt : k < n
    · have hx := (hbel.cell (p := ⟨b, off + k * 2, none⟩) (by have := HRR.out; simp; omega)).trans (HC.out k hlt).1
      have hy := (hbel.cell (p := ⟨b, off + k * 2 + 1, none⟩) (by have := HRR.out; simp; omega)).trans (HC.out k hlt).2
      have hka : KA wr (cellsQ b off (R + 1) k X Y) wr := ⟨fun p hp => by
        simp only [cellsQ, List.mem_cons, List.not_mem_nil, or_false] at hp
        rcases hp with rfl | rfl | rfl | rfl
        · exact c0
        · exact c1
        · exact hx
        · exact hy, Below.refl _ _⟩
      have HKA := Lib.hid hka
      have HBEL := Lib.hid hbel
      have HOWN := Lib.hid hown
      have HNE := Lib.hid hne
      have F0 := Lib.hid f0
      have F1 := Lib.hid f1
      clear hka hbel c0 c1 hx hy f0 f1 hown hne
      have hadd := fun w => refAdd_any (S X k) (S Y k) (X k) (Y k) w
      rw [okAt_eq, ← S_succ, ← S_succ] at hadd
      cases hok : okAt X Y k with
      | false =>
        rw [hok, adV_false, adV_false] at hadd
        have HADD := Lib.hid hadd; clear hadd
        have HO := Lib.hid (okTo_false hlt hok); clear hok
        go_upto_region 6 with fail
        go_cut [7, 8] (fun s7 s8 wx => AddP wr (cellsQ b off (R + 1) k X Y) 0 0 false s7 s8 wx)
        case first =>
          obtain ⟨KK, c0, c1, hx, hy⟩ := cellsQ_all HKA.out
          go_region_held3 (fun w' => KA wr (cellsQ b off (R + 1) k X Y) w' ∧ w'.cell? ⟨R + 1, 0, none⟩ = some (.int .i64 (S X k)) ∧ w'.cell? ⟨R + 1, 1, none⟩ = some (.int .i64 (S Y k)) ∧ w'.cell? ⟨b, off + k * 2, none⟩ = some (.int .i64 (X k)) ∧ w'.cell? ⟨b, off + k * 2 + 1, none⟩ = some (.int .i64 (Y k)))
            (first
              | exact cellsQ_all ‹KA wr (cellsQ b off (R + 1) k X Y) _›
              | exact cellsQ_all (KA.drew (And.left ‹KA wr (cellsQ b off (R + 1) k X Y) _ ∧ _›))
              | exact cellsQ_all (KA.drew ‹KA wr (cellsQ b off (R + 1) k X Y) _›)
              | exact cellsQ_all (KA.alloc (And.left ‹KA wr (cellsQ b off (R + 1) k X Y) _ ∧ _›) _)
              | exact cellsQ_all (KA.drew (KA.alloc (And.left ‹KA wr (cellsQ b off (R + 1) k X Y) _ ∧ _›) _))
              | exact cellsQ_all (KA.alloc ‹KA wr (cellsQ b off (R + 1) k X Y) _› _)
              | exact cellsQ_all (KA.drew (KA.alloc ‹KA wr (cellsQ b off (R + 1) k X Y) _› _))
              | exact cellsQ_all (KA.setNew ‹KA wr (cellsQ b off (R + 1) k X Y) _› (KA.setNew ‹KA wr (cellsQ b off (R + 1) k X Y) _› ‹KA wr (cellsQ b off (R + 1) k X Y) _› 0 _) 1 _))
            (first
              | (go_at_call 10; (with_reducible refine (HADD.out _).mono ?_); rintro e w' ⟨rfl, hb⟩; have hka := KA.below (And.left ‹KA wr (cellsQ b off (R + 1) k X Y) _ ∧ _›) hb; (obtain ⟨hcc, hff⟩ := bcell hb); have hz := hb.size; (try simp only [World.size_alloc] at hz); (try have hz2 := Nat.lt_of_succ_le hz); clear hb))
          all_goals
            go_wp2_with fail
            go_meet
            refine ⟨_, rfl, rfl, KA.put (KA.put (And.left ‹KA wr (cellsQ b off (R + 1) k X Y) _ ∧ _›) ?_) ?_⟩ <;> first | (simp [go_sem]; done) | go_simp
        case rest =>
          obtain ⟨N, rfl, rfl, hka⟩ := hcut
          have HB2 := Lib.hid (HBEL.out.trans (hka.2.mono HBEL.out.size))
          clear hka
          go_wp2_with fail
          go_ret2
          exact ⟨HB2.out, .inl ⟨HO.out, rfl⟩⟩
      | true =>
        rw [hok, adV_true, adV_true] at hadd
        have HADD := Lib.hid hadd; clear hadd
        have HO := Lib.hid (okTo_succ HOK.out hok); clear hok
        obtain ⟨u, hu⟩ : ∃ u, u = S X (k + 1) := ⟨_, rfl⟩
        obtain ⟨v, hv⟩ : ∃ v, v = S Y (k + 1) := ⟨_, rfl⟩
        rw [← hu, ← hv] at HADD
        have HU := Lib.hid hu; clear hu
        have HV := Lib.hid hv; clear hv
        go_upto_region 6 with fail
        go_cut [7, 8] (fun s7 s8 wx => AddP wr (cellsQ b off (R + 1) k X Y) u v true s7 s8 wx)
        case first =>
          obtain ⟨KK, c0, c1, hx, hy⟩ := cellsQ_all HKA.out
          go_region_held3 (fun w' => KA wr (cellsQ b off (R + 1) k X Y) w' ∧ w'.cell? ⟨R + 1, 0, none⟩ = some (.int .i64 (S X k)) ∧ w'.cell? ⟨R + 1, 1, none⟩ = some (.int .i64 (S Y k)) ∧ w'.cell? ⟨b, off + k * 2, none⟩ = some (.int .i64 (X k)) ∧ w'.cell? ⟨b, off + k * 2 + 1, none⟩ = some (.int .i64 (Y k)))
            (first
              | exact cellsQ_all ‹KA wr (cellsQ b off (R + 1) k X Y) _›
              | exact cellsQ_all (KA.drew (And.left ‹KA wr (cellsQ b off (R + 1) k X Y) _ ∧ _›))
              | exact cellsQ_all (KA.drew ‹KA wr (cellsQ b off (R + 1) k X Y) _›)
              | exact cellsQ_all (KA.alloc (And.left ‹KA wr (cellsQ b off (R + 1) k X Y) _ ∧ _›) _)
              | exact cellsQ_all (KA.drew (KA.alloc (And.left ‹KA wr (cellsQ b off (R + 1) k X Y) _ ∧ _›) _))
              | exact cellsQ_all (KA.alloc ‹KA wr (cellsQ b off (R + 1) k X Y) _› _)
              | exact cellsQ_all (KA.drew (KA.alloc ‹KA wr (cellsQ b off (R + 1) k X Y) _› _))
              | exact cellsQ_all (KA.setNew ‹KA wr (cellsQ b off (R + 1) k X Y) _› (KA.setNew ‹KA wr (cellsQ b off (R + 1) k X Y) _› ‹KA wr (cellsQ b off (R + 1) k X Y) _› 0 _) 1 _))
            (first
              | (go_at_call 10; (with_reducible refine (HADD.out _).mono ?_); rintro e w' ⟨rfl, hb⟩; have hka := KA.below (And.left ‹KA wr (cellsQ b off (R + 1) k X Y) _ ∧ _›) hb; (obtain ⟨hcc, hff⟩ := bcell hb); have hz := hb.size; (try simp only [World.size_alloc] at hz); (try have hz2 := Nat.lt_of_succ_le hz); clear hb))
          all_goals
            go_wp2_with fail
            go_meet
            refine ⟨_, rfl, rfl, KA.put (KA.put (And.left ‹KA wr (cellsQ b off (R + 1) k X Y) _ ∧ _›) ?_) ?_⟩ <;> first | (simp [go_sem]; done) | go_simp
        case rest =>
          obtain ⟨N, rfl, rfl, hka⟩ := hcut
          have n0 := hka.at (a := ⟨N, 0, none⟩) (v := .int .i64 u) (by simp)
          have n1 := hka.at (a := ⟨N, 1, none⟩) (v := .int .i64 v) (by simp)
          have b0 := hka.at (a := ⟨R + 1, 0, none⟩) (v := .int .i64 (S X k)) (by simp [cellsQ])
          have b1 := hka.at (a := ⟨R + 1, 1, none⟩) (v := .int .i64 (S Y k)) (by simp [cellsQ])
          have f0 := (hka.2.frozen (p := ⟨R + 1, 0, none⟩) hBs).trans F0.out
          have f1 := (hka.2.frozen (p := ⟨R + 1, 1, none⟩) hBs).trans F1.out
          have hBc : R + 1 < wc.heap.size := by have := hka.2.size; omega
          have HB2 := Lib.hid (HBEL.out.trans (hka.2.mono HBEL.out.size))
          have HOW2 := Lib.hid (owns_kept HOWN.out hka.2)
          have HOW3 := Lib.hid (owns_store (owns_store HOW2.out ⟨R + 1, 0, none⟩ (.int .i64 u) HNE.out) ⟨R + 1, 1, none⟩ (.int .i64 v) HNE.out)
          have hst := fun (V W' : World) v' => relQ_step (V := V) (W' := W') (v' := v') HNE.out HB2.out hBc (by have := HRR.out; omega) HOW2.out b0 b1 f0 f1
          have HST := Lib.hid hst; clear hst hka
          go_wp2_with ((at_builtin; refine wpList_append_own_at _ rfl (.tmp 29) (.tmp 31) 30 rfl w.heap.size 23 i0 (.agg #[.int .i64 0, .int .i64 0]) 2 16 Try.underlying30 hi hz0 hz1 hz2 rfl (by decide) _ k (sRow X Y k) rfl (HOW3.out.alloc _) ⟨wc.heap.size, 0, none⟩ 1 1 [.int .i64 u, .int .i64 v] rfl rfl ?c1 ?c2 ?c3 ?c4 ?c5 ?_))
          case c1 => exact cell_two_newW _ _ _ _ _ (by simp)
          case c2 => intro x hx; simp at hx; rcases hx with rfl | rfl <;> rfl
          case c3 => unfold maxLen; omega
          case c4 => omega
          case c5 => have := HRR.out; simp; omega
          intro v' w' hown' hgrow' _ hat
          have hrn := HST.out _ w' v' (by rw [HU.out, HV.out]) (by rw [HU.out, HV.out] at hown'; exact hown') hgrow' (by simpa using hat)
          have HRN := Lib.hid hrn
          clear hrn hown' hgrow' hat n0 n1 b0 b1 f0 f1
          go_wp2_with fail
          go_roundg (n - (k + 1))
          case measure => omega
          case rel => exact ⟨k + 1, by omega, rfl, by go_num, HO, HRN⟩
    · obtain rfl : k = n := by omega
      go_wp2_with fail
      go_ret2
      exact relQ_end HREL.out h0 HOK.out
theorem RProfP.no {X Y : Nat → Int} {n : Nat} {w w' : World} {e : Ending} (h : RProfP X Y n w e w') (hok : okTo X Y n = false) : e = .returned (.tuple #[.slice none 0 0, .bool false]) ∧ Below w.heap.size w w' := by
  obtain ⟨hb, ⟨h1, h2⟩ | ⟨h1, h2⟩⟩ := h
  · exact ⟨h2, hb⟩
  · rw [hok] at h1; exact absurd h1 (by decide)
theorem RProfP.yes {X Y : Nat → Int} {n : Nat} {w w' : World} {e : Ending} (h : RProfP X Y n w e w') (hok : okTo X Y n = true) :
    ∃ g c, e = .returned (.tuple #[.slice (some ⟨g, 0, none⟩) n c, .bool true]) ∧ Below w.heap.size w w' ∧ g < w'.heap.size ∧ Hid (∀ j, j < n → w'.cell? ⟨g, j * 2, none⟩ = some (.int .i64 (S X (j + 1))) ∧ w'.cell? ⟨g, j * 2 + 1, none⟩ = some (.int .i64 (S Y (j + 1)))) := by
  obtain ⟨hb, ⟨h1, h2⟩ | ⟨h1, g, c, h2, h3, h4⟩⟩ := h
  · rw [hok] at h1; exact absurd h1 (by decide)
  · exact ⟨g, c, h2, hb, h3, Lib.hid h4⟩
theorem refProf_nil (a : Option Addr) (cap : Nat) (w : World) :
    Calls Try.prog 18 #[.slice a 0 cap] w fun e w' => e = .returned (.tuple #[.slice (some ⟨w.heap.size, 0, none⟩) 0 0, .bool true]) ∧ Below w.heap.size w w' := by
  go_enter Try.func18, Try.ntmps18
  go_wp2_with fail
  go_loop [4, 6] (fun o i => o = .slice (some ⟨w.heap.size, 0, none⟩) 0 0 ∧ i = .int .i64 0) (fun _ _ => 0)
  case atStart => exact ⟨rfl, rfl⟩
  case round =>
    obtain ⟨rfl, rfl⟩ := hrel
    go_wp2_with fail
    go_ret2
    exact ⟨rfl, ((Below.refl _ _).alloc (Nat.le_refl _) _).alloc (by simp) _⟩
end Load
end Go.Proofs.Ytoadmmapgajedaa
