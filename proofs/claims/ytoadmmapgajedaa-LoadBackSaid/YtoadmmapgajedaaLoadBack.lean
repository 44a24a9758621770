/- LoadBack: whatever the input, the law returns true, and each argument reads as it read before. No conditions but the row's own. -/
import Derived.Test.YtoadmmapgajedaaRows
import Derived.WalkKit
import Derived.ProofKit
import Derived.ShutString
import Derived.ChangeOld
import Derived.Below
import Derived.OpenShut
import Derived.Lib.SmallJoins
import Derived.RegionTactic
import Derived.Deep.RegionHeld3
import Derived.Deep.RegionWith
import Derived.Deep.DeepCutAuto
import Derived.Test.YtoadmmapgajedaaLoadOpen
import Derived.Test.YtoadmmapgajedaaLoadRefProf
import Derived.Test.YtoadmmapgajedaaLoadMir
import Derived.Test.YtoadmmapgajedaaLoadAlive
namespace Go.Proofs.Ytoadmmapgajedaa.loadBack
open Go.ChangeShapes Go.WideShapes Go.ChangeAt Go.RowKit Go.Joins
open Go.ChangeMaps (open_string shut_string)
set_option linter.unusedVariables false

theorem own : ownKnob Try.prog.godebug = none := by kernel_rfl
theorem laidOut : laidOutB Try.prog = true := by kernel_rfl
open Load (IsLds isLds_of cellsLoad cellsInt)
open Load (KA KA.nil KA.box S S_succ okTo okAt pk firstV alive_any mir AllR rightL owns_kept cell_two_newW)
/-- cells of pairs -/
def pRow (X Y : Nat → Int) : Nat → List Value
  | 0 => []
  | k + 1 => pRow X Y k ++ [.int .i64 (X k), .int .i64 (Y k)]
theorem pRow_len (X Y : Nat → Int) (k : Nat) : (pRow X Y k).length = k * 2 := by
  induction k with
  | zero => rfl
  | succ k ih => rw [pRow, List.length_append, ih]; simp; omega
theorem pRow_at (X Y : Nat → Int) (k j : Nat) (hj : j < k) : (pRow X Y k)[j * 2]? = some (.int .i64 (X j)) ∧ (pRow X Y k)[j * 2 + 1]? = some (.int .i64 (Y j)) := by
  induction k with
  | zero => omega
  | succ k ih =>
    have hl := pRow_len X Y k
    rw [pRow]
    rcases Nat.lt_or_ge j k with h | h
    · rw [List.getElem?_append_left (by omega), List.getElem?_append_left (by omega)]
      exact ih h
    · obtain rfl : j = k := by omega
      rw [List.getElem?_append_right (by omega), List.getElem?_append_right (by omega), hl]
      simp
/-- a row of the call's own, and what else is kept -/
def RelB (w : World) (A b off n : Nat) (X Y P Q : Nat → Int) (rs rt : Int) (m : Nat) (v : Value) (wr : World) : Prop :=
  wr.ownsRow (A + 1) 23 2 v m (pRow P Q m) ∧ KA w [(⟨A, 1, none⟩, .int .i64 rt), (⟨A, 0, none⟩, .int .i64 rs)] wr ∧ A = w.heap.size ∧ b < w.heap.size ∧
  ∀ j, j < n → wr.cell? ⟨b, off + j * 2, none⟩ = some (.int .i64 (X j)) ∧ wr.cell? ⟨b, off + j * 2 + 1, none⟩ = some (.int .i64 (Y j))
theorem RelB.keep {w W W' : World} {A b off n m : Nat} {X Y P Q : Nat → Int} {rs rt : Int} {v : Value} (h : RelB w A b off n X Y P Q rs rt m v W) (hb : Below W.heap.size W W') : RelB w A b off n X Y P Q rs rt m v W' := by
  obtain ⟨h1, h2, h3, h4, h5⟩ := h
  have hbs : b < W.heap.size := by have := h2.2.size; omega
  exact ⟨owns_kept h1 hb, h2.below hb, h3, h4, fun j hj => ⟨(hb.cell (by exact hbs)).trans (h5 j hj).1, (hb.cell (by exact hbs)).trans (h5 j hj).2⟩⟩
theorem RelB.more {w W V W' : World} {A b off n m : Nat} {X Y P Q : Nat → Int} {rs rt : Int} {v v' : Value} (h : RelB w A b off n X Y P Q rs rt m v W) (hV : Below W.heap.size W V)
    (hown : W'.ownsRow (A + 1) 23 2 v' (m + 1) (pRow P Q m ++ [.int .i64 (P m), .int .i64 (Q m)])) (hg : V.grownBy W' v.ownBlock) : RelB w A b off n X Y P Q rs rt (m + 1) v' W' := by
  have h' := h.keep hV
  obtain ⟨h1, h2, h3, h4, h5⟩ := h'
  have hne : ∀ k, k ≤ A → some k ≠ v.ownBlock := fun k hk e => by have := (h1.lt k e.symm).1; omega
  have hs := h2.2.size
  have hA : A < V.heap.size := World.block_lt_of_cell? _ _ (h2.1 (⟨A, 1, none⟩, .int .i64 rt) (by simp))
  have hblk : ∀ k, k ≤ A → W'.heap[k]? = V.heap[k]? := fun k hk => hg.block k (by omega) (hne k hk)
  refine ⟨hown, ⟨fun p hp => ?_, h2.2.grown hg (by omega) (fun k e => by have := (h1.lt k e).1; omega)⟩, h3, h4, fun j hj => ⟨?_, ?_⟩⟩
  · have hpA : p.1.block = A := by
      simp only [List.mem_cons, List.not_mem_nil, or_false] at hp
      rcases hp with rfl | rfl <;> rfl
    rw [World.cell?_of_block (w := V) (w' := W') (by rw [hpA]; exact hblk A (Nat.le_refl _))]
    exact h2.1 p hp
  · rw [World.cell?_of_block (w := V) (w' := W') (by exact hblk b (by omega))]; exact (h5 j hj).1
  · rw [World.cell?_of_block (w := V) (w' := W') (by exact hblk b (by omega))]; exact (h5 j hj).2
def cellsE (A G : Nat) (s0 t0 M : Int) : List (Addr × Value) := [(⟨A, 0, none⟩, .int .i64 (s0)), (⟨A, 1, none⟩, .int .i64 (t0)), (⟨G, 0, none⟩, .int .i64 (s0 + M)), (⟨G, 1, none⟩, .int .i64 (t0 + M))]
theorem cellsE_all {w0 W : World} {A G : Nat} {s0 t0 M : Int} (h : KA w0 (cellsE A G s0 t0 M) W) : KA w0 (cellsE A G s0 t0 M) W ∧ W.cell? ⟨A, 0, none⟩ = some (.int .i64 (s0)) ∧ W.cell? ⟨A, 1, none⟩ = some (.int .i64 (t0)) ∧ W.cell? ⟨G, 0, none⟩ = some (.int .i64 (s0 + M)) ∧ W.cell? ⟨G, 1, none⟩ = some (.int .i64 (t0 + M)) :=
  ⟨h, h.at (by simp [cellsE]), h.at (by simp [cellsE]), h.at (by simp [cellsE]), h.at (by simp [cellsE])⟩
theorem mir_lo (X : Nat → Int) (n j : Nat) (h : j < n) : mir X n j = X j := if_pos h
theorem mir_hi (X : Nat → Int) (n i : Nat) (h : i < n) : mir X n (n + i) = -(X (n - 1 - i)) := by
  unfold mir; rw [if_neg (by omega), show 2 * n - 1 - (n + i) = n - 1 - i by omega]
set_option maxHeartbeats 40000000 in
set_option maxRecDepth 100000 in
theorem walk (w : World) (s0 t0 : Int) (w0 : (Lit.int .i64 s0).wf = true ∧ (Lit.int .i64 t0).wf = true) (b1 : Option Addr) (len1 cap1 : Nat) (x1 y1 : Nat → Int) (w1 : IsLds w b1 len1 x1 y1) (a2 : Int) (w2 : (Lit.int .i64 a2).wf = true) :
    Calls Try.prog 5 #[.agg #[.int .i64 s0, .int .i64 t0], .slice b1 len1 cap1, .int .i64 a2] w fun e w' => e = .returned (.bool true) ∧ Below w.heap.size w w' := by
  obtain ⟨i0, hi, hz0, hz1, hz2⟩ := info_parts Load.info_load
  rcases Nat.lt_or_ge 60 len1 with hbig | hsm
  · go_enter Try.func5, Try.ntmps5
    go_wp2_with fail
    refine (alive_any _).mono ?_
    rintro e W1 ⟨rfl, hb⟩
    have hk := ((KA.nil w).box (.int .i64 s0) (.int .i64 t0) 23).below hb
    go_wp2_with fail
    go_ret
    exact ⟨rfl, hk.2⟩
  rcases Nat.eq_zero_or_pos len1 with h0 | hpos
  · subst h0
    have hrt := fun W => Load.right_any s0 t0 W
    obtain ⟨M, hM⟩ : ∃ M, bits .and .i64 a2 1023 = M := ⟨_, rfl⟩
    have bM : 0 ≤ M ∧ M ≤ 1023 := by rw [← hM, Load.and1023]; omega
    obtain ⟨bM0, bM1⟩ := bM
    have HP := Lib.hid (fun W a c => Load.prof_nil a c (fun _ => 0) (fun _ => 0) W)
    cases hr : rightL s0 t0 with
    | false =>
      rw [hr] at hrt
      have HRT := Lib.hid hrt; clear hrt hr
      go_enter Try.func5, Try.ntmps5
      go_wp2_with fail
      refine (alive_any _).mono ?_
      rintro e W1 ⟨rfl, hb⟩
      have hk := ((KA.nil w).box (.int .i64 s0) (.int .i64 t0) 23).below hb
      obtain ⟨A, hA⟩ : ∃ A, A = w.heap.size := ⟨_, rfl⟩
      rw [← hA] at hk ⊢
      have HAE := Lib.hid hA; clear hA
      have HK := Lib.hid (hk.alloc (.cells #[] 23)); clear hk hb
      go_wp2_with fail
      go_loop [7, 23] (fun v i => v = .slice (some ⟨W1.heap.size, 0, none⟩) 0 0 ∧ i = .int .i64 0) (fun _ _ => 0)
      case atStart => exact ⟨rfl, rfl⟩
      case round =>
        obtain ⟨rfl, rfl⟩ := hrel
        go_wp2_with fail
        go_loop [7, 10] (fun v i => v = .slice (some ⟨W1.heap.size, 0, none⟩) 0 0 ∧ i = .int .i64 (-1)) (fun _ _ => 0)
        case atStart => exact ⟨rfl, rfl⟩
        case round =>
          obtain ⟨rfl, rfl⟩ := hrel
          go_wp2_with fail
          refine (HP.out _ _ _).mono ?_
          rintro e W2 hpp
          obtain ⟨g2, rfl, hb2, hg1, hg2, HCG⟩ := hpp.yes rfl
          have HK2 := Lib.hid (HK.out.below hb2)
          have a0 := HK2.out.at (a := ⟨A, 0, none⟩) (v := .int .i64 s0) (by simp)
          have a1 := HK2.out.at (a := ⟨A, 1, none⟩) (v := .int .i64 t0) (by simp)
          clear hpp hb2 hg1 hg2 HCG
          go_wp2_with fail
          refine (Load.first_nil _ _ _ _ _).mono ?_
          rintro e W3 ⟨rfl, hb⟩
          have HK3 := Lib.hid (HK2.out.below hb)
          clear a0 a1 hb
          have a0 := HK3.out.at (a := ⟨A, 0, none⟩) (v := .int .i64 s0) (by simp)
          have a1 := HK3.out.at (a := ⟨A, 1, none⟩) (v := .int .i64 t0) (by simp)
          go_wp2_with fail
          refine (HRT.out _).mono ?_
          rintro e W4 ⟨rfl, hb⟩
          go_wp2_with fail
          go_ret
          exact ⟨rfl, HK3.out.2.trans (hb.mono HK3.out.2.size)⟩
    | true =>
      obtain ⟨⟨rr1, rr2⟩, rr3, rr4⟩ := Load.rightL_true hr
      rw [hr] at hrt
      have HRT := Lib.hid hrt; clear hrt hr
      have hftt := fun W => Load.fits_any s0 t0 0 0 W
      rw [Load.fitsL_of (by omega) (by omega) (by omega) (by omega)] at hftt
      have HFT := Lib.hid hftt; clear hftt
      go_enter Try.func5, Try.ntmps5
      go_wp2_with fail
      refine (alive_any _).mono ?_
      rintro e W1 ⟨rfl, hb⟩
      have hk := ((KA.nil w).box (.int .i64 s0) (.int .i64 t0) 23).below hb
      obtain ⟨A, hA⟩ : ∃ A, A = w.heap.size := ⟨_, rfl⟩
      rw [← hA] at hk ⊢
      have HAE := Lib.hid hA; clear hA
      have HK := Lib.hid (hk.alloc (.cells #[] 23)); clear hk hb
      go_wp2_with fail
      go_loop [7, 23] (fun v i => v = .slice (some ⟨W1.heap.size, 0, none⟩) 0 0 ∧ i = .int .i64 0) (fun _ _ => 0)
      case atStart => exact ⟨rfl, rfl⟩
      case round =>
        obtain ⟨rfl, rfl⟩ := hrel
        go_wp2_with fail
        go_loop [7, 10] (fun v i => v = .slice (some ⟨W1.heap.size, 0, none⟩) 0 0 ∧ i = .int .i64 (-1)) (fun _ _ => 0)
        case atStart => exact ⟨rfl, rfl⟩
        case round =>
          obtain ⟨rfl, rfl⟩ := hrel
          go_wp2_with fail
          refine (HP.out _ _ _).mono ?_
          rintro e W2 hpp
          obtain ⟨g2, rfl, hb2, hg1, hg2, HCG⟩ := hpp.yes rfl
          have HK2 := Lib.hid (HK.out.below hb2)
          have a0 := HK2.out.at (a := ⟨A, 0, none⟩) (v := .int .i64 s0) (by simp)
          have a1 := HK2.out.at (a := ⟨A, 1, none⟩) (v := .int .i64 t0) (by simp)
          clear hpp hb2 hg1 hg2 HCG
          go_wp2_with fail
          refine (Load.first_nil _ _ _ _ _).mono ?_
          rintro e W3 ⟨rfl, hb⟩
          have HK3 := Lib.hid (HK2.out.below hb)
          clear a0 a1 hb
          have a0 := HK3.out.at (a := ⟨A, 0, none⟩) (v := .int .i64 s0) (by simp)
          have a1 := HK3.out.at (a := ⟨A, 1, none⟩) (v := .int .i64 t0) (by simp)
          go_wp2_with fail
          refine (HRT.out _).mono ?_
          rintro e W4 ⟨rfl, hb⟩
          have HK4 := Lib.hid (HK3.out.below hb)
          clear a0 a1 hb
          have a0 := HK4.out.at (a := ⟨A, 0, none⟩) (v := .int .i64 s0) (by simp)
          have a1 := HK4.out.at (a := ⟨A, 1, none⟩) (v := .int .i64 t0) (by simp)
          have hk5 : KA (W4.alloc (.cells #[.int .i64 (s0 + M), .int .i64 (t0 + M)] 23)) (cellsE A W4.heap.size s0 t0 M) (W4.alloc (.cells #[.int .i64 (s0 + M), .int .i64 (t0 + M)] 23)) :=
            ⟨fun p hp => by
              have h4 := HK4.out.alloc (.cells #[.int .i64 (s0 + M), .int .i64 (t0 + M)] 23)
              simp only [cellsE, List.mem_cons, List.not_mem_nil, or_false] at hp
              rcases hp with rfl | rfl | rfl | rfl
              · exact h4.at (by simp)
              · exact h4.at (by simp)
              · simp [go_sem]
              · simp [go_sem], Below.refl _ _⟩
          have hb5 := HK4.out.2.alloc HK4.out.2.size (.cells #[.int .i64 (s0 + M), .int .i64 (t0 + M)] 23)
          go_wp2_with fail
          generalize hW5 : W4.alloc (.cells #[.int .i64 (s0 + M), .int .i64 (t0 + M)] 23) = W5 at *
          obtain ⟨G, hG⟩ : ∃ G, G = W4.heap.size := ⟨_, rfl⟩
          rw [← hG] at hk5 ⊢
          have HB5 := Lib.hid hb5
          have H1 := Lib.hid hW5
          have H2 := Lib.hid hG
          obtain ⟨KK, q0, q1, q2, q3⟩ := cellsE_all hk5
          have KKd := Load.KA.drew KK
          clear hb5 hW5 hG hk5 a0 a1 hM
          go_region_held3 (fun w' => KA W5 (cellsE A G s0 t0 M) w' ∧ w'.cell? ⟨A, 0, none⟩ = some (.int .i64 (s0)) ∧ w'.cell? ⟨A, 1, none⟩ = some (.int .i64 (t0)) ∧ w'.cell? ⟨G, 0, none⟩ = some (.int .i64 (s0 + M)) ∧ w'.cell? ⟨G, 1, none⟩ = some (.int .i64 (t0 + M)))
            (first
              | exact cellsE_all ‹KA W5 (cellsE A G s0 t0 M) _›
              | exact cellsE_all (Load.KA.drew (And.left ‹KA W5 (cellsE A G s0 t0 M) _ ∧ _›))
              | exact cellsE_all (Load.KA.drew ‹KA W5 (cellsE A G s0 t0 M) _›))
            (first
              | (go_at_call 19; (with_reducible refine (Load.first_nil _ _ _ _ _).mono ?_); rintro e w' ⟨rfl, hb⟩; have hka := Load.KA.below (And.left ‹KA W5 (cellsE A G s0 t0 M) _ ∧ _›) hb; clear hb)
              | (go_at_call 21; (with_reducible refine (Load.peak_nil _ _ _).mono ?_); rintro e w' ⟨rfl, hb⟩; have hka := Load.KA.below (And.left ‹KA W5 (cellsE A G s0 t0 M) _ ∧ _›) hb; clear hb)
              | (go_at_call 15; (with_reducible refine (HFT.out _).mono ?_); rintro e w' ⟨rfl, hb⟩; have hka := Load.KA.below (And.left ‹KA W5 (cellsE A G s0 t0 M) _ ∧ _›) hb; clear hb))
          go_wp2_with fail
          go_ret
          exact ⟨rfl, HB5.out.trans ((And.left ‹KA W5 (cellsE A G s0 t0 M) _ ∧ _›).2.mono HB5.out.size)⟩
  obtain ⟨b, off, rfl, hbw, hmax, hc⟩ : ∃ b off, b1 = some ⟨b, off, none⟩ ∧ b < w.heap.size ∧ len1 ≤ maxLen ∧ ∀ j, j < len1 → w.cell? ⟨b, off + j * 2, none⟩ = some (.int .i64 (x1 j)) ∧ w.cell? ⟨b, off + j * 2 + 1, none⟩ = some (.int .i64 (y1 j)) := by
    rcases w1 with h0 | h
    · omega
    · exact h
  go_enter Try.func5, Try.ntmps5
  go_wp2_with fail
  refine (alive_any _).mono ?_
  rintro e W1 ⟨rfl, hb⟩
  have hk := ((KA.nil w).box (.int .i64 s0) (.int .i64 t0) 23).below hb
  have hrel0 : RelB w w.heap.size b off len1 x1 y1 (mir x1 len1) (mir y1 len1) s0 t0 0 (.slice (some ⟨W1.heap.size, 0, none⟩) 0 0) (W1.alloc (.cells #[] 23)) :=
    ⟨World.ownsRow_made W1 #[] 0 (by have := hk.2.size; have := hb.size; simp at this; omega) (by unfold maxLen; omega) (by simp), hk.alloc _, rfl, hbw, fun j hj => by
      have hb2 := (hk.alloc (.cells #[] 23)).2
      exact ⟨(hb2.cell (p := ⟨b, off + j * 2, none⟩) hbw).trans (hc j hj).1, (hb2.cell (p := ⟨b, off + j * 2 + 1, none⟩) hbw).trans (hc j hj).2⟩⟩
  obtain ⟨A, hA⟩ : ∃ A, A = w.heap.size := ⟨_, rfl⟩
  rw [← hA] at hrel0 ⊢
  have HAE := Lib.hid hA; clear hA
  have HREL0 := Lib.hid hrel0; clear hrel0 hk hb hc
  go_wp2_with fail
  go_loopg [7, 23] len1 (fun g v i wr => ∃ k : Nat, k ≤ len1 ∧ g = len1 - k ∧ i = .int .i64 k ∧ Hid (AllR x1 y1 k) ∧ Hid (RelB w A b off len1 x1 y1 (mir x1 len1) (mir y1 len1) s0 t0 k v wr))
  case atStart => exact ⟨0, Nat.zero_le _, rfl, rfl, Lib.hid (fun j hj => absurd hj (by omega)), HREL0⟩
  case round =>
    obtain ⟨k, hk, rfl, rfl, HALL, HREL⟩ := hrel
    by_cases hlt : k < len1
    · obtain ⟨hx, hy⟩ := HREL.out.2.2.2.2 k hlt
      have hright := fun W => Load.right_any (x1 k) (y1 k) W
      have hbs : b < wr.heap.size := by have := HREL.out.2.1.2.size; omega
      cases hr : rightL (x1 k) (y1 k) with
      | false =>
        rw [hr] at hright
        have HR := Lib.hid hright; clear hright hr
        have HB := Lib.hid HREL.out.2.1.2
        go_wp2_with fail
        refine (HR.out _).mono ?_
        rintro e W2 ⟨rfl, hb⟩
        go_wp2_with fail
        go_ret
        exact ⟨rfl, (HB.out.alloc HB.out.size _).trans (hb.mono (by have := HB.out.size; simp; omega))⟩
      | true =>
        rw [hr] at hright
        have HALL2 := Lib.hid (show AllR x1 y1 (k + 1) from fun j hj => by
          rcases Nat.lt_or_ge j k with h | h
          · exact HALL.out j h
          · obtain rfl : j = k := by omega
            exact hr)
        have HR := Lib.hid hright; clear hright hr
        go_wp2_with fail
        refine (HR.out _).mono ?_
        rintro e W2 ⟨rfl, hb⟩
        have hV := ((Below.refl wr.heap.size wr).alloc (Nat.le_refl _) (.cells #[.int .i64 (x1 k), .int .i64 (y1 k)] 23)).trans (hb.mono (by simp))
        have c0 : W2.cell? ⟨wr.heap.size, 0, none⟩ = some (.int .i64 (x1 k)) := (hb.cell (p := ⟨wr.heap.size, 0, none⟩) (by simp)).trans (by simp [go_sem])
        have c1 : W2.cell? ⟨wr.heap.size, 1, none⟩ = some (.int .i64 (y1 k)) := (hb.cell (p := ⟨wr.heap.size, 1, none⟩) (by simp)).trans (by simp [go_sem])
        have hrk := HREL.out.keep hV
        have HRK := Lib.hid hrk
        have HAs : A + 1 ≤ W2.heap.size := World.block_lt_of_cell? _ _ (hrk.2.1.1 (⟨A, 1, none⟩, .int .i64 t0) (by simp))
        clear hb hV hrk hx hy
        go_wp2_with ((at_builtin; refine wpList_append_own _ rfl (.tmp 30) (.tmp 32) 30 rfl (A + 1) 23 i0 (.agg #[.int .i64 0, .int .i64 0]) 2 16 Try.underlying30 hi hz0 hz1 hz2 rfl (by decide) _ k (pRow (mir x1 len1) (mir y1 len1) k) rfl (HRK.out.1.alloc _) ⟨W2.heap.size, 0, none⟩ 1 1 [.int .i64 (x1 k), .int .i64 (y1 k)] rfl rfl ?c1 ?c2 ?c3 ?c4 ?c5 ?_))
        case c1 => exact cell_two_newW _ _ _ _ _ rfl
        case c2 => intro x hx; simp at hx; rcases hx with rfl | rfl <;> rfl
        case c3 => unfold maxLen; omega
        case c4 => omega
        case c5 => simp; omega
        intro v' w' hown' hgrow' _
        have hrn := HRK.out.more ((Below.refl _ _).alloc (Nat.le_refl _) (.cells #[.int .i64 (x1 k), .int .i64 (y1 k)] 23)) (by rw [mir_lo x1 len1 k hlt, mir_lo y1 len1 k hlt]; exact hown') hgrow'
        have HRN := Lib.hid hrn
        clear hrn hown' hgrow' c0 c1
        go_wp2_with fail
        go_roundg (len1 - (k + 1))
        case measure => omega
        case rel => exact ⟨k + 1, by omega, rfl, by go_num, HALL2, HRN⟩
    · obtain rfl : k = len1 := by omega
      have HRELN := HREL
      go_wp2_with fail
      go_loopg [7, 10] k (fun g v i wr => ∃ m : Nat, m ≤ k ∧ g = k - m ∧ i = .int .i64 (if m < k then ((k - 1 - m : Nat) : Int) else -1) ∧ Hid (RelB w A b off k x1 y1 (mir x1 k) (mir y1 k) s0 t0 (k + m) v wr))
      case atStart => exact ⟨0, Nat.zero_le _, rfl, by rw [if_pos hpos]; exact congrArg _ (by omega), HREL⟩
      case round =>
        obtain ⟨m, hm, rfl, rfl, HREL⟩ := hrel
        by_cases hlt : m < k
        · obtain ⟨q, hq⟩ : ∃ q, q = k - 1 - m := ⟨_, rfl⟩
          have hi2 : (if m < k then ((k - 1 - m : Nat) : Int) else -1) = (q : Int) := by rw [if_pos hlt, hq]
          rw [hi2]
          have hqk : q < k := by omega
          have HQ := Lib.hid hq; clear hq hi2
          have hq0 : (0 : Int) ≤ (q : Int) := Int.natCast_nonneg _
          have hq1 : (q : Int) < (k : Int) := by omega
          obtain ⟨hx, hy⟩ := HREL.out.2.2.2.2 q hqk
          obtain ⟨⟨x1a, x1b⟩, y1a, y1b⟩ := Load.rightL_true (HALL.out q hqk)
          have hneg := fun W => Load.neg_any (x1 q) (y1 q) W
          have hmay : Load.mayL (x1 q) (y1 q) = true := Load.mayL_of (by omega) (by omega) (by omega) (by omega)
          rw [Load.negV_true hmay, Load.negV_true hmay] at hneg
          have HNEG := Lib.hid hneg; clear hneg hmay
          go_wp2_with fail
          refine (HNEG.out _).mono ?_
          rintro e W2 ⟨rfl, hb⟩
          have hrk := HREL.out.keep hb
          have HRK := Lib.hid hrk
          have HAs : A + 1 ≤ W2.heap.size := World.block_lt_of_cell? _ _ (hrk.2.1.1 (⟨A, 1, none⟩, .int .i64 t0) (by simp))
          clear hb hrk hx hy
          go_wp2_with ((at_builtin; refine wpList_append_own _ rfl (.tmp 42) (.tmp 48) 30 rfl (A + 1) 23 i0 (.agg #[.int .i64 0, .int .i64 0]) 2 16 Try.underlying30 hi hz0 hz1 hz2 rfl (by decide) _ (k + m) (pRow (mir x1 k) (mir y1 k) (k + m)) rfl (HRK.out.1.alloc _) ⟨W2.heap.size, 0, none⟩ 1 1 [.int .i64 (-(x1 q)), .int .i64 (-(y1 q))] rfl rfl ?c1 ?c2 ?c3 ?c4 ?c5 ?_))
          case c1 => exact cell_two_newW _ _ _ _ _ rfl
          case c2 => intro x hx; simp at hx; rcases hx with rfl | rfl <;> rfl
          case c3 => unfold maxLen; omega
          case c4 => omega
          case c5 => simp; omega
          intro v' w' hown' hgrow' _
          have hrn := HRK.out.more ((Below.refl _ _).alloc (Nat.le_refl _) (.cells #[.int .i64 (-(x1 q)), .int .i64 (-(y1 q))] 23)) (by rw [mir_hi x1 k m hlt, mir_hi y1 k m hlt, ← HQ.out]; exact hown') hgrow'
          have HRN := Lib.hid hrn
          clear hrn hown' hgrow'
          go_wp2_with fail
          go_roundg (k - (m + 1))
          case measure => omega
          case rel => exact ⟨m + 1, by omega, rfl, congrArg _ (by have := HQ.out; split <;> omega), HRN⟩
        · obtain rfl : m = k := by omega
          have hi2 : (if m < m then ((m - 1 - m : Nat) : Int) else -1) = -1 := if_neg (Nat.lt_irrefl _)
          rw [hi2]
          clear hi2
          obtain ⟨ho, hka, -, -, hcs⟩ := HREL.out
          obtain ⟨n2, hn2⟩ : ∃ n2, n2 = m + m := ⟨_, rfl⟩
          have hn2' : n2 = 2 * m := by omega
          obtain ⟨g, cap, rfl, hgs, hgc⟩ : ∃ g cap, u7 = .slice (some ⟨g, 0, none⟩) (m + m) cap ∧ g < wr.heap.size ∧ ∀ j, j < m + m → wr.cell? ⟨g, 0 + j * 2, none⟩ = some (.int .i64 (mir x1 m j)) ∧ wr.cell? ⟨g, 0 + j * 2 + 1, none⟩ = some (.int .i64 (mir y1 m j)) := by
            rcases ho.2 with ⟨_, h1⟩ | ⟨g, c, cur, hv, _⟩
            · omega
            · subst hv
              refine ⟨g, c, rfl, (ho.lt g rfl).2, fun j hj => ?_⟩
              rw [Nat.zero_add, ho.cellAt _ (by omega), ho.cellAt _ (by omega)]
              exact pRow_at _ _ _ j hj
          have hkb : ∀ W, Below wr.heap.size wr W → g < W.heap.size ∧ ∀ j, j < n2 → W.cell? ⟨g, 0 + j * 2, none⟩ = some (.int .i64 (mir x1 m j)) ∧ W.cell? ⟨g, 0 + j * 2 + 1, none⟩ = some (.int .i64 (mir y1 m j)) := fun W hW =>
            ⟨by have := hW.size; omega, fun j hj => ⟨(hW.cell (by exact hgs)).trans (hgc j (by omega)).1, (hW.cell (by exact hgs)).trans (hgc j (by omega)).2⟩⟩
          have hbs : b < wr.heap.size := by have := hka.2.size; omega
          have hkl : ∀ W, Below wr.heap.size wr W → b < W.heap.size ∧ ∀ j, j < m → W.cell? ⟨b, off + j * 2, none⟩ = some (.int .i64 (x1 j)) ∧ W.cell? ⟨b, off + j * 2 + 1, none⟩ = some (.int .i64 (y1 j)) := fun W hW =>
            ⟨by have := hW.size; omega, fun j hj => ⟨(hW.cell (by exact hbs)).trans (hcs j hj).1, (hW.cell (by exact hbs)).trans (hcs j hj).2⟩⟩
          have hall := HALL.out
          have hokb : okTo (mir x1 m) (mir y1 m) n2 = true := by rw [hn2']; exact Load.mir_ok hall hsm
          have hoks := Load.row_ok hall hsm
          have hprof := fun W hW => Load.prof_any g 0 cap n2 (mir x1 m) (mir y1 m) W (by omega) (hkb W hW).1 (hkb W hW).2
          have hfl := fun W hW => Load.first_any b off cap1 m x1 y1 s0 t0 W (by omega) (hkl W hW).1 (hkl W hW).2
          have hpk := fun W hW => Load.peak_any b off cap1 m x1 y1 W (by omega) (hkl W hW).1 (hkl W hW).2
          have hfb := fun rs rt W hW => Load.first_any g 0 cap n2 (mir x1 m) (mir y1 m) rs rt W (by omega) (hkb W hW).1 (hkb W hW).2
          rw [hoks] at hpk
          have HOKB := Lib.hid hokb
          have HP := Lib.hid hprof
          have HFL := Lib.hid hfl
          have HPK := Lib.hid hpk
          have HFB := Lib.hid hfb
          have hend : S (mir x1 m) n2 = 0 ∧ S (mir y1 m) n2 = 0 := by rw [hn2']; exact ⟨Load.mir_end x1 m, Load.mir_end y1 m⟩
          have HEND := Lib.hid hend
          have hmir := fun (h : rightL s0 t0 = true) => Load.first_mir hall hsm h
          rw [← hn2'] at hmir
          have HMIR := Lib.hid hmir
          have hbig := fun (a c : Int) (h1 : s0 ≤ a) (h2 : t0 ≤ c) => Load.first_big hokb h1 h2
          have HBIG := Lib.hid hbig
          have hfp := fun (h : rightL s0 t0 = true) (h2 : firstV s0 t0 x1 y1 m < 0) => Load.fits_peak hall hsm h h2
          have HFP := Lib.hid hfp
          have HKA := Lib.hid hka
          have hn2z : (0 : Int) < (n2 : Int) := by omega
          have hn2a : (0 : Int) ≤ (n2 : Int) - 1 := by omega
          have hn2b : 1 ≤ n2 := by omega
          have hn2s : n2 ≤ 120 := by omega
          rw [← hn2]
          have HN2 := Lib.hid hn2
          have HWB := Lib.hid hka.2.size
          clear hn2 hn2' hkb hkl hcs hgc hall hokb hoks hprof hfl hpk hfb hend hmir hbig hfp hka ho HREL HALL HREL0
          generalize hr1 : firstV s0 t0 x1 y1 m = r1 at *
          have HR1 := Lib.hid hr1; clear hr1
          have hrt := fun W => Load.right_any s0 t0 W
          obtain ⟨M, hM⟩ : ∃ M, bits .and .i64 a2 1023 = M := ⟨_, rfl⟩
          have bM : 0 ≤ M ∧ M ≤ 1023 := by rw [← hM, Load.and1023]; omega
          obtain ⟨bM0, bM1⟩ := bM
          cases hr : rightL s0 t0 with
          | false =>
            rw [hr] at hrt
            have HRT := Lib.hid hrt; clear hrt hr
            go_wp2_with fail
            refine (HP.out _ (Below.refl _ _)).mono ?_
            rintro e W2 hpp
            obtain ⟨g2, rfl, hb2, hg1, hg2, HCG⟩ := hpp.yes HOKB.out
            have HW2 := Lib.hid hb2
            have p01 := HCG.out (n2 - 1) (by omega)
            rw [Nat.sub_add_cancel hn2b, HEND.out.1, HEND.out.2] at p01
            obtain ⟨p0, p1⟩ := p01
            have HK2 := Lib.hid (HKA.out.below hb2)
            have a0 := HK2.out.at (a := ⟨A, 0, none⟩) (v := .int .i64 s0) (by simp)
            have a1 := HK2.out.at (a := ⟨A, 1, none⟩) (v := .int .i64 t0) (by simp)
            clear hpp hb2 hg1 HCG
            go_wp2_with fail
            refine (HFL.out _ HW2.out).mono ?_
            rintro e W3 ⟨rfl, hb⟩
            have HW3 := Lib.hid (HW2.out.trans (hb.mono HW2.out.size))
            have HK3 := Lib.hid (HK2.out.below hb)
            have HB3 := Lib.hid HK3.out.2
            clear a0 a1 p0 p1 hb
            have a0 := HK3.out.at (a := ⟨A, 0, none⟩) (v := .int .i64 s0) (by simp)
            have a1 := HK3.out.at (a := ⟨A, 1, none⟩) (v := .int .i64 t0) (by simp)
            go_wp2_with fail
            refine (HRT.out _).mono ?_
            rintro e W4 ⟨rfl, hb⟩
            go_wp2_with fail
            go_ret
            exact ⟨rfl, HB3.out.trans (hb.mono HB3.out.size)⟩
          | true =>
            obtain ⟨⟨rr1, rr2⟩, rr3, rr4⟩ := Load.rightL_true hr
            rw [hr] at hrt
            have HRT := Lib.hid hrt; clear hrt
            have hmir := HMIR.out hr
            have hfp := HFP.out hr
            have HR := Lib.hid hr; clear hr
            have HMI := Lib.hid hmir; clear hmir
            have HFP2 := Lib.hid hfp; clear hfp
            by_cases hlt : r1 < 0
            · have hr2 : firstV s0 t0 (mir x1 m) (mir y1 m) n2 < 0 := by have := HMI.out; simpa [hlt] using this
              have hr3 := HBIG.out (s0 + M) (t0 + M) (by omega) (by omega) hr2
              have hft := HFP2.out hlt
              have HR2 := Lib.hid hr2; clear hr2
              have HR3 := Lib.hid hr3; clear hr3
              have HFTT := Lib.hid hft; clear hft
              go_wp2_with fail
              refine (HP.out _ (Below.refl _ _)).mono ?_
              rintro e W2 hpp
              obtain ⟨g2, rfl, hb2, hg1, hg2, HCG⟩ := hpp.yes HOKB.out
              have HW2 := Lib.hid hb2
              have p01 := HCG.out (n2 - 1) (by omega)
              rw [Nat.sub_add_cancel hn2b, HEND.out.1, HEND.out.2] at p01
              obtain ⟨p0, p1⟩ := p01
              have HK2 := Lib.hid (HKA.out.below hb2)
              have a0 := HK2.out.at (a := ⟨A, 0, none⟩) (v := .int .i64 s0) (by simp)
              have a1 := HK2.out.at (a := ⟨A, 1, none⟩) (v := .int .i64 t0) (by simp)
              clear hpp hb2 hg1 HCG
              go_wp2_with fail
              refine (HFL.out _ HW2.out).mono ?_
              rintro e W3 ⟨rfl, hb⟩
              have HW3 := Lib.hid (HW2.out.trans (hb.mono HW2.out.size))
              have HK3 := Lib.hid (HK2.out.below hb)
              have HB3 := Lib.hid HK3.out.2
              clear a0 a1 p0 p1 hb
              have a0 := HK3.out.at (a := ⟨A, 0, none⟩) (v := .int .i64 s0) (by simp)
              have a1 := HK3.out.at (a := ⟨A, 1, none⟩) (v := .int .i64 t0) (by simp)
              go_wp2_with fail
              refine (HRT.out _).mono ?_
              rintro e W4 ⟨rfl, hb⟩
              have HW4 := Lib.hid (HW3.out.trans (hb.mono HW3.out.size))
              have HK4 := Lib.hid (HK3.out.below hb)
              clear a0 a1 hb
              have a0 := HK4.out.at (a := ⟨A, 0, none⟩) (v := .int .i64 s0) (by simp)
              have a1 := HK4.out.at (a := ⟨A, 1, none⟩) (v := .int .i64 t0) (by simp)
              have hk5 : KA (W4.alloc (.cells #[.int .i64 (s0 + M), .int .i64 (t0 + M)] 23)) (cellsE A W4.heap.size s0 t0 M) (W4.alloc (.cells #[.int .i64 (s0 + M), .int .i64 (t0 + M)] 23)) :=
                ⟨fun p hp => by
                  have h4 := HK4.out.alloc (.cells #[.int .i64 (s0 + M), .int .i64 (t0 + M)] 23)
                  simp only [cellsE, List.mem_cons, List.not_mem_nil, or_false] at hp
                  rcases hp with rfl | rfl | rfl | rfl
                  · exact h4.at (by simp)
                  · exact h4.at (by simp)
                  · simp [go_sem]
                  · simp [go_sem], Below.refl _ _⟩
              have hw5 := HW4.out.alloc HW4.out.size (.cells #[.int .i64 (s0 + M), .int .i64 (t0 + M)] 23)
              have hb5 := HK4.out.2.alloc HK4.out.2.size (.cells #[.int .i64 (s0 + M), .int .i64 (t0 + M)] 23)
              go_wp2_with fail
              generalize hW5 : W4.alloc (.cells #[.int .i64 (s0 + M), .int .i64 (t0 + M)] 23) = W5 at *
              obtain ⟨G, hG⟩ : ∃ G, G = W4.heap.size := ⟨_, rfl⟩
              rw [← hG] at hk5 ⊢
              have HW5 := Lib.hid hw5
              have HB5 := Lib.hid hb5
              have H1 := Lib.hid hW5
              have H2 := Lib.hid hG
              obtain ⟨KK, q0, q1, q2, q3⟩ := cellsE_all hk5
              have KKd := Load.KA.drew KK
              clear hw5 hb5 hW5 hG hk5 a0 a1 hM
              have HFB5 := Lib.hid (fun rs rt W (h : KA W5 (cellsE A G s0 t0 M) W) => HFB.out rs rt W (HW5.out.trans (h.2.mono HW5.out.size)))
              have HPK5 := Lib.hid (fun W (h : KA W5 (cellsE A G s0 t0 M) W) => HPK.out W (HW5.out.trans (h.2.mono HW5.out.size)))
              rw [Load.peakV_true, Load.peakV_true] at HPK5
              have hfba := fun W h => HFB5.out s0 t0 W h
              have hfbb := fun W h => HFB5.out (s0 + M) (t0 + M) W h
              have hftt := fun W => Load.fits_any s0 t0 (pk x1 m) (pk y1 m) W
              rw [HFTT.out] at hftt
              obtain ⟨r2, hr2⟩ : ∃ r2, firstV s0 t0 (mir x1 m) (mir y1 m) n2 = r2 := ⟨_, rfl⟩
              obtain ⟨r3, hr3⟩ : ∃ r3, firstV (s0 + M) (t0 + M) (mir x1 m) (mir y1 m) n2 = r3 := ⟨_, rfl⟩
              rw [hr2] at hfba
              rw [hr3] at hfbb
              have g2' : r2 < 0 := by rw [← hr2]; exact HR2.out
              have g3' : r3 < 0 := by rw [← hr3]; exact HR3.out
              have HFBA := Lib.hid hfba; clear hfba hr2
              have HFBB := Lib.hid hfbb; clear hfbb hr3
              have HFT := Lib.hid hftt; clear hftt
              go_region_held3 (fun w' => KA W5 (cellsE A G s0 t0 M) w' ∧ w'.cell? ⟨A, 0, none⟩ = some (.int .i64 (s0)) ∧ w'.cell? ⟨A, 1, none⟩ = some (.int .i64 (t0)) ∧ w'.cell? ⟨G, 0, none⟩ = some (.int .i64 (s0 + M)) ∧ w'.cell? ⟨G, 1, none⟩ = some (.int .i64 (t0 + M)))
                (first
                  | exact cellsE_all ‹KA W5 (cellsE A G s0 t0 M) _›
                  | exact cellsE_all (Load.KA.drew (And.left ‹KA W5 (cellsE A G s0 t0 M) _ ∧ _›))
                  | exact cellsE_all (Load.KA.drew ‹KA W5 (cellsE A G s0 t0 M) _›))
                (first
                  | (go_at_call 19; (with_reducible refine (HFBA.out _ ‹KA W5 (cellsE A G s0 t0 M) _›).mono ?_); rintro e w' ⟨rfl, hb⟩; have hka := Load.KA.below (And.left ‹KA W5 (cellsE A G s0 t0 M) _ ∧ _›) hb; clear hb)
                  | (go_at_call 19; (with_reducible refine (HFBB.out _ ‹KA W5 (cellsE A G s0 t0 M) _›).mono ?_); rintro e w' ⟨rfl, hb⟩; have hka := Load.KA.below (And.left ‹KA W5 (cellsE A G s0 t0 M) _ ∧ _›) hb; clear hb)
                  | (go_at_call 21; (with_reducible refine (HPK5.out _ ‹KA W5 (cellsE A G s0 t0 M) _›).mono ?_); rintro e w' ⟨rfl, hb⟩; have hka := Load.KA.below (And.left ‹KA W5 (cellsE A G s0 t0 M) _ ∧ _›) hb; clear hb)
                  | (go_at_call 15; (with_reducible refine (HFT.out _).mono ?_); rintro e w' ⟨rfl, hb⟩; have hka := Load.KA.below (And.left ‹KA W5 (cellsE A G s0 t0 M) _ ∧ _›) hb; clear hb))
              go_wp2_with fail
              go_ret
              exact ⟨rfl, HB5.out.trans ((And.left ‹KA W5 (cellsE A G s0 t0 M) _ ∧ _›).2.mono HB5.out.size)⟩
            · have hr2 : ¬ firstV s0 t0 (mir x1 m) (mir y1 m) n2 < 0 := by have := HMI.out; simpa [hlt] using this
              have HR2 := Lib.hid hr2; clear hr2
              go_wp2_with fail
              refine (HP.out _ (Below.refl _ _)).mono ?_
              rintro e W2 hpp
              obtain ⟨g2, rfl, hb2, hg1, hg2, HCG⟩ := hpp.yes HOKB.out
              have HW2 := Lib.hid hb2
              have p01 := HCG.out (n2 - 1) (by omega)
              rw [Nat.sub_add_cancel hn2b, HEND.out.1, HEND.out.2] at p01
              obtain ⟨p0, p1⟩ := p01
              have HK2 := Lib.hid (HKA.out.below hb2)
              have a0 := HK2.out.at (a := ⟨A, 0, none⟩) (v := .int .i64 s0) (by simp)
              have a1 := HK2.out.at (a := ⟨A, 1, none⟩) (v := .int .i64 t0) (by simp)
              clear hpp hb2 hg1 HCG
              go_wp2_with fail
              refine (HFL.out _ HW2.out).mono ?_
              rintro e W3 ⟨rfl, hb⟩
              have HW3 := Lib.hid (HW2.out.trans (hb.mono HW2.out.size))
              have HK3 := Lib.hid (HK2.out.below hb)
              have HB3 := Lib.hid HK3.out.2
              clear a0 a1 p0 p1 hb
              have a0 := HK3.out.at (a := ⟨A, 0, none⟩) (v := .int .i64 s0) (by simp)
              have a1 := HK3.out.at (a := ⟨A, 1, none⟩) (v := .int .i64 t0) (by simp)
              go_wp2_with fail
              refine (HRT.out _).mono ?_
              rintro e W4 ⟨rfl, hb⟩
              have HW4 := Lib.hid (HW3.out.trans (hb.mono HW3.out.size))
              have HK4 := Lib.hid (HK3.out.below hb)
              clear a0 a1 hb
              have a0 := HK4.out.at (a := ⟨A, 0, none⟩) (v := .int .i64 s0) (by simp)
              have a1 := HK4.out.at (a := ⟨A, 1, none⟩) (v := .int .i64 t0) (by simp)
              have hk5 : KA (W4.alloc (.cells #[.int .i64 (s0 + M), .int .i64 (t0 + M)] 23)) (cellsE A W4.heap.size s0 t0 M) (W4.alloc (.cells #[.int .i64 (s0 + M), .int .i64 (t0 + M)] 23)) :=
                ⟨fun p hp => by
                  have h4 := HK4.out.alloc (.cells #[.int .i64 (s0 + M), .int .i64 (t0 + M)] 23)
                  simp only [cellsE, List.mem_cons, List.not_mem_nil, or_false] at hp
                  rcases hp with rfl | rfl | rfl | rfl
                  · exact h4.at (by simp)
                  · exact h4.at (by simp)
                  · simp [go_sem]
                  · simp [go_sem], Below.refl _ _⟩
              have hw5 := HW4.out.alloc HW4.out.size (.cells #[.int .i64 (s0 + M), .int .i64 (t0 + M)] 23)
              have hb5 := HK4.out.2.alloc HK4.out.2.size (.cells #[.int .i64 (s0 + M), .int .i64 (t0 + M)] 23)
              go_wp2_with fail
              generalize hW5 : W4.alloc (.cells #[.int .i64 (s0 + M), .int .i64 (t0 + M)] 23) = W5 at *
              obtain ⟨G, hG⟩ : ∃ G, G = W4.heap.size := ⟨_, rfl⟩
              rw [← hG] at hk5 ⊢
              have HW5 := Lib.hid hw5
              have HB5 := Lib.hid hb5
              have H1 := Lib.hid hW5
              have H2 := Lib.hid hG
              obtain ⟨KK, q0, q1, q2, q3⟩ := cellsE_all hk5
              have KKd := Load.KA.drew KK
              clear hw5 hb5 hW5 hG hk5 a0 a1 hM
              have HFB5 := Lib.hid (fun rs rt W (h : KA W5 (cellsE A G s0 t0 M) W) => HFB.out rs rt W (HW5.out.trans (h.2.mono HW5.out.size)))
              have HPK5 := Lib.hid (fun W (h : KA W5 (cellsE A G s0 t0 M) W) => HPK.out W (HW5.out.trans (h.2.mono HW5.out.size)))
              rw [Load.peakV_true, Load.peakV_true] at HPK5
              have hfba := fun W h => HFB5.out s0 t0 W h
              obtain ⟨r2, hr2⟩ : ∃ r2, firstV s0 t0 (mir x1 m) (mir y1 m) n2 = r2 := ⟨_, rfl⟩
              rw [hr2] at hfba
              have g2' : ¬ r2 < 0 := by rw [← hr2]; exact Int.not_lt.2 (by first | exact HR2.out | exact Int.not_lt.1 HR2.out)
              have HFBA := Lib.hid hfba; clear hfba hr2
              have hund : undef = Value.tuple #[] := rfl
              (first | (go_region_with (first
                  | (go_at_call 19; (with_reducible refine (HFBA.out _ ‹KA W5 (cellsE A G s0 t0 M) _›).mono ?_); rintro e w' ⟨rfl, hb⟩; have hka := Load.KA.below ‹KA W5 (cellsE A G s0 t0 M) _› hb; clear hb; have hq := cellsE_all hka; go_split_ands))) | fail)
              all_goals (go_wp2_with fail; go_ret; exact ⟨rfl, HB5.out.trans (‹KA W5 (cellsE A G s0 t0 M) _›.2.mono HB5.out.size)⟩)

set_option maxRecDepth 100000 in
theorem lifted (os : Os) (started : os.Started) (H : Type) (enc : TypeId × Value → H) :
    ReturnsInHanded {} Try.checked os 5 .any (Rows.loadBackSpec.pre6 enc Try.prog Try.f5 Rows.loadBackRow.domain false) (Rows.loadBackSpec.post enc Try.prog Try.f5 false true false false) := by
  refine returnsInHanded_of_change (C := Try.checked) own started (by kernel_rfl) Try.func5
    (ChangeSpec.witness6 (enc := enc) (C := Try.checked) false ⟨#[], #[.agg #[.int .i64 0, .int .i64 0], .slice none 0 0, .int .i64 0], []⟩ 8 (by kernel_rfl) (by kernel_rfl) (by kernel_rfl) (by kernel_rfl)) ?_
  intro W base args ds gs before hval0 hW hcnd _
  have hval : ∀ (j : Nat) t v, Try.f5.params[j]? = some t → args[j]? = some v → Value.okWide Try.prog W .any base t v := hval0
  have hW' := hW
  obtain ⟨p, q, hA0, hV, rfl, hfz, hnd⟩ := hW
  have hA : DataW.TrodAll enc Try.prog W 0 (fun _ => true) true Try.f5.params.toList args.toList ds p := hA0
  rw [Try.params5] at hA hval
  obtain ⟨v0, vs0, d0, ds0, p0, q0, hargs, rfl, rfl, h0, r0⟩ := trodAll_cons hA
  obtain ⟨v1, vs1, d1, ds1, p1, q1, rfl, rfl, rfl, h1, r1⟩ := trodAll_cons r0
  obtain ⟨v2, vs2, d2, ds2, p2, q2, rfl, rfl, rfl, h2, r2⟩ := trodAll_cons r1
  obtain ⟨rfl, rfl, rfl⟩ := trodAll_nil r2
  obtain rfl : args = #[v0, v1, v2] := by cases args; simp_all
  obtain ⟨rfl, rfl⟩ := trodVars_none hV
  have k0 := h0
  have lt0 : ∀ x ∈ p0, x.block < W.heap.size := by obtain ⟨m, hm⟩ := k0; exact DataW.trod_lt m _ _ _ hm
  obtain ⟨c0, e0, y0, z0, m0, rfl, hd0, hp0, hy0, hz0⟩ := open_agg2 Try.underlying23 (by kernel_rfl) cellsLoad (hval 0 23 v0 rfl rfl) h0
  obtain ⟨s0, hc0, _, ws0⟩ := DataW.trod_int Try.underlying3 hy0
  obtain ⟨t0, he0, _, wt0⟩ := DataW.trod_int Try.underlying3 hz0
  simp only [List.cons.injEq, and_true] at hc0 he0
  subst hc0 he0
  have k1 := h1
  have lt1 : ∀ x ∈ p1, x.block < W.heap.size := by obtain ⟨m, hm⟩ := k1; exact DataW.trod_lt m _ _ _ hm
  obtain ⟨b1, len1, cap1, rfl⟩ := okWide_slice Try.underlying30 (hval 1 30 v1 rfl rfl)
  obtain ⟨x1, y1, w1⟩ := isLds_of Try.underlying30 Try.underlying23 cellsLoad Try.underlying3 cellsInt h1
  obtain ⟨a2, rfl, rfl, rfl, w2⟩ := open_int Try.underlying3 (hval 2 3 v2 rfl rfl) h2
  clear hA0 hval0
  refine (walk W s0 t0 ⟨ws0, wt0⟩ b1 len1 cap1 x1 y1 w1 a2 w2).mono fun e W' ⟨he, bel⟩ => ?_
  subst he
  exact ⟨_, rfl, _, _, _, [], _, [], hW', trodAll_mk1 (shut_bool Try.underlying4 _), (trodAll_cons_mk (Below.trod laidOut (by kernel_rfl) (of_decide_eq_true (by kernel_rfl)) k0 bel lt0) (trodAll_cons_mk (Below.trod laidOut (by kernel_rfl) (of_decide_eq_true (by kernel_rfl)) k1 bel lt1) (trodAll_cons_mk (shut_int Try.underlying3 w2) trodAll_mk0))), rfl, bel.frame _, fun h => by cases h⟩

theorem over : Rows.loadBackRow.holds Try.pinned (OpenSpec.ofChange Rows.loadBackSpec) :=
  OpenClaim.holds_of_wide 5 Try.f5 rfl rfl rfl rfl rfl rfl rfl ⟨rfl, rfl, rfl, rfl, rfl⟩ rfl rfl rfl rfl rfl (by kernel_rfl) Try.func5 (by kernel_rfl)
    (of_decide_eq_true (by kernel_rfl)) (by unfold Func.isWrapper; first | (rw [if_pos (by decide +kernel)]; kernel_rfl) | (rw [if_neg (by decide +kernel)]; exact ⟨rfl, rfl⟩))
    (fun os started H enc _ => lifted os started H enc)

/-- THE STATEMENT -/
theorem proved : Rows.LoadBackSaid := over
#print axioms proved
end Go.Proofs.Ytoadmmapgajedaa.loadBack
