/- TicketBack: whatever the input, the law returns true, and each argument reads as it read before; the library's tables hold what the program's text lays. No other conditions. -/
import Derived.Test.YtjmingdlfihmaaaDoorCards
import Derived.Test.YtjmingdlfihmaaaDoorTie
import Derived.WalkKit
import Derived.ProofKit
import Derived.ShutString
import Derived.ChangeOld
import Derived.Below
import Derived.OpenShut
import Derived.Lib.SmallJoins
import Derived.Deep.DeepHandedRow
import Derived.SevenTiedAt
import Derived.Deep.DeepCutAuto
import Derived.Deep.CutBlock
import Derived.Outline
import Derived.Deep.RegionHeld3
import Derived.Deep.RegionWith
import Derived.Test.YtjmingdlfihmaaaDoorDeciWorld
import Derived.Test.YtjmingdlfihmaaaDoorTkOpen
import Derived.Test.YtjmingdlfihmaaaDoorTkAlive2
namespace Go.Proofs.YtjmingdlfihmaaaDoor.ticketBack
open Go.ChangeShapes Go.WideShapes Go.ChangeAt Go.RowKit Go.Joins
open Go.ChangeMaps (open_string shut_string)
open Deci
set_option linter.unusedVariables false

theorem wf64 {n : Int} (h : (Lit.int .i64 n).wf = true) : -9223372036854775808 ≤ n ∧ n ≤ 9223372036854775807 := by
  simp [Lit.wf] at h
  exact h
theorem own : ownKnob Tryd.prog.godebug = none := by kernel_rfl
theorem laidOut : laidOutB Tryd.prog = true := by kernel_rfl
theorem some_of {α : Type} {l : List α} (h : l.length ≠ 0) : l ≠ [] := fun e => h (by rw [e]; rfl)
set_option maxHeartbeats 4000000 in
set_option maxRecDepth 100000 in
theorem walk (w : World) (hE : Env w) (v0 : Value) (L0 : List Tk.LN) (w0 : Tk.Came w v0 L0) :
    Calls Tryd.prog 3 #[v0] w fun e w' => e = .returned (.bool true) ∧ Below w.heap.size w w' := by
  have hE' : ∀ W, Below w.heap.size w W → Env W := fun W hb => hE.below hb
  obtain ⟨hi, hlen⟩ := w0
  obtain ⟨a, cap, rfl, hrow⟩ := hi
  have K0 := fun W (hb : Below w.heap.size w W) => Tk.alive_any W (hE' W hb)
  have K1 := fun (hok : ∀ l ∈ L0, l.Ok) (hn : L0.length ≤ 1000) W (hb : Below w.heap.size w W) => Tk.print_any (.slice a L0.length cap) L0 W (Tk.env_at (hE' W hb)) (Tk.IsLn.below (show Tk.IsLn w (.slice a L0.length cap) L0 from ⟨a, cap, rfl, hrow⟩) hb) hok hn
  have K2 := fun (hok : ∀ l ∈ L0, l.Ok) (hn : L0.length ≤ 1000) (hr : Tk.Rise L0 L0.length) W (hb : Below w.heap.size w W) => Tk.parse_any L0 L0.length W (hE' W hb) hok hn hr
  have hat : L0.length = 0 ∨ ∃ g o, a = some ⟨g, o, none⟩ ∧ g < w.heap.size ∧ ∀ k (hk : k < L0.length) W, Below w.heap.size w W → Tk.LnAt W g (o + k * 6) L0[k] := by
    rcases hrow with h | ⟨g, o, e, hg, hc⟩
    · left; rw [h]; rfl
    · exact .inr ⟨g, o, e, hg, fun k hk W hb => (hc k hk).below hb hg⟩
  generalize Deci.strOf (Tk.textT L0) = S at *
  obtain ⟨n, hn⟩ : ∃ n, n = L0.length := ⟨_, rfl⟩
  have H0 := Lib.hid K0; clear K0
  have H1 := Lib.hid K1; clear K1
  have H2 := Lib.hid K2; clear K2
  have HAT := Lib.hid hat; clear hat
  rw [← hn]
  have HN := Lib.hid hn; clear hn
  clear hE hE' hrow
  have hnm : n ≤ maxLen := by rw [HN.out]; exact hlen
  unfold maxLen at hnm
  clear hlen
  go_enter Tryd.func3, Tryd.ntmps3
  go_wp2_with fail
  refine (H0.out _ (Below.refl _ _)).mono ?_
  rintro e W1 ⟨rfl, hb⟩
  have HB1 := Lib.hid hb; clear hb H0
  by_cases hbig : 40 < n
  · go_wp2_with fail
    go_ret
    exact ⟨rfl, HB1.out⟩
  have hn40 : n ≤ 40 := by omega
  go_wp2_with fail
  go_loopw [18] (fun i wr => ∃ k : Nat, k ≤ n ∧ i = .int .i64 k ∧ Hid (Below w.heap.size w wr) ∧ Hid ((∀ j (h : j < L0.length), j < k → L0[j].Ok) ∧ (∀ j (h : j + 1 < L0.length), j + 1 < k → L0[j].id < L0[j + 1].id))) (fun i _ => n - (intOf i).toNat)
  case atStart => exact ⟨0, Nat.zero_le _, rfl, HB1, Lib.hid ⟨fun j h h' => absurd h' (by omega), fun j h h' => absurd h' (by omega)⟩⟩
  case round =>
    obtain ⟨k, hk, rfl, HB, HU⟩ := hrel
    by_cases hlt : k < n
    · have hkl : k < L0.length := by rw [← HN.out]; exact hlt
      obtain ⟨g, o, rfl, hg, hat⟩ := HAT.out.resolve_left (by have := HN.out; omega)
      obtain ⟨c0, c1, c2, c3, c4, c5⟩ := hat k hkl wr HB.out
      have hprev : ∀ q (h : q + 1 = k) W, Below w.heap.size w W → W.cell? ⟨g, o + q * 6, none⟩ = some (.int .i64 (L0[q]'(by omega)).id) := fun q h W hb => (hat q (by omega) W hb).c0
      have hnext : ∀ (i c p d r : Int) (s : Bool), L0[k] = ⟨i, c, p, d, r, s⟩ → (Tk.LN.mk i c p d r s).Ok → (∀ q (h : q + 1 = k), (L0[q]'(by omega)).id < i) → Hid ((∀ j (h : j < L0.length), j < k + 1 → L0[j].Ok) ∧ (∀ j (h : j + 1 < L0.length), j + 1 < k + 1 → L0[j].id < L0[j + 1].id)) := fun i c p d r s hl hok hlt => Lib.hid ⟨fun j h h' => by
          rcases Nat.lt_or_ge j k with hjk | hjk
          · exact HU.out.1 j h hjk
          · obtain rfl : j = k := by omega
            rw [hl]; exact hok, fun j h h' => by
          rcases Nat.lt_or_ge (j + 1) k with hjk | hjk
          · exact HU.out.2 j h hjk
          · have e : j + 1 = k := by omega
            have h1 := hlt j e
            subst e
            rw [hl]; exact h1⟩
      generalize hl : L0[k] = ln at *
      obtain ⟨i, c, p, d, r, s⟩ := ln
      simp only at c0 c1 c2 c3 c4 c5
      have HNX := Lib.hid (hnext i c p d r s rfl); clear hnext hl
      have HPV := Lib.hid hprev; clear hprev hat HU
      have i0 : (k : Int) < (n : Int) := by omega
      have i1 : (0 : Int) ≤ k := by omega
      obtain ⟨X, hX⟩ : ∃ X, X = wr.heap.size := ⟨_, rfl⟩
      obtain ⟨W2, hW2⟩ : ∃ W2, W2 = wr.alloc (.cells #[.int .i64 i, .int .i64 c, .int .i64 p, .int .i64 d, .int .i64 r, .bool s] 25) := ⟨_, rfl⟩
      have hb2 : Below wr.heap.size wr W2 := by rw [hW2]; exact (Below.refl _ _).alloc (Nat.le_refl _) _
      have hx2 : W2.heap[X]? = some (.cells #[.int .i64 i, .int .i64 c, .int .i64 p, .int .i64 d, .int .i64 r, .bool s] 25) := by rw [hW2, hX]; exact World.alloc_heap_new wr _
      obtain ⟨Y, hY⟩ : ∃ Y, Y = wr.heap.size + 1 := ⟨_, rfl⟩
      obtain ⟨W3, hW3⟩ : ∃ W3, W3 = W2.alloc (.cells #[.int .i64 i, .int .i64 c, .int .i64 p, .int .i64 d, .int .i64 r] 2) := ⟨_, rfl⟩
      have hz2 : W2.heap.size = Y := by rw [hW2, hY]; simp
      have hb3 : Below W2.heap.size W2 W3 := by rw [hW3]; exact (Below.refl _ _).alloc (Nat.le_refl _) _
      have hy3 : W3.heap[Y]? = some (.cells #[.int .i64 i, .int .i64 c, .int .i64 p, .int .i64 d, .int .i64 r] 2) := by rw [hW3, ← hz2]; exact World.alloc_heap_new W2 _
      have hx3 : W3.heap[X]? = some (.cells #[.int .i64 i, .int .i64 c, .int .i64 p, .int .i64 d, .int .i64 r, .bool s] 25) := (hb3.block X (Tk.own_lt hx2)).trans hx2
      have HB3 := Lib.hid (HB.out.trans ((hb2.trans (hb3.mono hb2.size)).mono HB.out.size))
      have HX3 := Lib.hid hx3; clear hx3 hx2
      have HY3 := Lib.hid hy3; clear hy3
      have hXY : Y = X + 1 := by omega
      have HWW := Lib.hid (show W3 = (wr.alloc (.cells #[.int .i64 i, .int .i64 c, .int .i64 p, .int .i64 d, .int .i64 r, .bool s] 25)).alloc (.cells #[.int .i64 i, .int .i64 c, .int .i64 p, .int .i64 d, .int .i64 r] 2) from by rw [hW3, hW2]); clear hW3 hW2 hb2 hb3 hz2 hY
      have HX := Lib.hid hX; clear hX
      have HXY := Lib.hid hXY; clear hXY
      obtain ⟨xs, hxs⟩ : ∃ xs : List Int, xs = [i, c, p, d, r] := ⟨_, rfl⟩
      have hcell : ∀ j, j < 5 → W3.cell? ⟨Y, j, none⟩ = some (.int .i64 (xs.getD j 0)) := fun j hj => by
        rw [Tk.own_cell HY3.out]
        subst hxs
        rcases (show j = 0 ∨ j = 1 ∨ j = 2 ∨ j = 3 ∨ j = 4 by omega) with rfl | rfl | rfl | rfl | rfl <;> rfl
      have HCE := Lib.hid hcell; clear hcell
      have HXS := Lib.hid hxs; clear hxs
      go_wp2_with fail
      rw [← HX.out, ← HWW.out, ← HXY.out]
      clear c0 c1 c2 c3 c4 c5
      go_loopw [35] (fun i wr => ∃ j : Nat, j ≤ 5 ∧ i = .int .i64 j ∧ Hid (wr = W3) ∧ Hid (∀ t, t < j → Tk.Rng (xs.getD t 0))) (fun i _ => 5 - (intOf i).toNat)
      case atStart => exact ⟨0, by omega, rfl, Lib.hid rfl, Lib.hid fun t ht => absurd ht (by omega)⟩
      case round =>
        obtain ⟨j, hj, rfl, HW, HR⟩ := hrel
        obtain rfl := HW.out.symm
        clear HW
        by_cases hj5 : j < 5
        · have hc := HCE.out j hj5
          have j0 : (j : Int) < 5 := by omega
          have j1 : (0 : Int) ≤ j := by omega
          have HRN : Tk.Rng (xs.getD j 0) → Hid (∀ t, t < j + 1 → Tk.Rng (xs.getD t 0)) := fun h => Lib.hid fun t ht => by
            rcases Nat.lt_or_ge t j with h' | h'
            · exact HR.out t h'
            · obtain rfl : t = j := by omega
              exact h
          generalize xs.getD j 0 = x at *
          by_cases hlo : x < -1099511627776
          · go_wp2_with fail
            go_ret
            exact ⟨rfl, HB3.out⟩
          · by_cases hhi : 1099511627776 < x
            · go_wp2_with fail
              go_ret
              exact ⟨rfl, HB3.out⟩
            · have HRN' := HRN ⟨by omega, by omega⟩
              clear HRN
              go_wp2_with fail
              go_roundw
              case rel => exact ⟨j + 1, by omega, by go_num, Lib.hid trivial, HRN'⟩
              case measure => simp [intOf]; omega
        · obtain rfl : j = 5 := by omega
          have hr := HR.out
          rw [HXS.out] at hr
          have r0 : Tk.Rng i := hr 0 (by omega)
          have r1 : Tk.Rng c := hr 1 (by omega)
          have r2 : Tk.Rng p := hr 2 (by omega)
          have r3 : Tk.Rng d := hr 3 (by omega)
          have r4 : Tk.Rng r := hr 4 (by omega)
          clear hr HR HCE HY3 HXS
          have x0 : W3.cell? ⟨X, 0, none⟩ = some (.int .i64 i) := (Tk.own_cell HX3.out).trans rfl
          have x1 : W3.cell? ⟨X, 1, none⟩ = some (.int .i64 c) := (Tk.own_cell HX3.out).trans rfl
          have x2 : W3.cell? ⟨X, 2, none⟩ = some (.int .i64 p) := (Tk.own_cell HX3.out).trans rfl
          have x3 : W3.cell? ⟨X, 3, none⟩ = some (.int .i64 d) := (Tk.own_cell HX3.out).trans rfl
          have x4 : W3.cell? ⟨X, 4, none⟩ = some (.int .i64 r) := (Tk.own_cell HX3.out).trans rfl
          have x5 : W3.cell? ⟨X, 5, none⟩ = some (.bool s) := (Tk.own_cell HX3.out).trans rfl
          rcases Nat.eq_zero_or_pos k with hk0 | hkp
          · subst hk0
            clear HPV
            go_upto_region 14 with fail
            by_cases hid : i < 0
            · have hid' : decide (i < 0) = true := by simpa using hid
              go_quiet (fail)
              go_wp2_with fail
              go_ret
              exact ⟨rfl, below_drewN HB3.out _⟩
            have hid' : decide (i < 0) = false := by simpa using hid
            by_cases hcar : c < 0
            · have hcar' : decide (c < 0) = true := by simpa using hcar
              go_quiet (fail)
              go_wp2_with fail
              go_ret
              exact ⟨rfl, below_drewN HB3.out _⟩
            have hcar' : decide (c < 0) = false := by simpa using hcar
            have hlast : ∀ q (h : q + 1 = 0), (L0[q]'(by omega)).id < i := fun q h => absurd h (by omega)
            cases s with
            | true =>
              have hnx := HNX.out ⟨r0, r1, r2, r3, r4, Int.not_lt.1 hid, Int.not_lt.1 hcar, fun h => by cases h⟩ hlast
              clear HNX hlast
              go_quiet (fail)
              go_wp2_with fail
              go_roundw
              case rel => exact ⟨0 + 1, by omega, by go_num, Lib.hid (below_drewN HB3.out _), hnx⟩
              case measure => simp [intOf]; omega
            | false =>
              by_cases z1 : c = 0
              · subst z1
                by_cases z2 : p = 0
                · subst z2
                  by_cases z3 : d = 0
                  · subst z3
                    by_cases z4 : r = 0
                    · subst z4
                      have hnx := HNX.out ⟨r0, r1, r2, r3, r4, Int.not_lt.1 hid, Int.not_lt.1 hcar, fun _ => ⟨rfl, rfl, rfl, rfl⟩⟩ hlast
                      clear HNX hlast
                      go_quiet (fail)
                      go_wp2_with fail
                      go_roundw
                      case rel => exact ⟨0 + 1, by omega, by go_num, Lib.hid (below_drewN HB3.out _), hnx⟩
                      case measure => simp [intOf]; omega
                    · have z4' : (r == 0) = false := by simpa using z4
                      go_quiet (fail)
                      go_wp2_with fail
                      go_ret
                      exact ⟨rfl, below_drewN HB3.out _⟩
                  · have z3' : (d == 0) = false := by simpa using z3
                    go_quiet (fail)
                    go_wp2_with fail
                    go_ret
                    exact ⟨rfl, below_drewN HB3.out _⟩
                · have z2' : (p == 0) = false := by simpa using z2
                  go_quiet (fail)
                  go_wp2_with fail
                  go_ret
                  exact ⟨rfl, below_drewN HB3.out _⟩
              · have z1' : (c == 0) = false := by simpa using z1
                go_quiet (fail)
                go_wp2_with fail
                go_ret
                exact ⟨rfl, below_drewN HB3.out _⟩
          · obtain ⟨q, hqk⟩ : ∃ q, q + 1 = k := ⟨k - 1, by omega⟩
            have hpv := HPV.out q hqk W3 HB3.out
            have hpq : (L0[q]'(by omega)).id < i → ∀ q' (h : q' + 1 = k), (L0[q']'(by omega)).id < i := fun h q' h' => by
              obtain rfl : q' = q := by omega
              exact h
            generalize L0[q].id = pv at *
            have HPQ := Lib.hid (fun h => hpq h); clear hpq HPV
            have w0 : (k : Int) - 1 = q := by omega
            have w1 : IntKind.i64.wrap ((k : Int) - 1) = q := by rw [w0]; exact IntWalk.i64_in _ (by omega)
            have hz : ¬ (k : Int) = 0 := by omega
            have hp0 : (0 : Int) < (k : Int) := by omega
            have hqn : (q : Int) < (n : Int) := by omega
            have hq0 : (0 : Int) ≤ (q : Int) := by omega
            go_upto_region 14 with fail
            by_cases hid : i < 0
            · have hid' : decide (i < 0) = true := by simpa using hid
              go_quiet (fail)
              go_wp2_with fail
              go_ret
              exact ⟨rfl, below_drewN HB3.out _⟩
            have hid' : decide (i < 0) = false := by simpa using hid
            by_cases hcar : c < 0
            · have hcar' : decide (c < 0) = true := by simpa using hcar
              go_quiet (fail)
              go_wp2_with fail
              go_ret
              exact ⟨rfl, below_drewN HB3.out _⟩
            have hcar' : decide (c < 0) = false := by simpa using hcar
            by_cases hle : i ≤ pv
            · have hle' : decide (i ≤ pv) = true := by simpa using hle
              go_quiet (fail)
              go_wp2_with fail
              go_ret
              exact ⟨rfl, below_drewN HB3.out _⟩
            have hle' : decide (i ≤ pv) = false := by simpa using hle
            have hlast := HPQ.out (by omega)
            cases s with
            | true =>
              have hnx := HNX.out ⟨r0, r1, r2, r3, r4, Int.not_lt.1 hid, Int.not_lt.1 hcar, fun h => by cases h⟩ hlast
              clear HNX hlast
              go_quiet (fail)
              go_wp2_with fail
              go_roundw
              case rel => exact ⟨k + 1, by omega, by go_num, Lib.hid (below_drewN HB3.out _), hnx⟩
              case measure => simp [intOf]; omega
            | false =>
              by_cases z1 : c = 0
              · subst z1
                by_cases z2 : p = 0
                · subst z2
                  by_cases z3 : d = 0
                  · subst z3
                    by_cases z4 : r = 0
                    · subst z4
                      have hnx := HNX.out ⟨r0, r1, r2, r3, r4, Int.not_lt.1 hid, Int.not_lt.1 hcar, fun _ => ⟨rfl, rfl, rfl, rfl⟩⟩ hlast
                      clear HNX hlast
                      go_quiet (fail)
                      go_wp2_with fail
                      go_roundw
                      case rel => exact ⟨k + 1, by omega, by go_num, Lib.hid (below_drewN HB3.out _), hnx⟩
                      case measure => simp [intOf]; omega
                    · have z4' : (r == 0) = false := by simpa using z4
                      go_quiet (fail)
                      go_wp2_with fail
                      go_ret
                      exact ⟨rfl, below_drewN HB3.out _⟩
                  · have z3' : (d == 0) = false := by simpa using z3
                    go_quiet (fail)
                    go_wp2_with fail
                    go_ret
                    exact ⟨rfl, below_drewN HB3.out _⟩
                · have z2' : (p == 0) = false := by simpa using z2
                  go_quiet (fail)
                  go_wp2_with fail
                  go_ret
                  exact ⟨rfl, below_drewN HB3.out _⟩
              · have z1' : (c == 0) = false := by simpa using z1
                go_quiet (fail)
                go_wp2_with fail
                go_ret
                exact ⟨rfl, below_drewN HB3.out _⟩
    · obtain rfl : k = n := by omega
      have hok : ∀ l ∈ L0, l.Ok := fun l hl => by
        obtain ⟨j, hj, rfl⟩ := List.getElem_of_mem hl
        exact HU.out.1 j hj (by rw [HN.out]; exact hj)
      have hri : Tk.Rise L0 L0.length := ⟨Nat.le_refl _, fun j h _ => HU.out.2 j h (by rw [HN.out]; exact h), fun j h hj => absurd hj (by omega), fun h => absurd h (Nat.lt_irrefl _)⟩
      have hl1000 : L0.length ≤ 1000 := by rw [← HN.out]; omega
      have h1 := H1.out hok hl1000 wr HB.out
      have h2 := fun W hb => H2.out hok hl1000 hri W hb
      rw [← HN.out] at h1 h2
      have HP := Lib.hid h1; clear h1
      have HQ := Lib.hid h2; clear h2
      clear H1 H2 hok hri hl1000 HU
      go_wp2_with fail
      refine HP.out.mono ?_
      rintro e w2 ⟨rfl, hb⟩
      have HB2 := Lib.hid (HB.out.trans (hb.mono HB.out.size)); clear hb
      go_wp2_with fail
      refine (HQ.out w2 HB2.out).mono ?_
      rintro e w3 ⟨hb, ⟨-, v, rfl, hown⟩ | ⟨hlt, -⟩⟩
      · have hin := Tk.isLn_own hown
        obtain ⟨va, vc, rfl, hrow2⟩ := hin
        rw [← HN.out]
        have HB3 := Lib.hid (HB2.out.trans (hb.mono HB2.out.size)); clear hb hown
        have hat2 : k = 0 ∨ ∃ g o, va = some ⟨g, o, none⟩ ∧ ∀ j (hj : j < L0.length) W, Below w3.heap.size w3 W → Tk.LnAt W g (o + j * 6) L0[j] := by
          rcases hrow2 with h | ⟨g, o, e, hg, hc⟩
          · left; rw [HN.out, h]; rfl
          · exact .inr ⟨g, o, e, fun j hj W hb => (hc j hj).below hb hg⟩
        have HAT2 := Lib.hid hat2; clear hat2 hrow2 HP HQ HB2
        go_wp2_with fail
        go_loopw [104] (fun i wr => ∃ j : Nat, j ≤ k ∧ i = .int .i64 j ∧ Hid (Below w3.heap.size w3 wr)) (fun i _ => k - (intOf i).toNat)
        case atStart => exact ⟨0, Nat.zero_le _, rfl, Lib.hid (Below.refl _ _)⟩
        case round =>
          obtain ⟨j, hj, rfl, HBJ⟩ := hrel
          by_cases hlt : j < k
          · have hjl : j < L0.length := by rw [← HN.out]; exact hlt
            obtain ⟨g, o, rfl, hg, hat⟩ := HAT.out.resolve_left (by have := HN.out; omega)
            obtain ⟨g2, o2, rfl, hat2⟩ := HAT2.out.resolve_left (by omega)
            obtain ⟨c0, c1, c2, c3, c4, c5⟩ := hat j hjl wr (HB3.out.trans (HBJ.out.mono HB3.out.size))
            obtain ⟨d0, d1, d2, d3, d4, d5⟩ := hat2 j hjl wr HBJ.out
            generalize L0[j] = ln at *
            obtain ⟨i, c, p, d, r, s⟩ := ln
            simp only at c0 c1 c2 c3 c4 c5 d0 d1 d2 d3 d4 d5
            have i0 : (j : Int) < (k : Int) := by omega
            have i1 : (0 : Int) ≤ j := by omega
            clear hat hat2
            go_upto_region 23 with fail
            go_quiet (fail)
            have HN2 := Lib.hid (below_drewN HBJ.out nq)
            clear c0 c1 c2 c3 c4 c5 d0 d1 d2 d3 d4 d5
            go_wp2_with fail
            go_roundw
            case rel => exact ⟨j + 1, by omega, by go_num, HN2⟩
            case measure => simp [intOf]; omega
          · obtain rfl : j = k := by omega
            have HF := Lib.hid (HB3.out.trans (HBJ.out.mono HB3.out.size))
            go_wp2_with fail
            go_ret
            exact ⟨rfl, HF.out⟩
      · have := HN.out; omega

set_option maxRecDepth 100000 in
theorem contract (H : Type) (enc : TypeId × Value → H) (W : World) (base : Nat) (args : Array Value) (ds gs : List (DataW H)) (before : List MemPlace)
    (hval0 : ∀ (j : Nat) t v, Tryd.f3.params[j]? = some t → args[j]? = some v → Value.okWide Tryd.prog W .any base t v)
    (hW : DataW.Whole enc Tryd.prog Tryd.f3.params.toList Rows.ticketBackSpec.vars false W args.toList ds gs before) (hL : laidMetH Tryd.prog Rows.ticketBackRow.laid W) (hS : W.ShapedOpen Tryd.prog) :
    Calls Tryd.prog 3 args W fun e W' => ∃ v, e = .returned v ∧ Rows.ticketBackSpec.post enc Tryd.prog Tryd.f3 false true false false W args v W' := by
  have hval : ∀ (j : Nat) t v, Tryd.f3.params[j]? = some t → args[j]? = some v → Value.okWide Tryd.prog W .any base t v := hval0
  have hE : Env W := env_of hL hS
  have hW' := hW
  obtain ⟨p, q, hA0, hV, rfl, hfz, hnd⟩ := hW
  have hA : DataW.TrodAll enc Tryd.prog W 0 (fun _ => true) true Tryd.f3.params.toList args.toList ds p := hA0
  rw [Tryd.params3] at hA hval
  obtain ⟨v0, vs0, d0, ds0, p0, q0, hargs, rfl, rfl, h0, r0⟩ := trodAll_cons hA
  obtain ⟨rfl, rfl, rfl⟩ := trodAll_nil r0
  obtain rfl : args = #[v0] := by cases args; simp_all
  obtain ⟨rfl, rfl⟩ := trodVars_none hV
  have k0 := h0
  have lt0 : ∀ x ∈ p0, x.block < W.heap.size := by obtain ⟨m, hm⟩ := k0; exact DataW.trod_lt m _ _ _ hm
  obtain ⟨L0, w0⟩ := Tk.lines_open Tryd.underlying25 (hval 0 22 v0 rfl rfl) h0
  clear hA0 hval0
  refine (walk W hE v0 L0 w0).mono fun e W' ⟨he, bel⟩ => ?_
  subst he
  exact ⟨_, rfl, _, _, _, [], _, [], hW', trodAll_mk1 (shut_bool Tryd.underlying4 _), (trodAll_cons_mk (Below.trod laidOut (by kernel_rfl) (of_decide_eq_true (by kernel_rfl)) k0 bel lt0) trodAll_mk0), rfl, bel.frame _, fun h => by cases h⟩

theorem reads (os : Os) {H : Type} (enc : TypeId × Value → H) : ∃ places, DataW.whole enc Tryd.prog ((laidWorld os).forCall (fun _ _ => 0) ⟨#[], #[.slice none 0 0], []⟩).memory Tryd.f3.params.toList Rows.ticketBackSpec.vars false (#[.slice none 0 0] : Array Value).toList 8 = some ([.nil], [], places) :=
  ⟨[], by kernel_rfl⟩
set_option maxRecDepth 100000 in
theorem lifted (os : Os) (started : os.Started) (H : Type) (enc : TypeId × Value → H) (F : Stop.Interp) :
    ReturnsInHanded {} Tryd.checked os 3 .any ((OpenSpec.ofChange Rows.ticketBackSpec).preRow enc Tryd.prog Tryd.f3 Rows.ticketBackRow.domain false Rows.ticketBackRow.laid) (((OpenSpec.ofChange Rows.ticketBackSpec).at F).post enc Tryd.prog Tryd.f3 false true false false) := by
  obtain ⟨places, hx⟩ := reads os enc
  refine returnsInHanded_of_row (C := Tryd.checked) (s := OpenSpec.ofChange Rows.ticketBackSpec) own started (by kernel_rfl) Tryd.func3
    (witness_row_at (enc := enc) (C := Tryd.checked) false (laidWorld os) #[.slice none 0 0] rfl (by kernel_rfl) (by kernel_rfl) (by kernel_rfl)
      (OpenSpec.preRow_of_cond 8 hx (by kernel_rfl) (fun k hk => by cases hk) (by kernel_rfl) (laid_met os _))) ?_
  intro W base args ds gs before hval hW _ _ _ hL hS _
  exact contract H enc W base args ds gs before hval hW hL hS

theorem said : Rows.TicketBackSaid :=
  OpenClaim.holds_of_cond 3 Tryd.f3 rfl rfl rfl rfl rfl rfl rfl ⟨rfl, rfl, rfl, rfl, rfl⟩ rfl rfl rfl rfl rfl (by kernel_rfl) Tryd.func3 (by kernel_rfl)
    (of_decide_eq_true (by kernel_rfl)) (by unfold Func.isWrapper; first | (rw [if_pos (by decide +kernel)]; kernel_rfl) | (rw [if_neg (by decide +kernel)]; exact ⟨rfl, rfl⟩))
    (fun os started H enc _ F => by rw [OpenClaim.pre_eq_preRow]; exact lifted os started H enc F)

theorem plain (f : FuncId) (fn : Func) (hf : Tryd.pinned.checked.prog.funcNamed "jitney/jitneylaw24.TicketBack" = some f) (hfn : Tryd.pinned.checked.prog.funcs[f]? = some fn) :
    false = Tryd.pinned.checked.prog.looks [] ∧ ∀ (j : Nat) t, fn.params[j]? = some t → Tryd.pinned.checked.prog.wantsStandIn t = false := by
  obtain rfl : f = 3 := Option.some.inj ((show Tryd.prog.funcNamed "jitney/jitneylaw24.TicketBack" = some 3 by kernel_rfl).symm.trans hf) |>.symm
  obtain rfl : fn = Tryd.f3 := (Option.some.inj (Tryd.func3.symm.trans hfn)).symm
  refine ⟨by kernel_rfl, fun j t ht => ?_⟩
  rw [Tryd.params3] at ht
  have hm := Array.mem_of_getElem? ht
  simp only [List.mem_toArray, List.mem_cons, List.not_mem_nil, or_false] at hm
  rcases hm with rfl
  · exact (show Tryd.prog.wantsStandIn 22 = false by kernel_rfl)

/-- THE CARD -/
theorem card : Rows.TicketBackCardSaid :=
  Claim7.holds_tied_plain_at .later [] _ _ _ _ said (fun _ h => by cases h) (by kernel_rfl) (fun _ h => by cases h) ticketBack_row_tie rfl ⟨rfl, rfl⟩ (by kernel_rfl) rfl plain (by kernel_rfl)
#print axioms card
end Go.Proofs.YtjmingdlfihmaaaDoor.ticketBack
