/- TabuPlays: whatever the input, the law returns true, and each argument reads as it read before. No conditions but the row's own. -/
import Derived.Test.YtjfagekdeapiaaaRows
import Derived.WalkKit
import Derived.ProofKit
import Derived.ShutString
import Derived.ChangeOld
import Derived.Below
import Derived.OpenShut
import Derived.Lib.SmallJoins
import Derived.Test.YtjfagekdeapiaaaTabLaw
import Derived.Deep.DeepCutAuto
import Derived.Outline
import Derived.Deep.CutBlock
import Derived.Deep.RegionHeld3
namespace Go.Proofs.Ytjfagekdeapiaaa.tabuPlays
open Go.ChangeShapes Go.WideShapes Go.ChangeAt Go.RowKit Go.Joins
open Go.ChangeMaps (open_string shut_string)
set_option linter.unusedVariables false

theorem own : ownKnob Try.prog.godebug = none := by kernel_rfl
theorem laidOut : laidOutB Try.prog = true := by kernel_rfl
open Tab Go.Lib
/-- a table and a row of bans that the call has made -/
structure Ps (w : World) (T : Nat) (B : Option Nat) (a : Option Addr) (l : List E) (wr : World) : Prop where
  tb : Tb w T B l wr
  row : IsL wr a l
  ne : ∀ x, a = some x → x.block ≠ T
theorem Ps.bel {w wr w' : World} {T : Nat} {B : Option Nat} {a : Option Addr} {l : List E} (h : Ps w T B a l wr) (hb : Below wr.heap.size wr w') : Ps w T B a l w' := ⟨h.tb.bel hb, h.row.below hb, h.ne⟩
theorem ps_start {w w1 : World} (hb : Below w.heap.size w w1) : Ps w w1.heap.size none (some ⟨w1.heap.size + 1, 0, none⟩) [] ((w1.alloc (.cells #[.map none] 26)).alloc (.cells #[] 54)) :=
  ⟨(Tb.start hb).bel (below_alloc _ _), .inl rfl, fun x e => by cases e; show w1.heap.size + 1 ≠ w1.heap.size; omega⟩
/-- what a round's row holds -/
structure Pk (w : World) (T : Nat) (B : Option Nat) (a : Option Addr) (l : List E) (P : Nat) (r t u : Int) (wr : World) : Prop where
  ps : Ps w T B a l wr
  c1 : wr.cell? ⟨P, 1, none⟩ = some (.int .i64 r)
  c2 : wr.cell? ⟨P, 2, none⟩ = some (.int .i64 t)
  c3 : wr.cell? ⟨P, 3, none⟩ = some (.int .i64 u)
section
variable {w wr w' : World} {T P : Nat} {B B' : Option Nat} {a a' : Option Addr} {l l' : List E} {r t u : Int}
theorem Pk.bel (h : Pk w T B a l P r t u wr) (hb : Below wr.heap.size wr w') : Pk w T B a l P r t u w' :=
  ⟨h.ps.bel hb, (hb.cell (p := ⟨P, 1, none⟩) (World.block_lt_of_cell? _ _ h.c1)).trans h.c1, (hb.cell (p := ⟨P, 2, none⟩) (World.block_lt_of_cell? _ _ h.c2)).trans h.c2, (hb.cell (p := ⟨P, 3, none⟩) (World.block_lt_of_cell? _ _ h.c3)).trans h.c3⟩
theorem Pk.drew (h : Pk w T B a l P r t u wr) : Pk w T B a l P r t u wr.drew := h.bel (Below.refl _ _).drew
theorem Pk.all (h : Pk w T B a l P r t u wr) : Pk w T B a l P r t u wr ∧ wr.cell? ⟨P, 1, none⟩ = some (.int .i64 r) ∧ wr.cell? ⟨P, 2, none⟩ = some (.int .i64 t) ∧ wr.cell? ⟨P, 3, none⟩ = some (.int .i64 u) := ⟨h, h.c1, h.c2, h.c3⟩
theorem Pk.tab (h : Pk w T B a l P r t u wr) : At wr T B l := h.ps.tb.tab
theorem Pk.row (h : Pk w T B a l P r t u wr) : IsL wr a l := h.ps.row
/-- the table turns, the row and the round's own block stay -/
theorem Pk.tur (h : Pk w T B a l P r t u wr) (hTb : Tb w T B' l' w') (ht : Tur T B wr w') (hP : P ≠ T) : (Tb w T B' l' w' ∧ IsL w' a l ∧ (∀ x, a = some x → x.block ≠ T)) ∧ w'.cell? ⟨P, 1, none⟩ = some (.int .i64 r) ∧ w'.cell? ⟨P, 2, none⟩ = some (.int .i64 t) ∧ w'.cell? ⟨P, 3, none⟩ = some (.int .i64 u) := by
  have hlt := World.block_lt_of_cell? _ _ h.c1
  have hn := h.tab.notCells h.c1
  exact ⟨⟨hTb, h.row.tur h.tab ht h.ps.ne, h.ps.ne⟩, (ht.cell hlt hP hn).trans h.c1, (ht.cell hlt hP hn).trans h.c2, (ht.cell hlt hP hn).trans h.c3⟩
end
/-- does a step forbid? -/
def bans3 (k : Int) : Bool := decide (k = 0) || (decide (k = 1) || decide (k = 2))
set_option maxHeartbeats 4000000 in
set_option maxRecDepth 100000 in
theorem walk (w : World) (b0 : Option Addr) (len0 cap0 : Nat) (k0 r0 t0 u0 : Nat → Int) (w0 : IsOps w b0 len0 k0 r0 t0 u0) (x0 : len0 ≤ maxLen) :
    Calls Try.prog 3 #[.slice b0 len0 cap0] w fun e w' => e = .returned (.bool true) ∧ Below w.heap.size w w' := by
  by_cases hl : 100 < len0
  · go_enter Try.func3, Try.ntmps3
    go_wp2_with fail
    refine (alive_any _).mono ?_
    rintro e z1 ⟨rfl, hb⟩
    have HB := Lib.hid hb; clear hb
    go_wp2_with fail
    go_ret
    exact ⟨rfl, HB.out⟩
  · have HG := Lib.hid w0; clear w0
    go_enter Try.func3, Try.ntmps3
    go_wp2_with fail
    refine (alive_any _).mono ?_
    rintro e z1 ⟨rfl, hb⟩
    have HS0 := Lib.hid (ps_start hb)
    clear hb
    go_wp2_with fail
    obtain ⟨T, hT⟩ : ∃ T, T = z1.heap.size := ⟨_, rfl⟩
    rw [← hT] at HS0 ⊢
    obtain ⟨S, hS⟩ : ∃ S, S = T + 1 := ⟨_, rfl⟩
    rw [← hS] at HS0 ⊢
    clear hT hS
    go_loopg [4, 6, 7, 8, 17] len0 (fun gg s4 _ _ _ s17 wr => ∃ (k : Nat) (a : Option Addr) (n c : Nat) (B : Option Nat) (l : List E), k ≤ len0 ∧ len0 - k ≤ gg ∧ s4 = .slice a n c ∧ s17 = .int .i64 k ∧ n = l.length ∧ l.length ≤ k ∧ Hid (Ps w T B a l wr))
    case atStart => exact ⟨0, _, _, _, none, [], Nat.zero_le _, by omega, rfl, rfl, rfl, Nat.le_refl _, HS0⟩
    case round =>
      obtain ⟨k, a, n, c, B, l, hk, hg, rfl, rfl, hnl, hlk, HS⟩ := hrel
      by_cases hlt : k < len0
      · rcases HG.out with h0 | ⟨b, off, rfl, hb, hmx, hc⟩
        · omega
        obtain ⟨⟨c0, c1, c2, c3⟩, wr0, wt0, wu0⟩ := hc k hlt
        have hbw := HS.out.tb.below
        have d0 := (hbw.cell hb).trans c0
        have d1 := (hbw.cell hb).trans c1
        have d2 := (hbw.cell hb).trans c2
        have d3 := (hbw.cell hb).trans c3
        clear hc hmx c0 c1 c2 c3 hbw
        obtain ⟨kk, hkk⟩ : ∃ x, x = k0 k := ⟨_, rfl⟩
        obtain ⟨r, hr⟩ : ∃ x, x = r0 k := ⟨_, rfl⟩
        obtain ⟨t, ht⟩ : ∃ x, x = t0 k := ⟨_, rfl⟩
        obtain ⟨u, hu⟩ : ∃ x, x = u0 k := ⟨_, rfl⟩
        rw [← hkk] at d0
        rw [← hr] at d1 wr0
        rw [← ht] at d2 wt0
        rw [← hu] at d3 wu0
        clear hkk hr ht hu
        have HPK := Lib.hid (show Pk w T B a l wr.heap.size r t u (wr.alloc (.cells #[.int .i64 kk, .int .i64 r, .int .i64 t, .int .i64 u] 29)) from
          ⟨HS.out.bel (below_alloc _ _), four_cells.2.1, four_cells.2.2.1, four_cells.2.2.2⟩)
        have q0 := (four_cells (w := wr) (x := .int .i64 kk) (y := .int .i64 r) (z := .int .i64 t) (v := .int .i64 u) (t := 29)).1
        have hTN : T < wr.heap.size := HS.out.tb.tab.lt
        go_upto_block 2 with fail
        obtain ⟨W, hW⟩ : ∃ W, W = wr.alloc (.cells #[.int .i64 kk, .int .i64 r, .int .i64 t, .int .i64 u] 29) := ⟨_, rfl⟩
        rw [← hW] at HPK ⊢
        obtain ⟨P, hP⟩ : ∃ P, P = wr.heap.size := ⟨_, rfl⟩
        rw [← hP] at HPK hTN ⊢
        have hPT : P ≠ T := by omega
        clear hP hW q0 d0 d1 d2 d3
        go_cut [4, 7, 8, 23, 42] (fun s4 s7 s8 s23 s42 wx => ∃ (a' : Option Addr) (n' c' : Nat) (B' : Option Nat) (l' : List E), s4 = .slice a' n' c' ∧ n' = l'.length ∧ l'.length ≤ k + 1 ∧ Hid (Pk w T B' a' l' P r t u wx))
        case first =>
          go_upto_if 23 with fail
          go_cut [23] (fun s23 wx => s23 = .bool (bans3 kk) ∧ wx = W)
          case first =>
            by_cases e0 : kk = 0
            · subst e0
              go_wp2_with fail
              go_meet
              exact ⟨rfl, rfl⟩
            · by_cases e1 : kk = 1
              · subst e1
                go_wp2_with fail
                go_meet
                exact ⟨rfl, rfl⟩
              · by_cases e2 : kk = 2
                · subst e2
                  go_wp2_with fail
                  go_meet
                  exact ⟨rfl, rfl⟩
                · have HB3 := Lib.hid (show bans3 kk = false by simp [bans3, e0, e1, e2])
                  have z0 : (kk == 0) = false := by simpa using e0
                  have z1 : (kk == 1) = false := by simpa using e1
                  have z2 : (kk == 2) = false := by simpa using e2
                  go_wp2_with fail
                  go_meet
                  exact ⟨by rw [HB3.out], rfl⟩
          case rest =>
            obtain ⟨rfl, rfl⟩ := hcut
            obtain ⟨bt, hbt⟩ : ∃ bt, bt = bans3 kk := ⟨_, rfl⟩
            rw [← hbt]
            have HBT := Lib.hid hbt
            clear hbt
            go_upto_if 23 with fail
            cases bt with
            | true =>
              have c1 := HPK.out.c1
              have c2 := HPK.out.c2
              have c3 := HPK.out.c3
              go_wp2_with fail
              refine (ban_any _ _ _ _ _ _ _ HPK.out.tab (by omega) wr0 wt0 wu0).mono ?_
              rintro e z2 hb2
              obtain ⟨B', hT2⟩ := HPK.out.ps.tb.ban hb2
              have hre := hb2.1
              subst hre
              obtain ⟨⟨_, hrow, hne⟩, k1, k2, k3⟩ := HPK.out.tur hT2 hb2.2.1 hPT
              have HT2 := Lib.hid hT2
              have HROW := Lib.hid hrow
              clear hT2 hb2 c1 c2 c3 hrow hne
              rw [hnl]
              go_wp2_with fail
              refine (refBan_any _ _ l _ _ _ _ HROW.out (by omega)).mono ?_
              rintro e z3 ⟨a', c', rfl, hb3, hrow3, hne3⟩
              have HK3 := Lib.hid (show Pk w T B' a' (ban l r t u) P r t u z3 from ⟨⟨HT2.out.bel hb3, hrow3, fun x hx => by have := hne3 x hx; have := HT2.out.tab.lt; omega⟩, (hb3.cell (p := ⟨P, 1, none⟩) (World.block_lt_of_cell? _ _ k1)).trans k1, (hb3.cell (p := ⟨P, 2, none⟩) (World.block_lt_of_cell? _ _ k2)).trans k2, (hb3.cell (p := ⟨P, 3, none⟩) (World.block_lt_of_cell? _ _ k3)).trans k3⟩)
              have hbl := ban_le l r t u
              have HBL := Lib.hid (show (ban l r t u).length ≤ k + 1 by omega)
              clear hb3 hrow3 hne3 k1 k2 k3 hbl
              go_wp2_with fail
              go_meet
              exact ⟨a', _, c', B', _, rfl, rfl, HBL.out, HK3⟩
            | false =>
              by_cases e4 : kk = 4
              · subst e4
                have c3 := HPK.out.c3
                go_wp2_with fail
                refine (sweep_any _ _ _ _ _ HPK.out.tab (by omega)).mono ?_
                rintro e z2 ⟨rfl, hA, ht⟩
                have hT2 := HPK.out.ps.tb.turSame hA ht
                obtain ⟨⟨_, hrow, hne⟩, k1, k2, k3⟩ := HPK.out.tur hT2 ht hPT
                have HT2 := Lib.hid hT2
                have HROW := Lib.hid hrow
                have HLE := Lib.hid (live_le u l)
                clear hT2 hA ht c3 hrow hne
                rw [hnl]
                go_wp2_with fail
                refine (refLive_any _ _ l _ _ HROW.out (by omega)).mono ?_
                rintro e z3 ⟨a', c', rfl, hb3, hrow3, hne3⟩
                have HK3 := Lib.hid (show Pk w T B a' (live u l) P r t u z3 from ⟨⟨HT2.out.bel hb3, hrow3, fun x hx => by have := hne3 x hx; have := HT2.out.tab.lt; omega⟩, (hb3.cell (p := ⟨P, 1, none⟩) (World.block_lt_of_cell? _ _ k1)).trans k1, (hb3.cell (p := ⟨P, 2, none⟩) (World.block_lt_of_cell? _ _ k2)).trans k2, (hb3.cell (p := ⟨P, 3, none⟩) (World.block_lt_of_cell? _ _ k3)).trans k3⟩)
                clear hb3 hrow3 hne3 k1 k2 k3
                obtain ⟨m, hm⟩ : ∃ m, m = (live u l).length := ⟨_, rfl⟩
                have HM := Lib.hid hm
                rw [← hm]
                have hml : m ≤ l.length := by rw [hm]; exact HLE.out
                clear hm
                go_wp2_with fail
                go_meet
                exact ⟨a', m, c', B, _, rfl, HM.out, by have := HLE.out; omega, HK3⟩
              · have z4 : (kk == 4) = false := by simpa using e4
                go_wp2_with fail
                go_meet
                exact ⟨a, n, c, B, l, rfl, hnl, by omega, HPK⟩
        case rest =>
          obtain ⟨a', n', c', B', l', rfl, hn', hl', HK⟩ := hcut
          clear hnl hlk HPK HS
          subst hn'
          have hbl2 := live_le u l'
          obtain ⟨q, hq⟩ : ∃ q, q = (live u l').length := ⟨_, rfl⟩
          rw [← hq] at hbl2
          obtain ⟨p, hp⟩ : ∃ p, p = isB l' r t u := ⟨_, rfl⟩
          have HIS := Lib.hid (show ∀ W, Pk w T B' a' l' P r t u W → Calls Try.prog 13 #[.pointer (some ⟨T, 0, none⟩), .int .i64 r, .int .i64 t, .int .i64 u] W fun e w' => e = .returned (.bool p) ∧ W = w' from fun W h => by rw [hp]; exact is_any T B' l' r t u W h.tab wr0 wt0)
          have HRI := Lib.hid (show ∀ W, Pk w T B' a' l' P r t u W → Calls Try.prog 14 #[.slice a' l'.length c', .int .i64 r, .int .i64 t, .int .i64 u] W fun e w' => e = .returned (.bool p) ∧ W = w' from fun W h => by rw [hp]; exact refIs_any a' c' l' r t u W h.row (by omega))
          have HCN := Lib.hid (show ∀ W, Pk w T B' a' l' P r t u W → Calls Try.prog 15 #[.pointer (some ⟨T, 0, none⟩), .int .i64 u] W fun e w' => e = .returned (.int .i64 (q : Int)) ∧ Below W.heap.size W w' from fun W h => by rw [hq]; exact count_any T B' l' u W h.tab (by omega))
          have HRL := Lib.hid (show ∀ W, Pk w T B' a' l' P r t u W → Calls Try.prog 12 #[.slice a' l'.length c', .int .i64 u] W fun e w' => ∃ a2 c2, e = .returned (.slice a2 q c2) ∧ Below W.heap.size W w' from fun W h => (refLive_any a' c' l' u W h.row (by omega)).mono fun e w' ⟨a2, c2, h1, h2, _⟩ => ⟨a2, c2, by rw [hq]; exact h1, h2⟩)
          clear hp hq
          go_upto_region 22 with fail
          go_cut [85] (fun s85 wx => s85 = .bool false ∧ Hid (Pk w T B' a' l' P r t u wx))
          case first =>
            obtain ⟨KK, c1, c2, c3⟩ := HK.out.all
            cases p with
            | true =>
              go_region_held3 (fun w' => Pk w T B' a' l' P r t u w' ∧ w'.cell? ⟨P, 1, none⟩ = some (.int .i64 r) ∧ w'.cell? ⟨P, 2, none⟩ = some (.int .i64 t) ∧ w'.cell? ⟨P, 3, none⟩ = some (.int .i64 u))
                (first
                  | exact Pk.all ‹Pk w T B' a' l' P r t u _›
                  | exact Pk.all (Pk.drew (And.left ‹Pk w T B' a' l' P r t u _ ∧ _›))
                  | exact Pk.all (Pk.drew ‹Pk w T B' a' l' P r t u _›))
                (first
                  | (go_at_call 13; (with_reducible refine (HIS.out _ (And.left ‹Pk w T B' a' l' P r t u _ ∧ _›)).mono ?_); rintro e w' ⟨rfl, rfl⟩)
                  | (go_at_call 14; (with_reducible refine (HRI.out _ (And.left ‹Pk w T B' a' l' P r t u _ ∧ _›)).mono ?_); rintro e w' ⟨rfl, rfl⟩)
                  | (go_at_call 15; (with_reducible refine (HCN.out _ (And.left ‹Pk w T B' a' l' P r t u _ ∧ _›)).mono ?_); rintro e w' ⟨rfl, hb⟩; have hka := Pk.bel (And.left ‹Pk w T B' a' l' P r t u _ ∧ _›) hb; clear hb)
                  | (go_at_call 12; (with_reducible refine (HRL.out _ (And.left ‹Pk w T B' a' l' P r t u _ ∧ _›)).mono ?_); rintro e w' ⟨a2, cc2, rfl, hb⟩; have hka := Pk.bel (And.left ‹Pk w T B' a' l' P r t u _ ∧ _›) hb; clear hb))
              all_goals
                go_wp2_with fail
                go_meet
                exact ⟨rfl, Lib.hid (And.left ‹Pk w T B' a' l' P r t u _ ∧ _›)⟩
            | false =>
              go_region_held3 (fun w' => Pk w T B' a' l' P r t u w' ∧ w'.cell? ⟨P, 1, none⟩ = some (.int .i64 r) ∧ w'.cell? ⟨P, 2, none⟩ = some (.int .i64 t) ∧ w'.cell? ⟨P, 3, none⟩ = some (.int .i64 u))
                (first
                  | exact Pk.all ‹Pk w T B' a' l' P r t u _›
                  | exact Pk.all (Pk.drew (And.left ‹Pk w T B' a' l' P r t u _ ∧ _›))
                  | exact Pk.all (Pk.drew ‹Pk w T B' a' l' P r t u _›))
                (first
                  | (go_at_call 13; (with_reducible refine (HIS.out _ (And.left ‹Pk w T B' a' l' P r t u _ ∧ _›)).mono ?_); rintro e w' ⟨rfl, rfl⟩)
                  | (go_at_call 14; (with_reducible refine (HRI.out _ (And.left ‹Pk w T B' a' l' P r t u _ ∧ _›)).mono ?_); rintro e w' ⟨rfl, rfl⟩)
                  | (go_at_call 15; (with_reducible refine (HCN.out _ (And.left ‹Pk w T B' a' l' P r t u _ ∧ _›)).mono ?_); rintro e w' ⟨rfl, hb⟩; have hka := Pk.bel (And.left ‹Pk w T B' a' l' P r t u _ ∧ _›) hb; clear hb)
                  | (go_at_call 12; (with_reducible refine (HRL.out _ (And.left ‹Pk w T B' a' l' P r t u _ ∧ _›)).mono ?_); rintro e w' ⟨a2, cc2, rfl, hb⟩; have hka := Pk.bel (And.left ‹Pk w T B' a' l' P r t u _ ∧ _›) hb; clear hb))
              all_goals
                go_wp2_with fail
                go_meet
                exact ⟨rfl, Lib.hid (And.left ‹Pk w T B' a' l' P r t u _ ∧ _›)⟩
          case rest =>
            obtain ⟨rfl, HK2⟩ := hcut
            go_wp2_with fail
            go_roundg (len0 - (k + 1))
            case measure => omega
            case rel => exact ⟨k + 1, a', _, c', B', l', by omega, by omega, rfl, by go_num, rfl, hl', Lib.hid HK2.out.ps⟩
      · have hkm : k = len0 := by omega
        rw [hkm] at hk ⊢
        clear hlt hkm
        go_wp2_with fail
        go_ret
        exact ⟨rfl, HS.out.tb.below⟩

set_option maxRecDepth 100000 in
theorem lifted (os : Os) (started : os.Started) (H : Type) (enc : TypeId × Value → H) :
    ReturnsInHanded {} Try.checked os 3 .any (Rows.tabuPlaysSpec.pre6 enc Try.prog Try.f3 Rows.tabuPlaysRow.domain false) (Rows.tabuPlaysSpec.post enc Try.prog Try.f3 false true false false) := by
  refine returnsInHanded_of_change (C := Try.checked) own started (by kernel_rfl) Try.func3
    (ChangeSpec.witness6 (enc := enc) (C := Try.checked) false ⟨#[], #[.slice none 0 0], []⟩ 8 (by kernel_rfl) (by kernel_rfl) (by kernel_rfl) (by kernel_rfl)) ?_
  intro W base args ds gs before hval0 hW hcnd _
  have hval : ∀ (j : Nat) t v, Try.f3.params[j]? = some t → args[j]? = some v → Value.okWide Try.prog W .any base t v := hval0
  have hW' := hW
  obtain ⟨p, q, hA0, hV, rfl, hfz, hnd⟩ := hW
  have hA : DataW.TrodAll enc Try.prog W 0 (fun _ => true) true Try.f3.params.toList args.toList ds p := hA0
  rw [Try.params3] at hA hval
  obtain ⟨v0, vs0, d0, ds0, p0, q0, hargs, rfl, rfl, h0, r0⟩ := trodAll_cons hA
  obtain ⟨rfl, rfl, rfl⟩ := trodAll_nil r0
  obtain rfl : args = #[v0] := by cases args; simp_all
  obtain ⟨rfl, rfl⟩ := trodVars_none hV
  have k0 := h0
  have lt0 : ∀ x ∈ p0, x.block < W.heap.size := by obtain ⟨m, hm⟩ := k0; exact DataW.trod_lt m _ _ _ hm
  obtain ⟨b0, len0, cap0, rfl⟩ := okWide_slice Try.underlying22 (hval 0 22 v0 rfl rfl)
  obtain ⟨K0, X0, Y0, Z0, w0⟩ := isOps_of Try.underlying22 Try.underlying29 cellsOp Try.underlying3 cellsInt h0
  have x0 : len0 ≤ maxLen := by
    rcases w0 with h | ⟨_, _, _, _, h, _⟩
    · rw [h]; exact Nat.zero_le _
    · exact h
  clear hA0 hval0
  refine (walk W b0 len0 cap0 K0 X0 Y0 Z0 w0 x0).mono fun e W' ⟨he, bel⟩ => ?_
  subst he
  exact ⟨_, rfl, _, _, _, [], _, [], hW', trodAll_mk1 (shut_bool Try.underlying4 _), (trodAll_cons_mk (Below.trod laidOut (by kernel_rfl) (of_decide_eq_true (by kernel_rfl)) k0 bel lt0) trodAll_mk0), rfl, bel.frame _, fun h => by cases h⟩

theorem over : Rows.tabuPlaysRow.holds Try.pinned (OpenSpec.ofChange Rows.tabuPlaysSpec) :=
  OpenClaim.holds_of_wide 3 Try.f3 rfl rfl rfl rfl rfl rfl rfl ⟨rfl, rfl, rfl, rfl, rfl⟩ rfl rfl rfl rfl rfl (by kernel_rfl) Try.func3 (by kernel_rfl)
    (of_decide_eq_true (by kernel_rfl)) (by unfold Func.isWrapper; first | (rw [if_pos (by decide +kernel)]; kernel_rfl) | (rw [if_neg (by decide +kernel)]; exact ⟨rfl, rfl⟩))
    (fun os started H enc _ => lifted os started H enc)

/-- THE STATEMENT -/
theorem proved : Rows.TabuPlaysSaid := over
#print axioms proved
end Go.Proofs.Ytjfagekdeapiaaa.tabuPlays
