/- TabuOrders: whatever the input, the law returns true, and each argument reads as it read before. No conditions but the row's own. -/
import Derived.Test.YtjfagekdeapiaaaRows
import Derived.WalkKit
import Derived.ProofKit
import Derived.ShutString
import Derived.ChangeOld
import Derived.Below
import Derived.OpenShut
import Derived.Lib.SmallJoins
import Derived.Test.YtjfagekdeapiaaaTabLaw
import Derived.Deep.DeepCutAuto
import Derived.Outline
namespace Go.Proofs.Ytjfagekdeapiaaa.tabuOrders
open Go.ChangeShapes Go.WideShapes Go.ChangeAt Go.RowKit Go.Joins
open Go.ChangeMaps (open_string shut_string)
set_option linter.unusedVariables false

theorem own : ownKnob Try.prog.godebug = none := by kernel_rfl
theorem laidOut : laidOutB Try.prog = true := by kernel_rfl
open Tab Go.Lib
/-- two tables that the call has made -/
structure Two (w : World) (T S : Nat) (B C : Option Nat) (l m : List E) (wr : World) : Prop where
  one : Tb w T B l wr
  two : Tb w S C m wr
  ne : T ≠ S
  apart : ∀ b, B = some b → C ≠ some b
section
variable {w wr w' : World} {T S : Nat} {B C : Option Nat} {l m : List E}
theorem Two.bel (h : Two w T S B C l m wr) (hb : Below wr.heap.size wr w') : Two w T S B C l m w' := ⟨h.one.bel hb, h.two.bel hb, h.ne, h.apart⟩
theorem Two.ban1 {r t u : Int} {e : Ending} (h : Two w T S B C l m wr) (hb : BanP T B (ban l r t u) wr e w') : ∃ B', Two w T S B' C (ban l r t u) m w' := by
  obtain ⟨_, ht, b, hA, hb'⟩ := hb
  refine ⟨some b, h.one.tur hA ht (.inr ⟨b, rfl, hb'⟩), ⟨h.two.tab.tur h.one.tab ht (Ne.symm h.ne) (fun c e f => h.apart c f e), h.two.below.trans (ht.below h.one.below.size h.one.hT h.one.hB), h.two.hT, h.two.hB⟩, h.ne, fun c e => ?_⟩
  cases e
  rcases hb' with h1 | h1
  · exact h.apart b h1
  · intro f; have := h.two.tab.blt f; omega
theorem Two.ban2 {r t u : Int} {e : Ending} (h : Two w T S B C l m wr) (hb : BanP S C (ban m r t u) wr e w') : ∃ C', Two w T S B C' l (ban m r t u) w' := by
  obtain ⟨_, ht, b, hA, hb'⟩ := hb
  refine ⟨some b, ⟨h.one.tab.tur h.two.tab ht h.ne h.apart, h.one.below.trans (ht.below h.two.below.size h.two.hT h.two.hB), h.one.hT, h.one.hB⟩, h.two.tur hA ht (.inr ⟨b, rfl, hb'⟩), h.ne, fun c e f => ?_⟩
  cases f
  rcases hb' with h1 | h1
  · exact h.apart b e h1
  · have := h.one.tab.blt e; omega
theorem Two.start {w1 : World} (hb : Below w.heap.size w w1) : Two w w1.heap.size (w1.heap.size + 1) none none [] [] ((w1.alloc (.cells #[.map none] 26)).alloc (.cells #[.map none] 26)) := by
  have h1 := Tb.start hb
  have h2 := Tb.start h1.below
  rw [World.size_alloc] at h2
  exact ⟨h1.bel (below_alloc _ _), h2, by omega, fun b e => by cases e⟩
end
/-- what the two blocks of a round hold -/
structure Pair (N P Q : Nat) (k r t u k' r' t' u' : Int) (wx : World) : Prop where
  p0 : wx.cell? ⟨P, 0, none⟩ = some (.int .i64 k)
  p1 : wx.cell? ⟨P, 1, none⟩ = some (.int .i64 r)
  p2 : wx.cell? ⟨P, 2, none⟩ = some (.int .i64 t)
  p3 : wx.cell? ⟨P, 3, none⟩ = some (.int .i64 u)
  q0 : wx.cell? ⟨Q, 0, none⟩ = some (.int .i64 k')
  q1 : wx.cell? ⟨Q, 1, none⟩ = some (.int .i64 r')
  q2 : wx.cell? ⟨Q, 2, none⟩ = some (.int .i64 t')
  q3 : wx.cell? ⟨Q, 3, none⟩ = some (.int .i64 u')
  hP : N ≤ P
  hQ : N ≤ Q
section
variable {N P Q : Nat} {k r t u k' r' t' u' : Int} {wx w' : World}
theorem Pair.tur {T : Nat} {B : Option Nat} {l : List E} (h : Pair N P Q k r t u k' r' t' u' wx) (hA : At wx T B l) (ht : Tur T B wx w') (hT : T < N) : Pair N P Q k r t u k' r' t' u' w' := by
  have h1 := h.hP
  have h2 := h.hQ
  have cP : ∀ o, w'.cell? ⟨P, o, none⟩ = wx.cell? ⟨P, o, none⟩ := fun o => ht.cell (World.block_lt_of_cell? _ _ h.p0) (by omega) (hA.notCells h.p0)
  have cQ : ∀ o, w'.cell? ⟨Q, o, none⟩ = wx.cell? ⟨Q, o, none⟩ := fun o => ht.cell (World.block_lt_of_cell? _ _ h.q0) (by omega) (hA.notCells h.q0)
  exact ⟨(cP _).trans h.p0, (cP _).trans h.p1, (cP _).trans h.p2, (cP _).trans h.p3, (cQ _).trans h.q0, (cQ _).trans h.q1, (cQ _).trans h.q2, (cQ _).trans h.q3, h1, h2⟩
theorem below_two (w : World) (a b : Obj) : Below w.heap.size w ((w.alloc a).alloc b).drew := ((below_alloc w a).alloc (by simp) b).drew
theorem four_first (w : World) (x y z v : Value) (s : TypeId) (o : Obj) : ((w.alloc (.cells #[x, y, z, v] s)).alloc o).drew.cell? ⟨w.heap.size, 0, none⟩ = some x ∧ ((w.alloc (.cells #[x, y, z, v] s)).alloc o).drew.cell? ⟨w.heap.size, 1, none⟩ = some y ∧
    ((w.alloc (.cells #[x, y, z, v] s)).alloc o).drew.cell? ⟨w.heap.size, 2, none⟩ = some z ∧ ((w.alloc (.cells #[x, y, z, v] s)).alloc o).drew.cell? ⟨w.heap.size, 3, none⟩ = some v := by
  have hb := (below_alloc (w.alloc (.cells #[x, y, z, v] s)) o).drew
  obtain ⟨h0, h1, h2, h3⟩ := four_cells (w := w) (x := x) (y := y) (z := z) (v := v) (t := s)
  exact ⟨(hb.cell (p := ⟨w.heap.size, 0, none⟩) (by simp)).trans h0, (hb.cell (p := ⟨w.heap.size, 1, none⟩) (by simp)).trans h1, (hb.cell (p := ⟨w.heap.size, 2, none⟩) (by simp)).trans h2, (hb.cell (p := ⟨w.heap.size, 3, none⟩) (by simp)).trans h3⟩
theorem four_second (w : World) (x y z v : Value) (s : TypeId) (o : Obj) : ((w.alloc o).alloc (.cells #[x, y, z, v] s)).drew.cell? ⟨w.heap.size + 1, 0, none⟩ = some x ∧ ((w.alloc o).alloc (.cells #[x, y, z, v] s)).drew.cell? ⟨w.heap.size + 1, 1, none⟩ = some y ∧
    ((w.alloc o).alloc (.cells #[x, y, z, v] s)).drew.cell? ⟨w.heap.size + 1, 2, none⟩ = some z ∧ ((w.alloc o).alloc (.cells #[x, y, z, v] s)).drew.cell? ⟨w.heap.size + 1, 3, none⟩ = some v := by
  have h := four_cells (w := w.alloc o) (x := x) (y := y) (z := z) (v := v) (t := s)
  rw [World.size_alloc] at h
  exact h
theorem pair_first (w : World) (s : TypeId) : Pair w.heap.size w.heap.size (w.heap.size + 1) k r t u k' r' t' u' ((w.alloc (.cells #[.int .i64 k, .int .i64 r, .int .i64 t, .int .i64 u] s)).alloc (.cells #[.int .i64 k', .int .i64 r', .int .i64 t', .int .i64 u'] s)).drew := by
  obtain ⟨h0, h1, h2, h3⟩ := four_first w (.int .i64 k) (.int .i64 r) (.int .i64 t) (.int .i64 u) s (.cells #[.int .i64 k', .int .i64 r', .int .i64 t', .int .i64 u'] s)
  obtain ⟨g0, g1, g2, g3⟩ := four_second w (.int .i64 k') (.int .i64 r') (.int .i64 t') (.int .i64 u') s (.cells #[.int .i64 k, .int .i64 r, .int .i64 t, .int .i64 u] s)
  exact ⟨h0, h1, h2, h3, g0, g1, g2, g3, Nat.le_refl _, by omega⟩
theorem pair_second (w : World) (s : TypeId) : Pair w.heap.size (w.heap.size + 1) w.heap.size k r t u k' r' t' u' ((w.alloc (.cells #[.int .i64 k', .int .i64 r', .int .i64 t', .int .i64 u'] s)).alloc (.cells #[.int .i64 k, .int .i64 r, .int .i64 t, .int .i64 u] s)).drew := by
  obtain ⟨g0, g1, g2, g3⟩ := four_first w (.int .i64 k') (.int .i64 r') (.int .i64 t') (.int .i64 u') s (.cells #[.int .i64 k, .int .i64 r, .int .i64 t, .int .i64 u] s)
  obtain ⟨h0, h1, h2, h3⟩ := four_second w (.int .i64 k) (.int .i64 r) (.int .i64 t) (.int .i64 u) s (.cells #[.int .i64 k', .int .i64 r', .int .i64 t', .int .i64 u'] s)
  exact ⟨h0, h1, h2, h3, g0, g1, g2, g3, by omega, Nat.le_refl _⟩
end
set_option maxHeartbeats 4000000 in
set_option maxRecDepth 100000 in
theorem walk (w : World) (b0 : Option Addr) (len0 cap0 : Nat) (k0 r0 t0 u0 : Nat → Int) (w0 : IsOps w b0 len0 k0 r0 t0 u0) (x0 : len0 ≤ maxLen) (a1 : Int) (w1 : (Lit.int .i64 a1).wf = true) (a2 : Int) (w2 : (Lit.int .i64 a2).wf = true) (a3 : Int) (w3 : (Lit.int .i64 a3).wf = true) :
    Calls Try.prog 6 #[.slice b0 len0 cap0, .int .i64 a1, .int .i64 a2, .int .i64 a3] w fun e w' => e = .returned (.bool true) ∧ Below w.heap.size w w' := by
  by_cases hl : 60 < len0
  · go_enter Try.func6, Try.ntmps6
    go_wp2_with fail
    refine (alive_any _).mono ?_
    rintro e z1 ⟨rfl, hb⟩
    have HB := Lib.hid hb; clear hb
    go_wp2_with fail
    go_ret
    exact ⟨rfl, HB.out⟩
  · have HG := Lib.hid w0; clear w0
    go_enter Try.func6, Try.ntmps6
    go_wp2_with fail
    refine (alive_any _).mono ?_
    rintro e z1 ⟨rfl, hb⟩
    have HS0 := Lib.hid (Two.start hb)
    clear hb
    go_wp2_with fail
    obtain ⟨T, hT⟩ : ∃ T, T = z1.heap.size := ⟨_, rfl⟩
    rw [← hT] at HS0 ⊢
    obtain ⟨S, hS⟩ : ∃ S, S = T + 1 := ⟨_, rfl⟩
    rw [← hS] at HS0 ⊢
    clear hT hS
    go_loopg [11, 12, 13, 14, 15, 23] len0 (fun gg s11 s12 _ _ _ s23 wr => ∃ (k : Nat) (g : Int) (d : Bool) (B C : Option Nat), k ≤ len0 ∧ len0 - k ≤ gg ∧ s11 = .int .i64 g ∧ s12 = .bool d ∧ s23 = .int .i64 k ∧ Hid (lon r0 t0 u0 a1 a2 k = (g, d)) ∧
      Hid (Two w T S B C (bans r0 t0 u0 k) (bans (fun i => r0 (len0 - 1 - i)) (fun i => t0 (len0 - 1 - i)) (fun i => u0 (len0 - 1 - i)) k) wr))
    case atStart => exact ⟨0, 0, false, none, none, Nat.zero_le _, by omega, rfl, rfl, rfl, Lib.hid rfl, HS0⟩
    case round =>
      obtain ⟨k, g, d, B, C, hk, hg, rfl, rfl, rfl, HL, HS⟩ := hrel
      have hbl := bans_le r0 t0 u0 k
      have hbl2 := bans_le (fun i => r0 (len0 - 1 - i)) (fun i => t0 (len0 - 1 - i)) (fun i => u0 (len0 - 1 - i)) k
      by_cases hlt : k < len0
      · rcases HG.out with h0 | ⟨b, off, rfl, hb, hmx, hc⟩
        · omega
        obtain ⟨j, hj⟩ : ∃ j, j = len0 - 1 - k := ⟨_, rfl⟩
        obtain ⟨⟨c0, c1, c2, c3⟩, wr0, wt0, wu0⟩ := hc k hlt
        obtain ⟨⟨e0, e1, e2, e3⟩, wr1, wt1, wu1⟩ := hc j (by omega)
        have hbw := HS.out.one.below
        have d0 := (hbw.cell hb).trans c0
        have d1 := (hbw.cell hb).trans c1
        have d2 := (hbw.cell hb).trans c2
        have d3 := (hbw.cell hb).trans c3
        have g0 := (hbw.cell hb).trans e0
        have g1 := (hbw.cell hb).trans e1
        have g2 := (hbw.cell hb).trans e2
        have g3 := (hbw.cell hb).trans e3
        have hbs : b < wr.heap.size := Nat.lt_of_lt_of_le hb hbw.size
        have hbs1 : b < wr.heap.size + 1 := by omega
        clear hc hmx c0 c1 c2 c3 e0 e1 e2 e3 hbw
        obtain ⟨kk, hkk⟩ : ∃ x, x = k0 k := ⟨_, rfl⟩
        obtain ⟨r, hr⟩ : ∃ x, x = r0 k := ⟨_, rfl⟩
        obtain ⟨t, ht⟩ : ∃ x, x = t0 k := ⟨_, rfl⟩
        obtain ⟨u, hu⟩ : ∃ x, x = u0 k := ⟨_, rfl⟩
        obtain ⟨kk', hkk'⟩ : ∃ x, x = k0 j := ⟨_, rfl⟩
        obtain ⟨r', hr'⟩ : ∃ x, x = r0 j := ⟨_, rfl⟩
        obtain ⟨t', ht'⟩ : ∃ x, x = t0 j := ⟨_, rfl⟩
        obtain ⟨u', hu'⟩ : ∃ x, x = u0 j := ⟨_, rfl⟩
        have HEQ := Lib.hid (show bans r0 t0 u0 (k + 1) = ban (bans r0 t0 u0 k) r t u by rw [hr, ht, hu]; rfl)
        have HEQ2 := Lib.hid (show bans (fun i => r0 (len0 - 1 - i)) (fun i => t0 (len0 - 1 - i)) (fun i => u0 (len0 - 1 - i)) (k + 1) = ban (bans (fun i => r0 (len0 - 1 - i)) (fun i => t0 (len0 - 1 - i)) (fun i => u0 (len0 - 1 - i)) k) r' t' u' by rw [hr', ht', hu', hj]; rfl)
        have HLS := Lib.hid (show lon r0 t0 u0 a1 a2 (k + 1) = if r = a1 ∧ t = a2 ∧ (d = false ∨ g < u) then (u, true) else (g, d) by rw [lon, HL.out, ← hr, ← ht, ← hu])
        rw [← hkk] at d0
        rw [← hr] at d1 wr0
        rw [← ht] at d2 wt0
        rw [← hu] at d3 wu0
        rw [← hkk'] at g0
        rw [← hr'] at g1 wr1
        rw [← ht'] at g2 wt1
        rw [← hu'] at g3 wu1
        clear hkk hr ht hu hkk' hr' ht' hu'
        have q1 : (len0 : Int) - 1 - (k : Int) = (j : Int) := by omega
        have q2 : IntKind.i64.wrap (j : Int) = (j : Int) := IntWalk.i64_in _ (by omega)
        have hj1 : (j : Int) < (len0 : Int) := by omega
        have hj2 : (k : Int) < (len0 : Int) := by omega
        clear hj
        go_wp2_with fail
        go_cut [14, 15] (fun s14 s15 wx => ∃ P Q, s14 = .pointer (some ⟨P, 0, none⟩) ∧ s15 = .pointer (some ⟨Q, 0, none⟩) ∧ Hid (Pair wr.heap.size P Q kk r t u kk' r' t' u' wx) ∧ Hid (Below wr.heap.size wr wx))
        case first =>
          go_region
          all_goals
            go_wp2_with fail
            go_meet
            first
              | exact ⟨_, _, rfl, rfl, Lib.hid (pair_first wr _), Lib.hid (below_two _ _ _)⟩
              | exact ⟨_, _, rfl, rfl, Lib.hid (pair_second wr _), Lib.hid (below_two _ _ _)⟩
        case rest =>
          obtain ⟨P, Q, rfl, rfl, HP, HB⟩ := hcut
          clear d0 d1 d2 d3 g0 g1 g2 g3
          have hTN : T < wr.heap.size := HS.out.one.tab.lt
          have hSN : S < wr.heap.size := HS.out.two.tab.lt
          have HS1 := Lib.hid (HS.out.bel HB.out)
          have p1 := HP.out.p1
          have p2 := HP.out.p2
          have p3 := HP.out.p3
          go_wp2_with fail
          refine (ban_any _ _ _ _ _ _ _ HS1.out.one.tab (by omega) wr0 wt0 wu0).mono ?_
          rintro e z2 hb2
          obtain ⟨B', hS2⟩ := HS1.out.ban1 hb2
          have hre := hb2.1
          subst hre
          have HP2 := Lib.hid (HP.out.tur HS1.out.one.tab hb2.2.1 hTN)
          have HS2 := Lib.hid (show Two w T S B' C (bans r0 t0 u0 (k + 1)) _ z2 by rw [HEQ.out]; exact hS2)
          clear hS2 hb2 p1 p2 p3
          have q1 := HP2.out.q1
          have q2 := HP2.out.q2
          have q3 := HP2.out.q3
          go_wp2_with fail
          refine (ban_any _ _ _ _ _ _ _ HS2.out.two.tab (by omega) wr1 wt1 wu1).mono ?_
          rintro e z3 hb2
          obtain ⟨C', hS3⟩ := HS2.out.ban2 hb2
          have hre := hb2.1
          subst hre
          have HP3 := Lib.hid (HP2.out.tur HS2.out.two.tab hb2.2.1 hSN)
          rw [← HEQ2.out] at hS3
          have HS3 := Lib.hid hS3
          clear hS3 hb2 q1 q2 q3
          have p1 := HP3.out.p1
          have p2 := HP3.out.p2
          have p3 := HP3.out.p3
          by_cases e1 : r = a1
          · by_cases e2 : t = a2
            · by_cases e3 : d = false ∨ g < u
              · have HL2 := Lib.hid (show lon r0 t0 u0 a1 a2 (k + 1) = (u, true) by rw [HLS.out, if_pos ⟨e1, e2, e3⟩])
                cases d with
                | false =>
                  clear e3
                  subst e1 e2
                  go_wp2_with fail
                  go_roundg (len0 - (k + 1))
                  case measure => omega
                  case rel => exact ⟨k + 1, u, true, B', C', by omega, by omega, rfl, rfl, by go_num, HL2, HS3⟩
                | true =>
                  have e4 : g < u := by simpa using e3
                  clear e3
                  subst e1 e2
                  go_wp2_with fail
                  go_roundg (len0 - (k + 1))
                  case measure => omega
                  case rel => exact ⟨k + 1, u, true, B', C', by omega, by omega, rfl, rfl, by go_num, HL2, HS3⟩
              · have HL2 := Lib.hid (show lon r0 t0 u0 a1 a2 (k + 1) = (g, d) by rw [HLS.out, if_neg (fun hc => e3 hc.2.2)])
                have e4 : d = true := by
                  cases d with
                  | true => rfl
                  | false => exact absurd (.inl rfl) e3
                have e5 : ¬ g < u := fun hc => e3 (.inr hc)
                subst e4
                clear e3
                subst e1 e2
                go_wp2_with fail
                go_roundg (len0 - (k + 1))
                case measure => omega
                case rel => exact ⟨k + 1, g, true, B', C', by omega, by omega, rfl, rfl, by go_num, HL2, HS3⟩
            · have HL2 := Lib.hid (show lon r0 t0 u0 a1 a2 (k + 1) = (g, d) by rw [HLS.out, if_neg (fun hc => e2 hc.2.1)])
              have z2 : (t == a2) = false := by simpa using e2
              subst e1
              go_wp2_with fail
              go_roundg (len0 - (k + 1))
              case measure => omega
              case rel => exact ⟨k + 1, g, d, B', C', by omega, by omega, rfl, rfl, by go_num, HL2, HS3⟩
          · have HL2 := Lib.hid (show lon r0 t0 u0 a1 a2 (k + 1) = (g, d) by rw [HLS.out, if_neg (fun hc => e1 hc.1)])
            have z1 : (r == a1) = false := by simpa using e1
            go_wp2_with fail
            go_roundg (len0 - (k + 1))
            case measure => omega
            case rel => exact ⟨k + 1, g, d, B', C', by omega, by omega, rfl, rfl, by go_num, HL2, HS3⟩
      · have hkm : k = len0 := by omega
        rw [hkm] at HS hbl hbl2 HL ⊢
        clear hlt hkm hk hg
        obtain ⟨l, hll⟩ : ∃ l, l = bans r0 t0 u0 len0 := ⟨_, rfl⟩
        obtain ⟨m, hmm⟩ : ∃ m, m = bans (fun i => r0 (len0 - 1 - i)) (fun i => t0 (len0 - 1 - i)) (fun i => u0 (len0 - 1 - i)) len0 := ⟨_, rfl⟩
        have hrev : ∀ r t now, isB m r t now = isB l r t now := fun r t now => by rw [hll, hmm]; exact isB_bans_rev r t now
        have hlon : (d && decide (a3 < g)) = isB l a1 a2 a3 := by
          rw [Bool.eq_iff_iff, hll, isB_bans, ← lon_iff, HL.out]
          simp
        rw [← hll, ← hmm] at HS
        rw [← hll] at hbl
        rw [← hmm] at hbl2
        clear hll hmm
        have HREV := Lib.hid hrev
        have HCNT := Lib.hid (count_same (now := a3) HS.out.one.tab.apart HS.out.two.tab.apart (fun r t => (hrev r t a3).symm))
        obtain ⟨p, hp⟩ : ∃ p, p = isB l a1 a2 a3 := ⟨_, rfl⟩
        rw [← hp] at hlon
        have HP := Lib.hid hp
        clear hp hrev
        go_wp2_with fail
        refine (is_any _ _ _ _ _ _ _ HS.out.one.tab w1 w2).mono ?_
        rintro e z2 ⟨rfl, rfl⟩
        rw [← HP.out]
        cases d with
        | false =>
          have hpf : p = false := by simpa using hlon.symm
          subst hpf
          clear hlon
          go_wp2_with fail
          refine (is_any _ _ _ _ _ _ _ HS.out.two.tab w1 w2).mono ?_
          rintro e z2 ⟨rfl, rfl⟩
          rw [HREV.out, ← HP.out]
          go_wp2_with fail
          refine (is_any _ _ _ _ _ _ _ HS.out.one.tab w1 w2).mono ?_
          rintro e z2 ⟨rfl, rfl⟩
          rw [← HP.out]
          go_wp2_with fail
          refine (count_any _ _ _ _ _ HS.out.one.tab (by omega)).mono ?_
          rintro e z3 ⟨rfl, hb⟩
          have HS3 := Lib.hid (HS.out.bel hb)
          clear hb
          go_wp2_with fail
          refine (count_any _ _ _ _ _ HS3.out.two.tab (by omega)).mono ?_
          rintro e z4 ⟨rfl, hb⟩
          have HS4 := Lib.hid (HS3.out.bel hb)
          clear hb
          rw [← HCNT.out]
          go_wp2_with fail
          go_ret
          exact ⟨rfl, HS4.out.one.below⟩
        | true =>
          have hpt : p = decide (a3 < g) := by simpa using hlon.symm
          subst hpt
          clear hlon
          go_wp2_with fail
          refine (is_any _ _ _ _ _ _ _ HS.out.two.tab w1 w2).mono ?_
          rintro e z2 ⟨rfl, rfl⟩
          rw [HREV.out, ← HP.out]
          go_wp2_with fail
          refine (is_any _ _ _ _ _ _ _ HS.out.one.tab w1 w2).mono ?_
          rintro e z2 ⟨rfl, rfl⟩
          rw [← HP.out]
          go_wp2_with fail
          refine (count_any _ _ _ _ _ HS.out.one.tab (by omega)).mono ?_
          rintro e z3 ⟨rfl, hb⟩
          have HS3 := Lib.hid (HS.out.bel hb)
          clear hb
          go_wp2_with fail
          refine (count_any _ _ _ _ _ HS3.out.two.tab (by omega)).mono ?_
          rintro e z4 ⟨rfl, hb⟩
          have HS4 := Lib.hid (HS3.out.bel hb)
          clear hb
          rw [← HCNT.out]
          go_wp2_with fail
          go_ret
          exact ⟨rfl, HS4.out.one.below⟩

set_option maxRecDepth 100000 in
theorem lifted (os : Os) (started : os.Started) (H : Type) (enc : TypeId × Value → H) :
    ReturnsInHanded {} Try.checked os 6 .any (Rows.tabuOrdersSpec.pre6 enc Try.prog Try.f6 Rows.tabuOrdersRow.domain false) (Rows.tabuOrdersSpec.post enc Try.prog Try.f6 false true false false) := by
  refine returnsInHanded_of_change (C := Try.checked) own started (by kernel_rfl) Try.func6
    (ChangeSpec.witness6 (enc := enc) (C := Try.checked) false ⟨#[], #[.slice none 0 0, .int .i64 0, .int .i64 0, .int .i64 0], []⟩ 8 (by kernel_rfl) (by kernel_rfl) (by kernel_rfl) (by kernel_rfl)) ?_
  intro W base args ds gs before hval0 hW hcnd _
  have hval : ∀ (j : Nat) t v, Try.f6.params[j]? = some t → args[j]? = some v → Value.okWide Try.prog W .any base t v := hval0
  have hW' := hW
  obtain ⟨p, q, hA0, hV, rfl, hfz, hnd⟩ := hW
  have hA : DataW.TrodAll enc Try.prog W 0 (fun _ => true) true Try.f6.params.toList args.toList ds p := hA0
  rw [Try.params6] at hA hval
  obtain ⟨v0, vs0, d0, ds0, p0, q0, hargs, rfl, rfl, h0, r0⟩ := trodAll_cons hA
  obtain ⟨v1, vs1, d1, ds1, p1, q1, rfl, rfl, rfl, h1, r1⟩ := trodAll_cons r0
  obtain ⟨v2, vs2, d2, ds2, p2, q2, rfl, rfl, rfl, h2, r2⟩ := trodAll_cons r1
  obtain ⟨v3, vs3, d3, ds3, p3, q3, rfl, rfl, rfl, h3, r3⟩ := trodAll_cons r2
  obtain ⟨rfl, rfl, rfl⟩ := trodAll_nil r3
  obtain rfl : args = #[v0, v1, v2, v3] := by cases args; simp_all
  obtain ⟨rfl, rfl⟩ := trodVars_none hV
  have k0 := h0
  have lt0 : ∀ x ∈ p0, x.block < W.heap.size := by obtain ⟨m, hm⟩ := k0; exact DataW.trod_lt m _ _ _ hm
  obtain ⟨b0, len0, cap0, rfl⟩ := okWide_slice Try.underlying22 (hval 0 22 v0 rfl rfl)
  obtain ⟨K0, X0, Y0, Z0, w0⟩ := isOps_of Try.underlying22 Try.underlying29 cellsOp Try.underlying3 cellsInt h0
  have x0 : len0 ≤ maxLen := by
    rcases w0 with h | ⟨_, _, _, _, h, _⟩
    · rw [h]; exact Nat.zero_le _
    · exact h
  obtain ⟨a1, rfl, rfl, rfl, w1⟩ := open_int Try.underlying3 (hval 1 3 v1 rfl rfl) h1
  obtain ⟨a2, rfl, rfl, rfl, w2⟩ := open_int Try.underlying3 (hval 2 3 v2 rfl rfl) h2
  obtain ⟨a3, rfl, rfl, rfl, w3⟩ := open_int Try.underlying3 (hval 3 3 v3 rfl rfl) h3
  clear hA0 hval0
  refine (walk W b0 len0 cap0 K0 X0 Y0 Z0 w0 x0 a1 w1 a2 w2 a3 w3).mono fun e W' ⟨he, bel⟩ => ?_
  subst he
  exact ⟨_, rfl, _, _, _, [], _, [], hW', trodAll_mk1 (shut_bool Try.underlying4 _), (trodAll_cons_mk (Below.trod laidOut (by kernel_rfl) (of_decide_eq_true (by kernel_rfl)) k0 bel lt0) (trodAll_cons_mk (shut_int Try.underlying3 w1) (trodAll_cons_mk (shut_int Try.underlying3 w2) (trodAll_cons_mk (shut_int Try.underlying3 w3) trodAll_mk0)))), rfl, bel.frame _, fun h => by cases h⟩

theorem over : Rows.tabuOrdersRow.holds Try.pinned (OpenSpec.ofChange Rows.tabuOrdersSpec) :=
  OpenClaim.holds_of_wide 6 Try.f6 rfl rfl rfl rfl rfl rfl rfl ⟨rfl, rfl, rfl, rfl, rfl⟩ rfl rfl rfl rfl rfl (by kernel_rfl) Try.func6 (by kernel_rfl)
    (of_decide_eq_true (by kernel_rfl)) (by unfold Func.isWrapper; first | (rw [if_pos (by decide +kernel)]; kernel_rfl) | (rw [if_neg (by decide +kernel)]; exact ⟨rfl, rfl⟩))
    (fun os started H enc _ => lifted os started H enc)

/-- THE STATEMENT -/
theorem proved : Rows.TabuOrdersSaid := over
#print axioms proved
end Go.Proofs.Ytjfagekdeapiaaa.tabuOrders
