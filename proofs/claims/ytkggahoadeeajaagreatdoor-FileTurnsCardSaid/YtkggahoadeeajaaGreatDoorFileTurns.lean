/- FileTurns: whatever the input, the law returns true, and each argument reads as it read before; the library's tables hold what the program's text lays. No other conditions. -/
import Derived.Test.YtkggahoadeeajaaGreatDoorCards
import Derived.Test.YtkggahoadeeajaaGreatDoorTie
import Derived.WalkKit
import Derived.ProofKit
import Derived.ShutString
import Derived.ChangeOld
import Derived.Below
import Derived.OpenShut
import Derived.Lib.SmallJoins
import Derived.Deep.DeepHandedRow
import Derived.SevenTiedAt
import Derived.Test.YtkggahoadeeajaaGreatDoorDeciWorld
import Derived.Test.YtkggahoadeeajaaGreatDoorFilAlive
import Derived.Test.YtkggahoadeeajaaGreatDoorFilTell
namespace Go.Proofs.YtkggahoadeeajaaGreatDoor.fileTurns
open Go.ChangeShapes Go.WideShapes Go.ChangeAt Go.RowKit Go.Joins
open Go.ChangeMaps (open_string shut_string)
open Deci
set_option linter.unusedVariables false

theorem wf64 {n : Int} (h : (Lit.int .i64 n).wf = true) : -9223372036854775808 ≤ n ∧ n ≤ 9223372036854775807 := by
  simp [Lit.wf] at h
  exact h
theorem own : ownKnob Tryz.prog.godebug = none := by kernel_rfl
theorem laidOut : laidOutB Tryz.prog = true := by kernel_rfl
set_option maxHeartbeats 4000000 in
set_option maxRecDepth 100000 in
theorem walk (w : World) (hE : Env w) (v0 : Value) (pl0 : Fil.PL) (w0 : Fil.Came w v0 pl0) (v1 : Value) (pl1 : Fil.PL) (w1 : Fil.Came w v1 pl1) :
    Calls Tryz.prog 6 #[v0, v1] w fun e w' => e = .returned (.bool true) ∧ Below w.heap.size w w' := by
  have hE' : ∀ W, Below w.heap.size w W → Env W := fun W hb => hE.below hb
  obtain ⟨hi, n1, n2, n3, n4, l1, l2, l3, l4, l5⟩ := w0
  obtain ⟨hj, n1', n2', n3', n4', l1', l2', l3', l4', l5'⟩ := w1
  have hi0 := hi
  have hj0 := hj
  obtain ⟨va, vb, vc, rfl, i1, i2, i3⟩ := hi0
  obtain ⟨a1, c1, rfl⟩ := i1.form
  obtain ⟨a2, c2, rfl⟩ := i2.form
  obtain ⟨a3, c3, rfl⟩ := i3.form
  obtain ⟨va, vb, vc, rfl, i1', i2', i3'⟩ := hj0
  obtain ⟨b1, d1, rfl⟩ := i1'.form
  obtain ⟨b2, d2, rfl⟩ := i2'.form
  obtain ⟨b3, d3, rfl⟩ := i3'.form
  clear i1 i2 i3 i1' i2' i3'
  have K0 := fun W (hb : Below w.heap.size w W) => Fil.alive_any W (hE' W hb)
  have K1 := fun W (hb : Below w.heap.size w W) => Fil.few_any _ pl0 W (hi.below hb) ⟨l1, l2, l3, l4, l5⟩
  have K1' := fun W (hb : Below w.heap.size w W) => Fil.few_any _ pl1 W (hj.below hb) ⟨l1', l2', l3', l4', l5'⟩
  have K2 := fun (hf : Fil.fewB pl0 = true) W (hb : Below w.heap.size w W) => Fil.print_any _ pl0 W (Fil.env_at (hE' W hb)) (Fil.few_fit hf) (hi.below hb)
  have K2' := fun (hf : Fil.fewB pl1 = true) W (hb : Below w.heap.size w W) => Fil.print_any _ pl1 W (Fil.env_at (hE' W hb)) (Fil.few_fit hf) (hj.below hb)
  unfold Fil.PrintOut at K2 K2'
  obtain ⟨S, hS⟩ : ∃ S, S = Deci.strOf (if Fil.checkE pl0 = 0 then Fil.planT pl0 else []) := ⟨_, rfl⟩
  obtain ⟨er, her⟩ : ∃ er, er = Fil.checkE pl0 := ⟨_, rfl⟩
  obtain ⟨S', hS'⟩ : ∃ S, S = Deci.strOf (if Fil.checkE pl1 = 0 then Fil.planT pl1 else []) := ⟨_, rfl⟩
  obtain ⟨er', her'⟩ : ∃ er, er = Fil.checkE pl1 := ⟨_, rfl⟩
  rw [← hS, ← her] at K2
  rw [← hS', ← her'] at K2'
  obtain ⟨I, hI⟩ : ∃ I, I = (Fil.cutT pl0).length := ⟨_, rfl⟩
  have K3 : Fil.fewB pl0 = true → er = 0 → Fil.Cuts S I ∧ S.size ≤ 130000 ∧ pl0.routes.length ≤ 64 := fun hf h0 => by
    have hok := Fil.check_ok.1 (her.symm.trans h0)
    rw [hS, if_pos (her.symm.trans h0), hI]
    exact ⟨Fil.cuts_of hok, Fil.planT_few hok hf, hok.many⟩
  have K4 : Fil.fewB pl0 = true → er = 0 → ∀ W, Below w.heap.size w W → Calls Tryz.prog 9 #[.string (S.extract 0 I)] W fun e w' => Fil.Fails W (2 + 2 * (pl0.routes.length : Int)) 20 e w' := fun hf h0 W hb => by
    have hok := Fil.check_ok.1 (her.symm.trans h0)
    have hlen := Fil.planT_few hok hf
    have hc := (Fil.cut_last hok).2.2.2
    have hSS : S = Deci.strOf (Fil.planT pl0) := by rw [hS, if_pos (her.symm.trans h0)]
    have hx : S.extract 0 I = Deci.strOf (Fil.cutT pl0) := by rw [extract_front, hSS, data_strOf, hI, hc.2]
    have h := Fil.fails_any (S.extract 0 I) W (by rw [hx]; show (Fil.cutT pl0).length ≤ _; omega) (hE' W hb) (ln := 2 + 2 * pl0.routes.length) (er := 20) (by rw [hx, data_strOf]; exact Fil.short_text hok (by omega)) (by decide)
    rw [show ((2 + 2 * pl0.routes.length : Nat) : Int) = 2 + 2 * (pl0.routes.length : Int) by omega] at h
    exact h
  have K5 : Fil.fewB pl0 = true → er = 0 → ∀ W, Below w.heap.size w W → Calls Tryz.prog 9 #[.string (S ++ ⟨#[108, 101, 102, 116, 10]⟩)] W fun e w' => Fil.Fails W (3 + 2 * (pl0.routes.length : Int)) 22 e w' := fun hf h0 W hb => by
    have hok := Fil.check_ok.1 (her.symm.trans h0)
    have hlen := Fil.planT_few hok hf
    have hSS : S ++ ⟨#[108, 101, 102, 116, 10]⟩ = Deci.strOf (Fil.planT pl0 ++ (([108, 101, 102, 116] : List UInt8) ++ [10])) := by
      rw [hS, if_pos (her.symm.trans h0), ← strOf_append]; rfl
    have h := Fil.fails_any (S ++ ⟨#[108, 101, 102, 116, 10]⟩) W (by rw [hSS]; show (Fil.planT pl0 ++ (([108, 101, 102, 116] : List UInt8) ++ [10])).length ≤ _; simp; omega) (hE' W hb) (ln := 3 + 2 * pl0.routes.length) (er := 22) (by rw [hSS, data_strOf]; exact Fil.more hok _ (by decide) (by simp; omega)) (by decide)
    rw [show ((3 + 2 * pl0.routes.length : Nat) : Int) = 3 + 2 * (pl0.routes.length : Int) by omega] at h
    exact h
  obtain ⟨sP, hsP⟩ : ∃ sP, sP = Fil.sameP pl0 pl1 := ⟨_, rfl⟩
  have K6 : Fil.fewB pl0 = true → Fil.fewB pl1 = true → ∀ W, Below w.heap.size w W → Calls Tryz.prog 16 #[.agg #[.slice a1 pl0.routes.length c1, .slice a2 pl0.times.length c2, .slice a3 pl0.left.length c3, .int .i64 pl0.cost], .agg #[.slice b1 pl1.routes.length d1, .slice b2 pl1.times.length d2, .slice b3 pl1.left.length d3, .int .i64 pl1.cost]] W fun e w' => e = .returned (.bool sP) ∧ Below W.heap.size W w' := fun hf hf' W hb => by
    rw [hsP]; exact Fil.planSame_any _ _ pl0 pl1 W (Fil.few_fit hf) (Fil.few_fit hf') (hi.below hb) (hj.below hb)
  have K7 : Fil.fewB pl0 = true → Fil.fewB pl1 = true → er = 0 → er' = 0 → (S.toList == S'.toList) = sP ∧ decide (S = S') = sP := fun hf hf' h0 h0' => by
    have hok := Fil.check_ok.1 (her.symm.trans h0)
    have hok' := Fil.check_ok.1 (her'.symm.trans h0')
    have e1 : S = S' ↔ pl0 = pl1 := by
      rw [hS, hS', if_pos (her.symm.trans h0), if_pos (her'.symm.trans h0')]
      have := Fil.planT_inj hok hok' (by have := Fil.planT_few hok hf; omega) (by have := Fil.planT_few hok' hf'; omega)
      rw [← this]
      constructor
      · intro h
        have := congrArg (fun s : ByteArray => s.data.toList) h
        simpa [data_strOf] using this
      · intro h; rw [h]
    have e2 : decide (S = S') = sP := by
      rw [hsP, Bool.eq_iff_iff, Fil.sameP_iff, decide_eq_true_eq]; exact e1
    refine ⟨?_, e2⟩
    rw [← e2, Lib.toList_data, Lib.toList_data, Bool.eq_iff_iff, beq_iff_eq, decide_eq_true_eq]
    constructor
    · intro h; rw [← Deci.strOf_data S, h, Deci.strOf_data]
    · intro h; rw [h]
  clear hS her hS' her' hI hsP hE hE' n1 n2 n3 n4 l1 l2 l3 l4 l5 n1' n2' n3' n4' l1' l2' l3' l4' l5' hi hj
  unfold Fil.Fails at K4 K5
  obtain ⟨fb, hfb⟩ : ∃ fb, fb = Fil.fewB pl0 := ⟨_, rfl⟩
  obtain ⟨fb', hfb'⟩ : ∃ fb, fb = Fil.fewB pl1 := ⟨_, rfl⟩
  rw [← hfb] at K1 K2 K3 K4 K5 K6 K7
  rw [← hfb'] at K1' K2' K6 K7
  clear hfb hfb'
  have H0 := Lib.hid K0; clear K0
  have H1 := Lib.hid K1; clear K1
  have H1' := Lib.hid K1'; clear K1'
  have H2 := Lib.hid K2; clear K2
  have H2' := Lib.hid K2'; clear K2'
  have H3 := Lib.hid K3; clear K3
  have H4 := Lib.hid K4; clear K4
  have H5 := Lib.hid K5; clear K5
  have H6 := Lib.hid K6; clear K6
  have H7 := Lib.hid K7; clear K7
  generalize pl0.routes.length = nr at *
  generalize pl0.times.length = nt at *
  generalize pl0.left.length = nl at *
  generalize pl0.cost = cost at *
  generalize pl1.routes.length = nr' at *
  generalize pl1.times.length = nt' at *
  generalize pl1.left.length = nl' at *
  generalize pl1.cost = cost' at *
  obtain ⟨X, hX⟩ : ∃ X, X = w.heap.size := ⟨_, rfl⟩
  obtain ⟨U0, hU0⟩ : ∃ U, U = (w.alloc (.cells #[.slice a1 nr c1, .slice a2 nt c2, .slice a3 nl c3, .int .i64 cost] 27)).alloc (.cells #[.slice b1 nr' d1, .slice b2 nt' d2, .slice b3 nl' d3, .int .i64 cost'] 27) := ⟨_, rfl⟩
  obtain ⟨ST, hST⟩ : ∃ ST : World → Prop, ST = fun W => Below w.heap.size w W ∧ W.heap[X]? = some (.cells #[.slice a1 nr c1, .slice a2 nt c2, .slice a3 nl c3, .int .i64 cost] 27) ∧ W.heap[X + 1]? = some (.cells #[.slice b1 nr' d1, .slice b2 nt' d2, .slice b3 nl' d3, .int .i64 cost'] 27) := ⟨_, rfl⟩
  have S0 : Hid (ST U0) := Lib.hid (by
    rw [hST, hU0, hX]
    refine ⟨((Below.refl _ _).alloc (Nat.le_refl _) _).alloc (by simp) _, ?_, ?_⟩
    · rw [Below.heap_alloc _ _ _ (by simp)]; exact World.alloc_heap_new w _
    · rw [← World.size_alloc w (.cells #[.slice a1 nr c1, .slice a2 nt c2, .slice a3 nl c3, .int .i64 cost] 27)]; exact World.alloc_heap_new _ _)
  have SB : Hid (∀ W W', ST W → Below W.heap.size W W' → ST W') := Lib.hid fun W W' h hb => by
    rw [hST] at h ⊢
    exact ⟨h.1.trans (hb.mono h.1.size), (hb.block X (Fil.own_lt h.2.1)).trans h.2.1, (hb.block (X + 1) (Fil.own_lt h.2.2)).trans h.2.2⟩
  have SC : Hid (∀ W, ST W → Below w.heap.size w W ∧ (W.cell? ⟨X, 0, none⟩ = some (.slice a1 nr c1) ∧ W.cell? ⟨X, 1, none⟩ = some (.slice a2 nt c2) ∧ W.cell? ⟨X, 2, none⟩ = some (.slice a3 nl c3) ∧ W.cell? ⟨X, 3, none⟩ = some (.int .i64 cost)) ∧
      W.cell? ⟨X + 1, 0, none⟩ = some (.slice b1 nr' d1) ∧ W.cell? ⟨X + 1, 1, none⟩ = some (.slice b2 nt' d2) ∧ W.cell? ⟨X + 1, 2, none⟩ = some (.slice b3 nl' d3) ∧ W.cell? ⟨X + 1, 3, none⟩ = some (.int .i64 cost')) := Lib.hid fun W h => by
    rw [hST] at h
    exact ⟨h.1, ⟨(Fil.own_cell h.2.1).trans rfl, (Fil.own_cell h.2.1).trans rfl, (Fil.own_cell h.2.1).trans rfl, (Fil.own_cell h.2.1).trans rfl⟩, (Fil.own_cell h.2.2).trans rfl, (Fil.own_cell h.2.2).trans rfl, (Fil.own_cell h.2.2).trans rfl, (Fil.own_cell h.2.2).trans rfl⟩
  have HX := Lib.hid hX; clear hX
  have HU := Lib.hid hU0; clear hU0
  clear hST
  go_enter Tryz.func6, Tryz.ntmps6
  go_wp2_with fail
  rw [show w.heap.size + 1 = X + 1 by rw [HX.out], ← HX.out, ← HU.out]
  refine (H0.out _ (SC.out _ S0.out).1).mono ?_
  rintro e W1 ⟨rfl, hb⟩
  have S1 := Lib.hid (SB.out _ _ S0.out hb); clear hb
  obtain ⟨b, ⟨x0, x1, x2, x3⟩, y0, y1, y2, y3⟩ := SC.out _ S1.out
  go_wp2_with fail
  refine (H1.out _ b).mono ?_
  rintro e W2 ⟨rfl, hb⟩
  have S2 := Lib.hid (SB.out _ _ S1.out hb); clear hb b x0 x1 x2 x3 y0 y1 y2 y3
  obtain ⟨b, ⟨x0, x1, x2, x3⟩, y0, y1, y2, y3⟩ := SC.out _ S2.out
  cases fb with
  | false =>
    go_wp2_with fail
    go_ret
    first | exact ⟨rfl, b⟩ | exact ⟨trivial, b⟩
  | true =>
    go_wp2_with fail
    refine (H1'.out _ b).mono ?_
    rintro e W3 ⟨rfl, hb⟩
    have S3 := Lib.hid (SB.out _ _ S2.out hb); clear hb b x0 x1 x2 x3 y0 y1 y2 y3
    obtain ⟨b, ⟨x0, x1, x2, x3⟩, y0, y1, y2, y3⟩ := SC.out _ S3.out
    cases fb' with
    | false =>
      go_wp2_with fail
      go_ret
      first | exact ⟨rfl, b⟩ | exact ⟨trivial, b⟩
    | true =>
      go_wp2_with fail
      refine (H2.out (by trivial) _ b).mono ?_
      rintro e W4 ⟨rfl, hb⟩
      have S4 := Lib.hid (SB.out _ _ S3.out hb); clear hb b x0 x1 x2 x3 y0 y1 y2 y3
      obtain ⟨b, ⟨x0, x1, x2, x3⟩, y0, y1, y2, y3⟩ := SC.out _ S4.out
      go_wp2_with fail
      refine (H2'.out (by trivial) _ b).mono ?_
      rintro e W5 ⟨rfl, hb⟩
      have S5 := Lib.hid (SB.out _ _ S4.out hb); clear hb b x0 x1 x2 x3 y0 y1 y2 y3
      have HL5 := Lib.hid (SC.out _ S5.out).1
      clear S0 S1 S2 S3 S4 H0 H1 H1' H2 H2'
      by_cases h0 : er = 0
      · subst h0
        by_cases h0' : er' = 0
        · subst h0'
          obtain ⟨hcut, hsz, hnr⟩ := H3.out (by trivial) rfl
          obtain ⟨q1, q2, q3, q4⟩ := hcut
          have h4 := H4.out (by trivial) rfl
          have h5 := H5.out (by trivial) rfl
          have h6 := H6.out (by trivial) (by trivial)
          obtain ⟨h7, h7'⟩ := H7.out (by trivial) (by trivial) rfl rfl
          clear H3 H4 H5 H6 H7
          have H4 := Lib.hid h4; clear h4
          have H5 := Lib.hid h5; clear h5
          have H6 := Lib.hid h6; clear h6
          have Q3 := Lib.hid q3; clear q3
          have Q4 := Lib.hid q4; clear q4
          have H7 := Lib.hid h7; clear h7
          have H7' := Lib.hid h7'; clear h7'
          go_wp2_with fail
          go_loopw [9] (fun i wr => ∃ k : Nat, I ≤ k + 1 ∧ k + 2 ≤ S.size ∧ i = .int .i64 ((k : Int) + 1) ∧ Hid (wr = W5)) (fun i _ => (intOf i).toNat)
          case atStart => exact ⟨S.size - 2, by omega, by omega, by congr 1; omega, Lib.hid rfl⟩
          case round =>
            obtain ⟨k, hk1, hk2, rfl, HA⟩ := hrel
            obtain rfl := HA.out.symm
            clear HA
            have hkS : k < S.size := by omega
            have i0 : (0 : Int) < (k : Int) + 1 := by omega
            have i1 : (0 : Int) ≤ (k : Int) := by omega
            have i2 : (k : Int) < (S.size : Int) := by omega
            by_cases hk : k + 1 = I
            · subst hk
              have hx : (S[k].toNat : Int) = 10 := Q4.out hkS
              go_wp2_with fail
              clear hx i0 i1 i2 Q3 Q4
              refine (H4.out _ HL5.out).mono ?_
              rintro e W6 ⟨hb, g1, m1, g2, m2, g3, m3, rfl⟩
              have S6 := Lib.hid (SB.out _ _ S5.out hb); clear hb
              go_wp2_with fail
              have S6b := Lib.hid (SB.out _ (W6.alloc (.cells #[.slice g1 0 m1, .slice g2 0 m2, .slice g3 0 m3, .int .i64 0] 27)) S6.out ((Below.refl _ _).alloc (Nat.le_refl _) _))
              refine (H5.out _ (SC.out _ S6b.out).1).mono ?_
              rintro e W7 ⟨hb, g4, m4, g5, m5, g6, m6, rfl⟩
              have S7 := Lib.hid (SB.out _ _ S6b.out hb); clear hb
              have S8 := Lib.hid (SB.out _ (W7.alloc (.cells #[.slice g4 0 m4, .slice g5 0 m5, .slice g6 0 m6, .int .i64 0] 27)) S7.out ((Below.refl _ _).alloc (Nat.le_refl _) _))
              obtain ⟨b, ⟨x0, x1, x2, x3⟩, y0, y1, y2, y3⟩ := SC.out _ S8.out
              have h7 := H7.out
              have h7' := H7'.out
              cases sP with
              | true =>
                go_wp2_with fail
                refine (H6.out _ b).mono ?_
                rintro e W9 ⟨rfl, hb⟩
                have S9 := Lib.hid (SB.out _ _ S8.out hb)
                clear hb b x0 x1 x2 x3 y0 y1 y2 y3
                obtain ⟨b, ⟨x0, x1, x2, x3⟩, y0, y1, y2, y3⟩ := SC.out _ S9.out
                go_wp2_with fail
                go_ret
                first | exact ⟨rfl, b⟩ | exact ⟨trivial, b⟩
              | false =>
                go_wp2_with fail
                refine (H6.out _ b).mono ?_
                rintro e W9 ⟨rfl, hb⟩
                have S9 := Lib.hid (SB.out _ _ S8.out hb)
                clear hb b x0 x1 x2 x3 y0 y1 y2 y3
                obtain ⟨b, ⟨x0, x1, x2, x3⟩, y0, y1, y2, y3⟩ := SC.out _ S9.out
                go_wp2_with fail
                go_ret
                first | exact ⟨rfl, b⟩ | exact ⟨trivial, b⟩
            · have hx : ¬ (S[k].toNat : Int) = 10 := Q3.out k hkS (by omega) (by omega)
              go_wp2_with fail
              go_roundw
              case rel => exact ⟨k - 1, by omega, by omega, by congr 1; omega, Lib.hid trivial⟩
              case measure => simp [intOf]; try omega
        · have z : (er' == 0) = false := by simpa using h0'
          have z' : (er' != 0) = true := by simpa using h0'
          go_wp2_with fail
          go_ret
          first | exact ⟨rfl, HL5.out⟩ | exact ⟨trivial, HL5.out⟩
      · have z : (er == 0) = false := by simpa using h0
        have z' : (er != 0) = true := by simpa using h0
        go_wp2_with fail
        go_ret
        first | exact ⟨rfl, HL5.out⟩ | exact ⟨trivial, HL5.out⟩

set_option maxRecDepth 100000 in
theorem contract (H : Type) (enc : TypeId × Value → H) (W : World) (base : Nat) (args : Array Value) (ds gs : List (DataW H)) (before : List MemPlace)
    (hval0 : ∀ (j : Nat) t v, Tryz.f6.params[j]? = some t → args[j]? = some v → Value.okWide Tryz.prog W .any base t v)
    (hW : DataW.Whole enc Tryz.prog Tryz.f6.params.toList Rows.fileTurnsSpec.vars false W args.toList ds gs before) (hL : laidMetH Tryz.prog Rows.fileTurnsRow.laid W) (hS : W.ShapedOpen Tryz.prog) :
    Calls Tryz.prog 6 args W fun e W' => ∃ v, e = .returned v ∧ Rows.fileTurnsSpec.post enc Tryz.prog Tryz.f6 false true false false W args v W' := by
  have hval : ∀ (j : Nat) t v, Tryz.f6.params[j]? = some t → args[j]? = some v → Value.okWide Tryz.prog W .any base t v := hval0
  have hE : Env W := env_of hL hS
  have hW' := hW
  obtain ⟨p, q, hA0, hV, rfl, hfz, hnd⟩ := hW
  have hA : DataW.TrodAll enc Tryz.prog W 0 (fun _ => true) true Tryz.f6.params.toList args.toList ds p := hA0
  rw [Tryz.params6] at hA hval
  obtain ⟨v0, vs0, d0, ds0, p0, q0, hargs, rfl, rfl, h0, r0⟩ := trodAll_cons hA
  obtain ⟨v1, vs1, d1, ds1, p1, q1, rfl, rfl, rfl, h1, r1⟩ := trodAll_cons r0
  obtain ⟨rfl, rfl, rfl⟩ := trodAll_nil r1
  obtain rfl : args = #[v0, v1] := by cases args; simp_all
  obtain ⟨rfl, rfl⟩ := trodVars_none hV
  have k0 := h0
  have lt0 : ∀ x ∈ p0, x.block < W.heap.size := by obtain ⟨m, hm⟩ := k0; exact DataW.trod_lt m _ _ _ hm
  obtain ⟨pl0, w0⟩ := Fil.plan_open (hval 0 27 v0 rfl rfl) h0
  have k1 := h1
  have lt1 : ∀ x ∈ p1, x.block < W.heap.size := by obtain ⟨m, hm⟩ := k1; exact DataW.trod_lt m _ _ _ hm
  obtain ⟨pl1, w1⟩ := Fil.plan_open (hval 1 27 v1 rfl rfl) h1
  clear hA0 hval0
  refine (walk W hE v0 pl0 w0 v1 pl1 w1).mono fun e W' ⟨he, bel⟩ => ?_
  subst he
  exact ⟨_, rfl, _, _, _, [], _, [], hW', trodAll_mk1 (shut_bool Tryz.underlying4 _), (trodAll_cons_mk (Below.trod laidOut (by kernel_rfl) (of_decide_eq_true (by kernel_rfl)) k0 bel lt0) (trodAll_cons_mk (Below.trod laidOut (by kernel_rfl) (of_decide_eq_true (by kernel_rfl)) k1 bel lt1) trodAll_mk0)), rfl, bel.frame _, fun h => by cases h⟩

theorem reads (os : Os) {H : Type} (enc : TypeId × Value → H) : ∃ places, DataW.whole enc Tryz.prog ((laidWorld os).forCall (fun _ _ => 0) ⟨#[], #[.agg #[.slice none 0 0, .slice none 0 0, .slice none 0 0, .int .i64 0], .agg #[.slice none 0 0, .slice none 0 0, .slice none 0 0, .int .i64 0]], []⟩).memory Tryz.f6.params.toList Rows.fileTurnsSpec.vars false (#[.agg #[.slice none 0 0, .slice none 0 0, .slice none 0 0, .int .i64 0], .agg #[.slice none 0 0, .slice none 0 0, .slice none 0 0, .int .i64 0]] : Array Value).toList 8 = some ([.agg [.nil, .nil, .nil, .lit (.int .i64 0)], .agg [.nil, .nil, .nil, .lit (.int .i64 0)]], [], places) :=
  ⟨[], by kernel_rfl⟩
set_option maxRecDepth 100000 in
theorem lifted (os : Os) (started : os.Started) (H : Type) (enc : TypeId × Value → H) (F : Stop.Interp) :
    ReturnsInHanded {} Tryz.checked os 6 .any ((OpenSpec.ofChange Rows.fileTurnsSpec).preRow enc Tryz.prog Tryz.f6 Rows.fileTurnsRow.domain false Rows.fileTurnsRow.laid) (((OpenSpec.ofChange Rows.fileTurnsSpec).at F).post enc Tryz.prog Tryz.f6 false true false false) := by
  obtain ⟨places, hx⟩ := reads os enc
  refine returnsInHanded_of_row (C := Tryz.checked) (s := OpenSpec.ofChange Rows.fileTurnsSpec) own started (by kernel_rfl) Tryz.func6
    (witness_row_at (enc := enc) (C := Tryz.checked) false (laidWorld os) #[.agg #[.slice none 0 0, .slice none 0 0, .slice none 0 0, .int .i64 0], .agg #[.slice none 0 0, .slice none 0 0, .slice none 0 0, .int .i64 0]] rfl (by kernel_rfl) (by kernel_rfl) (by kernel_rfl)
      (OpenSpec.preRow_of_cond 8 hx (by kernel_rfl) (fun k hk => by cases hk) (by kernel_rfl) (laid_met os _))) ?_
  intro W base args ds gs before hval hW _ _ _ hL hS _
  exact contract H enc W base args ds gs before hval hW hL hS

theorem said : Rows.FileTurnsSaid :=
  OpenClaim.holds_of_cond 6 Tryz.f6 rfl rfl rfl rfl rfl rfl rfl ⟨rfl, rfl, rfl, rfl, rfl⟩ rfl rfl rfl rfl rfl (by kernel_rfl) Tryz.func6 (by kernel_rfl)
    (of_decide_eq_true (by kernel_rfl)) (by unfold Func.isWrapper; first | (rw [if_pos (by decide +kernel)]; kernel_rfl) | (rw [if_neg (by decide +kernel)]; exact ⟨rfl, rfl⟩))
    (fun os started H enc _ F => by rw [OpenClaim.pre_eq_preRow]; exact lifted os started H enc F)

theorem plain (f : FuncId) (fn : Func) (hf : Tryz.pinned.checked.prog.funcNamed "jitney/jitneylaw23.FileTurns" = some f) (hfn : Tryz.pinned.checked.prog.funcs[f]? = some fn) :
    true = Tryz.pinned.checked.prog.looks [] ∧ ∀ (j : Nat) t, fn.params[j]? = some t → Tryz.pinned.checked.prog.wantsStandIn t = false := by
  obtain rfl : f = 6 := Option.some.inj ((show Tryz.prog.funcNamed "jitney/jitneylaw23.FileTurns" = some 6 by kernel_rfl).symm.trans hf) |>.symm
  obtain rfl : fn = Tryz.f6 := (Option.some.inj (Tryz.func6.symm.trans hfn)).symm
  refine ⟨by kernel_rfl, fun j t ht => ?_⟩
  rw [Tryz.params6] at ht
  have hm := Array.mem_of_getElem? ht
  simp only [List.mem_toArray, List.mem_cons, List.not_mem_nil, or_false, or_self] at hm
  rcases hm with rfl
  · exact (show Tryz.prog.wantsStandIn 27 = false by kernel_rfl)

/-- THE CARD -/
theorem card : Rows.FileTurnsCardSaid :=
  Claim7.holds_tied_plain_at .later [] _ _ _ _ said (fun _ h => by cases h) (by kernel_rfl) (fun _ h => by cases h) fileTurns_row_tie rfl ⟨rfl, rfl⟩ (by kernel_rfl) rfl plain (by kernel_rfl)
#print axioms card
end Go.Proofs.YtkggahoadeeajaaGreatDoor.fileTurns
