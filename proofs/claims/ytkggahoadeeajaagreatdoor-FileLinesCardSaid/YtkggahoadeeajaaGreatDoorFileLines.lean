/- FileLines: whatever the input, the law returns true, and each argument reads as it read before; the library's tables hold what the program's text lays. No other conditions. -/
import Derived.Test.YtkggahoadeeajaaGreatDoorCards
import Derived.Test.YtkggahoadeeajaaGreatDoorTie
import Derived.WalkKit
import Derived.ProofKit
import Derived.ShutString
import Derived.ChangeOld
import Derived.Below
import Derived.OpenShut
import Derived.Lib.SmallJoins
import Derived.Deep.DeepHandedRow
import Derived.SevenTiedAt
import Derived.Deep.DeepCutAuto
import Derived.Deep.CutBlock
import Derived.Outline
import Derived.Deep.RegionHeld3
import Derived.Deep.RegionWith
import Derived.Test.YtkggahoadeeajaaGreatDoorDeciWorld
import Derived.Test.YtkggahoadeeajaaGreatDoorFilAlive
import Derived.Test.YtkggahoadeeajaaGreatDoorFilTell
namespace Go.Proofs.YtkggahoadeeajaaGreatDoor.fileLines
open Go.ChangeShapes Go.WideShapes Go.ChangeAt Go.RowKit Go.Joins
open Go.ChangeMaps (open_string shut_string)
open Deci
set_option linter.unusedVariables false

theorem wf64 {n : Int} (h : (Lit.int .i64 n).wf = true) : -9223372036854775808 ≤ n ∧ n ≤ 9223372036854775807 := by
  simp [Lit.wf] at h
  exact h
theorem own : ownKnob Tryz.prog.godebug = none := by kernel_rfl
theorem laidOut : laidOutB Tryz.prog = true := by kernel_rfl
theorem low1023 (n : Int) : 0 ≤ bits .and .i64 n 1023 ∧ bits .and .i64 n 1023 ≤ 1023 := by
  have hm : (BitVec.ofInt 64 1023).toNat = 2 ^ 10 - 1 := by decide
  have hlt : (BitVec.ofInt 64 n &&& BitVec.ofInt 64 1023).toNat < 1024 := by
    rw [BitVec.toNat_and, hm, Nat.and_two_pow_sub_one_eq_mod]; omega
  have hb : bits .and .i64 n 1023 = IntKind.i64.wrap ((BitVec.ofInt 64 n &&& BitVec.ofInt 64 1023).toNat : Nat) := rfl
  rw [hb, IntKind.wrap_i64]
  omega
set_option maxHeartbeats 4000000 in
set_option maxRecDepth 100000 in
theorem walk (w : World) (hE : Env w) (v0 : Value) (pl0 : Fil.PL) (w0 : Fil.Came w v0 pl0) (a1 : Int) (w1 : (Lit.int .i64 a1).wf = true) :
    Calls Tryz.prog 7 #[v0, .int .i64 a1] w fun e w' => e = .returned (.bool true) ∧ Below w.heap.size w w' := by
  have hE' : ∀ W, Below w.heap.size w W → Env W := fun W hb => hE.below hb
  obtain ⟨hi, n1, n2, n3, n4, l1, l2, l3, l4, l5⟩ := w0
  have hi0 := hi
  obtain ⟨va, vb, vc, rfl, i1, i2, i3⟩ := hi0
  obtain ⟨a1', c1, rfl⟩ := i1.form
  obtain ⟨a2', c2, rfl⟩ := i2.form
  obtain ⟨a3', c3, rfl⟩ := i3.form
  clear i1 i2 i3 w1
  have K0 := fun W (hb : Below w.heap.size w W) => Fil.alive_any W (hE' W hb)
  have K1 := fun W (hb : Below w.heap.size w W) => Fil.few_any _ pl0 W (hi.below hb) ⟨l1, l2, l3, l4, l5⟩
  have K2 := fun (hf : Fil.fewB pl0 = true) W (hb : Below w.heap.size w W) => Fil.print_any _ pl0 W (Fil.env_at (hE' W hb)) (Fil.few_fit hf) (hi.below hb)
  unfold Fil.PrintOut at K2
  obtain ⟨S, hS⟩ : ∃ S, S = Deci.strOf (if Fil.checkE pl0 = 0 then Fil.planT pl0 else []) := ⟨_, rfl⟩
  obtain ⟨er, her⟩ : ∃ er, er = Fil.checkE pl0 := ⟨_, rfl⟩
  rw [← hS, ← her] at K2
  have K3 : er ≠ 0 → S = ⟨#[]⟩ := fun h => by rw [hS, if_neg (by rw [← her]; exact h)]; rfl
  obtain ⟨c, hc⟩ : ∃ c : Nat → Nat, c = fun i => Fil.nl ((Fil.planT pl0).take i) := ⟨_, rfl⟩
  have hci : ∀ i, c i = Fil.nl ((Fil.planT pl0).take i) := fun i => by rw [hc]
  have K4 : Fil.fewB pl0 = true → er = 0 → c 0 = 0 ∧ (∀ i (h : i < S.size), ((S[i].toNat : Int) = 10 → c (i + 1) = c i + 1) ∧ (¬ (S[i].toNat : Int) = 10 → c (i + 1) = c i)) ∧ c S.size = 2 + 2 * pl0.routes.length ∧ S.size ≤ 130000 ∧ pl0.routes.length ≤ 64 ∧ ∀ i, c i ≤ i := fun hf h0 => by
    have hok := Fil.check_ok.1 (her.symm.trans h0)
    have hSS : S = Deci.strOf (Fil.planT pl0) := by rw [hS, if_pos (her.symm.trans h0)]
    have hsz : S.size = (Fil.planT pl0).length := by rw [hSS]; rfl
    have hst : ∀ i (h : i < S.size) (h' : i < (Fil.planT pl0).length), (S[i].toNat : Int) = ((Fil.planT pl0)[i].toNat : Int) := fun i h h' => by
      have : S[i] = (Fil.planT pl0)[i] := by subst hSS; exact Fil.str_at h h'
      rw [this]
    refine ⟨by rw [hci]; rfl, fun i h => ?_, by rw [hci, hsz, List.take_length]; exact Fil.planT_nl hok, by rw [hsz]; exact Fil.planT_few hok hf, hok.many, fun i => by rw [hci]; unfold Fil.nl; exact Nat.le_trans (List.count_le_length ..) (by rw [List.length_take]; omega)⟩
    have h' : i < (Fil.planT pl0).length := by rw [← hsz]; exact h
    have hs := hst i h h'
    rw [hs, hci, hci, Fil.nl_step h']
    constructor
    · intro e
      rw [if_pos (UInt8.toNat_inj.1 (by have : (10 : UInt8).toNat = 10 := rfl; omega))]
    · intro e
      rw [if_neg (fun e2 => e (by rw [e2]; rfl))]; rfl
  have K5 : Fil.fewB pl0 = true → er = 0 → ∀ m, m < 2 + 2 * pl0.routes.length → ∃ I, I < S.size ∧ c I = m ∧ (∀ i, i < I → c i < m) ∧ ∀ W, Below w.heap.size w W → Calls Tryz.prog 9 #[.string (S.extract 0 I ++ ⟨#[32]⟩ ++ S.extract I S.size)] W fun e w' => Fil.Fails W ((m : Int) + 1) 21 e w' := fun hf h0 m hm => by
    have hok := Fil.check_ok.1 (her.symm.trans h0)
    have hlen := Fil.planT_few hok hf
    have hSS : S = Deci.strOf (Fil.planT pl0) := by rw [hS, if_pos (her.symm.trans h0)]
    have hsz : S.size = (Fil.planT pl0).length := by rw [hSS]; rfl
    refine ⟨(Fil.preT pl0 m).length, by rw [hsz]; exact Fil.pre_in hok hm, by rw [hci]; exact Fil.pre_nl hok (by omega), fun i hi => by rw [hci]; exact Fil.pre_lt hok (by omega) hi, fun W hb => ?_⟩
    have hpe := Fil.pre_end hok m
    have hx : S.extract 0 (Fil.preT pl0 m).length ++ ⟨#[32]⟩ ++ S.extract (Fil.preT pl0 m).length S.size = Deci.strOf (Fil.preT pl0 m ++ 32 :: Fil.endT pl0 m) := by
      rw [extract_front, extract_back, hSS, data_strOf]
      have e1 : (Fil.planT pl0).take (Fil.preT pl0 m).length = Fil.preT pl0 m := by rw [hpe, List.take_left]
      have e2 : (Fil.planT pl0).drop (Fil.preT pl0 m).length = Fil.endT pl0 m := by rw [hpe, List.drop_left]
      rw [e1, e2, show (⟨#[32]⟩ : ByteArray) = Deci.strOf [32] from rfl, Deci.strOf_append, Deci.strOf_append]
      simp
    have hln : (Fil.preT pl0 m ++ 32 :: Fil.endT pl0 m).length = (Fil.planT pl0).length + 1 := by
      rw [hpe]; simp; omega
    have h := Fil.fails_any (S.extract 0 (Fil.preT pl0 m).length ++ ⟨#[32]⟩ ++ S.extract (Fil.preT pl0 m).length S.size) W (by rw [hx]; show (Fil.preT pl0 m ++ 32 :: Fil.endT pl0 m).length ≤ _; omega) (hE' W hb) (ln := m + 1) (er := 21) (by rw [hx, data_strOf]; exact Fil.spoilt hok m hm (by omega)) (by decide)
    rw [show ((m + 1 : Nat) : Int) = (m : Int) + 1 by omega] at h
    exact h
  clear hS her hE hE' n1 n2 n3 n4 l1 l2 l3 l4 l5 hi hc hci
  unfold Fil.Fails at K5
  obtain ⟨fb, hfb⟩ : ∃ fb, fb = Fil.fewB pl0 := ⟨_, rfl⟩
  rw [← hfb] at K1 K2 K4 K5
  clear hfb
  have H0 := Lib.hid K0; clear K0
  have H1 := Lib.hid K1; clear K1
  have H2 := Lib.hid K2; clear K2
  have H3 := Lib.hid K3; clear K3
  have H4 := Lib.hid K4; clear K4
  have H5 := Lib.hid K5; clear K5
  obtain ⟨M1, M2⟩ := low1023 a1
  generalize hM : bits .and .i64 a1 1023 = M at M1 M2
  generalize pl0.routes.length = nr at *
  generalize pl0.times.length = nt at *
  generalize pl0.left.length = nl at *
  generalize pl0.cost = cost at *
  obtain ⟨X, hX⟩ : ∃ X, X = w.heap.size := ⟨_, rfl⟩
  obtain ⟨U0, hU0⟩ : ∃ U, U = w.alloc (.cells #[.slice a1' nr c1, .slice a2' nt c2, .slice a3' nl c3, .int .i64 cost] 27) := ⟨_, rfl⟩
  obtain ⟨ST, hST⟩ : ∃ ST : World → Prop, ST = fun W => Below w.heap.size w W ∧ W.heap[X]? = some (.cells #[.slice a1' nr c1, .slice a2' nt c2, .slice a3' nl c3, .int .i64 cost] 27) := ⟨_, rfl⟩
  have S0 : Hid (ST U0) := Lib.hid (by rw [hST, hU0, hX]; exact ⟨(Below.refl _ _).alloc (Nat.le_refl _) _, World.alloc_heap_new w _⟩)
  have SB : Hid (∀ W W', ST W → Below W.heap.size W W' → ST W') := Lib.hid fun W W' h hb => by
    rw [hST] at h ⊢
    exact ⟨h.1.trans (hb.mono h.1.size), (hb.block X (Fil.own_lt h.2)).trans h.2⟩
  have SC : Hid (∀ W, ST W → Below w.heap.size w W ∧ W.cell? ⟨X, 0, none⟩ = some (.slice a1' nr c1) ∧ W.cell? ⟨X, 1, none⟩ = some (.slice a2' nt c2) ∧ W.cell? ⟨X, 2, none⟩ = some (.slice a3' nl c3) ∧ W.cell? ⟨X, 3, none⟩ = some (.int .i64 cost)) := Lib.hid fun W h => by
    rw [hST] at h
    exact ⟨h.1, (Fil.own_cell h.2).trans rfl, (Fil.own_cell h.2).trans rfl, (Fil.own_cell h.2).trans rfl, (Fil.own_cell h.2).trans rfl⟩
  have HX := Lib.hid hX; clear hX
  have HU := Lib.hid hU0; clear hU0
  have HM := Lib.hid hM; clear hM
  clear hST
  go_enter Tryz.func7, Tryz.ntmps7
  go_wp2_with fail
  rw [← HX.out, ← HU.out]
  refine (H0.out _ (SC.out _ S0.out).1).mono ?_
  rintro e W1 ⟨rfl, hb⟩
  have S1 := Lib.hid (SB.out _ _ S0.out hb); clear hb
  obtain ⟨b, x0, x1, x2, x3⟩ := SC.out _ S1.out
  go_wp2_with fail
  refine (H1.out _ b).mono ?_
  rintro e W2 ⟨rfl, hb⟩
  have S2 := Lib.hid (SB.out _ _ S1.out hb); clear hb b x0 x1 x2 x3
  obtain ⟨b, x0, x1, x2, x3⟩ := SC.out _ S2.out
  cases fb with
  | false =>
    go_wp2_with fail
    go_ret
    first | exact ⟨rfl, b⟩ | exact ⟨trivial, b⟩
  | true =>
    go_wp2_with fail
    refine (H2.out (by trivial) _ b).mono ?_
    rintro e W3 ⟨rfl, hb⟩
    have S3 := Lib.hid (SB.out _ _ S2.out hb); clear hb b x0 x1 x2 x3
    have HL3 := Lib.hid (SC.out _ S3.out).1
    by_cases h0 : er = 0
    · subst h0
      obtain ⟨q0, q1, q2, q3, q4, q5⟩ := H4.out (by trivial) rfl
      have h5 := H5.out (by trivial) rfl
      clear H4 H5 H3 H2 H1 H0 S0 S1 S2
      have H5 := Lib.hid h5; clear h5
      have Q0 := Lib.hid q0; clear q0
      have Q1 := Lib.hid q1; clear q1
      have Q2 := Lib.hid q2; clear q2
      have Q5 := Lib.hid q5; clear q5
      obtain ⟨N, hN⟩ : ∃ N, N = 2 + 2 * nr := ⟨_, rfl⟩
      rw [← hN] at Q2 H5
      go_wp2_with fail
      go_loopw [7, 30] (fun n i wr => ∃ k : Nat, k ≤ S.size ∧ n = .int .i64 (c k : Nat) ∧ i = .int .i64 k ∧ Hid (wr = W3)) (fun _ i _ => S.size - (intOf i).toNat)
      case atStart => exact ⟨0, Nat.zero_le _, by rw [Q0.out]; rfl, rfl, Lib.hid rfl⟩
      case round =>
        obtain ⟨k, hk, rfl, rfl, HA⟩ := hrel
        obtain rfl := HA.out.symm
        clear HA
        by_cases hlt : k < S.size
        · obtain ⟨s1, s2⟩ := Q1.out k hlt
          have hck := Q5.out k
          have i0 : (0 : Int) ≤ (k : Int) := by omega
          have i1 : (k : Int) < (S.size : Int) := by omega
          generalize hcc : c k = ck at *
          have HCC := Lib.hid hcc; clear hcc
          by_cases hx : (S[k].toNat : Int) = 10
          · have HS := Lib.hid (s1 hx); clear s1 s2
            go_wp2_with fail
            go_roundw
            case rel => exact ⟨k + 1, by omega, by rw [HS.out]; go_num, by go_num, Lib.hid trivial⟩
            case measure => simp [intOf]; try omega
          · have HS := Lib.hid (s2 hx); clear s1 s2
            go_wp2_with fail
            go_roundw
            case rel => exact ⟨k + 1, by omega, by rw [HS.out], by go_num, Lib.hid trivial⟩
            case measure => simp [intOf]; try omega
        · obtain rfl : k = S.size := by omega
          rw [Q2.out]
          have hM := HM.out
          have hN0 : (0 : Int) < (N : Int) := by omega
          obtain ⟨m, hm⟩ : ∃ m : Nat, M.tmod (N : Int) = (m : Int) := ⟨(M.tmod N).toNat, by have := Int.tmod_nonneg (N : Int) M1; omega⟩
          have hmN : (m : Int) < (N : Int) := by rw [← hm]; exact Int.tmod_lt_of_pos _ hN0
          obtain ⟨I, hI, hcI, hIl, hcall⟩ := H5.out m (by omega)
          have HCI := Lib.hid hcI; clear hcI
          have HIL := Lib.hid hIl; clear hIl
          have HCA := Lib.hid hcall; clear hcall H5
          have hNz : ((N : Int) == 0) = false := by simp; omega
          clear hk hlt
          have HNE := Lib.hid hN; clear hN
          have HMN := Lib.hid (show m < N by omega)
          go_wp2_with fail
          clear hM hm hNz hN0 hmN M1 M2
          go_loopw [9, 46] (fun l i wr => ∃ k : Nat, k ≤ I ∧ l = .int .i64 (c k : Nat) ∧ i = .int .i64 k ∧ Hid (wr = W3)) (fun _ i _ => S.size - (intOf i).toNat)
          case atStart => exact ⟨0, Nat.zero_le _, by rw [Q0.out]; rfl, rfl, Lib.hid rfl⟩
          case round =>
            obtain ⟨k, hk, rfl, rfl, HA⟩ := hrel
            obtain rfl := HA.out.symm
            clear HA
            have hlt : k < S.size := by omega
            have i0 : (0 : Int) ≤ (k : Int) := by omega
            have i1 : (k : Int) < (S.size : Int) := by omega
            have i2 : (k : Int) ≤ (S.size : Int) := by omega
            by_cases hkI : k = I
            · subst hkI
              rw [HCI.out]
              go_upto_region 21 with fail
              go_cut [12, 13] (fun s12 s13 wx => s12 = .int .i64 ((m : Int) + 1) ∧ s13 = .int .i64 21 ∧ Hid (ST wx))
              case first =>
                go_region_with (go_at_call 9; (with_reducible refine (HCA.out _ (by first | exact HL3.out | exact HL3.out.drew | exact HL3.out.drew.alloc HL3.out.drew.size _ | exact (HL3.out.alloc HL3.out.size _).drew)).mono ?_); rintro e W4 ⟨hb, g1, m1, g2, m2, g3, m3, rfl⟩; (first | (have hq := (hb.block W3.heap.size (by simp)).trans (World.alloc_heap_new W3.drew _); have k0 : W4.cell? ⟨W3.heap.size, 0, none⟩ = _ := (Fil.own_cell hq).trans rfl; have k1 : W4.cell? ⟨W3.heap.size, 1, none⟩ = _ := (Fil.own_cell hq).trans rfl; have k2 : W4.cell? ⟨W3.heap.size, 2, none⟩ = _ := (Fil.own_cell hq).trans rfl; have k3 : W4.cell? ⟨W3.heap.size, 3, none⟩ = _ := (Fil.own_cell hq).trans rfl; have kf : ∀ j, W4.frozen? ⟨W3.heap.size, j, none⟩ = false := fun j => Fil.own_free hq; clear hq) | skip))
                all_goals
                  go_wp2_with fail
                  go_meet
                  refine ⟨rfl, rfl, Lib.hid (SB.out W3 _ S3.out ?_)⟩
                  first
                    | exact ((Below.refl _ W3).drew.trans hb).alloc hb.size _
                    | (have hz1 : Below W3.heap.size W3 W4 := ((Below.refl _ W3).alloc (Nat.le_refl _) (.cells #[.slice none 0 0, .slice none 0 0, .slice none 0 0, .int .i64 0] 27)).drew.trans (hb.mono (show W3.heap.size ≤ (W3.alloc (.cells #[.slice none 0 0, .slice none 0 0, .slice none 0 0, .int .i64 0] 27)).heap.size by rw [World.size_alloc]; exact Nat.le_succ _)); exact (((hz1.setCell (p := ⟨W3.heap.size, 0, none⟩) (Nat.le_refl _) _).setCell (p := ⟨W3.heap.size, 1, none⟩) (Nat.le_refl _) _).setCell (p := ⟨W3.heap.size, 2, none⟩) (Nat.le_refl _) _).setCell (p := ⟨W3.heap.size, 3, none⟩) (Nat.le_refl _) _)
              case rest =>
                obtain ⟨rfl, rfl, S5⟩ := hcut
                obtain ⟨b, x0, x1, x2, x3⟩ := SC.out _ S5.out
                have hNi : (N : Int) = 2 + 2 * (nr : Int) := by have := HNE.out; omega
                clear i0 i1 i2 hk hlt HCA HIL HCI Q0 Q1 Q2 Q5 S3 SB HL3
                have hmb : (m : Int) ≤ 130 := by have := HNE.out; have := HMN.out; omega
                have hm0 : (0 : Int) ≤ (m : Int) := by omega
                go_wp2_with fail
                go_ret
                first | exact ⟨rfl, b⟩ | exact ⟨trivial, b⟩
            · obtain ⟨s1, s2⟩ := Q1.out k hlt
              have hck := Q5.out k
              have hcm := HIL.out k (by omega)
              generalize hcc : c k = ck at *
              have HCC := Lib.hid hcc; clear hcc
              have hne : ((ck : Int) == (m : Int)) = false := by simp; omega
              by_cases hx : (S[k].toNat : Int) = 10
              · have HS := Lib.hid (s1 hx); clear s1 s2
                go_wp2_with fail
                go_roundw
                case rel => exact ⟨k + 1, by omega, by rw [HS.out]; go_num, by go_num, Lib.hid trivial⟩
                case measure => simp [intOf]; try omega
              · have HS := Lib.hid (s2 hx); clear s1 s2
                go_wp2_with fail
                go_roundw
                case rel => exact ⟨k + 1, by omega, by rw [HS.out], by go_num, Lib.hid trivial⟩
                case measure => simp [intOf]; try omega
    · have z : (er == 0) = false := by simpa using h0
      have z' : (er != 0) = true := by simpa using h0
      have hSe := H3.out h0
      subst hSe
      go_wp2_with fail
      go_ret
      first | exact ⟨rfl, HL3.out⟩ | exact ⟨trivial, HL3.out⟩

set_option maxRecDepth 100000 in
theorem contract (H : Type) (enc : TypeId × Value → H) (W : World) (base : Nat) (args : Array Value) (ds gs : List (DataW H)) (before : List MemPlace)
    (hval0 : ∀ (j : Nat) t v, Tryz.f7.params[j]? = some t → args[j]? = some v → Value.okWide Tryz.prog W .any base t v)
    (hW : DataW.Whole enc Tryz.prog Tryz.f7.params.toList Rows.fileLinesSpec.vars false W args.toList ds gs before) (hL : laidMetH Tryz.prog Rows.fileLinesRow.laid W) (hS : W.ShapedOpen Tryz.prog) :
    Calls Tryz.prog 7 args W fun e W' => ∃ v, e = .returned v ∧ Rows.fileLinesSpec.post enc Tryz.prog Tryz.f7 false true false false W args v W' := by
  have hval : ∀ (j : Nat) t v, Tryz.f7.params[j]? = some t → args[j]? = some v → Value.okWide Tryz.prog W .any base t v := hval0
  have hE : Env W := env_of hL hS
  have hW' := hW
  obtain ⟨p, q, hA0, hV, rfl, hfz, hnd⟩ := hW
  have hA : DataW.TrodAll enc Tryz.prog W 0 (fun _ => true) true Tryz.f7.params.toList args.toList ds p := hA0
  rw [Tryz.params7] at hA hval
  obtain ⟨v0, vs0, d0, ds0, p0, q0, hargs, rfl, rfl, h0, r0⟩ := trodAll_cons hA
  obtain ⟨v1, vs1, d1, ds1, p1, q1, rfl, rfl, rfl, h1, r1⟩ := trodAll_cons r0
  obtain ⟨rfl, rfl, rfl⟩ := trodAll_nil r1
  obtain rfl : args = #[v0, v1] := by cases args; simp_all
  obtain ⟨rfl, rfl⟩ := trodVars_none hV
  have k0 := h0
  have lt0 : ∀ x ∈ p0, x.block < W.heap.size := by obtain ⟨m, hm⟩ := k0; exact DataW.trod_lt m _ _ _ hm
  obtain ⟨pl0, w0⟩ := Fil.plan_open (hval 0 27 v0 rfl rfl) h0
  obtain ⟨a1, rfl, rfl, rfl, w1⟩ := open_int Tryz.underlying3 (hval 1 3 v1 rfl rfl) h1
  clear hA0 hval0
  refine (walk W hE v0 pl0 w0 a1 w1).mono fun e W' ⟨he, bel⟩ => ?_
  subst he
  exact ⟨_, rfl, _, _, _, [], _, [], hW', trodAll_mk1 (shut_bool Tryz.underlying4 _), (trodAll_cons_mk (Below.trod laidOut (by kernel_rfl) (of_decide_eq_true (by kernel_rfl)) k0 bel lt0) (trodAll_cons_mk (shut_int Tryz.underlying3 w1) trodAll_mk0)), rfl, bel.frame _, fun h => by cases h⟩

theorem reads (os : Os) {H : Type} (enc : TypeId × Value → H) : ∃ places, DataW.whole enc Tryz.prog ((laidWorld os).forCall (fun _ _ => 0) ⟨#[], #[.agg #[.slice none 0 0, .slice none 0 0, .slice none 0 0, .int .i64 0], .int .i64 0], []⟩).memory Tryz.f7.params.toList Rows.fileLinesSpec.vars false (#[.agg #[.slice none 0 0, .slice none 0 0, .slice none 0 0, .int .i64 0], .int .i64 0] : Array Value).toList 8 = some ([.agg [.nil, .nil, .nil, .lit (.int .i64 0)], .lit (.int .i64 0)], [], places) :=
  ⟨[], by kernel_rfl⟩
set_option maxRecDepth 100000 in
theorem lifted (os : Os) (started : os.Started) (H : Type) (enc : TypeId × Value → H) (F : Stop.Interp) :
    ReturnsInHanded {} Tryz.checked os 7 .any ((OpenSpec.ofChange Rows.fileLinesSpec).preRow enc Tryz.prog Tryz.f7 Rows.fileLinesRow.domain false Rows.fileLinesRow.laid) (((OpenSpec.ofChange Rows.fileLinesSpec).at F).post enc Tryz.prog Tryz.f7 false true false false) := by
  obtain ⟨places, hx⟩ := reads os enc
  refine returnsInHanded_of_row (C := Tryz.checked) (s := OpenSpec.ofChange Rows.fileLinesSpec) own started (by kernel_rfl) Tryz.func7
    (witness_row_at (enc := enc) (C := Tryz.checked) false (laidWorld os) #[.agg #[.slice none 0 0, .slice none 0 0, .slice none 0 0, .int .i64 0], .int .i64 0] rfl (by kernel_rfl) (by kernel_rfl) (by kernel_rfl)
      (OpenSpec.preRow_of_cond 8 hx (by kernel_rfl) (fun k hk => by cases hk) (by kernel_rfl) (laid_met os _))) ?_
  intro W base args ds gs before hval hW _ _ _ hL hS _
  exact contract H enc W base args ds gs before hval hW hL hS

theorem said : Rows.FileLinesSaid :=
  OpenClaim.holds_of_cond 7 Tryz.f7 rfl rfl rfl rfl rfl rfl rfl ⟨rfl, rfl, rfl, rfl, rfl⟩ rfl rfl rfl rfl rfl (by kernel_rfl) Tryz.func7 (by kernel_rfl)
    (of_decide_eq_true (by kernel_rfl)) (by unfold Func.isWrapper; first | (rw [if_pos (by decide +kernel)]; kernel_rfl) | (rw [if_neg (by decide +kernel)]; exact ⟨rfl, rfl⟩))
    (fun os started H enc _ F => by rw [OpenClaim.pre_eq_preRow]; exact lifted os started H enc F)

theorem plain (f : FuncId) (fn : Func) (hf : Tryz.pinned.checked.prog.funcNamed "jitney/jitneylaw23.FileLines" = some f) (hfn : Tryz.pinned.checked.prog.funcs[f]? = some fn) :
    true = Tryz.pinned.checked.prog.looks [] ∧ ∀ (j : Nat) t, fn.params[j]? = some t → Tryz.pinned.checked.prog.wantsStandIn t = false := by
  obtain rfl : f = 7 := Option.some.inj ((show Tryz.prog.funcNamed "jitney/jitneylaw23.FileLines" = some 7 by kernel_rfl).symm.trans hf) |>.symm
  obtain rfl : fn = Tryz.f7 := (Option.some.inj (Tryz.func7.symm.trans hfn)).symm
  refine ⟨by kernel_rfl, fun j t ht => ?_⟩
  rw [Tryz.params7] at ht
  have hm := Array.mem_of_getElem? ht
  simp only [List.mem_toArray, List.mem_cons, List.not_mem_nil, or_false] at hm
  rcases hm with rfl | rfl
  · exact (show Tryz.prog.wantsStandIn 27 = false by kernel_rfl)
  · exact (show Tryz.prog.wantsStandIn 3 = false by kernel_rfl)

/-- THE CARD -/
theorem card : Rows.FileLinesCardSaid :=
  Claim7.holds_tied_plain_at .later [] _ _ _ _ said (fun _ h => by cases h) (by kernel_rfl) (fun _ h => by cases h) fileLines_row_tie rfl ⟨rfl, rfl⟩ (by kernel_rfl) rfl plain (by kernel_rfl)
#print axioms card
end Go.Proofs.YtkggahoadeeajaaGreatDoor.fileLines
