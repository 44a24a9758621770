/- FileBack: whatever the input, the law returns true, and each argument reads as it read before; the library's tables hold what the program's text lays. No other conditions. -/
import Derived.Test.YtkggahoadeeajaaGreatDoorCards
import Derived.Test.YtkggahoadeeajaaGreatDoorTie
import Derived.WalkKit
import Derived.ProofKit
import Derived.ShutString
import Derived.ChangeOld
import Derived.Below
import Derived.OpenShut
import Derived.Lib.SmallJoins
import Derived.Deep.DeepHandedRow
import Derived.SevenTiedAt
import Derived.Test.YtkggahoadeeajaaGreatDoorDeciWorld
import Derived.Test.YtkggahoadeeajaaGreatDoorFilOpen
import Derived.Test.YtkggahoadeeajaaGreatDoorFilAlive
import Derived.Test.YtkggahoadeeajaaGreatDoorFilLaw
import Derived.Test.YtkggahoadeeajaaGreatDoorFilEqual
import Derived.Test.YtkggahoadeeajaaGreatDoorFilBack
namespace Go.Proofs.YtkggahoadeeajaaGreatDoor.fileBack
open Go.ChangeShapes Go.WideShapes Go.ChangeAt Go.RowKit Go.Joins
open Go.ChangeMaps (open_string shut_string)
open Deci
set_option linter.unusedVariables false

theorem wf64 {n : Int} (h : (Lit.int .i64 n).wf = true) : -9223372036854775808 ≤ n ∧ n ≤ 9223372036854775807 := by
  simp [Lit.wf] at h
  exact h
theorem own : ownKnob Tryz.prog.godebug = none := by kernel_rfl
theorem laidOut : laidOutB Tryz.prog = true := by kernel_rfl
/-- What Parse of a text leaves, told plainly. -/
def Tells (w : World) (p : Fil.PL) (ln er : Int) (e : Ending) (w' : World) : Prop :=
  Below w.heap.size w w' ∧ ∃ a1 c1 a2 c2 a3 c3, e = .returned (.tuple #[.agg #[.slice a1 p.routes.length c1, .slice a2 p.times.length c2, .slice a3 p.left.length c3, .int .i64 p.cost], .int .i64 ln, .int .i64 er]) ∧ Fil.IsPlan w' (.agg #[.slice a1 p.routes.length c1, .slice a2 p.times.length c2, .slice a3 p.left.length c3, .int .i64 p.cost]) p
theorem tells_any (s : ByteArray) (w : World) (hs : s.size ≤ 1000000) (hE : Env w) :
    Calls Tryz.prog 9 #[.string s] w (Tells w (Fil.parseP s.data.toList) (Fil.readF s.data.toList).1 (Fil.readF s.data.toList).2) := by
  refine (Fil.parse_any s w hs (Fil.env_at hE)).mono ?_
  rintro e w' ⟨hb, v, he, hp⟩
  have hi := hp.isPlan
  obtain ⟨v1, v2, v3, rfl, i1, i2, i3⟩ := hi
  obtain ⟨a1, c1, rfl⟩ := i1.form
  obtain ⟨a2, c2, rfl⟩ := i2.form
  obtain ⟨a3, c3, rfl⟩ := i3.form
  exact ⟨hb, a1, c1, a2, c2, a3, c3, he, ⟨_, _, _, rfl, i1, i2, i3⟩⟩
set_option maxHeartbeats 4000000 in
set_option maxRecDepth 100000 in
theorem walk (w : World) (hE : Env w) (v0 : Value) (pl0 : Fil.PL) (w0 : Fil.Came w v0 pl0) (s1 : ByteArray) (w1 : s1.size ≤ maxLen) :
    Calls Tryz.prog 5 #[v0, .string s1] w fun e w' => e = .returned (.bool true) ∧ Below w.heap.size w w' := by
  have hE' : ∀ W, Below w.heap.size w W → Env W := fun W hb => hE.below hb
  obtain ⟨hi, n1, n2, n3, n4, l1, l2, l3, l4, l5⟩ := w0
  have hi0 := hi
  obtain ⟨va, vb, vc, rfl, i1, i2, i3⟩ := hi0
  obtain ⟨a1, c1, rfl⟩ := i1.form
  obtain ⟨a2, c2, rfl⟩ := i2.form
  obtain ⟨a3, c3, rfl⟩ := i3.form
  clear i1 i2 i3
  have K0 := fun W (hb : Below w.heap.size w W) => Fil.alive_any W (hE' W hb)
  have K1 := fun W (hb : Below w.heap.size w W) => Fil.few_any _ pl0 W (hi.below hb) ⟨l1, l2, l3, l4, l5⟩
  -- the plan: its text, and what is read of it
  have K2 := fun (hf : Fil.fewB pl0 = true) W (hb : Below w.heap.size w W) => Fil.print_any _ pl0 W (Fil.env_at (hE' W hb)) (Fil.few_fit hf) (hi.below hb)
  unfold Fil.PrintOut at K2
  obtain ⟨S, hS⟩ : ∃ S, S = strOf (if Fil.checkE pl0 = 0 then Fil.planT pl0 else []) := ⟨_, rfl⟩
  obtain ⟨er, her⟩ : ∃ er, er = Fil.checkE pl0 := ⟨_, rfl⟩
  rw [← hS, ← her] at K2
  have K3 : Fil.fewB pl0 = true → er = 0 → ∀ W, Below w.heap.size w W → Calls Tryz.prog 9 #[.string S] W (fun e w' => Tells W pl0 0 0 e w') := fun hf h0 W hb => by
    have hok := Fil.check_ok.1 (her.symm.trans h0)
    have hlen := Fil.planT_few hok hf
    have hSS : S = strOf (Fil.planT pl0) := by rw [hS, if_pos (her.symm.trans h0)]
    have h := tells_any S W (by rw [hSS]; show (Fil.planT pl0).length ≤ _; omega) (hE' W hb)
    obtain ⟨r1, r2⟩ := Fil.back hok (by omega)
    rw [hSS, data_strOf, r1, r2] at h
    rw [hSS]; exact h
  unfold Tells at K3
  have K4 : Fil.fewB pl0 = true → ∀ W v, Below w.heap.size w W → Fil.IsPlan W v pl0 → Calls Tryz.prog 16 #[v, .agg #[.slice a1 pl0.routes.length c1, .slice a2 pl0.times.length c2, .slice a3 pl0.left.length c3, .int .i64 pl0.cost]] W fun e w' => e = .returned (.bool true) ∧ Below W.heap.size W w' := fun hf W v hb hv => by
    have h := Fil.planSame_any v _ pl0 pl0 W (Fil.few_fit hf) (Fil.few_fit hf) hv (hi.below hb)
    rw [Fil.sameP_self] at h; exact h
  -- the text: what is read of it, its text, and what is read of that
  obtain ⟨q, hq⟩ : ∃ q, q = Fil.parseP s1.data.toList := ⟨_, rfl⟩
  obtain ⟨ln, hln⟩ : ∃ ln : Int, ln = ((Fil.readF s1.data.toList).1 : Nat) := ⟨_, rfl⟩
  obtain ⟨e1, he1⟩ : ∃ e1, e1 = (Fil.readF s1.data.toList).2 := ⟨_, rfl⟩
  have hsz : s1.data.toList.length = s1.size := by simp
  have K5 : s1.size ≤ 3000 → ∀ W, Below w.heap.size w W → Calls Tryz.prog 9 #[.string s1] W (Tells W q ln e1) := fun hs W hb => by
    have h := tells_any s1 W (by omega) (hE' W hb)
    rw [← hq, ← hln, ← he1] at h; exact h
  have K6 : e1 ≠ 0 → q.routes.length = 0 ∧ q.cost = 0 := fun h => by rw [hq, Fil.parse_none (by rw [← he1]; exact h)]; exact ⟨rfl, rfl⟩
  have K7 : e1 = 0 → ln = 0 := fun h => by rw [hln, Fil.read_line (by rw [← he1]; exact h)]; rfl
  have hqf : s1.size ≤ 3000 → q.Fit := fun hs => by rw [hq]; exact Fil.parse_fit _ (by omega)
  have hqo : e1 = 0 → q.Ok ∧ (Fil.planT q).length ≤ s1.size := fun h => by rw [hq, ← hsz]; exact Fil.parse_ok (by rw [← he1]; exact h)
  obtain ⟨S2, hS2⟩ : ∃ S2, S2 = strOf (Fil.planT q) := ⟨_, rfl⟩
  have K8 : s1.size ≤ 3000 → e1 = 0 → ∀ W v, Below w.heap.size w W → Fil.IsPlan W v q → Calls Tryz.prog 14 #[v] W fun e w' => e = .returned (.tuple #[.string S2, .int .i64 0]) ∧ Below W.heap.size W w' := fun hs h0 W v hb hv => by
    have h := Fil.print_any v q W (Fil.env_at (hE' W hb)) (hqf hs) hv
    unfold Fil.PrintOut at h
    rw [Fil.check_ok.2 (hqo h0).1, if_pos rfl, ← hS2] at h
    exact h
  have K9 : s1.size ≤ 3000 → e1 = 0 → ∀ W, Below w.heap.size w W → Calls Tryz.prog 9 #[.string S2] W (Tells W q 0 0) := fun hs h0 W hb => by
    obtain ⟨h1, h2⟩ := hqo h0
    have h := tells_any S2 W (by rw [hS2]; show (Fil.planT q).length ≤ _; omega) (hE' W hb)
    obtain ⟨r1, r2⟩ := Fil.back h1 (by omega)
    rw [hS2, data_strOf, r1, r2] at h
    rw [hS2]; exact h
  have K10 : s1.size ≤ 3000 → ∀ W v v', Fil.IsPlan W v q → Fil.IsPlan W v' q → Calls Tryz.prog 16 #[v, v'] W fun e w' => e = .returned (.bool true) ∧ Below W.heap.size W w' := fun hs W v v' hv hv' => by
    have h := Fil.planSame_any v v' q q W (hqf hs) (hqf hs) hv hv'
    rw [Fil.sameP_self] at h; exact h
  have K11 : e1 = 0 → S2.size ≤ s1.size := fun h0 => by rw [hS2]; exact (hqo h0).2
  clear hS her hq hln he1 hsz hqf hqo hS2 hE hE' n1 n2 n3 n4 l1 l2 l3 l4 l5
  have HI := Lib.hid hi; clear hi
  have H0 := Lib.hid K0; clear K0
  have H1 := Lib.hid K1; clear K1
  have H2 := Lib.hid K2; clear K2
  have H3 := Lib.hid K3; clear K3
  have H4 := Lib.hid K4; clear K4
  have H5 := Lib.hid K5; clear K5
  have H6 := Lib.hid K6; clear K6
  have H7 := Lib.hid K7; clear K7
  have H8 := Lib.hid K8; clear K8
  have H9 := Lib.hid K9; clear K9
  have H10 := Lib.hid K10; clear K10
  have H11 := Lib.hid K11; clear K11
  obtain ⟨fb, hfb⟩ : ∃ fb, fb = Fil.fewB pl0 := ⟨_, rfl⟩
  rw [← hfb] at H1 H2 H3 H4
  have HF := Lib.hid hfb; clear hfb
  obtain ⟨X, hX⟩ : ∃ X, X = w.heap.size := ⟨_, rfl⟩
  obtain ⟨C, hC⟩ : ∃ C : Array Value, C = #[.slice a1 pl0.routes.length c1, .slice a2 pl0.times.length c2, .slice a3 pl0.left.length c3, .int .i64 pl0.cost] := ⟨_, rfl⟩
  obtain ⟨ST, hST⟩ : ∃ ST : World → Prop, ST = fun W => Below w.heap.size w W ∧ W.heap[X]? = some (.cells C 27) := ⟨_, rfl⟩
  have S0 : Hid (ST (w.alloc (.cells #[.slice a1 pl0.routes.length c1, .slice a2 pl0.times.length c2, .slice a3 pl0.left.length c3, .int .i64 pl0.cost] 27))) := Lib.hid (by rw [hST, hC, hX]; exact ⟨(Below.refl _ _).alloc (Nat.le_refl _) _, World.alloc_heap_new w _⟩)
  have SB : Hid (∀ W W', ST W → Below W.heap.size W W' → ST W') := Lib.hid fun W W' h hb => by
    rw [hST] at h ⊢
    exact ⟨h.1.trans (hb.mono h.1.size), (hb.block X (Fil.own_lt h.2)).trans h.2⟩
  have SC : Hid (∀ W, ST W → Below w.heap.size w W ∧ W.cell? ⟨X, 0, none⟩ = some (.slice a1 pl0.routes.length c1) ∧ W.cell? ⟨X, 1, none⟩ = some (.slice a2 pl0.times.length c2) ∧ W.cell? ⟨X, 2, none⟩ = some (.slice a3 pl0.left.length c3) ∧ W.cell? ⟨X, 3, none⟩ = some (.int .i64 pl0.cost)) := Lib.hid fun W h => by
    rw [hST, hC] at h
    exact ⟨h.1, (Fil.own_cell h.2).trans rfl, (Fil.own_cell h.2).trans rfl, (Fil.own_cell h.2).trans rfl, (Fil.own_cell h.2).trans rfl⟩
  have HX := Lib.hid hX; clear hX
  clear hST hC C
  generalize pl0.routes.length = nr at *
  generalize pl0.times.length = nt at *
  generalize pl0.left.length = nl at *
  generalize pl0.cost = cost at *
  obtain ⟨U0, hU0⟩ : ∃ U, U = w.alloc (.cells #[.slice a1 nr c1, .slice a2 nt c2, .slice a3 nl c3, .int .i64 cost] 27) := ⟨_, rfl⟩
  rw [← hU0] at S0
  have HU := Lib.hid hU0; clear hU0
  go_enter Tryz.func5, Tryz.ntmps5
  go_wp2_with fail
  rw [← HU.out, ← HX.out]
  refine (H0.out _ (SC.out _ S0.out).1).mono ?_
  rintro e W1 ⟨rfl, hb⟩
  have S1 := Lib.hid (SB.out _ _ S0.out hb); clear hb
  obtain ⟨b1, x0, x1, x2, x3⟩ := SC.out _ S1.out
  go_wp2_with fail
  refine (H1.out _ b1).mono ?_
  rintro e W2 ⟨rfl, hb⟩
  have S2 := Lib.hid (SB.out _ _ S1.out hb); clear hb b1 x0 x1 x2 x3
  obtain ⟨b2, x0, x1, x2, x3⟩ := SC.out _ S2.out
  cases fb with
  | false =>
    go_wp2_with fail
    go_ret
    first | exact ⟨rfl, b2⟩ | exact ⟨trivial, b2⟩
  | true =>
    by_cases hbig : 3000 < (s1.size : Int)
    · go_wp2_with fail
      go_ret
      first | exact ⟨rfl, b2⟩ | exact ⟨trivial, b2⟩
    · have hs3 : s1.size ≤ 3000 := by omega
      go_wp2_with fail
      refine (H2.out (by trivial) _ b2).mono ?_
      rintro e W3 ⟨rfl, hb⟩
      have S3 := Lib.hid (SB.out _ _ S2.out hb); clear hb b2 x0 x1 x2 x3
      obtain ⟨b3, x0, x1, x2, x3⟩ := SC.out _ S3.out
      have HS3 := Lib.hid hs3; clear hs3 hbig
      by_cases h0 : er = 0
      · subst h0
        go_wp2_with fail
        refine (H3.out (by trivial) (by trivial) _ b3).mono ?_
        rintro e W4 ⟨hb, d1, k1, d2, k2, d3, k3, rfl, hip⟩
        have S4 := Lib.hid (SB.out _ _ S3.out hb); clear hb b3 x0 x1 x2 x3
        obtain ⟨b4, x0, x1, x2, x3⟩ := SC.out _ S4.out
        obtain ⟨U4, hU4⟩ : ∃ U, U = W4.alloc (.cells #[.slice d1 nr k1, .slice d2 nt k2, .slice d3 nl k3, .int .i64 cost] 27) := ⟨_, rfl⟩
        have hba : Below W4.heap.size W4 U4 := by rw [hU4]; exact (Below.refl _ _).alloc (Nat.le_refl _) _
        have hy : U4.heap[W4.heap.size]? = some (.cells #[.slice d1 nr k1, .slice d2 nt k2, .slice d3 nl k3, .int .i64 cost] 27) := by rw [hU4]; exact World.alloc_heap_new W4 _
        have S5 := Lib.hid (SB.out _ _ S4.out hba)
        have HP5 := Lib.hid (hip.below hba)
        clear b4 x0 x1 x2 x3 hip hba
        obtain ⟨b5, x0, x1, x2, x3⟩ := SC.out _ S5.out
        have y0 : U4.cell? ⟨W4.heap.size, 0, none⟩ = some (.slice d1 nr k1) := (Fil.own_cell hy).trans rfl
        have y1 : U4.cell? ⟨W4.heap.size, 1, none⟩ = some (.slice d2 nt k2) := (Fil.own_cell hy).trans rfl
        have y2 : U4.cell? ⟨W4.heap.size, 2, none⟩ = some (.slice d3 nl k3) := (Fil.own_cell hy).trans rfl
        have y3 : U4.cell? ⟨W4.heap.size, 3, none⟩ = some (.int .i64 cost) := (Fil.own_cell hy).trans rfl
        clear hy
        rw [hU4] at x0 x1 x2 x3 y0 y1 y2 y3
        have HU4 := Lib.hid hU4; clear hU4
        go_wp2_with fail
        refine (H4.out (by trivial) _ _ (by rw [← HU4.out]; exact b5) (by rw [← HU4.out]; exact HP5.out)).mono ?_
        rintro e W5 ⟨rfl, hb⟩
        have S6 := Lib.hid (SB.out _ _ S5.out (by rw [HU4.out]; exact hb)); clear hb b5 x0 x1 x2 x3 y0 y1 y2 y3
        go_wp2_with fail
        -- the rest: the text
        have HL := Lib.hid (show Below w.heap.size w W5 from (SC.out _ S6.out).1)
        clear HU4 HP5 S4 S5 S0 S1 S2 S3 SB SC H0 H1 H2 H3 H4 HI HF
        refine (H5.out HS3.out _ HL.out).mono ?_
        rintro e V1 ⟨hb, g1, m1, g2, m2, g3, m3, rfl, hip⟩
        have L1 := Lib.hid (HL.out.trans (hb.mono HL.out.size)); clear hb
        obtain ⟨Y1, hY1⟩ : ∃ U, U = V1.alloc (.cells #[.slice g1 q.routes.length m1, .slice g2 q.times.length m2, .slice g3 q.left.length m3, .int .i64 q.cost] 27) := ⟨_, rfl⟩
        have hba : Below V1.heap.size V1 Y1 := by rw [hY1]; exact (Below.refl _ _).alloc (Nat.le_refl _) _
        have hy : Y1.heap[V1.heap.size]? = some (.cells #[.slice g1 q.routes.length m1, .slice g2 q.times.length m2, .slice g3 q.left.length m3, .int .i64 q.cost] 27) := by rw [hY1]; exact World.alloc_heap_new V1 _
        have L2 := Lib.hid (L1.out.trans (hba.mono L1.out.size))
        have HQ1 := Lib.hid (hip.below hba)
        clear hip hba
        have y0 : Y1.cell? ⟨V1.heap.size, 0, none⟩ = some (.slice g1 q.routes.length m1) := (Fil.own_cell hy).trans rfl
        have y1 : Y1.cell? ⟨V1.heap.size, 1, none⟩ = some (.slice g2 q.times.length m2) := (Fil.own_cell hy).trans rfl
        have y2 : Y1.cell? ⟨V1.heap.size, 2, none⟩ = some (.slice g3 q.left.length m3) := (Fil.own_cell hy).trans rfl
        have y3 : Y1.cell? ⟨V1.heap.size, 3, none⟩ = some (.int .i64 q.cost) := (Fil.own_cell hy).trans rfl
        have HY := Lib.hid hy; clear hy
        rw [hY1] at y0 y1 y2 y3
        have HY1 := Lib.hid hY1; clear hY1
        have H6q := H6.out
        have H7q := H7.out
        by_cases he : e1 = 0
        · subst he
          have hln := H7q rfl
          subst hln
          have h8 := H8.out HS3.out rfl
          have h9 := H9.out HS3.out rfl
          have h10 := H10.out HS3.out
          have h11 := H11.out rfl
          clear H6q H7q H6 H7 H8 H9 H10 H11 H5 HS3
          have H8 := Lib.hid h8; clear h8
          have H9 := Lib.hid h9; clear h9
          have H10 := Lib.hid h10; clear h10
          have H11 := Lib.hid h11; clear h11
          go_wp2_with fail
          rw [← HY1.out]
          clear y0 y1 y2 y3
          refine (H8.out _ _ L2.out HQ1.out).mono ?_
          rintro e V3 ⟨rfl, hb⟩
          have L3 := Lib.hid (L2.out.trans (hb.mono L2.out.size))
          have HQ3 := Lib.hid (HQ1.out.below hb)
          have HY3 := Lib.hid ((hb.block _ (Fil.own_lt HY.out)).trans HY.out)
          clear hb
          go_wp2_with fail
          refine (H9.out _ L3.out).mono ?_
          rintro e V4 ⟨hb, g4, m4, g5, m5, g6, m6, rfl, hip⟩
          have L4 := Lib.hid (L3.out.trans (hb.mono L3.out.size))
          have HQ4 := Lib.hid (HQ3.out.below hb)
          have HY4 := Lib.hid ((hb.block _ (Fil.own_lt HY3.out)).trans HY3.out)
          clear hb
          obtain ⟨Y2, hY2⟩ : ∃ U, U = V4.alloc (.cells #[.slice g4 q.routes.length m4, .slice g5 q.times.length m5, .slice g6 q.left.length m6, .int .i64 q.cost] 27) := ⟨_, rfl⟩
          have hba : Below V4.heap.size V4 Y2 := by rw [hY2]; exact (Below.refl _ _).alloc (Nat.le_refl _) _
          have hy : Y2.heap[V4.heap.size]? = some (.cells #[.slice g4 q.routes.length m4, .slice g5 q.times.length m5, .slice g6 q.left.length m6, .int .i64 q.cost] 27) := by rw [hY2]; exact World.alloc_heap_new V4 _
          have hy5 := (hba.block _ (Fil.own_lt HY4.out)).trans HY4.out
          have L5 := Lib.hid (L4.out.trans (hba.mono L4.out.size))
          have HQ5 := Lib.hid (hip.below hba)
          have HQ6 := Lib.hid (HQ4.out.below hba)
          clear hip hba
          have y0 : Y2.cell? ⟨V1.heap.size, 0, none⟩ = some (.slice g1 q.routes.length m1) := (Fil.own_cell hy5).trans rfl
          have y1 : Y2.cell? ⟨V1.heap.size, 1, none⟩ = some (.slice g2 q.times.length m2) := (Fil.own_cell hy5).trans rfl
          have y2 : Y2.cell? ⟨V1.heap.size, 2, none⟩ = some (.slice g3 q.left.length m3) := (Fil.own_cell hy5).trans rfl
          have y3 : Y2.cell? ⟨V1.heap.size, 3, none⟩ = some (.int .i64 q.cost) := (Fil.own_cell hy5).trans rfl
          have z0 : Y2.cell? ⟨V4.heap.size, 0, none⟩ = some (.slice g4 q.routes.length m4) := (Fil.own_cell hy).trans rfl
          have z1 : Y2.cell? ⟨V4.heap.size, 1, none⟩ = some (.slice g5 q.times.length m5) := (Fil.own_cell hy).trans rfl
          have z2 : Y2.cell? ⟨V4.heap.size, 2, none⟩ = some (.slice g6 q.left.length m6) := (Fil.own_cell hy).trans rfl
          have z3 : Y2.cell? ⟨V4.heap.size, 3, none⟩ = some (.int .i64 q.cost) := (Fil.own_cell hy).trans rfl
          clear hy hy5 HY3 HY4
          rw [hY2] at y0 y1 y2 y3 z0 z1 z2 z3
          have HY2 := Lib.hid hY2; clear hY2
          have hlen : (S2.size : Int) ≤ (s1.size : Int) := by have := H11.out; omega
          go_wp2_with fail
          refine (H10.out _ _ _ (by rw [← HY2.out]; exact HQ5.out) (by rw [← HY2.out]; exact HQ6.out)).mono ?_
          rintro e V5 ⟨rfl, hb⟩
          have L6 := Lib.hid (show Below w.heap.size w V5 from L5.out.trans (by rw [← HY2.out] at hb; exact hb.mono L5.out.size))
          clear hb y0 y1 y2 y3 z0 z1 z2 z3
          go_wp2_with fail
          go_ret
          first | exact ⟨rfl, L6.out⟩ | exact ⟨trivial, L6.out⟩
        · have z6 : (e1 == 0) = false := by simpa using he
          have z7 : (e1 != 0) = true := by simpa using he
          obtain ⟨z8, z9⟩ := H6q he
          have hL := L2.out
          rw [HY1.out, z8, z9] at hL
          have HL2 := Lib.hid hL; clear hL
          clear HY1 HQ1 HY
          rw [z8, z9] at y0 y1 y2 y3 ⊢
          go_wp2_with fail
          go_ret
          exact ⟨rfl, HL2.out⟩
      · have z : (er == 0) = false := by simpa using h0
        go_wp2_with fail
        -- the rest: the text
        have HL := Lib.hid (show Below w.heap.size w W3 from (SC.out _ S3.out).1)
        clear b3 x0 x1 x2 x3 S0 S1 S2 S3 SB SC H0 H1 H2 H3 H4 HI HF
        refine (H5.out HS3.out _ HL.out).mono ?_
        rintro e V1 ⟨hb, g1, m1, g2, m2, g3, m3, rfl, hip⟩
        have L1 := Lib.hid (HL.out.trans (hb.mono HL.out.size)); clear hb
        obtain ⟨Y1, hY1⟩ : ∃ U, U = V1.alloc (.cells #[.slice g1 q.routes.length m1, .slice g2 q.times.length m2, .slice g3 q.left.length m3, .int .i64 q.cost] 27) := ⟨_, rfl⟩
        have hba : Below V1.heap.size V1 Y1 := by rw [hY1]; exact (Below.refl _ _).alloc (Nat.le_refl _) _
        have hy : Y1.heap[V1.heap.size]? = some (.cells #[.slice g1 q.routes.length m1, .slice g2 q.times.length m2, .slice g3 q.left.length m3, .int .i64 q.cost] 27) := by rw [hY1]; exact World.alloc_heap_new V1 _
        have L2 := Lib.hid (L1.out.trans (hba.mono L1.out.size))
        have HQ1 := Lib.hid (hip.below hba)
        clear hip hba
        have y0 : Y1.cell? ⟨V1.heap.size, 0, none⟩ = some (.slice g1 q.routes.length m1) := (Fil.own_cell hy).trans rfl
        have y1 : Y1.cell? ⟨V1.heap.size, 1, none⟩ = some (.slice g2 q.times.length m2) := (Fil.own_cell hy).trans rfl
        have y2 : Y1.cell? ⟨V1.heap.size, 2, none⟩ = some (.slice g3 q.left.length m3) := (Fil.own_cell hy).trans rfl
        have y3 : Y1.cell? ⟨V1.heap.size, 3, none⟩ = some (.int .i64 q.cost) := (Fil.own_cell hy).trans rfl
        have HY := Lib.hid hy; clear hy
        rw [hY1] at y0 y1 y2 y3
        have HY1 := Lib.hid hY1; clear hY1
        have H6q := H6.out
        have H7q := H7.out
        by_cases he : e1 = 0
        · subst he
          have hln := H7q rfl
          subst hln
          have h8 := H8.out HS3.out rfl
          have h9 := H9.out HS3.out rfl
          have h10 := H10.out HS3.out
          have h11 := H11.out rfl
          clear H6q H7q H6 H7 H8 H9 H10 H11 H5 HS3
          have H8 := Lib.hid h8; clear h8
          have H9 := Lib.hid h9; clear h9
          have H10 := Lib.hid h10; clear h10
          have H11 := Lib.hid h11; clear h11
          go_wp2_with fail
          rw [← HY1.out]
          clear y0 y1 y2 y3
          refine (H8.out _ _ L2.out HQ1.out).mono ?_
          rintro e V3 ⟨rfl, hb⟩
          have L3 := Lib.hid (L2.out.trans (hb.mono L2.out.size))
          have HQ3 := Lib.hid (HQ1.out.below hb)
          have HY3 := Lib.hid ((hb.block _ (Fil.own_lt HY.out)).trans HY.out)
          clear hb
          go_wp2_with fail
          refine (H9.out _ L3.out).mono ?_
          rintro e V4 ⟨hb, g4, m4, g5, m5, g6, m6, rfl, hip⟩
          have L4 := Lib.hid (L3.out.trans (hb.mono L3.out.size))
          have HQ4 := Lib.hid (HQ3.out.below hb)
          have HY4 := Lib.hid ((hb.block _ (Fil.own_lt HY3.out)).trans HY3.out)
          clear hb
          obtain ⟨Y2, hY2⟩ : ∃ U, U = V4.alloc (.cells #[.slice g4 q.routes.length m4, .slice g5 q.times.length m5, .slice g6 q.left.length m6, .int .i64 q.cost] 27) := ⟨_, rfl⟩
          have hba : Below V4.heap.size V4 Y2 := by rw [hY2]; exact (Below.refl _ _).alloc (Nat.le_refl _) _
          have hy : Y2.heap[V4.heap.size]? = some (.cells #[.slice g4 q.routes.length m4, .slice g5 q.times.length m5, .slice g6 q.left.length m6, .int .i64 q.cost] 27) := by rw [hY2]; exact World.alloc_heap_new V4 _
          have hy5 := (hba.block _ (Fil.own_lt HY4.out)).trans HY4.out
          have L5 := Lib.hid (L4.out.trans (hba.mono L4.out.size))
          have HQ5 := Lib.hid (hip.below hba)
          have HQ6 := Lib.hid (HQ4.out.below hba)
          clear hip hba
          have y0 : Y2.cell? ⟨V1.heap.size, 0, none⟩ = some (.slice g1 q.routes.length m1) := (Fil.own_cell hy5).trans rfl
          have y1 : Y2.cell? ⟨V1.heap.size, 1, none⟩ = some (.slice g2 q.times.length m2) := (Fil.own_cell hy5).trans rfl
          have y2 : Y2.cell? ⟨V1.heap.size, 2, none⟩ = some (.slice g3 q.left.length m3) := (Fil.own_cell hy5).trans rfl
          have y3 : Y2.cell? ⟨V1.heap.size, 3, none⟩ = some (.int .i64 q.cost) := (Fil.own_cell hy5).trans rfl
          have z0 : Y2.cell? ⟨V4.heap.size, 0, none⟩ = some (.slice g4 q.routes.length m4) := (Fil.own_cell hy).trans rfl
          have z1 : Y2.cell? ⟨V4.heap.size, 1, none⟩ = some (.slice g5 q.times.length m5) := (Fil.own_cell hy).trans rfl
          have z2 : Y2.cell? ⟨V4.heap.size, 2, none⟩ = some (.slice g6 q.left.length m6) := (Fil.own_cell hy).trans rfl
          have z3 : Y2.cell? ⟨V4.heap.size, 3, none⟩ = some (.int .i64 q.cost) := (Fil.own_cell hy).trans rfl
          clear hy hy5 HY3 HY4
          rw [hY2] at y0 y1 y2 y3 z0 z1 z2 z3
          have HY2 := Lib.hid hY2; clear hY2
          have hlen : (S2.size : Int) ≤ (s1.size : Int) := by have := H11.out; omega
          go_wp2_with fail
          refine (H10.out _ _ _ (by rw [← HY2.out]; exact HQ5.out) (by rw [← HY2.out]; exact HQ6.out)).mono ?_
          rintro e V5 ⟨rfl, hb⟩
          have L6 := Lib.hid (show Below w.heap.size w V5 from L5.out.trans (by rw [← HY2.out] at hb; exact hb.mono L5.out.size))
          clear hb y0 y1 y2 y3 z0 z1 z2 z3
          go_wp2_with fail
          go_ret
          first | exact ⟨rfl, L6.out⟩ | exact ⟨trivial, L6.out⟩
        · have z6 : (e1 == 0) = false := by simpa using he
          have z7 : (e1 != 0) = true := by simpa using he
          obtain ⟨z8, z9⟩ := H6q he
          have hL := L2.out
          rw [HY1.out, z8, z9] at hL
          have HL2 := Lib.hid hL; clear hL
          clear HY1 HQ1 HY
          rw [z8, z9] at y0 y1 y2 y3 ⊢
          go_wp2_with fail
          go_ret
          exact ⟨rfl, HL2.out⟩

set_option maxRecDepth 100000 in
theorem contract (H : Type) (enc : TypeId × Value → H) (W : World) (base : Nat) (args : Array Value) (ds gs : List (DataW H)) (before : List MemPlace)
    (hval0 : ∀ (j : Nat) t v, Tryz.f5.params[j]? = some t → args[j]? = some v → Value.okWide Tryz.prog W .any base t v)
    (hW : DataW.Whole enc Tryz.prog Tryz.f5.params.toList Rows.fileBackSpec.vars false W args.toList ds gs before) (hL : laidMetH Tryz.prog Rows.fileBackRow.laid W) (hS : W.ShapedOpen Tryz.prog) :
    Calls Tryz.prog 5 args W fun e W' => ∃ v, e = .returned v ∧ Rows.fileBackSpec.post enc Tryz.prog Tryz.f5 false true false false W args v W' := by
  have hval : ∀ (j : Nat) t v, Tryz.f5.params[j]? = some t → args[j]? = some v → Value.okWide Tryz.prog W .any base t v := hval0
  have hE : Env W := env_of hL hS
  have hW' := hW
  obtain ⟨p, q, hA0, hV, rfl, hfz, hnd⟩ := hW
  have hA : DataW.TrodAll enc Tryz.prog W 0 (fun _ => true) true Tryz.f5.params.toList args.toList ds p := hA0
  rw [Tryz.params5] at hA hval
  obtain ⟨v0, vs0, d0, ds0, p0, q0, hargs, rfl, rfl, h0, r0⟩ := trodAll_cons hA
  obtain ⟨v1, vs1, d1, ds1, p1, q1, rfl, rfl, rfl, h1, r1⟩ := trodAll_cons r0
  obtain ⟨rfl, rfl, rfl⟩ := trodAll_nil r1
  obtain rfl : args = #[v0, v1] := by cases args; simp_all
  obtain ⟨rfl, rfl⟩ := trodVars_none hV
  have k0 := h0
  have lt0 : ∀ x ∈ p0, x.block < W.heap.size := by obtain ⟨m, hm⟩ := k0; exact DataW.trod_lt m _ _ _ hm
  obtain ⟨pl0, w0⟩ := Fil.plan_open (hval 0 27 v0 rfl rfl) h0
  obtain ⟨s1, rfl, rfl, rfl, w1⟩ := open_string Tryz.underlying9 (hval 1 9 v1 rfl rfl) h1
  clear hA0 hval0
  refine (walk W hE v0 pl0 w0 s1 w1).mono fun e W' ⟨he, bel⟩ => ?_
  subst he
  exact ⟨_, rfl, _, _, _, [], _, [], hW', trodAll_mk1 (shut_bool Tryz.underlying4 _), (trodAll_cons_mk (Below.trod laidOut (by kernel_rfl) (of_decide_eq_true (by kernel_rfl)) k0 bel lt0) (trodAll_cons_mk (shut_string Tryz.underlying9 w1) trodAll_mk0)), rfl, bel.frame _, fun h => by cases h⟩

theorem reads (os : Os) {H : Type} (enc : TypeId × Value → H) : ∃ places, DataW.whole enc Tryz.prog ((laidWorld os).forCall (fun _ _ => 0) ⟨#[], #[.agg #[.slice none 0 0, .slice none 0 0, .slice none 0 0, .int .i64 0], .string ⟨#[]⟩], []⟩).memory Tryz.f5.params.toList Rows.fileBackSpec.vars false (#[.agg #[.slice none 0 0, .slice none 0 0, .slice none 0 0, .int .i64 0], .string ⟨#[]⟩] : Array Value).toList 8 = some ([.agg [.nil, .nil, .nil, .lit (.int .i64 0)], .lit (.string [])], [], places) :=
  ⟨[], by kernel_rfl⟩
set_option maxRecDepth 100000 in
theorem lifted (os : Os) (started : os.Started) (H : Type) (enc : TypeId × Value → H) (F : Stop.Interp) :
    ReturnsInHanded {} Tryz.checked os 5 .any ((OpenSpec.ofChange Rows.fileBackSpec).preRow enc Tryz.prog Tryz.f5 Rows.fileBackRow.domain false Rows.fileBackRow.laid) (((OpenSpec.ofChange Rows.fileBackSpec).at F).post enc Tryz.prog Tryz.f5 false true false false) := by
  obtain ⟨places, hx⟩ := reads os enc
  refine returnsInHanded_of_row (C := Tryz.checked) (s := OpenSpec.ofChange Rows.fileBackSpec) own started (by kernel_rfl) Tryz.func5
    (witness_row_at (enc := enc) (C := Tryz.checked) false (laidWorld os) #[.agg #[.slice none 0 0, .slice none 0 0, .slice none 0 0, .int .i64 0], .string ⟨#[]⟩] rfl (by kernel_rfl) (by kernel_rfl) (by kernel_rfl)
      (OpenSpec.preRow_of_cond 8 hx (by kernel_rfl) (fun k hk => by cases hk) (by kernel_rfl) (laid_met os _))) ?_
  intro W base args ds gs before hval hW _ _ _ hL hS _
  exact contract H enc W base args ds gs before hval hW hL hS

theorem said : Rows.FileBackSaid :=
  OpenClaim.holds_of_cond 5 Tryz.f5 rfl rfl rfl rfl rfl rfl rfl ⟨rfl, rfl, rfl, rfl, rfl⟩ rfl rfl rfl rfl rfl (by kernel_rfl) Tryz.func5 (by kernel_rfl)
    (of_decide_eq_true (by kernel_rfl)) (by unfold Func.isWrapper; first | (rw [if_pos (by decide +kernel)]; kernel_rfl) | (rw [if_neg (by decide +kernel)]; exact ⟨rfl, rfl⟩))
    (fun os started H enc _ F => by rw [OpenClaim.pre_eq_preRow]; exact lifted os started H enc F)

theorem plain (f : FuncId) (fn : Func) (hf : Tryz.pinned.checked.prog.funcNamed "jitney/jitneylaw23.FileBack" = some f) (hfn : Tryz.pinned.checked.prog.funcs[f]? = some fn) :
    true = Tryz.pinned.checked.prog.looks [] ∧ ∀ (j : Nat) t, fn.params[j]? = some t → Tryz.pinned.checked.prog.wantsStandIn t = false := by
  obtain rfl : f = 5 := Option.some.inj ((show Tryz.prog.funcNamed "jitney/jitneylaw23.FileBack" = some 5 by kernel_rfl).symm.trans hf) |>.symm
  obtain rfl : fn = Tryz.f5 := (Option.some.inj (Tryz.func5.symm.trans hfn)).symm
  refine ⟨by kernel_rfl, fun j t ht => ?_⟩
  rw [Tryz.params5] at ht
  have hm := Array.mem_of_getElem? ht
  simp only [List.mem_toArray, List.mem_cons, List.not_mem_nil, or_false] at hm
  rcases hm with rfl | rfl
  · exact (show Tryz.prog.wantsStandIn 27 = false by kernel_rfl)
  · exact (show Tryz.prog.wantsStandIn 9 = false by kernel_rfl)

/-- THE CARD -/
theorem card : Rows.FileBackCardSaid :=
  Claim7.holds_tied_plain_at .later [] _ _ _ _ said (fun _ h => by cases h) (by kernel_rfl) (fun _ h => by cases h) fileBack_row_tie rfl ⟨rfl, rfl⟩ (by kernel_rfl) rfl plain (by kernel_rfl)
#print axioms card
end Go.Proofs.YtkggahoadeeajaaGreatDoor.fileBack
