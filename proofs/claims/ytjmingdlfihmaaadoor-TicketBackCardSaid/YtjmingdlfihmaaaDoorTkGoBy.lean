/- Package ticket's goBy, at the example; over the translated program. -/
import Derived.Test.YtjmingdlfihmaaaDoorTkGo
import Derived.Deep.CutBlock
import Derived.Deep.RegionHeld3
namespace Go.Proofs.YtjmingdlfihmaaaDoor
namespace Tk
open Go Go.RowKit Deci
set_option linter.unusedVariables false
/-- What holds in goBy: P and C its boxes, R the row, Q the times. -/
structure GS (N : Nat) (w : World) (T G M P C R Q s r : Nat) (mc ln : Array Value) (W : World) : Prop where
  ts : TS T G M s r mc ln W
  p : W.heap[P]? = some (.cells #[.pointer (some ⟨T, 0, none⟩)] 99)
  c : W.heap[C]? = some (.cells #[.int .i64 0] 3)
  bel : Below N w W
  row : ∀ k, k < 4 → W.cell? ⟨R, k, none⟩ = some (.int .i64 (k : Int))
  tim : W.cell? ⟨Q, 1, none⟩ = some (.int .i64 0) ∧ W.cell? ⟨Q, 2, none⟩ = some (.int .i64 6)
  ne : P ≠ G ∧ P ≠ M ∧ C ≠ G ∧ C ≠ M ∧ R ≠ G ∧ R ≠ M ∧ Q ≠ G ∧ Q ≠ M
  low : N ≤ G ∧ N ≤ M
section
variable {N T G M P C R Q s r : Nat} {w W W' : World} {mc ln mc' ln' : Array Value}
theorem GS.below (h : GS N w T G M P C R Q s r mc ln W) (hb : Below W.heap.size W W') : GS N w T G M P C R Q s r mc ln W' :=
  ⟨h.ts.below hb, (hb.block _ (own_lt h.p)).trans h.p, (hb.block _ (own_lt h.c)).trans h.c, h.bel.trans (hb.mono (by have := own_lt h.ts.lin; have := h.low; omega)),
    fun k hk => (hb.cell (p := ⟨R, k, none⟩) (World.block_lt_of_cell? _ _ (h.row k hk))).trans (h.row k hk),
    ⟨(hb.cell (p := ⟨Q, 1, none⟩) (World.block_lt_of_cell? _ _ h.tim.1)).trans h.tim.1, (hb.cell (p := ⟨Q, 2, none⟩) (World.block_lt_of_cell? _ _ h.tim.2)).trans h.tim.2⟩, h.ne, h.low⟩
theorem GS.drew (h : GS N w T G M P C R Q s r mc ln W) : GS N w T G M P C R Q s r mc ln W.drew := h.below (Below.refl _ _).drew
theorem GS.kept (h : GS N w T G M P C R Q s r mc ln W) {B : Nat} (hB : B = G ∨ B = M) (hg : W.grownBy W' (some B)) (h' : TS T G M s r mc' ln' W') : GS N w T G M P C R Q s r mc' ln' W' := by
  obtain ⟨n1, n2, n3, n4, n5, n6, n7, n8⟩ := h.ne
  have hk : ∀ x, x ≠ G → x ≠ M → ∀ j v, W.cell? ⟨x, j, none⟩ = some v → W'.cell? ⟨x, j, none⟩ = some v := fun x h1 h2 j v hv => by
    rw [World.cell?_of_block (w := W) (a := ⟨x, j, none⟩) (hg.block x (World.block_lt_of_cell? _ _ hv) (fun e => by injection e with e; rcases hB with hB | hB <;> omega))]
    exact hv
  refine ⟨h', own_kept hg (by rcases hB with hB | hB <;> omega) h.p, own_kept hg (by rcases hB with hB | hB <;> omega) h.c, h.bel.trans (below_of hg (by have := h.low; rcases hB with hB | hB <;> omega) ?_), fun k hk' => hk R n5 n6 k _ (h.row k hk'), ⟨hk Q n7 n8 1 _ h.tim.1, hk Q n7 n8 2 _ h.tim.2⟩, h.ne, h.low⟩
  rcases hB with rfl | rfl
  · exact own_lt h.ts.lin
  · exact own_lt h.ts.met
theorem GS.all (h : GS N w T G M P C R Q s r mc ln W) : GS N w T G M P C R Q s r mc ln W ∧ W.cell? ⟨P, 0, none⟩ = some (.pointer (some ⟨T, 0, none⟩)) ∧ W.cell? ⟨C, 0, none⟩ = some (.int .i64 0) ∧
    W.cell? ⟨T, 0, none⟩ = some (.slice none 0 0) ∧ W.cell? ⟨T, 1, none⟩ = some (.slice (some ⟨s, 0, none⟩) 4 4) ∧ W.cell? ⟨T, 2, none⟩ = some (.slice (some ⟨r, 0, none⟩) 1 1) ∧ W.cell? ⟨T, 3, none⟩ = some (.slice none 0 0) ∧ W.cell? ⟨T, 4, none⟩ = some (.slice (some ⟨G, 0, none⟩) 1 1) ∧ W.cell? ⟨T, 5, none⟩ = some (.slice (some ⟨M, 0, none⟩) 4 4) :=
  ⟨h, (own_cell h.p).trans rfl, (own_cell h.c).trans rfl, h.ts.c⟩
theorem GS.allM (h : GS N w T G M P C R Q s r mc ln W) {j : Nat} {v : Value} (hj : mc[j]? = some v) : GS N w T G M P C R Q s r mc ln W ∧ W.cell? ⟨P, 0, none⟩ = some (.pointer (some ⟨T, 0, none⟩)) ∧ W.cell? ⟨C, 0, none⟩ = some (.int .i64 0) ∧
    W.cell? ⟨T, 0, none⟩ = some (.slice none 0 0) ∧ W.cell? ⟨T, 1, none⟩ = some (.slice (some ⟨s, 0, none⟩) 4 4) ∧ W.cell? ⟨T, 2, none⟩ = some (.slice (some ⟨r, 0, none⟩) 1 1) ∧ W.cell? ⟨T, 3, none⟩ = some (.slice none 0 0) ∧ W.cell? ⟨T, 4, none⟩ = some (.slice (some ⟨G, 0, none⟩) 1 1) ∧ W.cell? ⟨T, 5, none⟩ = some (.slice (some ⟨M, 0, none⟩) 4 4) ∧ W.cell? ⟨M, j, none⟩ = some v := by
  obtain ⟨a0, a1, a2, a3, a4, a5, a6, a7, a8⟩ := h.all
  exact ⟨a0, a1, a2, a3, a4, a5, a6, a7, a8, (own_cell h.ts.met).trans hj⟩
/-- The mark of a stop is set. -/
theorem GS.mark (h : GS N w T G M P C R Q s r mc ln W) (j : Nat) (u v : Value) : GS N w T G M P C R Q s r ((mc.setIfInBounds j u).setIfInBounds (j + 1) v) ln (((W.setCell ⟨M, j, none⟩ u).setCell ⟨M, j + 1, none⟩ v).drew) := by
  have hg : W.grownBy (((W.setCell ⟨M, j, none⟩ u).setCell ⟨M, j + 1, none⟩ v).drew) (some M) := ((grown_set W ⟨M, j, none⟩ u).trans (grown_set _ ⟨M, j + 1, none⟩ v)).trans (grown_of (Below.refl _ _).drew _)
  refine h.kept (.inr rfl) hg (h.ts.mark ?_ hg)
  rw [drew_heap]; exact own_set (own_set h.ts.met u) v
end
set_option maxHeartbeats 1000000 in
set_option maxRecDepth 100000 in
theorem stands_any (N T G M P C R Q s r : Nat) (w : World) (ln : Array Value) (k : Nat) (hk : k = 1 ∨ k = 2) (W : World) (h : GS N w T G M P C R Q s r #[.int .i64 0, .int .i64 0, .int .i64 1, .int .i64 1, .int .i64 1, .int .i64 2, .int .i64 0, .int .i64 0] ln W) :
    Calls Tryd.prog 45 #[.int .i64 (k : Int), .pointer (some ⟨P, 0, none⟩), .pointer (some ⟨C, 0, none⟩)] W fun e W' => e = .returned (.bool true) ∧ ∃ n, W' = W.drewN n := by
  obtain ⟨-, p0, c0, t0, t1, t2, t3, t4, t5⟩ := h.all
  have m2 : W.cell? ⟨M, 2, none⟩ = some (.int .i64 1) := (own_cell h.ts.met).trans rfl
  have m4 : W.cell? ⟨M, 4, none⟩ = some (.int .i64 1) := (own_cell h.ts.met).trans rfl
  clear h
  rcases hk with rfl | rfl
  all_goals
    go_enter Tryd.func45, Tryd.ntmps45
    go_wp2_with fail
    go_quiet (fail)
    go_wp2_with fail
    go_ret
    exact ⟨rfl, _, rfl⟩
def mark0 : Array Value := #[.int .i64 0, .int .i64 0, .int .i64 0, .int .i64 0, .int .i64 0, .int .i64 0, .int .i64 0, .int .i64 0]
def mark1 : Array Value := #[.int .i64 0, .int .i64 0, .int .i64 1, .int .i64 1, .int .i64 0, .int .i64 0, .int .i64 0, .int .i64 0]
def mark2 : Array Value := #[.int .i64 0, .int .i64 0, .int .i64 1, .int .i64 1, .int .i64 1, .int .i64 2, .int .i64 0, .int .i64 0]
def markAt (k : Nat) : Array Value := if k ≤ 1 then mark0 else if k = 2 then mark1 else mark2
def line0 : Array Value := #[.int .i64 1, .int .i64 0, .int .i64 0, .int .i64 0, .int .i64 0, .bool false]
def line1 : Array Value := #[.int .i64 1, .int .i64 0, .int .i64 0, .int .i64 6, .int .i64 5, .bool true]
def lineAt (k : Nat) : Array Value := if k ≤ 1 then line0 else line1
set_option maxHeartbeats 4000000 in
set_option maxRecDepth 100000 in
theorem goBy_any (N T G M R Q s r : Nat) (w : World) (h : TS T G M s r mark0 line0 w) (hN : N ≤ G ∧ N ≤ M) (hR : R ≠ G ∧ R ≠ M ∧ Q ≠ G ∧ Q ≠ M)
    (hrow : ∀ k, k < 4 → w.cell? ⟨R, k, none⟩ = some (.int .i64 (k : Int))) (htim : w.cell? ⟨Q, 1, none⟩ = some (.int .i64 0) ∧ w.cell? ⟨Q, 2, none⟩ = some (.int .i64 6)) :
    Calls Tryd.prog 30 #[.pointer (some ⟨T, 0, none⟩), .int .i64 0, .slice (some ⟨R, 0, none⟩) 4 4, .slice (some ⟨Q, 0, none⟩) 4 4] w fun e w' => e = .returned (.tuple #[]) ∧ Below N w w' ∧ ∃ mc, TS T G M s r mc line1 w' := by
  obtain ⟨P, hP⟩ : ∃ P, P = w.heap.size := ⟨_, rfl⟩
  obtain ⟨C, hC⟩ : ∃ C, C = P + 1 := ⟨_, rfl⟩
  obtain ⟨W0, hW0⟩ : ∃ W0, W0 = (w.alloc (.cells #[.pointer (some ⟨T, 0, none⟩)] 99)).alloc (.cells #[.int .i64 0] 3) := ⟨_, rfl⟩
  have hb0 : Below w.heap.size w W0 := by rw [hW0]; exact ((Below.refl _ _).alloc (Nat.le_refl _) _).alloc (by simp) _
  have hGl := own_lt h.lin
  have hMl := own_lt h.met
  have hRl := World.block_lt_of_cell? _ _ (hrow 0 (by omega))
  have hQl := World.block_lt_of_cell? _ _ htim.1
  have hgs : GS N w T G M P C R Q s r mark0 line0 W0 := by
    refine ⟨h.below hb0, ?_, ?_, hb0.mono (by omega), fun k hk => (hb0.cell (p := ⟨R, k, none⟩) hRl).trans (hrow k hk), ⟨(hb0.cell (p := ⟨Q, 1, none⟩) hQl).trans htim.1, (hb0.cell (p := ⟨Q, 2, none⟩) hQl).trans htim.2⟩, ⟨?_, ?_, ?_, ?_, hR⟩, hN⟩
    · rw [hW0, hP]; exact (heap2 w _ _).1
    · rw [hW0, hC, hP]; exact (heap2 w _ _).2
    all_goals omega
  have hrq := fun k (hk : k < 4) W => request_any s r k hk W
  have hpk := fun W => pick_one s r W
  have hdr := fun W => drop_one s r W
  have HG0 := Lib.hid hgs; clear hgs
  have HRQ := Lib.hid hrq; clear hrq
  have HPK := Lib.hid hpk; clear hpk
  have HDR := Lib.hid hdr; clear hdr
  have HP := Lib.hid hP; clear hP
  have HC := Lib.hid hC; clear hC
  have HW0 := Lib.hid hW0; clear hW0
  clear h hb0 hrow htim hN hR hGl hMl hRl hQl
  go_enter Tryd.func30, Tryd.ntmps30
  go_wp2_with fail
  rw [← HP.out, ← HC.out, ← HW0.out]
  go_loopw [18] (fun i wr => ∃ k : Nat, k ≤ 4 ∧ i = .int .i64 k ∧ Hid (GS N w T G M P C R Q s r (markAt k) line0 wr)) (fun i _ => 4 - (intOf i).toNat)
  case atStart => exact ⟨0, by omega, rfl, HG0⟩
  case round =>
    obtain ⟨k, hk, rfl, HG⟩ := hrel
    by_cases hlt : k < 4
    · have hc := HG.out.row k hlt
      have HDW := Lib.hid fun W (h : GS N w T G M P C R Q s r (markAt k) line0 W) => h.drew
      have HBE := Lib.hid fun W W' (h : GS N w T G M P C R Q s r (markAt k) line0 W) (hb : Below W.heap.size W W') => h.below hb
      obtain ⟨-, p0, c0, t0, t1, t2, t3, t4, t5⟩ := HG.out.all
      rcases (show k = 0 ∨ k = 1 ∨ k = 2 ∨ k = 3 by omega) with rfl | rfl | rfl | rfl
      · have HK : Hid (∀ W, GS N w T G M P C R Q s r (markAt 0) line0 W → W.cell? ⟨M, 0, none⟩ = some (.int .i64 0)) := Lib.hid fun W h => (own_cell h.ts.met).trans rfl
        have HAL := Lib.hid fun W (h : GS N w T G M P C R Q s r (markAt 0) line0 W) => h.allM (j := 0) (v := .int .i64 0) rfl
        have HST : Hid (∀ W, GS N w T G M P C R Q s r (markAt 0) line0 W → GS N w T G M P C R Q s r (markAt 1) line0 W) := Lib.hid fun W h => h
        have hfz : ∀ W, GS N w T G M P C R Q s r (markAt 0) line0 W → W.frozen? ⟨M, 0, none⟩ = false ∧ W.frozen? ⟨M, 0 + 1, none⟩ = false ∧ W.cell? ⟨M, 0 + 1, none⟩ = some (.int .i64 0) := fun W h => ⟨own_free h.ts.met, own_free h.ts.met, (own_cell h.ts.met).trans rfl⟩
        have HFZ := Lib.hid hfz; clear hfz
        have HR : Hid (∀ W, Calls Tryd.prog 44 #[.agg #[.slice none 0 0, .slice (some ⟨s, 0, none⟩) 4 4, .slice (some ⟨r, 0, none⟩) 1 1, .slice none 0 0], .int .i64 0] W fun e w' => e = .returned (.int .i64 0) ∧ Below W.heap.size W w') := Lib.hid (HRQ.out 0 (by omega))
        have HG' := HG
        generalize hP2 : GS N w T G M P C R Q s r (markAt 0) line0 = P2 at *
        go_upto_region 4 with fail
        have hp2 := HG'.out
        have m0 := HK.out _ HG'.out
        go_cut [42] (fun s42 wx => s42 = .bool false ∧ Hid (P2 wx))
        case first =>
          refine wp_region_held_drew (S := P2) (by kernel_rfl) (HDW.out _ hp2) (fun hHeld => ?_)
          refine wpAnyH_take (i := 0) (oi := ({ dst := some 23, op := Op.load 99 (Operand.tmp 4), type := 99, pos := "served.go:38", after := #[], guard := none } : Oper)) (v := .pointer (some ⟨T, 0, none⟩)) rfl (by kernel_rfl) (by kernel_rfl) (by kernel_rfl) (fun _ _ _ h => h) (Or.inl ⟨by rfl, fun w' hSw => by obtain ⟨-, q0, q1, q2, q3, q4, q5, q6, q7, q8⟩ := HAL.out _ hSw; go_simp⟩) (by assumption) ?_
          try simp only [Act.put, List.setIfInBounds_toArray, List.set_cons_zero, List.set_cons_succ]
          refine wpAnyH_take (i := 1) (oi := ({ dst := some 24, op := Op.nilCheck (Operand.tmp 23), type := 0, pos := "served.go:38", after := #[{ on := 0, ground := Ground.data }], guard := none } : Oper)) (v := .pointer (some ⟨T, 0, none⟩)) rfl (by kernel_rfl) (by kernel_rfl) (by kernel_rfl) (fun _ _ _ h => h) (Or.inl ⟨by rfl, fun w' hSw => by obtain ⟨-, q0, q1, q2, q3, q4, q5, q6, q7, q8⟩ := HAL.out _ hSw; go_simp⟩) (by assumption) ?_
          try simp only [Act.put, List.setIfInBounds_toArray, List.set_cons_zero, List.set_cons_succ]
          refine wpAnyH_take (i := 2) (oi := ({ dst := some 25, op := Op.fieldAddr 84 (Operand.tmp 24) 0, type := 0, pos := "served.go:38", after := #[{ on := 1, ground := Ground.data }], guard := none } : Oper)) (v := .pointer (some ⟨T, 0, none⟩)) rfl (by kernel_rfl) (by kernel_rfl) (by kernel_rfl) (fun _ _ _ h => h) (Or.inl ⟨by rfl, fun w' hSw => by obtain ⟨-, q0, q1, q2, q3, q4, q5, q6, q7, q8⟩ := HAL.out _ hSw; go_simp⟩) (by assumption) ?_
          try simp only [Act.put, List.setIfInBounds_toArray, List.set_cons_zero, List.set_cons_succ]
          refine wpAnyH_take (i := 3) (oi := ({ dst := some 26, op := Op.load 41 (Operand.tmp 25), type := 41, pos := "served.go:38", after := #[{ on := 2, ground := Ground.data }], guard := none } : Oper)) (v := .agg #[.slice none 0 0, .slice (some ⟨s, 0, none⟩) 4 4, .slice (some ⟨r, 0, none⟩) 1 1, .slice none 0 0]) rfl (by kernel_rfl) (by kernel_rfl) (by kernel_rfl) (fun _ _ _ h => h) (Or.inl ⟨by rfl, fun w' hSw => by obtain ⟨-, q0, q1, q2, q3, q4, q5, q6, q7, q8⟩ := HAL.out _ hSw; go_simp⟩) (by assumption) ?_
          try simp only [Act.put, List.setIfInBounds_toArray, List.set_cons_zero, List.set_cons_succ]
          refine wpAnyH_take (i := 4) (oi := ({ dst := some 27, op := Op.move (Operand.tmp 9), type := 3, pos := "served.go:38", after := #[], guard := none } : Oper)) (v := .int .i64 0) rfl (by kernel_rfl) (by kernel_rfl) (by kernel_rfl) (fun _ _ _ h => h) (Or.inl ⟨by rfl, fun w' hSw => by obtain ⟨-, q0, q1, q2, q3, q4, q5, q6, q7, q8⟩ := HAL.out _ hSw; go_simp⟩) (by assumption) ?_
          try simp only [Act.put, List.setIfInBounds_toArray, List.set_cons_zero, List.set_cons_succ]
          refine wpAnyH_ready (rs := [5]) (by kernel_rfl) (by simp) ?_
          refine AllReadyH.cons (o := ({ dst := some 28, op := Op.call { callee := Callee.value (Operand.func 44), args := #[Operand.tmp 26, Operand.tmp 27], argTypes := #[41, 3] }, type := 3, pos := "served.go:38", after := #[{ on := 3, ground := Ground.data }, { on := 4, ground := Ground.data }], guard := none } : Oper)) rfl (fun K hK => ?_) AllReadyH.nil
          go_simp
          go_at_call 44
          refine (HR.out _).mono ?_
          rintro e w' ⟨rfl, hb⟩
          have hka := HBE.out _ _ (by assumption) hb
          clear hb hHeld
          go_simp
          refine hK.out _ _ hka (fun hHeld => ?_)
          clear hK K hka
          try simp only [Act.put, List.setIfInBounds_toArray, List.set_cons_zero, List.set_cons_succ]
          refine wpAnyH_take (i := 6) (oi := ({ dst := some 29, op := Op.binOp BinOp.neq 3 (Operand.tmp 28) (Operand.const (Value.int IntKind.i64 0)) 3, type := 4, pos := "served.go:38", after := #[{ on := 5, ground := Ground.data }], guard := none } : Oper)) (v := .bool false) rfl (by kernel_rfl) (by kernel_rfl) (by kernel_rfl) (fun _ _ _ h => h) (Or.inl ⟨by rfl, fun w' hSw => by obtain ⟨-, q0, q1, q2, q3, q4, q5, q6, q7, q8⟩ := HAL.out _ hSw; go_simp⟩) (by assumption) ?_
          try simp only [Act.put, List.setIfInBounds_toArray, List.set_cons_zero, List.set_cons_succ]
          refine wpAnyH_take (i := 7) (oi := ({ dst := some 30, op := Op.move (Operand.tmp 29), type := 4, pos := "served.go:38", after := #[{ on := 6, ground := Ground.data }, { on := 5, ground := Ground.chain }], guard := none } : Oper)) (v := .bool false) rfl (by kernel_rfl) (by kernel_rfl) (by kernel_rfl) (fun _ _ _ h => h) (Or.inl ⟨by rfl, fun w' hSw => by obtain ⟨-, q0, q1, q2, q3, q4, q5, q6, q7, q8⟩ := HAL.out _ hSw; go_simp⟩) (by assumption) ?_
          try simp only [Act.put, List.setIfInBounds_toArray, List.set_cons_zero, List.set_cons_succ]
          refine wpAnyH_take (i := 8) (oi := ({ dst := some 31, op := Op.load 99 (Operand.tmp 4), type := 99, pos := "served.go:38", after := #[{ on := 7, ground := Ground.guard }], guard := some (7, true) } : Oper)) (v := undef) rfl (by kernel_rfl) (by kernel_rfl) (by kernel_rfl) (fun _ _ _ h => h) (Or.inr ⟨by rfl, rfl⟩) (by assumption) ?_
          try simp only [Act.put, List.setIfInBounds_toArray, List.set_cons_zero, List.set_cons_succ]
          refine wpAnyH_take (i := 9) (oi := ({ dst := some 32, op := Op.nilCheck (Operand.tmp 31), type := 0, pos := "served.go:38", after := #[{ on := 8, ground := Ground.data }, { on := 7, ground := Ground.guard }], guard := some (7, true) } : Oper)) (v := undef) rfl (by kernel_rfl) (by kernel_rfl) (by kernel_rfl) (fun _ _ _ h => h) (Or.inr ⟨by rfl, rfl⟩) (by assumption) ?_
          try simp only [Act.put, List.setIfInBounds_toArray, List.set_cons_zero, List.set_cons_succ]
          refine wpAnyH_take (i := 10) (oi := ({ dst := some 33, op := Op.fieldAddr 84 (Operand.tmp 32) 2, type := 0, pos := "served.go:38", after := #[{ on := 9, ground := Ground.data }, { on := 7, ground := Ground.guard }], guard := some (7, true) } : Oper)) (v := undef) rfl (by kernel_rfl) (by kernel_rfl) (by kernel_rfl) (fun _ _ _ h => h) (Or.inr ⟨by rfl, rfl⟩) (by assumption) ?_
          try simp only [Act.put, List.setIfInBounds_toArray, List.set_cons_zero, List.set_cons_succ]
          refine wpAnyH_take (i := 11) (oi := ({ dst := some 34, op := Op.load 82 (Operand.tmp 33), type := 82, pos := "served.go:38", after := #[{ on := 10, ground := Ground.data }, { on := 7, ground := Ground.guard }], guard := some (7, true) } : Oper)) (v := undef) rfl (by kernel_rfl) (by kernel_rfl) (by kernel_rfl) (fun _ _ _ h => h) (Or.inr ⟨by rfl, rfl⟩) (by assumption) ?_
          try simp only [Act.put, List.setIfInBounds_toArray, List.set_cons_zero, List.set_cons_succ]
          refine wpAnyH_take (i := 12) (oi := ({ dst := some 35, op := Op.move (Operand.tmp 9), type := 3, pos := "served.go:38", after := #[{ on := 7, ground := Ground.guard }], guard := some (7, true) } : Oper)) (v := undef) rfl (by kernel_rfl) (by kernel_rfl) (by kernel_rfl) (fun _ _ _ h => h) (Or.inr ⟨by rfl, rfl⟩) (by assumption) ?_
          try simp only [Act.put, List.setIfInBounds_toArray, List.set_cons_zero, List.set_cons_succ]
          refine wpAnyH_take (i := 13) (oi := ({ dst := some 36, op := Op.indexAddr 82 (Operand.tmp 34) (Operand.tmp 35), type := 0, pos := "served.go:38", after := #[{ on := 11, ground := Ground.data }, { on := 12, ground := Ground.data }, { on := 7, ground := Ground.guard }], guard := some (7, true) } : Oper)) (v := undef) rfl (by kernel_rfl) (by kernel_rfl) (by kernel_rfl) (fun _ _ _ h => h) (Or.inr ⟨by rfl, rfl⟩) (by assumption) ?_
          try simp only [Act.put, List.setIfInBounds_toArray, List.set_cons_zero, List.set_cons_succ]
          refine wpAnyH_take (i := 14) (oi := ({ dst := some 37, op := Op.fieldAddr 101 (Operand.tmp 36) 0, type := 0, pos := "served.go:38", after := #[{ on := 13, ground := Ground.data }, { on := 7, ground := Ground.guard }], guard := some (7, true) } : Oper)) (v := undef) rfl (by kernel_rfl) (by kernel_rfl) (by kernel_rfl) (fun _ _ _ h => h) (Or.inr ⟨by rfl, rfl⟩) (by assumption) ?_
          try simp only [Act.put, List.setIfInBounds_toArray, List.set_cons_zero, List.set_cons_succ]
          refine wpAnyH_take (i := 15) (oi := ({ dst := some 38, op := Op.load 3 (Operand.tmp 37), type := 3, pos := "served.go:38", after := #[{ on := 14, ground := Ground.data }, { on := 7, ground := Ground.guard }], guard := some (7, true) } : Oper)) (v := undef) rfl (by kernel_rfl) (by kernel_rfl) (by kernel_rfl) (fun _ _ _ h => h) (Or.inr ⟨by rfl, rfl⟩) (by assumption) ?_
          try simp only [Act.put, List.setIfInBounds_toArray, List.set_cons_zero, List.set_cons_succ]
          refine wpAnyH_take (i := 16) (oi := ({ dst := some 39, op := Op.load 3 (Operand.tmp 5), type := 3, pos := "served.go:38", after := #[{ on := 7, ground := Ground.guard }], guard := some (7, true) } : Oper)) (v := undef) rfl (by kernel_rfl) (by kernel_rfl) (by kernel_rfl) (fun _ _ _ h => h) (Or.inr ⟨by rfl, rfl⟩) (by assumption) ?_
          try simp only [Act.put, List.setIfInBounds_toArray, List.set_cons_zero, List.set_cons_succ]
          refine wpAnyH_take (i := 17) (oi := ({ dst := some 40, op := Op.binOp BinOp.add 3 (Operand.tmp 39) (Operand.const (Value.int IntKind.i64 1)) 3, type := 3, pos := "served.go:38", after := #[{ on := 16, ground := Ground.data }, { on := 7, ground := Ground.guard }], guard := some (7, true) } : Oper)) (v := undef) rfl (by kernel_rfl) (by kernel_rfl) (by kernel_rfl) (fun _ _ _ h => h) (Or.inr ⟨by rfl, rfl⟩) (by assumption) ?_
          try simp only [Act.put, List.setIfInBounds_toArray, List.set_cons_zero, List.set_cons_succ]
          refine wpAnyH_take (i := 18) (oi := ({ dst := some 41, op := Op.binOp BinOp.neq 3 (Operand.tmp 38) (Operand.tmp 40) 3, type := 4, pos := "served.go:38", after := #[{ on := 15, ground := Ground.data }, { on := 17, ground := Ground.data }, { on := 7, ground := Ground.guard }], guard := some (7, true) } : Oper)) (v := undef) rfl (by kernel_rfl) (by kernel_rfl) (by kernel_rfl) (fun _ _ _ h => h) (Or.inr ⟨by rfl, rfl⟩) (by assumption) ?_
          try simp only [Act.put, List.setIfInBounds_toArray, List.set_cons_zero, List.set_cons_succ]
          refine wpAnyH_take (i := 19) (oi := ({ dst := some 42, op := Op.pick (Operand.tmp 30) (Operand.tmp 41) (Operand.const (Value.bool false)), type := 4, pos := "served.go:38", after := #[{ on := 7, ground := Ground.data }, { on := 18, ground := Ground.data }], guard := none } : Oper)) (v := .bool false) rfl (by kernel_rfl) (by kernel_rfl) (by kernel_rfl) (fun _ _ _ h => h) (Or.inl ⟨by rfl, fun w' hSw => by obtain ⟨-, q0, q1, q2, q3, q4, q5, q6, q7, q8⟩ := HAL.out _ hSw; go_simp⟩) (by assumption) ?_
          try simp only [Act.put, List.setIfInBounds_toArray, List.set_cons_zero, List.set_cons_succ]
          refine wpAnyH_done (by kernel_rfl) ?_ _
          go_wp2_with fail
          go_meet
          exact ⟨rfl, Lib.hid ‹P2 _›⟩
        case rest =>
          obtain ⟨rfl, HPh⟩ := hcut
          clear p0 c0 t0 t1 t2 t3 t4 t5 m0 hp2
          go_wp2_with fail
          go_roundw
          case rel => exact ⟨1, by omega, by go_num, Lib.hid (HST.out _ HPh.out)⟩
          case measure => simp [intOf]
      · have HK : Hid (∀ W, GS N w T G M P C R Q s r (markAt 1) line0 W → W.cell? ⟨M, 2, none⟩ = some (.int .i64 0)) := Lib.hid fun W h => (own_cell h.ts.met).trans rfl
        have HAL := Lib.hid fun W (h : GS N w T G M P C R Q s r (markAt 1) line0 W) => h.allM (j := 2) (v := .int .i64 0) rfl
        have HST : Hid (∀ W, GS N w T G M P C R Q s r (markAt 1) line0 W → GS N w T G M P C R Q s r (markAt 2) line0 (((W.setCell ⟨M, 2, none⟩ (.int .i64 1)).setCell ⟨M, 2 + 1, none⟩ (.int .i64 1)).drew)) := Lib.hid fun W h => h.mark 2 (.int .i64 1) (.int .i64 1)
        have hfz : ∀ W, GS N w T G M P C R Q s r (markAt 1) line0 W → W.frozen? ⟨M, 2, none⟩ = false ∧ W.frozen? ⟨M, 2 + 1, none⟩ = false ∧ W.cell? ⟨M, 2 + 1, none⟩ = some (.int .i64 0) := fun W h => ⟨own_free h.ts.met, own_free h.ts.met, (own_cell h.ts.met).trans rfl⟩
        have HFZ := Lib.hid hfz; clear hfz
        have HR : Hid (∀ W, Calls Tryd.prog 44 #[.agg #[.slice none 0 0, .slice (some ⟨s, 0, none⟩) 4 4, .slice (some ⟨r, 0, none⟩) 1 1, .slice none 0 0], .int .i64 1] W fun e w' => e = .returned (.int .i64 1) ∧ Below W.heap.size W w') := Lib.hid (HRQ.out 1 (by omega))
        have HG' := HG
        generalize hP2 : GS N w T G M P C R Q s r (markAt 1) line0 = P2 at *
        go_upto_region 4 with fail
        have hp2 := HG'.out
        have m0 := HK.out _ HG'.out
        go_cut [42] (fun s42 wx => s42 = .bool true ∧ Hid (P2 wx))
        case first =>
          go_region_held3 (fun w' => P2 w' ∧ w'.cell? ⟨P, 0, none⟩ = some (.pointer (some ⟨T, 0, none⟩)) ∧ w'.cell? ⟨C, 0, none⟩ = some (.int .i64 0) ∧ w'.cell? ⟨T, 0, none⟩ = some (.slice none 0 0) ∧ w'.cell? ⟨T, 1, none⟩ = some (.slice (some ⟨s, 0, none⟩) 4 4) ∧ w'.cell? ⟨T, 2, none⟩ = some (.slice (some ⟨r, 0, none⟩) 1 1) ∧ w'.cell? ⟨T, 3, none⟩ = some (.slice none 0 0) ∧ w'.cell? ⟨T, 4, none⟩ = some (.slice (some ⟨G, 0, none⟩) 1 1) ∧ w'.cell? ⟨T, 5, none⟩ = some (.slice (some ⟨M, 0, none⟩) 4 4) ∧ w'.cell? ⟨M, 2, none⟩ = some (.int .i64 0))
            (first
              | exact HAL.out _ ‹P2 _›
              | exact HAL.out _ (HDW.out _ (And.left ‹P2 _ ∧ _›))
              | exact HAL.out _ (HDW.out _ ‹P2 _›))
            (first
              | (go_at_call 44; (with_reducible refine (HR.out _).mono ?_); rintro e w' ⟨rfl, hb⟩; have hka := HBE.out _ _ (And.left ‹P2 _ ∧ _›) hb; clear hb))
          all_goals
            go_wp2_with fail
            go_meet
            exact ⟨rfl, Lib.hid (And.left ‹P2 _ ∧ _›)⟩
        case rest =>
          obtain ⟨rfl, HPh⟩ := hcut
          clear p0 c0 t0 t1 t2 t3 t4 t5 m0 hp2
          obtain ⟨-, p0, c0, t0, t1, t2, t3, t4, t5, -⟩ := HAL.out _ HPh.out
          obtain ⟨f0, f1, m1⟩ := HFZ.out _ HPh.out
          have m0 := HK.out _ HPh.out
          go_upto_region 5 with fail
          go_region
          all_goals
            clear p0 c0 t0 t1 t2 t3 t4 t5 f0 f1 m0 m1
            go_wp2_with fail
            go_roundw
            case rel => exact ⟨2, by omega, by go_num, Lib.hid (HST.out _ HPh.out)⟩
            case measure => simp [intOf]
      · have HK : Hid (∀ W, GS N w T G M P C R Q s r (markAt 2) line0 W → W.cell? ⟨M, 4, none⟩ = some (.int .i64 0)) := Lib.hid fun W h => (own_cell h.ts.met).trans rfl
        have HAL := Lib.hid fun W (h : GS N w T G M P C R Q s r (markAt 2) line0 W) => h.allM (j := 4) (v := .int .i64 0) rfl
        have HST : Hid (∀ W, GS N w T G M P C R Q s r (markAt 2) line0 W → GS N w T G M P C R Q s r (markAt 3) line0 (((W.setCell ⟨M, 4, none⟩ (.int .i64 1)).setCell ⟨M, 4 + 1, none⟩ (.int .i64 2)).drew)) := Lib.hid fun W h => h.mark 4 (.int .i64 1) (.int .i64 2)
        have hfz : ∀ W, GS N w T G M P C R Q s r (markAt 2) line0 W → W.frozen? ⟨M, 4, none⟩ = false ∧ W.frozen? ⟨M, 4 + 1, none⟩ = false ∧ W.cell? ⟨M, 4 + 1, none⟩ = some (.int .i64 0) := fun W h => ⟨own_free h.ts.met, own_free h.ts.met, (own_cell h.ts.met).trans rfl⟩
        have HFZ := Lib.hid hfz; clear hfz
        have HR : Hid (∀ W, Calls Tryd.prog 44 #[.agg #[.slice none 0 0, .slice (some ⟨s, 0, none⟩) 4 4, .slice (some ⟨r, 0, none⟩) 1 1, .slice none 0 0], .int .i64 2] W fun e w' => e = .returned (.int .i64 1) ∧ Below W.heap.size W w') := Lib.hid (HRQ.out 2 (by omega))
        have HG' := HG
        generalize hP2 : GS N w T G M P C R Q s r (markAt 2) line0 = P2 at *
        go_upto_region 4 with fail
        have hp2 := HG'.out
        have m0 := HK.out _ HG'.out
        go_cut [42] (fun s42 wx => s42 = .bool true ∧ Hid (P2 wx))
        case first =>
          go_region_held3 (fun w' => P2 w' ∧ w'.cell? ⟨P, 0, none⟩ = some (.pointer (some ⟨T, 0, none⟩)) ∧ w'.cell? ⟨C, 0, none⟩ = some (.int .i64 0) ∧ w'.cell? ⟨T, 0, none⟩ = some (.slice none 0 0) ∧ w'.cell? ⟨T, 1, none⟩ = some (.slice (some ⟨s, 0, none⟩) 4 4) ∧ w'.cell? ⟨T, 2, none⟩ = some (.slice (some ⟨r, 0, none⟩) 1 1) ∧ w'.cell? ⟨T, 3, none⟩ = some (.slice none 0 0) ∧ w'.cell? ⟨T, 4, none⟩ = some (.slice (some ⟨G, 0, none⟩) 1 1) ∧ w'.cell? ⟨T, 5, none⟩ = some (.slice (some ⟨M, 0, none⟩) 4 4) ∧ w'.cell? ⟨M, 4, none⟩ = some (.int .i64 0))
            (first
              | exact HAL.out _ ‹P2 _›
              | exact HAL.out _ (HDW.out _ (And.left ‹P2 _ ∧ _›))
              | exact HAL.out _ (HDW.out _ ‹P2 _›))
            (first
              | (go_at_call 44; (with_reducible refine (HR.out _).mono ?_); rintro e w' ⟨rfl, hb⟩; have hka := HBE.out _ _ (And.left ‹P2 _ ∧ _›) hb; clear hb))
          all_goals
            go_wp2_with fail
            go_meet
            exact ⟨rfl, Lib.hid (And.left ‹P2 _ ∧ _›)⟩
        case rest =>
          obtain ⟨rfl, HPh⟩ := hcut
          clear p0 c0 t0 t1 t2 t3 t4 t5 m0 hp2
          obtain ⟨-, p0, c0, t0, t1, t2, t3, t4, t5, -⟩ := HAL.out _ HPh.out
          obtain ⟨f0, f1, m1⟩ := HFZ.out _ HPh.out
          have m0 := HK.out _ HPh.out
          go_upto_region 5 with fail
          go_region
          all_goals
            clear p0 c0 t0 t1 t2 t3 t4 t5 f0 f1 m0 m1
            go_wp2_with fail
            go_roundw
            case rel => exact ⟨3, by omega, by go_num, Lib.hid (HST.out _ HPh.out)⟩
            case measure => simp [intOf]
      · have HK : Hid (∀ W, GS N w T G M P C R Q s r (markAt 3) line0 W → W.cell? ⟨M, 6, none⟩ = some (.int .i64 0)) := Lib.hid fun W h => (own_cell h.ts.met).trans rfl
        have HAL := Lib.hid fun W (h : GS N w T G M P C R Q s r (markAt 3) line0 W) => h.allM (j := 6) (v := .int .i64 0) rfl
        have HST : Hid (∀ W, GS N w T G M P C R Q s r (markAt 3) line0 W → GS N w T G M P C R Q s r (markAt 4) line0 W) := Lib.hid fun W h => h
        have hfz : ∀ W, GS N w T G M P C R Q s r (markAt 3) line0 W → W.frozen? ⟨M, 6, none⟩ = false ∧ W.frozen? ⟨M, 6 + 1, none⟩ = false ∧ W.cell? ⟨M, 6 + 1, none⟩ = some (.int .i64 0) := fun W h => ⟨own_free h.ts.met, own_free h.ts.met, (own_cell h.ts.met).trans rfl⟩
        have HFZ := Lib.hid hfz; clear hfz
        have HR : Hid (∀ W, Calls Tryd.prog 44 #[.agg #[.slice none 0 0, .slice (some ⟨s, 0, none⟩) 4 4, .slice (some ⟨r, 0, none⟩) 1 1, .slice none 0 0], .int .i64 3] W fun e w' => e = .returned (.int .i64 0) ∧ Below W.heap.size W w') := Lib.hid (HRQ.out 3 (by omega))
        have HG' := HG
        generalize hP2 : GS N w T G M P C R Q s r (markAt 3) line0 = P2 at *
        go_upto_region 4 with fail
        have hp2 := HG'.out
        have m0 := HK.out _ HG'.out
        go_cut [42] (fun s42 wx => s42 = .bool false ∧ Hid (P2 wx))
        case first =>
          refine wp_region_held_drew (S := P2) (by kernel_rfl) (HDW.out _ hp2) (fun hHeld => ?_)
          refine wpAnyH_take (i := 0) (oi := ({ dst := some 23, op := Op.load 99 (Operand.tmp 4), type := 99, pos := "served.go:38", after := #[], guard := none } : Oper)) (v := .pointer (some ⟨T, 0, none⟩)) rfl (by kernel_rfl) (by kernel_rfl) (by kernel_rfl) (fun _ _ _ h => h) (Or.inl ⟨by rfl, fun w' hSw => by obtain ⟨-, q0, q1, q2, q3, q4, q5, q6, q7, q8⟩ := HAL.out _ hSw; go_simp⟩) (by assumption) ?_
          try simp only [Act.put, List.setIfInBounds_toArray, List.set_cons_zero, List.set_cons_succ]
          refine wpAnyH_take (i := 1) (oi := ({ dst := some 24, op := Op.nilCheck (Operand.tmp 23), type := 0, pos := "served.go:38", after := #[{ on := 0, ground := Ground.data }], guard := none } : Oper)) (v := .pointer (some ⟨T, 0, none⟩)) rfl (by kernel_rfl) (by kernel_rfl) (by kernel_rfl) (fun _ _ _ h => h) (Or.inl ⟨by rfl, fun w' hSw => by obtain ⟨-, q0, q1, q2, q3, q4, q5, q6, q7, q8⟩ := HAL.out _ hSw; go_simp⟩) (by assumption) ?_
          try simp only [Act.put, List.setIfInBounds_toArray, List.set_cons_zero, List.set_cons_succ]
          refine wpAnyH_take (i := 2) (oi := ({ dst := some 25, op := Op.fieldAddr 84 (Operand.tmp 24) 0, type := 0, pos := "served.go:38", after := #[{ on := 1, ground := Ground.data }], guard := none } : Oper)) (v := .pointer (some ⟨T, 0, none⟩)) rfl (by kernel_rfl) (by kernel_rfl) (by kernel_rfl) (fun _ _ _ h => h) (Or.inl ⟨by rfl, fun w' hSw => by obtain ⟨-, q0, q1, q2, q3, q4, q5, q6, q7, q8⟩ := HAL.out _ hSw; go_simp⟩) (by assumption) ?_
          try simp only [Act.put, List.setIfInBounds_toArray, List.set_cons_zero, List.set_cons_succ]
          refine wpAnyH_take (i := 3) (oi := ({ dst := some 26, op := Op.load 41 (Operand.tmp 25), type := 41, pos := "served.go:38", after := #[{ on := 2, ground := Ground.data }], guard := none } : Oper)) (v := .agg #[.slice none 0 0, .slice (some ⟨s, 0, none⟩) 4 4, .slice (some ⟨r, 0, none⟩) 1 1, .slice none 0 0]) rfl (by kernel_rfl) (by kernel_rfl) (by kernel_rfl) (fun _ _ _ h => h) (Or.inl ⟨by rfl, fun w' hSw => by obtain ⟨-, q0, q1, q2, q3, q4, q5, q6, q7, q8⟩ := HAL.out _ hSw; go_simp⟩) (by assumption) ?_
          try simp only [Act.put, List.setIfInBounds_toArray, List.set_cons_zero, List.set_cons_succ]
          refine wpAnyH_take (i := 4) (oi := ({ dst := some 27, op := Op.move (Operand.tmp 9), type := 3, pos := "served.go:38", after := #[], guard := none } : Oper)) (v := .int .i64 3) rfl (by kernel_rfl) (by kernel_rfl) (by kernel_rfl) (fun _ _ _ h => h) (Or.inl ⟨by rfl, fun w' hSw => by obtain ⟨-, q0, q1, q2, q3, q4, q5, q6, q7, q8⟩ := HAL.out _ hSw; go_simp⟩) (by assumption) ?_
          try simp only [Act.put, List.setIfInBounds_toArray, List.set_cons_zero, List.set_cons_succ]
          refine wpAnyH_ready (rs := [5]) (by kernel_rfl) (by simp) ?_
          refine AllReadyH.cons (o := ({ dst := some 28, op := Op.call { callee := Callee.value (Operand.func 44), args := #[Operand.tmp 26, Operand.tmp 27], argTypes := #[41, 3] }, type := 3, pos := "served.go:38", after := #[{ on := 3, ground := Ground.data }, { on := 4, ground := Ground.data }], guard := none } : Oper)) rfl (fun K hK => ?_) AllReadyH.nil
          go_simp
          go_at_call 44
          refine (HR.out _).mono ?_
          rintro e w' ⟨rfl, hb⟩
          have hka := HBE.out _ _ (by assumption) hb
          clear hb hHeld
          go_simp
          refine hK.out _ _ hka (fun hHeld => ?_)
          clear hK K hka
          try simp only [Act.put, List.setIfInBounds_toArray, List.set_cons_zero, List.set_cons_succ]
          refine wpAnyH_take (i := 6) (oi := ({ dst := some 29, op := Op.binOp BinOp.neq 3 (Operand.tmp 28) (Operand.const (Value.int IntKind.i64 0)) 3, type := 4, pos := "served.go:38", after := #[{ on := 5, ground := Ground.data }], guard := none } : Oper)) (v := .bool false) rfl (by kernel_rfl) (by kernel_rfl) (by kernel_rfl) (fun _ _ _ h => h) (Or.inl ⟨by rfl, fun w' hSw => by obtain ⟨-, q0, q1, q2, q3, q4, q5, q6, q7, q8⟩ := HAL.out _ hSw; go_simp⟩) (by assumption) ?_
          try simp only [Act.put, List.setIfInBounds_toArray, List.set_cons_zero, List.set_cons_succ]
          refine wpAnyH_take (i := 7) (oi := ({ dst := some 30, op := Op.move (Operand.tmp 29), type := 4, pos := "served.go:38", after := #[{ on := 6, ground := Ground.data }, { on := 5, ground := Ground.chain }], guard := none } : Oper)) (v := .bool false) rfl (by kernel_rfl) (by kernel_rfl) (by kernel_rfl) (fun _ _ _ h => h) (Or.inl ⟨by rfl, fun w' hSw => by obtain ⟨-, q0, q1, q2, q3, q4, q5, q6, q7, q8⟩ := HAL.out _ hSw; go_simp⟩) (by assumption) ?_
          try simp only [Act.put, List.setIfInBounds_toArray, List.set_cons_zero, List.set_cons_succ]
          refine wpAnyH_take (i := 8) (oi := ({ dst := some 31, op := Op.load 99 (Operand.tmp 4), type := 99, pos := "served.go:38", after := #[{ on := 7, ground := Ground.guard }], guard := some (7, true) } : Oper)) (v := undef) rfl (by kernel_rfl) (by kernel_rfl) (by kernel_rfl) (fun _ _ _ h => h) (Or.inr ⟨by rfl, rfl⟩) (by assumption) ?_
          try simp only [Act.put, List.setIfInBounds_toArray, List.set_cons_zero, List.set_cons_succ]
          refine wpAnyH_take (i := 9) (oi := ({ dst := some 32, op := Op.nilCheck (Operand.tmp 31), type := 0, pos := "served.go:38", after := #[{ on := 8, ground := Ground.data }, { on := 7, ground := Ground.guard }], guard := some (7, true) } : Oper)) (v := undef) rfl (by kernel_rfl) (by kernel_rfl) (by kernel_rfl) (fun _ _ _ h => h) (Or.inr ⟨by rfl, rfl⟩) (by assumption) ?_
          try simp only [Act.put, List.setIfInBounds_toArray, List.set_cons_zero, List.set_cons_succ]
          refine wpAnyH_take (i := 10) (oi := ({ dst := some 33, op := Op.fieldAddr 84 (Operand.tmp 32) 2, type := 0, pos := "served.go:38", after := #[{ on := 9, ground := Ground.data }, { on := 7, ground := Ground.guard }], guard := some (7, true) } : Oper)) (v := undef) rfl (by kernel_rfl) (by kernel_rfl) (by kernel_rfl) (fun _ _ _ h => h) (Or.inr ⟨by rfl, rfl⟩) (by assumption) ?_
          try simp only [Act.put, List.setIfInBounds_toArray, List.set_cons_zero, List.set_cons_succ]
          refine wpAnyH_take (i := 11) (oi := ({ dst := some 34, op := Op.load 82 (Operand.tmp 33), type := 82, pos := "served.go:38", after := #[{ on := 10, ground := Ground.data }, { on := 7, ground := Ground.guard }], guard := some (7, true) } : Oper)) (v := undef) rfl (by kernel_rfl) (by kernel_rfl) (by kernel_rfl) (fun _ _ _ h => h) (Or.inr ⟨by rfl, rfl⟩) (by assumption) ?_
          try simp only [Act.put, List.setIfInBounds_toArray, List.set_cons_zero, List.set_cons_succ]
          refine wpAnyH_take (i := 12) (oi := ({ dst := some 35, op := Op.move (Operand.tmp 9), type := 3, pos := "served.go:38", after := #[{ on := 7, ground := Ground.guard }], guard := some (7, true) } : Oper)) (v := undef) rfl (by kernel_rfl) (by kernel_rfl) (by kernel_rfl) (fun _ _ _ h => h) (Or.inr ⟨by rfl, rfl⟩) (by assumption) ?_
          try simp only [Act.put, List.setIfInBounds_toArray, List.set_cons_zero, List.set_cons_succ]
          refine wpAnyH_take (i := 13) (oi := ({ dst := some 36, op := Op.indexAddr 82 (Operand.tmp 34) (Operand.tmp 35), type := 0, pos := "served.go:38", after := #[{ on := 11, ground := Ground.data }, { on := 12, ground := Ground.data }, { on := 7, ground := Ground.guard }], guard := some (7, true) } : Oper)) (v := undef) rfl (by kernel_rfl) (by kernel_rfl) (by kernel_rfl) (fun _ _ _ h => h) (Or.inr ⟨by rfl, rfl⟩) (by assumption) ?_
          try simp only [Act.put, List.setIfInBounds_toArray, List.set_cons_zero, List.set_cons_succ]
          refine wpAnyH_take (i := 14) (oi := ({ dst := some 37, op := Op.fieldAddr 101 (Operand.tmp 36) 0, type := 0, pos := "served.go:38", after := #[{ on := 13, ground := Ground.data }, { on := 7, ground := Ground.guard }], guard := some (7, true) } : Oper)) (v := undef) rfl (by kernel_rfl) (by kernel_rfl) (by kernel_rfl) (fun _ _ _ h => h) (Or.inr ⟨by rfl, rfl⟩) (by assumption) ?_
          try simp only [Act.put, List.setIfInBounds_toArray, List.set_cons_zero, List.set_cons_succ]
          refine wpAnyH_take (i := 15) (oi := ({ dst := some 38, op := Op.load 3 (Operand.tmp 37), type := 3, pos := "served.go:38", after := #[{ on := 14, ground := Ground.data }, { on := 7, ground := Ground.guard }], guard := some (7, true) } : Oper)) (v := undef) rfl (by kernel_rfl) (by kernel_rfl) (by kernel_rfl) (fun _ _ _ h => h) (Or.inr ⟨by rfl, rfl⟩) (by assumption) ?_
          try simp only [Act.put, List.setIfInBounds_toArray, List.set_cons_zero, List.set_cons_succ]
          refine wpAnyH_take (i := 16) (oi := ({ dst := some 39, op := Op.load 3 (Operand.tmp 5), type := 3, pos := "served.go:38", after := #[{ on := 7, ground := Ground.guard }], guard := some (7, true) } : Oper)) (v := undef) rfl (by kernel_rfl) (by kernel_rfl) (by kernel_rfl) (fun _ _ _ h => h) (Or.inr ⟨by rfl, rfl⟩) (by assumption) ?_
          try simp only [Act.put, List.setIfInBounds_toArray, List.set_cons_zero, List.set_cons_succ]
          refine wpAnyH_take (i := 17) (oi := ({ dst := some 40, op := Op.binOp BinOp.add 3 (Operand.tmp 39) (Operand.const (Value.int IntKind.i64 1)) 3, type := 3, pos := "served.go:38", after := #[{ on := 16, ground := Ground.data }, { on := 7, ground := Ground.guard }], guard := some (7, true) } : Oper)) (v := undef) rfl (by kernel_rfl) (by kernel_rfl) (by kernel_rfl) (fun _ _ _ h => h) (Or.inr ⟨by rfl, rfl⟩) (by assumption) ?_
          try simp only [Act.put, List.setIfInBounds_toArray, List.set_cons_zero, List.set_cons_succ]
          refine wpAnyH_take (i := 18) (oi := ({ dst := some 41, op := Op.binOp BinOp.neq 3 (Operand.tmp 38) (Operand.tmp 40) 3, type := 4, pos := "served.go:38", after := #[{ on := 15, ground := Ground.data }, { on := 17, ground := Ground.data }, { on := 7, ground := Ground.guard }], guard := some (7, true) } : Oper)) (v := undef) rfl (by kernel_rfl) (by kernel_rfl) (by kernel_rfl) (fun _ _ _ h => h) (Or.inr ⟨by rfl, rfl⟩) (by assumption) ?_
          try simp only [Act.put, List.setIfInBounds_toArray, List.set_cons_zero, List.set_cons_succ]
          refine wpAnyH_take (i := 19) (oi := ({ dst := some 42, op := Op.pick (Operand.tmp 30) (Operand.tmp 41) (Operand.const (Value.bool false)), type := 4, pos := "served.go:38", after := #[{ on := 7, ground := Ground.data }, { on := 18, ground := Ground.data }], guard := none } : Oper)) (v := .bool false) rfl (by kernel_rfl) (by kernel_rfl) (by kernel_rfl) (fun _ _ _ h => h) (Or.inl ⟨by rfl, fun w' hSw => by obtain ⟨-, q0, q1, q2, q3, q4, q5, q6, q7, q8⟩ := HAL.out _ hSw; go_simp⟩) (by assumption) ?_
          try simp only [Act.put, List.setIfInBounds_toArray, List.set_cons_zero, List.set_cons_succ]
          refine wpAnyH_done (by kernel_rfl) ?_ _
          go_wp2_with fail
          go_meet
          exact ⟨rfl, Lib.hid ‹P2 _›⟩
        case rest =>
          obtain ⟨rfl, HPh⟩ := hcut
          clear p0 c0 t0 t1 t2 t3 t4 t5 m0 hp2
          go_wp2_with fail
          go_roundw
          case rel => exact ⟨4, by omega, by go_num, Lib.hid (HST.out _ HPh.out)⟩
          case measure => simp [intOf]
    · obtain rfl : k = 4 := by omega
      go_wp2_with fail
      have HG4 : Hid (GS N w T G M P C R Q s r mark2 (lineAt 0) wr) := HG
      clear HG
      rw [show ((4 : Nat) : Int) = 4 from rfl]
      go_loopw [57] (fun i wr => ∃ k : Nat, k ≤ 4 ∧ i = .int .i64 k ∧ Hid (GS N w T G M P C R Q s r mark2 (lineAt k) wr)) (fun i _ => 4 - (intOf i).toNat)
      case atStart => exact ⟨0, by omega, rfl, HG4⟩
      case round =>
        clear HG4
        obtain ⟨k, hk, rfl, HG⟩ := hrel
        by_cases hlt : k < 4
        · rcases (show k = 0 ∨ k = 1 ∨ k = 2 ∨ k = 3 by omega) with rfl | rfl | rfl | rfl
          · clear HPK HDR
            have HR : Hid (∀ W, Calls Tryd.prog 44 #[.agg #[.slice none 0 0, .slice (some ⟨s, 0, none⟩) 4 4, .slice (some ⟨r, 0, none⟩) 1 1, .slice none 0 0], .int .i64 0] W fun e w' => e = .returned (.int .i64 0) ∧ Below W.heap.size W w') := Lib.hid (HRQ.out 0 (by omega))
            have hc : wr.cell? ⟨R, 0, none⟩ = some (.int .i64 0) := HG.out.row 0 (by omega)
            obtain ⟨-, p0, c0, t0, t1, t2, t3, t4, t5⟩ := HG.out.all
            go_wp2_with fail
            refine (HR.out _).mono ?_
            rintro e w1 ⟨rfl, hb⟩
            have HG1 := Lib.hid (HG.out.below hb); clear hb hc p0 c0 t0 t1 t2 t3 t4 t5
            go_wp2_with fail
            go_roundw
            case rel => exact ⟨1, by omega, by go_num, HG1⟩
            case measure => simp [intOf]
          · replace HG : Hid (GS N w T G M P C R Q s r mark2 line0 wr) := HG
            have HR : Hid (∀ W, Calls Tryd.prog 44 #[.agg #[.slice none 0 0, .slice (some ⟨s, 0, none⟩) 4 4, .slice (some ⟨r, 0, none⟩) 1 1, .slice none 0 0], .int .i64 1] W fun e w' => e = .returned (.int .i64 1) ∧ Below W.heap.size W w') := Lib.hid (HRQ.out 1 (by omega))
            have hc : wr.cell? ⟨R, 1, none⟩ = some (.int .i64 1) := HG.out.row 1 (by omega)
            obtain ⟨-, p0, c0, t0, t1, t2, t3, t4, t5⟩ := HG.out.all
            go_wp2_with fail
            refine (HR.out _).mono ?_
            rintro e w1 ⟨rfl, hb⟩
            have HG1 := Lib.hid (HG.out.below hb); clear hb hc p0 c0 t0 t1 t2 t3 t4 t5
            have HAL := Lib.hid fun W (h : GS N w T G M P C R Q s r mark2 line0 W) => h.all
            have HDW := Lib.hid fun W (h : GS N w T G M P C R Q s r mark2 line0 W) => h.drew
            have HBE := Lib.hid fun W W' (h : GS N w T G M P C R Q s r mark2 line0 W) (hb : Below W.heap.size W W') => h.below hb
            have HL5 : Hid (∀ W, GS N w T G M P C R Q s r mark2 line0 W → W.cell? ⟨G, 5, none⟩ = some (.bool false)) := Lib.hid fun W h => (own_cell h.ts.lin).trans rfl
            have HSD : Hid (∀ k : Nat, k = 1 ∨ k = 2 → ∀ W, GS N w T G M P C R Q s r mark2 line0 W → Calls Tryd.prog 45 #[.int .i64 (k : Int), .pointer (some ⟨P, 0, none⟩), .pointer (some ⟨C, 0, none⟩)] W fun e W' => e = .returned (.bool true) ∧ ∃ n, W' = W.drewN n) := Lib.hid fun k hk W h => stands_any N T G M P C R Q s r w line0 k hk W h
            have HS1 : Hid (∀ W, GS N w T G M P C R Q s r mark2 line0 W → Calls Tryd.prog 45 #[.int .i64 1, .pointer (some ⟨P, 0, none⟩), .pointer (some ⟨C, 0, none⟩)] W fun e W' => e = .returned (.bool true) ∧ ∃ n, W' = W.drewN n) := Lib.hid (HSD.out 1 (.inl rfl))
            have HS2 : Hid (∀ W, GS N w T G M P C R Q s r mark2 line0 W → Calls Tryd.prog 45 #[.int .i64 2, .pointer (some ⟨P, 0, none⟩), .pointer (some ⟨C, 0, none⟩)] W fun e W' => e = .returned (.bool true) ∧ ∃ n, W' = W.drewN n) := Lib.hid (HSD.out 2 (.inr rfl))
            have HSV : Hid (∀ W, GS N w T G M P C R Q s r mark2 line0 W → Calls Tryd.prog 47 #[.pointer (some ⟨T, 0, none⟩), .int .i64 1, .int .i64 0, .int .i64 0, .int .i64 6] W fun e W' => e = .returned (.tuple #[]) ∧ GS N w T G M P C R Q s r mark2 line1 W') := Lib.hid fun W h => (serve_any T G M s r mark2 W h.ts).mono fun e W' ⟨he, h1, h2⟩ => ⟨he, h.kept (.inl rfl) h2 h1⟩
            have HMM : Hid (∀ W, GS N w T G M P C R Q s r mark2 line0 W → W.cell? ⟨M, 3, none⟩ = some (.int .i64 1) ∧ W.cell? ⟨M, 5, none⟩ = some (.int .i64 2) ∧ W.cell? ⟨Q, 1, none⟩ = some (.int .i64 0) ∧ W.cell? ⟨Q, 2, none⟩ = some (.int .i64 6)) := Lib.hid fun W h => ⟨(own_cell h.ts.met).trans rfl, (own_cell h.ts.met).trans rfl, h.tim⟩
            clear HSD
            generalize hP2 : GS N w T G M P C R Q s r mark2 line0 = P2 at *
            obtain ⟨-, p0, c0, t0, t1, t2, t3, t4, t5⟩ := HAL.out _ HG1.out
            have l5 := HL5.out _ HG1.out
            go_upto_region 13 with fail
            clear l5
            have hp2 := HG1.out
            go_cut [14, 15] (fun s14 s15 wx => s14 = .int .i64 1 ∧ s15 = .int .i64 2 ∧ Hid (P2 wx))
            case first =>
              go_region_held3 (fun w' => P2 w' ∧ w'.cell? ⟨P, 0, none⟩ = some (.pointer (some ⟨T, 0, none⟩)) ∧ w'.cell? ⟨C, 0, none⟩ = some (.int .i64 0) ∧ w'.cell? ⟨T, 0, none⟩ = some (.slice none 0 0) ∧ w'.cell? ⟨T, 1, none⟩ = some (.slice (some ⟨s, 0, none⟩) 4 4) ∧ w'.cell? ⟨T, 2, none⟩ = some (.slice (some ⟨r, 0, none⟩) 1 1) ∧ w'.cell? ⟨T, 3, none⟩ = some (.slice none 0 0) ∧ w'.cell? ⟨T, 4, none⟩ = some (.slice (some ⟨G, 0, none⟩) 1 1) ∧ w'.cell? ⟨T, 5, none⟩ = some (.slice (some ⟨M, 0, none⟩) 4 4))
                (first
                  | exact HAL.out _ ‹P2 _›
                  | exact HAL.out _ (HDW.out _ (And.left ‹P2 _ ∧ _›))
                  | exact HAL.out _ (HDW.out _ ‹P2 _›))
                (first
                  | (go_at_call 15; (with_reducible refine (HPK.out _).mono ?_); rintro e w' ⟨rfl, hb⟩; have hka := HBE.out _ _ (And.left ‹P2 _ ∧ _›) hb; clear hb)
                  | (go_at_call 46; (with_reducible refine (HDR.out _).mono ?_); rintro e w' ⟨rfl, hb⟩; have hka := HBE.out _ _ (And.left ‹P2 _ ∧ _›) hb; clear hb))
              all_goals
                go_wp2_with fail
                go_meet
                exact ⟨rfl, rfl, Lib.hid (And.left ‹P2 _ ∧ _›)⟩
            case rest =>
              obtain ⟨rfl, rfl, HPh⟩ := hcut
              clear p0 c0 t0 t1 t2 t3 t4 t5 hp2
              go_wp2_with fail
              refine (HS1.out _ HPh.out).mono ?_
              rintro e w2 ⟨rfl, n, hw2⟩
              have HP2 : Hid (P2 w2) := Lib.hid (by rw [hw2]; exact HBE.out _ _ HPh.out (below_drewN (Below.refl _ _) _)); clear hw2
              go_wp2_with fail
              refine (HS2.out _ HP2.out).mono ?_
              rintro e w3 ⟨rfl, n', hw3⟩
              have HP3 : Hid (P2 w3) := Lib.hid (by rw [hw3]; exact HBE.out _ _ HP2.out (below_drewN (Below.refl _ _) _)); clear hw3
              obtain ⟨-, p0, c0, t0, t1, t2, t3, t4, t5⟩ := HAL.out _ HP3.out
              obtain ⟨m3, m5, q1, q2⟩ := HMM.out _ HP3.out
              have HP3d := Lib.hid (HDW.out _ HP3.out)
              go_upto_region 15 with fail
              go_still_tail 25, (by kernel_rfl)
              change wpList _ _ _ _ _ w3.drew
              clear p0 c0 t0 t1 t2 t3 t4 t5 m3 m5 q1 q2
              go_wp2_with fail
              refine (HSV.out _ HP3d.out).mono ?_
              rintro e w4 ⟨rfl, hg4⟩
              have HG4 := Lib.hid hg4; clear hg4
              go_wp2_with fail
              go_roundw
              case rel => exact ⟨2, by omega, by go_num, HG4⟩
              case measure => simp [intOf]
          · clear HPK HDR
            have HR : Hid (∀ W, Calls Tryd.prog 44 #[.agg #[.slice none 0 0, .slice (some ⟨s, 0, none⟩) 4 4, .slice (some ⟨r, 0, none⟩) 1 1, .slice none 0 0], .int .i64 2] W fun e w' => e = .returned (.int .i64 1) ∧ Below W.heap.size W w') := Lib.hid (HRQ.out 2 (by omega))
            have hc : wr.cell? ⟨R, 2, none⟩ = some (.int .i64 2) := HG.out.row 2 (by omega)
            obtain ⟨-, p0, c0, t0, t1, t2, t3, t4, t5⟩ := HG.out.all
            go_wp2_with fail
            refine (HR.out _).mono ?_
            rintro e w1 ⟨rfl, hb⟩
            have HG1 := Lib.hid (HG.out.below hb); clear hb hc p0 c0 t0 t1 t2 t3 t4 t5
            obtain ⟨-, p0, c0, t0, t1, t2, t3, t4, t5⟩ := HG1.out.all
            have l5 : w1.cell? ⟨G, 5, none⟩ = some (.bool true) := (own_cell HG1.out.ts.lin).trans rfl
            go_wp2_with fail
            go_roundw
            case rel => exact ⟨3, by omega, by go_num, HG1⟩
            case measure => simp [intOf]
          · clear HPK HDR
            have HR : Hid (∀ W, Calls Tryd.prog 44 #[.agg #[.slice none 0 0, .slice (some ⟨s, 0, none⟩) 4 4, .slice (some ⟨r, 0, none⟩) 1 1, .slice none 0 0], .int .i64 3] W fun e w' => e = .returned (.int .i64 0) ∧ Below W.heap.size W w') := Lib.hid (HRQ.out 3 (by omega))
            have hc : wr.cell? ⟨R, 3, none⟩ = some (.int .i64 3) := HG.out.row 3 (by omega)
            obtain ⟨-, p0, c0, t0, t1, t2, t3, t4, t5⟩ := HG.out.all
            go_wp2_with fail
            refine (HR.out _).mono ?_
            rintro e w1 ⟨rfl, hb⟩
            have HG1 := Lib.hid (HG.out.below hb); clear hb hc p0 c0 t0 t1 t2 t3 t4 t5
            go_wp2_with fail
            go_roundw
            case rel => exact ⟨4, by omega, by go_num, HG1⟩
            case measure => simp [intOf]
        · obtain rfl : k = 4 := by omega
          have hfin : Below N w wr ∧ ∃ mc, TS T G M s r mc line1 wr := ⟨HG.out.bel, _, HG.out.ts⟩
          have HF := Lib.hid hfin; clear hfin
          go_wp2_with fail
          go_end0
          exact ⟨rfl, HF.out⟩
end Tk
end Go.Proofs.YtjmingdlfihmaaaDoor
