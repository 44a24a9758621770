/- What isn't forbidden any more is let go (Sweep): maps.DeleteFunc over a map keyed by pairs, by a function that captures a step. -/
import Derived.Test.YtjfagekdeapiaaaTabCount
namespace Go.Proofs.Ytjfagekdeapiaaa
open Go.RowKit Go.Lib
namespace Tab
open Go.Maps (Keyed)
set_option linter.unusedVariables false
theorem grown_of {w w' : World} (h : Below w.heap.size w w') : w.grownBy w' none := ⟨h.os, h.tape, h.output, h.size, fun i hi _ => h.block i hi⟩
theorem two_cells {w : World} {x y : Value} {t : TypeId} : (w.alloc (.cells #[x, y] t)).cell? ⟨w.heap.size, 0, none⟩ = some x ∧ (w.alloc (.cells #[x, y] t)).cell? ⟨w.heap.size, 1, none⟩ = some y := by
  constructor <;> simp [go_sem]
/-- the function that Sweep hands over -/
theorem sweep1_any (F : Nat) (x y u now : Int) (w : World) (hF : w.cell? ⟨F, 0, none⟩ = some (.int .i64 now)) :
    Calls Try.prog 22 #[pr x y, .int .i64 u, .pointer (some ⟨F, 0, none⟩)] w fun e w' => e = .returned (.bool (decide (u ≤ now))) ∧ Below w.heap.size w w' := by
  have hlt := World.block_lt_of_cell? _ _ hF
  have hne : F ≠ w.heap.size := by simp at hlt; omega
  have HB := Lib.hid ((Below.refl w.heap.size w).alloc (Nat.le_refl _) (.cells #[.int .i64 x, .int .i64 y] 51))
  go_enter Try.func22, Try.ntmps22
  go_wp2_with fail
  go_ret
  exact ⟨rfl, HB.out⟩
theorem less_twice (left : Lit → Bool) (kl : Lit) : (fun z => less left kl z && !z.sameKey kl) = less left kl := by
  funext z
  unfold less
  cases left z <;> cases z.sameKey kl <;> rfl
/-- between two rounds -/
def DelR (w : World) (b n : Nat) (l : List E) (now : Int) (left : Lit → Bool) (c : Nat) (D : Dt) (wr : World) : Prop :=
  MapAt wr b w.heap.size n D left c ∧ w.grownBy wr (some b) ∧ Rep D (stay now left l)
set_option maxHeartbeats 1000000 in
theorem del_any (b n F : Nat) (D : Dt) (l : List E) (now : Int) (w : World) (hown : w.ownsMap Try.prog 51 El b n D) (hrep : Rep D l) (hF : w.cell? ⟨F, 0, none⟩ = some (.int .i64 now)) :
    Calls Try.prog 21 #[.map (some b), .func (.func 22) #[] #[.pointer (some ⟨F, 0, none⟩)]] w
      fun e w' => e = .returned (.tuple #[]) ∧ w.grownBy w' (some b) ∧ ∃ D', w'.ownsMap Try.prog 51 El b n D' ∧ Rep D' (live now l) := by
  have HREP := Lib.hid hrep
  have hbl := hown.lt
  have hFlt : F < w.heap.size := World.block_lt_of_cell? _ _ hF
  have hFb : F ≠ b := fun e => by
    obtain ⟨es, c, h1, _⟩ := hown
    obtain ⟨a, t, f, h2⟩ := cells_of hF
    rw [e, h1] at h2; cases h2
  have HF := Lib.hid hF
  have EG := Lib.hid (show ∀ args w, (callFunc 22 args).run Try.prog w = .ok (.enter 22 args) w from fun _ _ => rfl)
  clear hrep hF
  go_enter Try.func21, Try.ntmps21
  go_wp2_with (first
    | (at_range; refine wpList_range_own _ rfl _ 24 rfl 51 3 law Try.underlying24 _ b _ D rfl hown ?_; intro w0 hrg0 hg0 hs0)
    | fail)
  go_frame
  have HST := Lib.hid (show DelR w b n l now (Maps.has D) (Maps.size D) D w0 from ⟨hrg0, hg0.but _, by rw [stay_start HREP.out]; exact HREP.out⟩)
  clear hrg0 hg0 hs0 hown
  go_loopw [4, 5] (fun _ _ wr => ∃ (left : Lit → Bool) (c : Nat) (D' : Dt), Hid (DelR w b n l now left c D' wr)) (fun _ _ wr => wr.rangeLeft b w.heap.size)
  case atStart => exact ⟨_, _, _, HST⟩
  case round =>
    obtain ⟨left, c, D', HR⟩ := hrel
    have hrg := HR.out.1
    go_wp2_with (first
      | (at_next; refine next_tab rfl _ rfl _ rfl b w.heap.size _ D' (stay now left l) left c HR.out.2.2 rfl hrg ?_ ?_)
      | fail)
    · intro hc0 hl0
      have HE := Lib.hid (show ∃ D', wr.ownsMap Try.prog 51 El b n D' ∧ Rep D' (live now l) from ⟨D', hrg.owns, by rw [← stay_end hl0]; exact HR.out.2.2⟩)
      have HG := Lib.hid HR.out.2.1
      clear hrg HR
      go_wp2
      go_end0
      exact ⟨rfl, HG.out, HE.out⟩
    · intro x y u HE hwx hwy hlx w1 c1 hrg1 hlt hg1 hs1 hen
      have HM := Lib.hid (show wr.rangeLeft b w.heap.size = c from hrg.left_eq)
      have hgw1 : w.grownBy w1 (some b) := HR.out.2.1.andThen hg1 (fun j hj => by cases hj; exact Or.inl (Nat.le_refl _))
      have hFc : w1.cell? ⟨F, 0, none⟩ = some (.int .i64 now) := (World.cell?_of_block (w := w) (a := ⟨F, 0, none⟩) (hgw1.block F hFlt (fun e => by cases e; exact hFb rfl))).trans HF.out
      have hszw := hgw1.size
      have eg := EG.out
      have hkey := key_of hwx hwy
      have hFc2 : (w1.alloc (.cells #[.int .i64 x, .int .i64 y] 51)).cell? ⟨F, 0, none⟩ = some (.int .i64 now) := by
        rw [World.cell?_alloc_old _ _ _ (by show F ≠ _; omega)]; exact hFc
      have HC := Lib.hid (sweep1_any F x y u now _ hFc2)
      have HRG := Lib.hid hrg1
      have HGW := Lib.hid hgw1
      clear hgw1 hFc hFc2 hrg hrg1 hg1 hs1
      obtain ⟨e, he, hex, hey, heu⟩ := HE.out
      have hel : e ∈ l := (List.mem_filter.1 he).1
      by_cases hn : u ≤ now
      · have hd : decide (u ≤ now) = true := by simp [hn]
        rw [hd] at HC
        have HS := Lib.hid (show oth x y (stay now left l) = stay now (less left (key x y)) l by
          rw [← hex, ← hey]; exact stay_struck HREP.out.wf HREP.out.apart hel (by omega))
        clear hd hn he hel hex hey heu
        go_wp2_with fail
        refine HC.out.mono ?_
        rintro e2 w2 ⟨rfl, hb⟩
        obtain ⟨d0, d1⟩ := two_cells (w := w1) (x := .int .i64 x) (y := .int .i64 y) (t := 51)
        have d0' := (hb.cell (p := ⟨w1.heap.size, 0, none⟩) (by simp)).trans d0
        have d1' := (hb.cell (p := ⟨w1.heap.size, 1, none⟩) (by simp)).trans d1
        have hg2 : w1.grownBy w2 none := (World.grownBy_alloc w1 _ none).andThen (grown_of hb) (fun j hj => by cases hj)
        have hrg2 := HRG.out.kept hg2 (by simp) (by simp)
        have HG2 := Lib.hid (HGW.out.andThen hg2 (fun j hj => by cases hj))
        clear hb hg2 d0 d1
        go_wp2_with (first
          | (at_delete; refine wpList_delete_ranges _ rfl _ _ 24 51 rfl 3 law Try.underlying24 _ b w.heap.size _ _ _ _ rfl hrg2 _ _ rfl hkey ?_; intro w3 c3 hrg3 hle hturn; go_frame)
          | fail)
        rw [less_twice] at hrg3
        have HM3 := Lib.hid (show w3.rangeLeft b w.heap.size = c3 from hrg3.left_eq)
        have HNX := Lib.hid (show DelR w b n l now (less left (key x y)) c3 (D'.del (key x y)) w3 from ⟨hrg3, HG2.out.andThen hturn.grown (fun j hj => by cases hj; exact Or.inr rfl), by
          have hR := HR.out.2.2
          obtain ⟨e, he, rfl, rfl, _⟩ := HE.out
          rw [← HS.out]
          exact hR.del (hrg2.owns.tidy law) he⟩)
        clear hrg3 hturn hrg2 d0' d1'
        go_roundw
        case rel => exact ⟨_, c3, _, HNX⟩
        case measure => rw [HM3.out, HM.out]; omega
      · have hd : decide (u ≤ now) = false := by simp [hn]
        rw [hd] at HC
        have HS := Lib.hid (show stay now (less left (key x y)) l = stay now left l by
          rw [← hex, ← hey]; exact stay_stays HREP.out.wf HREP.out.apart hel (by omega))
        clear hd hn he hel hex hey heu HE
        go_wp2_with fail
        refine HC.out.mono ?_
        rintro e2 w2 ⟨rfl, hb⟩
        have hg2 : w1.grownBy w2 none := (World.grownBy_alloc w1 _ none).andThen (grown_of hb) (fun j hj => by cases hj)
        have hrg2 := HRG.out.kept hg2 (by simp) (by simp)
        have HNX := Lib.hid (show DelR w b n l now (less left (key x y)) c1 D' w2 from ⟨hrg2, HGW.out.andThen hg2 (fun j hj => by cases hj), by rw [HS.out]; exact HR.out.2.2⟩)
        have HM3 := Lib.hid (show w2.rangeLeft b w.heap.size = c1 from hrg2.left_eq)
        clear hb hg2 hrg2
        go_wp2_with fail
        go_roundw
        case rel => exact ⟨_, c1, _, HNX⟩
        case measure => rw [HM3.out, HM.out]; omega
theorem own_exact {w : World} {b n : Nat} {D : Dt} {l : List E} (h : w.ownsMap Try.prog 51 El b n D) (hr : Rep D l) : w.ownsMap Try.prog 51 El b l.length D := by
  obtain ⟨es, clock, hb, F, hs, hD⟩ := h
  refine ⟨es, clock, hb, F, ?_, hD⟩
  have := hr.size
  rw [hD] at this
  simp only [Maps.size, length_sorted, List.length_map, Array.length_toList] at this
  omega
/-- a nil map -/
theorem del_nil (f : Value) (w : World) :
    Calls Try.prog 21 #[.map none, f] w fun e w' => e = .returned (.tuple #[]) ∧ Below w.heap.size w w' := by
  have hrg := run_range_nilMap (P := Try.prog) w 24 51 3 Try.underlying24
  have hnx : ∀ ty, (Instr.next (.pointer (some ⟨w.heap.size, 0, none⟩)) false ty).run Try.prog (w.alloc (.mapIter none 0 #[] 0)) = _ := fun ty => run_next_nilMap w ty 0 0 #[]
  have HB := Lib.hid ((Below.refl w.heap.size w).alloc (Nat.le_refl _) (.mapIter none 0 #[] 0))
  go_enter Try.func21, Try.ntmps21
  go_wp2
  refine wp_loop_rounds 1 ?_
  rw [rounds_succ]
  go_wp2
  go_end0
  exact ⟨rfl, HB.out⟩
set_option maxHeartbeats 1000000 in
theorem sweep_any (T : Nat) (B : Option Nat) (l : List E) (now : Int) (w : World) (h : At w T B l) (hl : l.length ≤ 1000) :
    Calls Try.prog 11 #[.pointer (some ⟨T, 0, none⟩), .int .i64 now] w fun e w' => e = .returned (.int .i64 ((l.length : Int) - ((live now l).length : Int))) ∧ At w' T B (live now l) ∧ Tur T B w w' := by
  have c0 := h.cell
  have hT := h.lt
  have hq : (live now l).length ≤ l.length := live_le _ _
  have hb1 : Below w.heap.size w (w.alloc (.cells #[.int .i64 now] 3)) := (Below.refl _ _).alloc (Nat.le_refl _) _
  have HB1 := Lib.hid hb1
  have c0' : (w.alloc (.cells #[.int .i64 now] 3)).cell? ⟨T, 0, none⟩ = some (.map B) := (hb1.cell (p := ⟨T, 0, none⟩) hT).trans c0
  have hF : (w.alloc (.cells #[.int .i64 now] 3)).cell? ⟨w.heap.size, 0, none⟩ = some (.int .i64 now) := by simp [go_sem]
  have HA := Lib.hid h
  cases hB : B with
  | none =>
    have hz := h.nil hB
    subst hz hB
    have hlen := fun (W : World) ty => Maps.len_nil (P := Try.prog) (w := W) Try.underlying24 ty
    have HC := Lib.hid (fun f => del_nil f (w.alloc (.cells #[.int .i64 now] 3)))
    have hv : (live now []).length = 0 := rfl
    clear h hb1 hF hq
    go_enter Try.func11, Try.ntmps11
    go_wp2_with fail
    refine (HC.out _).mono ?_
    rintro e w' ⟨rfl, hb⟩
    have c1 := (hb.cell (p := ⟨T, 0, none⟩) (by simp; omega)).trans c0'
    have HB2 := Lib.hid (HB1.out.trans (hb.mono (by simp)))
    clear hb
    go_wp2_with fail
    go_ret
    exact ⟨rfl, HA.out.below HB2.out, .of HB2.out⟩
  | some b =>
    obtain ⟨D, hown, hrep⟩ := h.map b hB
    have hbT := h.ne hB
    subst hB
    have hbl := hown.lt
    have hown1 := hown.kept (grown_of hb1) (by simp)
    have HC := Lib.hid (del_any b _ w.heap.size D l now _ hown1 hrep hF)
    have hs := hrep.size
    clear h hrep hown hF
    obtain ⟨n, hn⟩ : ∃ n, n = l.length := ⟨_, rfl⟩
    obtain ⟨m, hm⟩ : ∃ m, m = (live now l).length := ⟨_, rfl⟩
    rw [← hm] at hq ⊢
    rw [← hn] at hq hl hs hown1 HC ⊢
    have HN := Lib.hid hn
    have HM := Lib.hid hm
    clear hn hm hb1
    go_enter Try.func11, Try.ntmps11
    go_wp2_with (first
      | (at_len; refine wpList_len_own _ rfl _ 24 rfl 51 3 Try.underlying24 _ b _ D rfl hown1 ?_; rw [hs])
      | fail)
    refine HC.out.mono ?_
    rintro e w' ⟨rfl, hg, D', hown2, hrep2⟩
    have hs2 := hrep2.size
    rw [← HM.out] at hs2
    have c1 := (World.cell?_of_block (w := w.alloc (.cells #[.int .i64 now] 3)) (a := ⟨T, 0, none⟩) (hg.block T (by simp; omega) (fun e => by cases e; exact hbT rfl))).trans c0'
    have HG := Lib.hid hg
    have HREP2 := Lib.hid hrep2
    clear hg hrep2 hown1
    go_wp2_with (first
      | (at_len; refine wpList_len_own _ rfl _ 24 rfl 51 3 Try.underlying24 _ b _ D' rfl hown2 ?_; rw [hs2])
      | fail)
    go_ret
    have hg3 : w.grownBy w' (some b) := ((grown_of HB1.out).but (some b)).andThen HG.out (fun j hj => by cases hj; exact .inr rfl)
    have hTb : w'.heap[T]? = w.heap[T]? := hg3.block T hT (fun e => by cases e; exact hbT rfl)
    refine ⟨ret_int ?_, ⟨(World.cell?_of_block (w := w) (a := ⟨T, 0, none⟩) hTb).trans HA.out.cell, (World.frozen?_of_block (w := w) (a := ⟨T, 0, none⟩) hTb).trans HA.out.fz, (fun e => by cases e), fun b' e => ?_⟩, ⟨hg3.os, hg3.tape, hg3.output, hg3.size, fun k hk _ h2 => hg3.block k hk (fun e => h2 e.symm)⟩⟩
    · rfl
    · cases e
      exact ⟨D', own_exact hown2 HREP2.out, HREP2.out⟩
end Tab
end Go.Proofs.Ytjfagekdeapiaaa
