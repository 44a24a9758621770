/- How many pairs are forbidden (Count): a range over a map keyed by pairs. -/
import Derived.Test.YtjfagekdeapiaaaTabIs
namespace Go.Proofs.Ytjfagekdeapiaaa
open Go.RowKit Go.Lib
namespace Tab
open Go.Maps (Keyed)
set_option linter.unusedVariables false
abbrev MapAt (w : World) (b r n : Nat) (D : Dt) (left : Lit → Bool) (c : Nat) : Prop := w.ranges Try.prog 51 El b r n D left c
/-- The step of a range over a table's map: nothing is left, or some ban comes out. -/
theorem next_tab {P : Program} (hP : P = Try.prog) (w : World) {ops : Array Oper} {rest : List Oper} {o : Oper} {a : Act} {Q : Exit → Act → World → Prop} (hg : o.guard = none) (it : Operand) (hop : o.op = Op.next it false)
    (b r n : Nat) (D : Dt) (l : List E) (left : Lit → Bool) (c : Nat) (hrep : Rep D l) (hit : a.eval it = .pointer (some ⟨r, 0, none⟩)) (h : MapAt w b r n D left c)
    (hDone : c = 0 → (∀ kl, left kl = false) → wpList P ops Q rest (a.put o.dst (.tuple #[.bool false])) w)
    (hMore : ∀ (x y u : Int), Hid (∃ e ∈ l, e.r = x ∧ e.t = y ∧ e.u = u) → Wf x → Wf y → left (key x y) = true → ∀ (w' : World) (c' : Nat), MapAt w' b r n D (less left (key x y)) c' → c' < c → w.grownBy w' (some r) → w'.heap.size = w.heap.size →
      (Instr.entry (.pointer (some ⟨r, 0, none⟩))).run Try.prog w' = .ok (.tuple #[pr x y, .int .i64 u]) w' → wpList P ops Q rest (a.put o.dst (.tuple #[.bool true, pr x y, .int .i64 u])) w') :
    wpList P ops Q (o :: rest) a w := by
  subst hP
  refine wpList_next_ranges w hg it hop 51 law El (fun p : Int × Int => pr p.1 p.2) (Value.int .i64) (fun k kl hk => by obtain ⟨x, y, rfl, _⟩ := key_inv hk; exact ⟨(x, y), rfl⟩)
    (fun v y hv => by obtain ⟨c, rfl, _⟩ := plainElem_int_inv Try.underlying3 hv; exact ⟨c, rfl⟩) b r n D left c hit h hDone ?_
  intro p u kl y w' c' hkey hlk hv hat hrg hlt hgr hsz hen
  obtain ⟨x, z, e1, hx, hz, rfl⟩ := key_inv hkey
  have e2 : p.1 = x ∧ p.2 = z := by
    simp only [Value.agg.injEq] at e1
    have := congrArg Array.toList e1
    simp at this
    exact this
  obtain ⟨q1, q2⟩ := p
  obtain ⟨rfl, rfl⟩ := e2
  obtain ⟨u', eu, rfl, hwu⟩ := plainElem_int_inv Try.underlying3 hv
  cases eu
  exact hMore q1 q2 u (Lib.hid (hrep.find hx hz hat)) hx hz hlk w' c' hrg hlt hgr hsz hen
/-- between two rounds -/
def CountR (w : World) (b n : Nat) (D : Dt) (l : List E) (now : Int) (k : Nat) (left : Lit → Bool) (c : Nat) (wr : World) : Prop :=
  MapAt wr b w.heap.size n D left c ∧ Below w.heap.size w wr ∧ k + (cnt now left l).length = (live now l).length
set_option maxHeartbeats 1000000 in
theorem count_any (T : Nat) (B : Option Nat) (l : List E) (now : Int) (w : World) (h : At w T B l) (hl : l.length ≤ 1000) :
    Calls Try.prog 15 #[.pointer (some ⟨T, 0, none⟩), .int .i64 now] w fun e w' => e = .returned (.int .i64 ((live now l).length : Int)) ∧ Below w.heap.size w w' := by
  have c0 := h.cell
  cases hB : B with
  | none =>
    have hz := h.nil hB
    subst hz hB
    have hrg := run_range_nilMap (P := Try.prog) w 24 51 3 Try.underlying24
    have hnx : ∀ ty, (Instr.next (.pointer (some ⟨w.heap.size, 0, none⟩)) false ty).run Try.prog (w.alloc (.mapIter none 0 #[] 0)) = _ := fun ty => run_next_nilMap w ty 0 0 #[]
    have HB := Lib.hid ((Below.refl w.heap.size w).alloc (Nat.le_refl _) (.mapIter none 0 #[] 0))
    clear h hl
    go_enter Try.func15, Try.ntmps15
    go_wp2
    refine wp_loop_rounds 1 ?_
    rw [rounds_succ]
    go_wp2
    go_ret
    exact ⟨rfl, HB.out⟩
  | some b =>
    obtain ⟨D, hown, hrep⟩ := h.map b hB
    subst hB
    have hbl := hown.lt
    have HREP := Lib.hid hrep
    have hq : (live now l).length ≤ 1000 := Nat.le_trans (live_le _ _) hl
    clear h hrep
    obtain ⟨N, hN⟩ : ∃ N, N = (live now l).length := ⟨_, rfl⟩
    have HN := Lib.hid hN
    rw [← hN] at hq ⊢
    clear hN
    go_enter Try.func15, Try.ntmps15
    go_wp2_with (first
      | (at_range; refine wpList_range_own _ rfl _ 24 rfl 51 3 law Try.underlying24 _ b _ D rfl hown ?_; intro w0 hrg0 hg0 hs0)
      | fail)
    go_frame
    have hstart : CountR w b l.length D l now 0 (Maps.has D) (Maps.size D) w0 := ⟨hrg0, (Below.refl _ _).grown hg0 (Nat.le_refl _) (fun g e => by cases e), by rw [cnt_start HREP.out]; omega⟩
    have HST := Lib.hid hstart
    clear hstart hrg0 hg0 hs0 hown c0
    go_loopw [5, 7] (fun v _ wr => ∃ (left : Lit → Bool) (c k : Nat), v = .int .i64 k ∧ k ≤ 1000 ∧ Hid (CountR w b l.length D l now k left c wr)) (fun _ _ wr => wr.rangeLeft b w.heap.size)
    case atStart => exact ⟨_, _, 0, rfl, Nat.zero_le _, HST⟩
    case round =>
      obtain ⟨left, c, k, rfl, hk, HR⟩ := hrel
      have hrg := HR.out.1
      go_wp2_with (first
        | (at_next; refine next_tab rfl _ rfl _ rfl b w.heap.size _ D l left c HREP.out rfl hrg ?_ ?_)
        | fail)
      · intro hc0 hl0
        have hkN : k = N := by have := HR.out.2.2; rw [cnt_end hl0, ← HN.out] at this; simpa using this
        have HB := Lib.hid HR.out.2.1
        clear hrg HR
        go_wp2
        go_ret
        exact ⟨ret_int (by omega), HB.out⟩
      · intro x y u HE hwx hwy hlx w1 c1 hrg1 hlt hg1 hs1 hen
        have HM := Lib.hid (show wr.rangeLeft b w.heap.size = c from hrg.left_eq)
        have HM1 := Lib.hid (show w1.rangeLeft b w.heap.size = c1 from hrg1.left_eq)
        have hbel : Below w.heap.size w w1 := HR.out.2.1.grown hg1 HR.out.2.1.size (fun g e => by cases e; exact Nat.le_refl _)
        obtain ⟨e, he, rfl, rfl, rfl⟩ := HE.out
        obtain ⟨u, hu⟩ : ∃ u, u = e.u := ⟨_, rfl⟩
        have hstep := cnt_step (now := now) HREP.out.wf HREP.out.apart he hlx
        have hsum := HR.out.2.2
        by_cases hn : now < e.u
        · rw [if_pos hn] at hstep
          have hk1 : k + 1 ≤ 1000 := by have := HN.out; omega
          have HNX := Lib.hid (show CountR w b l.length D l now (k + 1) (less left (key e.r e.t)) c1 w1 from ⟨hrg1, hbel, by omega⟩)
          rw [← hu] at hn hen ⊢
          clear hstep hsum hbel hrg hrg1 hg1 hs1 HR HE he hlx hwx hwy
          go_wp2_with fail
          go_roundw
          case rel => exact ⟨_, c1, k + 1, by go_num, hk1, HNX⟩
          case measure => rw [HM1.out, HM.out]; exact hlt
        · rw [if_neg hn] at hstep
          have HNX := Lib.hid (show CountR w b l.length D l now k (less left (key e.r e.t)) c1 w1 from ⟨hrg1, hbel, by omega⟩)
          rw [← hu] at hn hen ⊢
          clear hstep hsum hbel hrg hrg1 hg1 hs1 HR HE he hlx hwx hwy
          go_wp2_with fail
          go_roundw
          case rel => exact ⟨_, c1, k, rfl, hk, HNX⟩
          case measure => rw [HM1.out, HM.out]; exact hlt
end Tab
end Go.Proofs.Ytjfagekdeapiaaa
