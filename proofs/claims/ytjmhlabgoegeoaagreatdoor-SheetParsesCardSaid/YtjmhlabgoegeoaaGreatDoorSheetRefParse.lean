/- jitneyref06.Parse; over the translated program. -/
import Derived.Test.YtjmhlabgoegeoaaGreatDoorSheetLineA
import Derived.Test.YtjmhlabgoegeoaaGreatDoorSheetParse
import Derived.Test.YtjmhlabgoegeoaaGreatDoorDeciRefWords
namespace Go.Proofs.YtjmhlabgoegeoaaGreatDoor
namespace Sheet
open Go Go.RowKit Deci
section
variable {base : Nat} {s : ByteArray} {ck : Int} {W : World}
theorem readF_lines (h : linesE s.data.toList ≠ 0) : readF s ck = (0, linesE s.data.toList) := by
  have : openE s.data.toList = linesE s.data.toList := by unfold openE; rw [if_pos h]
  unfold readF; rw [this, if_pos h]
theorem readF_none (h : linesE s.data.toList = 0) (h2 : linesP s.data.toList = []) : readF s ck = (0, 20) := by
  have : openE s.data.toList = 20 := by unfold openE; rw [if_neg (by simpa using h), if_pos h2]
  unfold readF; rw [this, if_pos (by decide)]
theorem readF_open (h : linesE s.data.toList = 0) (h2 : linesP s.data.toList ≠ []) : openE s.data.toList = 0 := by unfold openE; rw [if_neg (by simpa using h), if_neg h2]
theorem readF_head (h : linesE s.data.toList = 0) (h2 : linesP s.data.toList ≠ []) (h3 : headE (linesP s.data.toList) ≠ 0) : readF s ck = (1, headE (linesP s.data.toList)) := by
  unfold readF; rw [readF_open h h2, if_neg (by decide), if_pos h3]
theorem readF_go (h : linesE s.data.toList = 0) (h2 : linesP s.data.toList ≠ []) (h3 : headE (linesP s.data.toList) = 0) : readF s ck = (parOf (linesP s.data.toList)).fault ck := by
  unfold readF; rw [readF_open h h2, if_neg (by decide), if_neg (by simpa using h3)]
theorem out_no {ln : Nat} {er : Int} (h : readF s ck = (ln, er)) (he : er ≠ 0) :
    ParseOut base s ck (.returned (.tuple #[.agg #[.slice none 0 0, .slice none 0 0, .slice none 0 0, .slice none 0 0], .int .i64 0, .int .i64 ln, .int .i64 er])) W :=
  ⟨_, 0, by rw [h], .inr ⟨by rw [h]; exact he, rfl, rfl⟩⟩
theorem out_yes {v : Value} (h : readF s ck = (0, 0)) (hi : InstAt base (parOf (linesP s.data.toList)) v W) :
    ParseOut base s ck (.returned (.tuple #[v, .int .i64 (headS (linesP s.data.toList)), .int .i64 0, .int .i64 0])) W :=
  ⟨_, _, by rw [h]; rfl, .inl ⟨by rw [h], hi, rfl⟩⟩
end
/-- The faults behind the first line. -/
theorem fault_at {p : IP} {ck : Int} {i : Nat} (h : bad p.err 1 (i - 1) = none) (h1 : 1 ≤ i) (h2 : i ≤ p.all) (he : p.err i ≠ 0) : p.fault ck = (i + 1, p.err i) := by
  have : bad p.err 1 p.all = some i := by
    have := bad_at (f := p.err) (i := 1) (a := i - 1) (m := p.all) h (by rw [show 1 + (i - 1) = i by omega]; exact he) (by omega)
    rwa [show 1 + (i - 1) = i by omega] at this
  unfold IP.fault
  rw [this]
theorem fault_more {p : IP} {ck : Int} (h : bad p.err 1 p.all = none) (h1 : 1 + p.all < p.L.length) : p.fault ck = (1 + p.all + 1, 22) := by
  unfold IP.fault; rw [h]; simp only [if_pos h1]
theorem fault_end {p : IP} {ck : Int} (h : bad p.err 1 p.all = none) (h1 : ¬ 1 + p.all < p.L.length) : p.fault ck = (0, ck) := by
  unfold IP.fault; rw [h]; simp only [if_neg h1]
theorem lineAt_one {base : Nat} {p : IP} {w : World} : LineAt base p 1 (.slice none 0 0) (.slice none 0 0) (.slice none 0 0) (.slice none 0 0) w := by
  unfold LineAt
  rw [show min (1 - 1) p.C = 0 by omega, show min (1 - 1 - p.C) p.P = 0 by omega, show min (1 - 1 - p.C - p.P) p.R = 0 by omega, show 1 - 1 - p.C - p.P - p.R = 0 by omega]
  exact ⟨fun _ => undef, World.ownsRow_nil _ _ _ _, World.ownsRow_nil _ _ _ _, World.ownsRow_nil _ _ _ _, World.ownsRow_nil _ _ _ _, fun j hj => absurd hj (by omega)⟩
/-- WHAT STANDS BEFORE LINE k: the result's block and the instance's; the lines; the instance. -/
structure RL (X Y g : Nat) (p : IP) (k : Nat) (vc vs vr vm : Value) (w W : World) : Prop where
  good : bad p.err 1 (k - 1) = none
  inst : LineAt (Y + 1) p k vc vs vr vm W
  box : W.heap[Y]? = some (.cells #[vc, vs, vr, vm] 28)
  res : W.heap[X]? = some (.cells #[.slice none 0 0, .slice none 0 0, .slice none 0 0, .slice none 0 0] 28)
  low : Below X w W
  txt : ∀ k (hk : k < p.L.length), W.cell? ⟨g, k, none⟩ = some (.string p.L[k])
theorem lineAt_end {base : Nat} {p : IP} {vc vs vr vm : Value} {w : World} (h : LineAt base p (1 + p.all) vc vs vr vm w) : InstAt base p (.agg #[vc, vs, vr, vm]) w := by
  obtain ⟨V, h⟩ := h
  have hall : p.all = p.C + p.P + p.R + p.more := rfl
  rw [show min (1 + p.all - 1) p.C = p.C by omega, show min (1 + p.all - 1 - p.C) p.P = p.P by omega, show min (1 + p.all - 1 - p.C - p.P) p.R = p.R by omega, show 1 + p.all - 1 - p.C - p.P - p.R = p.more by omega] at h
  exact ⟨_, _, _, _, V, rfl, h⟩
/-- The four cells of the result's block, stored. -/
theorem put4 {X : Nat} {w W : World} {c : Array Value} (h : W.heap[X]? = some (.cells c 28)) (hc : c.size = 4) (hb : Below X w W) (v1 v2 v3 v4 : Value) :
    ((((W.setCell ⟨X, 0, none⟩ v1).setCell ⟨X, 1, none⟩ v2).setCell ⟨X, 2, none⟩ v3).setCell ⟨X, 3, none⟩ v4).heap[X]? = some (.cells #[v1, v2, v3, v4] 28) ∧
    Below X w ((((W.setCell ⟨X, 0, none⟩ v1).setCell ⟨X, 1, none⟩ v2).setCell ⟨X, 2, none⟩ v3).setCell ⟨X, 3, none⟩ v4) := by
  obtain ⟨l⟩ := c
  match l, hc with
  | [a, b, d, e], _ =>
    exact ⟨own_set (own_set (own_set (own_set h _) _) _) _, (((hb.setCell (p := ⟨X, 0, none⟩) (Nat.le_refl _) _).setCell (p := ⟨X, 1, none⟩) (Nat.le_refl _) _).setCell (p := ⟨X, 2, none⟩) (Nat.le_refl _) _).setCell (p := ⟨X, 3, none⟩) (Nat.le_refl _) _⟩
theorem line_cells {base : Nat} {w : World} {v : Value} {L : List ByteArray} (h : w.ownsRow base 9 1 v L.length (L.map Value.string)) (h0 : 0 < L.length) :
    ∃ g cap, v = .slice (some ⟨g, 0, none⟩) L.length cap ∧ base ≤ g ∧ g < w.heap.size ∧ ∀ k (hk : k < L.length), w.cell? ⟨g, k, none⟩ = some (.string L[k]) := by
  obtain ⟨g, cap, rfl⟩ := Go.Joins.ownsRow_form h h0
  refine ⟨g, cap, rfl, (h.lt g rfl).1, (h.lt g rfl).2, fun k hk => ?_⟩
  have := h.cells (g := g) rfl k (.string L[k]) (by simp [hk])
  rwa [Go.WideShapes.add_plain, Nat.zero_add] at this
theorem LineAt.put {base i Z f : Nat} {p : IP} {vc vs vr vm u : Value} {cs : Array Value} {W : World} (h : LineAt base p i vc vs vr vm W) (hz : W.heap[Z]? = some (.cells cs 28)) : LineAt base p i vc vs vr vm (W.setCell ⟨Z, f, none⟩ u) := by
  obtain ⟨V, h⟩ := h
  exact ⟨V, h.put hz (by decide) (by decide) (by decide) (by decide)⟩
theorem LineAt.put4 {base i Z : Nat} {p : IP} {vc vs vr vm v1 v2 v3 v4 : Value} {cs : Array Value} {W : World} (h : LineAt base p i vc vs vr vm W) (hz : W.heap[Z]? = some (.cells cs 28)) :
    LineAt base p i vc vs vr vm ((((W.setCell ⟨Z, 0, none⟩ v1).setCell ⟨Z, 1, none⟩ v2).setCell ⟨Z, 2, none⟩ v3).setCell ⟨Z, 3, none⟩ v4) :=
  (((h.put hz).put (own_set hz _)).put (own_set (own_set hz _) _)).put (own_set (own_set (own_set hz _) _) _)
/-- Behind the line: the block of what it answers, Z; what was there stands. -/
structure AL (Y : Nat) (p : IP) (k Z : Nat) (v1 v2 v3 v4 : Value) (wr W : World) : Prop where
  box : W.heap[Z]? = some (.cells #[v1, v2, v3, v4] 28)
  yz : Y < Z
  low : Below (Y + 1) wr W
  inst : p.err k = 0 → LineAt (Y + 1) p (k + 1) v1 v2 v3 v4 W
/-- The next line's state. -/
theorem RL.next {X Y g k Z : Nat} {p : IP} {vc vs vr vm v1 v2 v3 v4 : Value} {w wr W : World} (h : RL X Y g p k vc vs vr vm w wr) (ha : AL Y p k Z v1 v2 v3 v4 wr W) (h1 : 1 ≤ k) (he : p.err k = 0) (hXY : X < Y) (hgY : g < Y) :
    RL X Y g p (k + 1) v1 v2 v3 v4 w ((((W.setCell ⟨Y, 0, none⟩ v1).setCell ⟨Y, 1, none⟩ v2).setCell ⟨Y, 2, none⟩ v3).setCell ⟨Y, 3, none⟩ v4) := by
  have hb : W.heap[Y]? = _ := (ha.low.block Y (Nat.lt_succ_self _)).trans h.box
  obtain ⟨hq1, hq2⟩ := put4 hb rfl (Below.refl Y W) v1 v2 v3 v4
  refine ⟨?_, (ha.inst he).put4 hb, hq1, ?_, (h.low.trans (ha.low.mono (by omega))).trans (hq2.mono (by omega)), fun j hj => ?_⟩
  · have := bad_snoc (f := p.err) (i := 1) (a := k - 1) h.good (by rw [show 1 + (k - 1) = k by omega]; exact he)
    rwa [show k - 1 + 1 = k + 1 - 1 by omega] at this
  · exact (hq2.block X hXY).trans ((ha.low.block X (by omega)).trans h.res)
  · exact (hq2.cell (p := ⟨g, j, none⟩) hgY).trans ((ha.low.cell (p := ⟨g, j, none⟩) (Nat.lt_succ_of_lt hgY)).trans (h.txt j hj))
set_option maxHeartbeats 4000000 in
set_option maxRecDepth 100000 in
theorem refParse_any (s : ByteArray) (w : World) (hs : s.size ≤ 100000) :
    Calls Tryz.prog 6 #[.string s] w fun e w' => Below w.heap.size w w' ∧ ParseOut w.heap.size s (parOf (linesP s.data.toList)).chk e w' := by
  obtain ⟨X, hX⟩ : ∃ X, X = w.heap.size := ⟨_, rfl⟩
  obtain ⟨W0, hW0⟩ : ∃ W0, W0 = w.alloc (.cells #[.slice none 0 0, .slice none 0 0, .slice none 0 0, .slice none 0 0] 28) := ⟨_, rfl⟩
  have hb0 : Below X w W0 := by rw [hX, hW0]; exact (Below.refl _ _).alloc (Nat.le_refl _) _
  have hx0 : W0.heap[X]? = some (.cells #[.slice none 0 0, .slice none 0 0, .slice none 0 0, .slice none 0 0] 28) := by rw [hX, hW0]; exact World.alloc_heap_new w _
  have hz0 : W0.heap.size = X + 1 := by rw [hX, hW0]; simp
  rw [← hX]
  have h1 := refLines_any s W0 (by unfold maxLen; omega)
  have HX := Lib.hid hX; clear hX
  have HW := Lib.hid hW0; clear hW0
  have HB0 := Lib.hid hb0; clear hb0
  have HX0 := Lib.hid hx0; clear hx0
  have HZ0 := Lib.hid hz0; clear hz0
  have hsz : ∀ t ∈ linesP s.data.toList, t.size ≤ 1000000 := fun t ht => by have := lines_size _ t ht; simp at this; omega
  have hmany := lines_many s.data.toList
  simp at hmany
  obtain ⟨ck, hck⟩ : ∃ ck, ck = (parOf (linesP s.data.toList)).chk := ⟨_, rfl⟩
  rw [← hck]
  have R1 := Lib.hid (readF_lines (s := s) (ck := ck))
  have R2 := Lib.hid (readF_none (s := s) (ck := ck))
  have R3 := Lib.hid (readF_head (s := s) (ck := ck))
  have R4 := Lib.hid (readF_go (s := s) (ck := ck))
  have ON : Hid (∀ W (ln : Nat) er, readF s ck = (ln, er) → er ≠ 0 → ParseOut X s ck (.returned (.tuple #[.agg #[.slice none 0 0, .slice none 0 0, .slice none 0 0, .slice none 0 0], .int .i64 0, .int .i64 ln, .int .i64 er])) W) := Lib.hid fun _ _ _ => out_no
  have OY : Hid (∀ W v, readF s ck = (0, 0) → InstAt X (parOf (linesP s.data.toList)) v W → ParseOut X s ck (.returned (.tuple #[v, .int .i64 (headS (linesP s.data.toList)), .int .i64 0, .int .i64 0])) W) := Lib.hid fun _ _ => out_yes
  generalize ParseOut X s ck = PO at *
  generalize readF s ck = rf at *
  generalize linesE s.data.toList = er at *
  generalize linesP s.data.toList = L at *
  have HCK := Lib.hid hck; clear hck
  have HSZ := Lib.hid hsz; clear hsz
  have H1 := Lib.hid h1; clear h1
  go_enter Tryz.func6, Tryz.ntmps6
  go_wp2_with fail
  rw [← HX.out, ← HW.out]
  refine H1.out.mono ?_
  rintro e w1 ⟨v, rfl, hv, hb⟩
  have hx1 : w1.heap[X]? = _ := (hb.block X (by rw [HZ0.out]; omega)).trans HX0.out
  have hbb : Below X w w1 := HB0.out.trans (hb.mono (by rw [HZ0.out]; omega))
  have x0 : w1.cell? ⟨X, 0, none⟩ = some (.slice none 0 0) := (own_cell hx1).trans rfl
  have x1 : w1.cell? ⟨X, 1, none⟩ = some (.slice none 0 0) := (own_cell hx1).trans rfl
  have x2 : w1.cell? ⟨X, 2, none⟩ = some (.slice none 0 0) := (own_cell hx1).trans rfl
  have x3 : w1.cell? ⟨X, 3, none⟩ = some (.slice none 0 0) := (own_cell hx1).trans rfl
  have fX : ∀ j, w1.frozen? ⟨X, j, none⟩ = false := fun j => own_free hx1
  have hzx : X < w1.heap.size := (Array.getElem?_eq_some_iff.1 hx1).1
  have HX1 := Lib.hid hx1; clear hx1
  have HBB := Lib.hid hbb; clear hbb
  obtain ⟨a1, cap, rfl⟩ := own_slice hv
  have HV := Lib.hid hv; clear hv
  have HB := Lib.hid hb; clear hb
  by_cases hz : er = 0
  · subst hz
    by_cases hL : L = []
    · subst hL
      go_wp2_with fail
      clear x0 x1 x2 x3
      obtain ⟨hx2, hb2⟩ := put4 HX1.out rfl HBB.out (.slice none 0 0) (.slice none 0 0) (.slice none 0 0) (.slice none 0 0)
      refine bodyPost_ret (v := .tuple #[.agg #[.slice none 0 0, .slice none 0 0, .slice none 0 0, .slice none 0 0], .int .i64 0, .int .i64 (0 : Nat), .int .i64 20]) (by simp [results, Tryz.results6, go_sem, World.cell?, hx2]) rfl ⟨hb2, ON.out _ _ _ (R2.out (by trivial) (by trivial)) (by decide)⟩
    · have hlen : 0 < L.length := List.length_pos_iff.2 hL
      have hl0 : ((L.length : Int) == 0) = false := by simp; exact hL
      have hl1 : decide ((L.length : Int) = 0) = false := by simp; exact hL
      have hl2 : (0 : Int) < (L.length : Int) := by omega
      obtain ⟨g, cap', hgg, hg1, hg2, hg3⟩ := line_cells HV.out hlen
      obtain ⟨rfl, rfl⟩ : a1 = some ⟨g, 0, none⟩ ∧ cap = cap' := by cases hgg; exact ⟨rfl, rfl⟩
      have hc0 := hg3 0 hlen
      have HG := Lib.hid hg3; clear hg3 hgg
      have hh := refHead_any L[0] w1 (HSZ.out _ (List.getElem_mem hlen))
      obtain ⟨f1, f2, f3, f4, f5⟩ := head_first hlen
      rw [← f1, ← f2, ← f3, ← f4] at hh
      have hk := head_kind hlen
      generalize decide (tAt L[0] 3 = wSpots) = sp at *
      clear f1 f2 f3 f4 f5
      have HH := Lib.hid hh; clear hh
      have hok := parOf_ok (L := L)
      generalize hs0 : L[0] = s0 at *
      generalize hhe : headE L = he at *
      go_wp2_with fail
      refine HH.out.mono ?_
      rintro e w2 ⟨ho, hb2⟩
      clear HH
      have hx2 : w2.heap[X]? = _ := (hb2.block X hzx).trans HX1.out
      have hbb : Below X w w2 := HBB.out.trans (hb2.mono (Nat.le_of_lt hzx))
      have hg4 : ∀ k (hk : k < L.length), w2.cell? ⟨g, k, none⟩ = some (.string L[k]) := fun k hk => (hb2.cell hg2).trans (HG.out k hk)
      have hg5 : g < w2.heap.size := Nat.lt_of_lt_of_le hg2 hb2.size
      clear x0 x1 x2 x3 fX hc0
      have x0 : w2.cell? ⟨X, 0, none⟩ = some (.slice none 0 0) := (own_cell hx2).trans rfl
      have x1 : w2.cell? ⟨X, 1, none⟩ = some (.slice none 0 0) := (own_cell hx2).trans rfl
      have x2 : w2.cell? ⟨X, 2, none⟩ = some (.slice none 0 0) := (own_cell hx2).trans rfl
      have x3 : w2.cell? ⟨X, 3, none⟩ = some (.slice none 0 0) := (own_cell hx2).trans rfl
      have fX : ∀ j, w2.frozen? ⟨X, j, none⟩ = false := fun j => own_free hx2
      have hzx2 : X < w2.heap.size := Nat.lt_of_lt_of_le hzx hb2.size
      have HX2 := Lib.hid hx2; clear hx2
      have HB2 := Lib.hid hbb; clear hbb
      have HG4 := Lib.hid hg4; clear hg4 HG
      clear hzx HX1 HBB HV HB hg2 hb2
      rcases ho with ⟨h0, rfl⟩ | ⟨h0, rfl⟩
      · obtain ⟨hp, hC, hR, hS1, hS2⟩ := hok h0
        obtain rfl := hk h0
        clear hk hok
        rw [hC, hR]
        obtain ⟨p, hpp⟩ : ∃ p, p = parOf L := ⟨_, rfl⟩
        have e1 : headS L = p.sc := by rw [hpp]; rfl
        have e2 : headT L = p.T := by rw [hpp]; rfl
        have e3 : p.L = L := by rw [hpp]; rfl
        rw [← hpp] at hp ⊢
        rw [e1, e2]
        have R5 : Hid (rf = p.fault ck) := Lib.hid ((R4.out (by trivial) hL h0).trans (by rw [hpp]))
        rw [e1] at hS1 hS2 OY
        rw [← hpp] at OY HCK
        have HPL := Lib.hid e3; clear e3
        clear hC hR e1 hpp e2 R1 R2 R3 R4 h0
        obtain ⟨q1, q2, q3⟩ := hp
        have hP : p.P = 2 * p.R + 2 := rfl
        have hall : p.all = p.C + p.P + p.R + (if p.T then p.P else 0) := rfl
        have HP := Lib.hid (show p.Ok from ⟨q1, q2, q3⟩)
        obtain ⟨tb, htb⟩ : ∃ tb, tb = p.T := ⟨_, rfl⟩
        rw [← htb] at hall ⊢
        have HTB := Lib.hid htb; clear htb
        generalize hA : p.all = A at *
        generalize hCC : p.C = C at *
        generalize hRR : p.R = R at *
        generalize hSS : p.sc = S at *
        have HAC := Lib.hid (show p.all = A ∧ p.C = C ∧ p.R = R ∧ p.sc = S from ⟨hA, hCC, hRR, hSS⟩)
        clear hA hCC hRR hSS
        rw [hP] at hall q3
        clear hP
        have hA1 : 1 ≤ A := by omega
        have hA2 : A ≤ 20000 := by cases tb <;> simp at hall <;> omega
        cases tb
        · simp only [Bool.not_false, if_false, Bool.false_eq_true] at hall ⊢
          go_wp2_with fail
          clear x0 x1 x2 x3 fX
          obtain ⟨Y, hY⟩ : ∃ Y, Y = w2.heap.size := ⟨_, rfl⟩
          obtain ⟨W3, hW3⟩ : ∃ W3, W3 = w2.alloc (.cells #[.slice none 0 0, .slice none 0 0, .slice none 0 0, .slice none 0 0] 28) := ⟨_, rfl⟩
          have r3 : RL X Y g p 1 (.slice none 0 0) (.slice none 0 0) (.slice none 0 0) (.slice none 0 0) w W3 := by
            have hb3 : Below w2.heap.size w2 W3 := by rw [hW3]; exact (Below.refl _ _).alloc (Nat.le_refl _) _
            refine ⟨rfl, lineAt_one, by rw [hW3, hY]; exact World.alloc_heap_new _ _, (hb3.block X hzx2).trans HX2.out, HB2.out.trans (hb3.mono (Nat.le_of_lt hzx2)), fun k hk => ?_⟩
            have hk' : k < L.length := by rw [← HPL.out]; exact hk
            refine ((hb3.cell hg5).trans (HG4.out k hk')).trans ?_
            congr 2
            simp only [HPL.out]
          have RL3 := Lib.hid r3; clear r3
          rw [← hY, ← hW3]
          have hYX : X < Y := by omega
          have hYg : g < Y := by omega
          have hA5 : (1 : Int) + (A : Int) = 1 + (C : Int) + (2 * (R : Int) + 2) + (R : Int) := by omega
          rw [← hA5]
          clear hY hW3 hzx2 hg5 HX2 HB2 HG4 hall hA5
          go_loopw [15] (fun i wr => ∃ k : Nat, 1 ≤ k ∧ k ≤ 1 + A ∧ i = .int .i64 k ∧ Hid (∃ vc vs vr vm, RL X Y g p k vc vs vr vm w wr)) (fun i _ => 1 + A - (intOf i).toNat)
          case atStart => exact ⟨1, Nat.le_refl _, by omega, rfl, Lib.hid ⟨_, _, _, _, RL3.out⟩⟩
          case round =>
            obtain ⟨k, hk1, hk2, rfl, HR⟩ := hrel
            obtain ⟨vc, vs, vr, vm, hr⟩ := HR.out
            clear HR
            have y0 : wr.cell? ⟨Y, 0, none⟩ = some vc := (own_cell hr.box).trans rfl
            have y1 : wr.cell? ⟨Y, 1, none⟩ = some vs := (own_cell hr.box).trans rfl
            have y2 : wr.cell? ⟨Y, 2, none⟩ = some vr := (own_cell hr.box).trans rfl
            have y3 : wr.cell? ⟨Y, 3, none⟩ = some vm := (own_cell hr.box).trans rfl
            have hyw : Y < wr.heap.size := (Array.getElem?_eq_some_iff.1 hr.box).1
            by_cases hlt : k < 1 + A
            · have i0 : (k : Int) < 1 + (A : Int) := by omega
              by_cases hkl : k < L.length
              · have i1 : decide ((L.length : Int) ≤ (k : Int)) = false := by simp; exact hkl
                have i2 : (0 : Int) ≤ (k : Int) := by omega
                have i3 : (k : Int) < (L.length : Int) := by omega
                have hkp : k < p.L.length := by rw [HPL.out]; exact hkl
                have htx : wr.cell? ⟨g, k, none⟩ = some (.string p.L[k]) := hr.txt k hkp
                have hl1 := line_any (Y + 1) p k HP.out hk1 (by rw [HAC.out.1]; omega) hkp (by rw [HPL.out]; exact HSZ.out) vc vs vr vm
                rw [HAC.out.2.1, HAC.out.2.2.1, HAC.out.2.2.2, ← HTB.out] at hl1
                have hl2 : ∀ W', Below wr.heap.size wr W' → Calls Tryz.prog 12 #[.agg #[vc, vs, vr, vm], .string p.L[k], .int .i64 k, .int .i64 C, .int .i64 R, .int .i64 S, .bool true] W' (LineGone (Y + 1) p k W') := fun W' hb => hl1 W' (by have := hb.size; omega) (hr.inst.below hb)
                have HLN := Lib.hid hl2; clear hl2 hl1
                generalize p.L[k] = tx at *
                have HRR := Lib.hid hr; clear hr
                have hgw : g < wr.heap.size := by omega
                have hyn : ¬ Y = wr.heap.size := by omega
                have hyn' : ¬ wr.heap.size = Y := by omega
                have hgn : ¬ g = wr.heap.size := by omega
                have hgn' : ¬ wr.heap.size = g := by omega
                go_wp2_with fail
                go_region_held3 (fun w' => (w'.cell? ⟨Y, 0, none⟩ = some vc ∧ w'.cell? ⟨Y, 1, none⟩ = some vs ∧ w'.cell? ⟨Y, 2, none⟩ = some vr ∧ w'.cell? ⟨Y, 3, none⟩ = some vm) ∧ w'.cell? ⟨g, k, none⟩ = some (.string tx)) (go_keep) (first
                  | (go_at_call 12; refine (HLN.out _ (Below.refl _ _).drew).mono ?_; rintro e w4 ⟨b1, m1, d1, b2, m2, d2, b3, m3, d3, b4, m4, d4, rfl, hgone⟩; have t0 := (hgone.out.1.1.cell (p := ⟨Y, 0, none⟩) (Nat.lt_succ_self _)).trans y0; have t1 := (hgone.out.1.1.cell (p := ⟨Y, 1, none⟩) (Nat.lt_succ_self _)).trans y1; have t2 := (hgone.out.1.1.cell (p := ⟨Y, 2, none⟩) (Nat.lt_succ_self _)).trans y2; have t3 := (hgone.out.1.1.cell (p := ⟨Y, 3, none⟩) (Nat.lt_succ_self _)).trans y3; have t4 := (hgone.out.1.1.cell (p := ⟨g, k, none⟩) (Nat.lt_succ_of_lt hYg)).trans htx)
                  | (go_at_call 12; refine (HLN.out _ ((Below.refl _ _).drew.alloc (Nat.le_refl _) _)).mono ?_; rintro e w4 ⟨b1, m1, d1, b2, m2, d2, b3, m3, d3, b4, m4, d4, rfl, hgone⟩; have t0 := (hgone.out.1.1.cell (p := ⟨Y, 0, none⟩) (Nat.lt_succ_self _)).trans ((((Below.refl wr.heap.size wr).drew.alloc (Nat.le_refl _) _).cell (p := ⟨Y, 0, none⟩) hyw).trans y0); have t1 := (hgone.out.1.1.cell (p := ⟨Y, 1, none⟩) (Nat.lt_succ_self _)).trans ((((Below.refl wr.heap.size wr).drew.alloc (Nat.le_refl _) _).cell (p := ⟨Y, 1, none⟩) hyw).trans y1); have t2 := (hgone.out.1.1.cell (p := ⟨Y, 2, none⟩) (Nat.lt_succ_self _)).trans ((((Below.refl wr.heap.size wr).drew.alloc (Nat.le_refl _) _).cell (p := ⟨Y, 2, none⟩) hyw).trans y2); have t3 := (hgone.out.1.1.cell (p := ⟨Y, 3, none⟩) (Nat.lt_succ_self _)).trans ((((Below.refl wr.heap.size wr).drew.alloc (Nat.le_refl _) _).cell (p := ⟨Y, 3, none⟩) hyw).trans y3); have t4 := (hgone.out.1.1.cell (p := ⟨g, k, none⟩) (Nat.lt_succ_of_lt hYg)).trans ((((Below.refl wr.heap.size wr).drew.alloc (Nat.le_refl _) _).cell (p := ⟨g, k, none⟩) hgw).trans htx); have n0 := hgone.out.1.2 wr.heap.size _ (World.alloc_heap_new wr.drew _); have k0 : w4.cell? ⟨wr.heap.size, 0, none⟩ = some (.slice none 0 0) := (own_cell n0).trans rfl; have k1 : w4.cell? ⟨wr.heap.size, 1, none⟩ = some (.slice none 0 0) := (own_cell n0).trans rfl; have k2 : w4.cell? ⟨wr.heap.size, 2, none⟩ = some (.slice none 0 0) := (own_cell n0).trans rfl; have k3 : w4.cell? ⟨wr.heap.size, 3, none⟩ = some (.slice none 0 0) := (own_cell n0).trans rfl; have kf : ∀ j, w4.frozen? ⟨wr.heap.size, j, none⟩ = false := fun j => own_free n0; have kl : wr.heap.size < w4.heap.size := (Array.getElem?_eq_some_iff.1 n0).1; have n1 := Lib.hid n0; clear n0))
                · have al : AL Y p k w4.heap.size (.slice b1 m1 d1) (.slice b2 m2 d2) (.slice b3 m3 d3) (.slice b4 m4 d4) wr (w4.alloc (.cells #[.slice b1 m1 d1, .slice b2 m2 d2, .slice b3 m3 d3, .slice b4 m4 d4] 28)) := by
                    obtain ⟨⟨g1, g2⟩, g3⟩ := hgone.out
                    have hsz : wr.heap.size ≤ w4.heap.size := g1.size
                    exact ⟨World.alloc_heap_new _ _, by omega, (show Below (Y + 1) wr wr.drew from (Below.refl _ _).drew).trans (Below.alloc g1 (by omega) _), fun h => (g3 h).below (Joins.below_alloc1 _ _)⟩
                  have AL5 := Lib.hid al; clear al hgone t0 t1 t2 t3 t4 y0 y1 y2 y3
                  obtain ⟨W5, hW5⟩ : ∃ W5, W5 = w4.alloc (.cells #[.slice b1 m1 d1, .slice b2 m2 d2, .slice b3 m3 d3, .slice b4 m4 d4] 28) := ⟨_, rfl⟩
                  rw [← hW5] at AL5 ⊢
                  obtain ⟨Z, hZ⟩ : ∃ Z, Z = w4.heap.size := ⟨_, rfl⟩
                  rw [← hZ] at AL5 ⊢
                  clear hW5 hZ
                  have z0 : W5.cell? ⟨Z, 0, none⟩ = some (.slice b1 m1 d1) := (own_cell AL5.out.box).trans rfl
                  have z1 : W5.cell? ⟨Z, 1, none⟩ = some (.slice b2 m2 d2) := (own_cell AL5.out.box).trans rfl
                  have z2 : W5.cell? ⟨Z, 2, none⟩ = some (.slice b3 m3 d3) := (own_cell AL5.out.box).trans rfl
                  have z3 : W5.cell? ⟨Z, 3, none⟩ = some (.slice b4 m4 d4) := (own_cell AL5.out.box).trans rfl
                  have hby : W5.heap[Y]? = _ := (AL5.out.low.block Y (Nat.lt_succ_self _)).trans HRR.out.box
                  have hbx : W5.heap[X]? = _ := (AL5.out.low.block X (by omega)).trans HRR.out.res
                  have y0 : W5.cell? ⟨Y, 0, none⟩ = some vc := (own_cell hby).trans rfl
                  have y1 : W5.cell? ⟨Y, 1, none⟩ = some vs := (own_cell hby).trans rfl
                  have y2 : W5.cell? ⟨Y, 2, none⟩ = some vr := (own_cell hby).trans rfl
                  have y3 : W5.cell? ⟨Y, 3, none⟩ = some vm := (own_cell hby).trans rfl
                  have fY : ∀ j, W5.frozen? ⟨Y, j, none⟩ = false := fun j => own_free hby
                  have x0 : W5.cell? ⟨X, 0, none⟩ = some (.slice none 0 0) := (own_cell hbx).trans rfl
                  have x1 : W5.cell? ⟨X, 1, none⟩ = some (.slice none 0 0) := (own_cell hbx).trans rfl
                  have x2 : W5.cell? ⟨X, 2, none⟩ = some (.slice none 0 0) := (own_cell hbx).trans rfl
                  have x3 : W5.cell? ⟨X, 3, none⟩ = some (.slice none 0 0) := (own_cell hbx).trans rfl
                  have fX : ∀ j, W5.frozen? ⟨X, j, none⟩ = false := fun j => own_free hbx
                  have HBX := Lib.hid hbx; clear hbx hby
                  have HBW : Hid (Below X w W5) := Lib.hid (HRR.out.low.trans (AL5.out.low.mono (by omega)))
                  obtain ⟨ee, hee⟩ : ∃ ee, ee = p.err k := ⟨_, rfl⟩
                  rw [← hee]
                  have HEE := Lib.hid hee; clear hee
                  by_cases he : ee = 0
                  · subst he
                    go_wp2_with fail
                    go_roundw
                    case rel => exact ⟨k + 1, by omega, by omega, by go_num, Lib.hid ⟨_, _, _, _, RL.next HRR.out AL5.out hk1 HEE.out.symm hYX hYg⟩⟩
                    case measure => simp [intOf]; omega
                  · have he' : (ee == 0) = false := by simpa using he
                    go_wp2_with fail
                    clear x0 x1 x2 x3
                    obtain ⟨hx2, hb2⟩ := put4 HBX.out rfl HBW.out (.slice none 0 0) (.slice none 0 0) (.slice none 0 0) (.slice none 0 0)
                    refine bodyPost_ret (v := .tuple #[.agg #[.slice none 0 0, .slice none 0 0, .slice none 0 0, .slice none 0 0], .int .i64 0, .int .i64 ((k + 1 : Nat) : Int), .int .i64 ee]) (by simp [results, Tryz.results6, go_sem, World.cell?, hx2]) rfl ⟨hb2, ON.out _ _ _ (R5.out.trans (by rw [HEE.out]; exact fault_at HRR.out.good hk1 (by rw [HAC.out.1]; omega) (by rw [← HEE.out]; exact he))) he⟩
                · have al : AL Y p k wr.heap.size (.slice b1 m1 d1) (.slice b2 m2 d2) (.slice b3 m3 d3) (.slice b4 m4 d4) wr ((((w4.setCell ⟨wr.heap.size, 0, none⟩ (.slice b1 m1 d1)).setCell ⟨wr.heap.size, 1, none⟩ (.slice b2 m2 d2)).setCell ⟨wr.heap.size, 2, none⟩ (.slice b3 m3 d3)).setCell ⟨wr.heap.size, 3, none⟩ (.slice b4 m4 d4)) := by
                    obtain ⟨⟨g1, g2⟩, g3⟩ := hgone.out
                    obtain ⟨hq1, hq2⟩ := put4 n1.out rfl (Below.refl wr.heap.size w4) (.slice b1 m1 d1) (.slice b2 m2 d2) (.slice b3 m3 d3) (.slice b4 m4 d4)
                    exact ⟨hq1, hyw, (show Below (Y + 1) wr w4 from (((Below.refl wr.heap.size wr).drew.alloc (Nat.le_refl _) _).mono (by omega)).trans g1).trans (hq2.mono (by omega)), fun h => (g3 h).put4 n1.out⟩
                  clear k0 k1 k2 k3 kf kl n1
                  have AL5 := Lib.hid al; clear al hgone t0 t1 t2 t3 t4 y0 y1 y2 y3
                  obtain ⟨W5, hW5⟩ : ∃ W5, W5 = ((((w4.setCell ⟨wr.heap.size, 0, none⟩ (.slice b1 m1 d1)).setCell ⟨wr.heap.size, 1, none⟩ (.slice b2 m2 d2)).setCell ⟨wr.heap.size, 2, none⟩ (.slice b3 m3 d3)).setCell ⟨wr.heap.size, 3, none⟩ (.slice b4 m4 d4)) := ⟨_, rfl⟩
                  rw [← hW5] at AL5 ⊢
                  obtain ⟨Z, hZ⟩ : ∃ Z, Z = wr.heap.size := ⟨_, rfl⟩
                  rw [← hZ] at AL5 ⊢
                  clear hW5 hZ
                  have z0 : W5.cell? ⟨Z, 0, none⟩ = some (.slice b1 m1 d1) := (own_cell AL5.out.box).trans rfl
                  have z1 : W5.cell? ⟨Z, 1, none⟩ = some (.slice b2 m2 d2) := (own_cell AL5.out.box).trans rfl
                  have z2 : W5.cell? ⟨Z, 2, none⟩ = some (.slice b3 m3 d3) := (own_cell AL5.out.box).trans rfl
                  have z3 : W5.cell? ⟨Z, 3, none⟩ = some (.slice b4 m4 d4) := (own_cell AL5.out.box).trans rfl
                  have hby : W5.heap[Y]? = _ := (AL5.out.low.block Y (Nat.lt_succ_self _)).trans HRR.out.box
                  have hbx : W5.heap[X]? = _ := (AL5.out.low.block X (by omega)).trans HRR.out.res
                  have y0 : W5.cell? ⟨Y, 0, none⟩ = some vc := (own_cell hby).trans rfl
                  have y1 : W5.cell? ⟨Y, 1, none⟩ = some vs := (own_cell hby).trans rfl
                  have y2 : W5.cell? ⟨Y, 2, none⟩ = some vr := (own_cell hby).trans rfl
                  have y3 : W5.cell? ⟨Y, 3, none⟩ = some vm := (own_cell hby).trans rfl
                  have fY : ∀ j, W5.frozen? ⟨Y, j, none⟩ = false := fun j => own_free hby
                  have x0 : W5.cell? ⟨X, 0, none⟩ = some (.slice none 0 0) := (own_cell hbx).trans rfl
                  have x1 : W5.cell? ⟨X, 1, none⟩ = some (.slice none 0 0) := (own_cell hbx).trans rfl
                  have x2 : W5.cell? ⟨X, 2, none⟩ = some (.slice none 0 0) := (own_cell hbx).trans rfl
                  have x3 : W5.cell? ⟨X, 3, none⟩ = some (.slice none 0 0) := (own_cell hbx).trans rfl
                  have fX : ∀ j, W5.frozen? ⟨X, j, none⟩ = false := fun j => own_free hbx
                  have HBX := Lib.hid hbx; clear hbx hby
                  have HBW : Hid (Below X w W5) := Lib.hid (HRR.out.low.trans (AL5.out.low.mono (by omega)))
                  obtain ⟨ee, hee⟩ : ∃ ee, ee = p.err k := ⟨_, rfl⟩
                  rw [← hee]
                  have HEE := Lib.hid hee; clear hee
                  by_cases he : ee = 0
                  · subst he
                    go_wp2_with fail
                    go_roundw
                    case rel => exact ⟨k + 1, by omega, by omega, by go_num, Lib.hid ⟨_, _, _, _, RL.next HRR.out AL5.out hk1 HEE.out.symm hYX hYg⟩⟩
                    case measure => simp [intOf]; omega
                  · have he' : (ee == 0) = false := by simpa using he
                    go_wp2_with fail
                    clear x0 x1 x2 x3
                    obtain ⟨hx2, hb2⟩ := put4 HBX.out rfl HBW.out (.slice none 0 0) (.slice none 0 0) (.slice none 0 0) (.slice none 0 0)
                    refine bodyPost_ret (v := .tuple #[.agg #[.slice none 0 0, .slice none 0 0, .slice none 0 0, .slice none 0 0], .int .i64 0, .int .i64 ((k + 1 : Nat) : Int), .int .i64 ee]) (by simp [results, Tryz.results6, go_sem, World.cell?, hx2]) rfl ⟨hb2, ON.out _ _ _ (R5.out.trans (by rw [HEE.out]; exact fault_at HRR.out.good hk1 (by rw [HAC.out.1]; omega) (by rw [← HEE.out]; exact he))) he⟩
              · have i1 : decide ((L.length : Int) ≤ (k : Int)) = true := by simp; omega
                have es := err_short p k (by rw [HPL.out]; omega)
                have x0 : wr.cell? ⟨X, 0, none⟩ = some (.slice none 0 0) := (own_cell hr.res).trans rfl
                have x1 : wr.cell? ⟨X, 1, none⟩ = some (.slice none 0 0) := (own_cell hr.res).trans rfl
                have x2 : wr.cell? ⟨X, 2, none⟩ = some (.slice none 0 0) := (own_cell hr.res).trans rfl
                have x3 : wr.cell? ⟨X, 3, none⟩ = some (.slice none 0 0) := (own_cell hr.res).trans rfl
                have fX : ∀ j, wr.frozen? ⟨X, j, none⟩ = false := fun j => own_free hr.res
                clear y0 y1 y2 y3
                have HRR := Lib.hid hr; clear hr
                have ES := Lib.hid es; clear es
                go_wp2_with fail
                clear x0 x1 x2 x3
                obtain ⟨hx2, hb2⟩ := put4 HRR.out.res rfl HRR.out.low (.slice none 0 0) (.slice none 0 0) (.slice none 0 0) (.slice none 0 0)
                refine bodyPost_ret (v := .tuple #[.agg #[.slice none 0 0, .slice none 0 0, .slice none 0 0, .slice none 0 0], .int .i64 0, .int .i64 ((k + 1 : Nat) : Int), .int .i64 20]) (by simp [results, Tryz.results6, go_sem, World.cell?, hx2]) rfl ⟨hb2, ON.out _ _ _ (R5.out.trans (by rw [← ES.out]; exact fault_at HRR.out.good hk1 (by rw [HAC.out.1]; omega) (by rw [ES.out]; decide))) (by decide)⟩
            · obtain rfl : k = 1 + A := by omega
              have x0 : wr.cell? ⟨X, 0, none⟩ = some (.slice none 0 0) := (own_cell hr.res).trans rfl
              have x1 : wr.cell? ⟨X, 1, none⟩ = some (.slice none 0 0) := (own_cell hr.res).trans rfl
              have x2 : wr.cell? ⟨X, 2, none⟩ = some (.slice none 0 0) := (own_cell hr.res).trans rfl
              have x3 : wr.cell? ⟨X, 3, none⟩ = some (.slice none 0 0) := (own_cell hr.res).trans rfl
              have fX : ∀ j, wr.frozen? ⟨X, j, none⟩ = false := fun j => own_free hr.res
              have gd : bad p.err 1 p.all = none := by have := hr.good; rw [HAC.out.1]; rwa [show 1 + A - 1 = A by omega] at this
              have hin : InstAt (Y + 1) p _ wr := lineAt_end (by rw [HAC.out.1]; exact hr.inst)
              obtain ⟨s1, l1, c1, s2, l2, c2, s3, l3, c3, s4, l4, c4, hform⟩ := hin.form
              simp only [Value.agg.injEq, Array.mk.injEq, List.cons.injEq, and_true] at hform
              obtain ⟨rfl, rfl, rfl, rfl⟩ := hform
              have HIN := Lib.hid hin; clear hin
              have HRR := Lib.hid hr; clear hr
              have GD := Lib.hid gd; clear gd
              have i0 : decide ((1 : Int) + (A : Int) < 1 + (A : Int)) = false := by simp
              by_cases hmo : 1 + A < L.length
              · have i1 : (1 : Int) + (A : Int) < (L.length : Int) := by omega
                clear y0 y1 y2 y3
                go_wp2_with fail
                clear x0 x1 x2 x3
                obtain ⟨hx2, hb2⟩ := put4 HRR.out.res rfl HRR.out.low (.slice none 0 0) (.slice none 0 0) (.slice none 0 0) (.slice none 0 0)
                refine bodyPost_ret (v := .tuple #[.agg #[.slice none 0 0, .slice none 0 0, .slice none 0 0, .slice none 0 0], .int .i64 0, .int .i64 ((1 + A + 1 : Nat) : Int), .int .i64 22]) (by simp [results, Tryz.results6, go_sem, World.cell?, hx2]) rfl ⟨hb2, ON.out _ _ _ (R5.out.trans (by have := fault_more (ck := ck) GD.out (by rw [HAC.out.1, HPL.out]; exact hmo); rwa [HAC.out.1] at this)) (by decide)⟩
              · have i1 : ¬ ((1 : Int) + (A : Int) < (L.length : Int)) := by omega
                have hci := refCheck_any p HP.out (Y + 1) _ wr HIN.out
                rw [← HCK.out] at hci
                have HCI := Lib.hid hci; clear hci
                have hfe : rf = (0, ck) := R5.out.trans (fault_end GD.out (by rw [HAC.out.1, HPL.out]; exact hmo))
                have HFE := Lib.hid hfe; clear hfe
                go_wp2_with fail
                refine HCI.out.mono ?_
                rintro e w5 ⟨rfl, hb5⟩
                have hyx : Y < wr.heap.size := (Array.getElem?_eq_some_iff.1 HRR.out.box).1
                have hbx : w5.heap[X]? = _ := (hb5.block X (by omega)).trans HRR.out.res
                have hby : w5.heap[Y]? = _ := (hb5.block Y hyx).trans HRR.out.box
                have HB5 : Hid (Below X w w5) := Lib.hid (HRR.out.low.trans (hb5.mono (by omega)))
                have HI5 := Lib.hid (HIN.out.below hb5)
                clear x0 x1 x2 x3 y0 y1 y2 y3 fX
                have x0 : w5.cell? ⟨X, 0, none⟩ = some (.slice none 0 0) := (own_cell hbx).trans rfl
                have x1 : w5.cell? ⟨X, 1, none⟩ = some (.slice none 0 0) := (own_cell hbx).trans rfl
                have x2 : w5.cell? ⟨X, 2, none⟩ = some (.slice none 0 0) := (own_cell hbx).trans rfl
                have x3 : w5.cell? ⟨X, 3, none⟩ = some (.slice none 0 0) := (own_cell hbx).trans rfl
                have fX : ∀ j, w5.frozen? ⟨X, j, none⟩ = false := fun j => own_free hbx
                have y0 : w5.cell? ⟨Y, 0, none⟩ = some (.slice s1 l1 c1) := (own_cell hby).trans rfl
                have y1 : w5.cell? ⟨Y, 1, none⟩ = some (.slice s2 l2 c2) := (own_cell hby).trans rfl
                have y2 : w5.cell? ⟨Y, 2, none⟩ = some (.slice s3 l3 c3) := (own_cell hby).trans rfl
                have y3 : w5.cell? ⟨Y, 3, none⟩ = some (.slice s4 l4 c4) := (own_cell hby).trans rfl
                have HBX := Lib.hid hbx; clear hbx hby hb5
                by_cases hck : ck = 0
                · subst hck
                  go_wp2_with fail
                  clear x0 x1 x2 x3 y0 y1 y2 y3
                  obtain ⟨hx2, hb2⟩ := put4 HBX.out rfl HB5.out (.slice s1 l1 c1) (.slice s2 l2 c2) (.slice s3 l3 c3) (.slice s4 l4 c4)
                  have hi2 := (((HI5.out.put (f := 0) (u := .slice s1 l1 c1) HBX.out (by decide) (by decide) (by decide) (by decide)).put (f := 1) (u := .slice s2 l2 c2) (own_set HBX.out _) (by decide) (by decide) (by decide) (by decide)).put (f := 2) (u := .slice s3 l3 c3) (own_set (own_set HBX.out _) _) (by decide) (by decide) (by decide) (by decide)).put (f := 3) (u := .slice s4 l4 c4) (own_set (own_set (own_set HBX.out _) _) _) (by decide) (by decide) (by decide) (by decide)
                  refine bodyPost_ret (v := .tuple #[.agg #[.slice s1 l1 c1, .slice s2 l2 c2, .slice s3 l3 c3, .slice s4 l4 c4], .int .i64 S, .int .i64 0, .int .i64 0]) (by simp [results, Tryz.results6, go_sem, World.cell?, hx2]) rfl ⟨hb2, OY.out _ _ HFE.out (hi2.mono (by omega))⟩
                · have hck' : (ck == 0) = false := by simpa using hck
                  go_wp2_with fail
                  clear x0 x1 x2 x3
                  obtain ⟨hx2, hb2⟩ := put4 HBX.out rfl HB5.out (.slice none 0 0) (.slice none 0 0) (.slice none 0 0) (.slice none 0 0)
                  refine bodyPost_ret (v := .tuple #[.agg #[.slice none 0 0, .slice none 0 0, .slice none 0 0, .slice none 0 0], .int .i64 0, .int .i64 ((0 : Nat) : Int), .int .i64 ck]) (by simp [results, Tryz.results6, go_sem, World.cell?, hx2]) rfl ⟨hb2, ON.out _ 0 ck HFE.out hck⟩
        · simp only [Bool.not_true, if_true] at hall ⊢
          go_wp2_with fail
          clear x0 x1 x2 x3 fX
          obtain ⟨Y, hY⟩ : ∃ Y, Y = w2.heap.size := ⟨_, rfl⟩
          obtain ⟨W3, hW3⟩ : ∃ W3, W3 = w2.alloc (.cells #[.slice none 0 0, .slice none 0 0, .slice none 0 0, .slice none 0 0] 28) := ⟨_, rfl⟩
          have r3 : RL X Y g p 1 (.slice none 0 0) (.slice none 0 0) (.slice none 0 0) (.slice none 0 0) w W3 := by
            have hb3 : Below w2.heap.size w2 W3 := by rw [hW3]; exact (Below.refl _ _).alloc (Nat.le_refl _) _
            refine ⟨rfl, lineAt_one, by rw [hW3, hY]; exact World.alloc_heap_new _ _, (hb3.block X hzx2).trans HX2.out, HB2.out.trans (hb3.mono (Nat.le_of_lt hzx2)), fun k hk => ?_⟩
            have hk' : k < L.length := by rw [← HPL.out]; exact hk
            refine ((hb3.cell hg5).trans (HG4.out k hk')).trans ?_
            congr 2
            simp only [HPL.out]
          have RL3 := Lib.hid r3; clear r3
          rw [← hY, ← hW3]
          have hYX : X < Y := by omega
          have hYg : g < Y := by omega
          have hA5 : (1 : Int) + (A : Int) = 1 + (C : Int) + (2 * (R : Int) + 2) + (R : Int) + (2 * (R : Int) + 2) := by omega
          rw [← hA5]
          clear hY hW3 hzx2 hg5 HX2 HB2 HG4 hall hA5
          go_loopw [15] (fun i wr => ∃ k : Nat, 1 ≤ k ∧ k ≤ 1 + A ∧ i = .int .i64 k ∧ Hid (∃ vc vs vr vm, RL X Y g p k vc vs vr vm w wr)) (fun i _ => 1 + A - (intOf i).toNat)
          case atStart => exact ⟨1, Nat.le_refl _, by omega, rfl, Lib.hid ⟨_, _, _, _, RL3.out⟩⟩
          case round =>
            obtain ⟨k, hk1, hk2, rfl, HR⟩ := hrel
            obtain ⟨vc, vs, vr, vm, hr⟩ := HR.out
            clear HR
            have y0 : wr.cell? ⟨Y, 0, none⟩ = some vc := (own_cell hr.box).trans rfl
            have y1 : wr.cell? ⟨Y, 1, none⟩ = some vs := (own_cell hr.box).trans rfl
            have y2 : wr.cell? ⟨Y, 2, none⟩ = some vr := (own_cell hr.box).trans rfl
            have y3 : wr.cell? ⟨Y, 3, none⟩ = some vm := (own_cell hr.box).trans rfl
            have hyw : Y < wr.heap.size := (Array.getElem?_eq_some_iff.1 hr.box).1
            by_cases hlt : k < 1 + A
            · have i0 : (k : Int) < 1 + (A : Int) := by omega
              by_cases hkl : k < L.length
              · have i1 : decide ((L.length : Int) ≤ (k : Int)) = false := by simp; exact hkl
                have i2 : (0 : Int) ≤ (k : Int) := by omega
                have i3 : (k : Int) < (L.length : Int) := by omega
                have hkp : k < p.L.length := by rw [HPL.out]; exact hkl
                have htx : wr.cell? ⟨g, k, none⟩ = some (.string p.L[k]) := hr.txt k hkp
                have hl1 := line_any (Y + 1) p k HP.out hk1 (by rw [HAC.out.1]; omega) hkp (by rw [HPL.out]; exact HSZ.out) vc vs vr vm
                rw [HAC.out.2.1, HAC.out.2.2.1, HAC.out.2.2.2, ← HTB.out] at hl1
                have hl2 : ∀ W', Below wr.heap.size wr W' → Calls Tryz.prog 12 #[.agg #[vc, vs, vr, vm], .string p.L[k], .int .i64 k, .int .i64 C, .int .i64 R, .int .i64 S, .bool false] W' (LineGone (Y + 1) p k W') := fun W' hb => hl1 W' (by have := hb.size; omega) (hr.inst.below hb)
                have HLN := Lib.hid hl2; clear hl2 hl1
                generalize p.L[k] = tx at *
                have HRR := Lib.hid hr; clear hr
                have hgw : g < wr.heap.size := by omega
                have hyn : ¬ Y = wr.heap.size := by omega
                have hyn' : ¬ wr.heap.size = Y := by omega
                have hgn : ¬ g = wr.heap.size := by omega
                have hgn' : ¬ wr.heap.size = g := by omega
                go_wp2_with fail
                go_region_held3 (fun w' => (w'.cell? ⟨Y, 0, none⟩ = some vc ∧ w'.cell? ⟨Y, 1, none⟩ = some vs ∧ w'.cell? ⟨Y, 2, none⟩ = some vr ∧ w'.cell? ⟨Y, 3, none⟩ = some vm) ∧ w'.cell? ⟨g, k, none⟩ = some (.string tx)) (go_keep) (first
                  | (go_at_call 12; refine (HLN.out _ (Below.refl _ _).drew).mono ?_; rintro e w4 ⟨b1, m1, d1, b2, m2, d2, b3, m3, d3, b4, m4, d4, rfl, hgone⟩; have t0 := (hgone.out.1.1.cell (p := ⟨Y, 0, none⟩) (Nat.lt_succ_self _)).trans y0; have t1 := (hgone.out.1.1.cell (p := ⟨Y, 1, none⟩) (Nat.lt_succ_self _)).trans y1; have t2 := (hgone.out.1.1.cell (p := ⟨Y, 2, none⟩) (Nat.lt_succ_self _)).trans y2; have t3 := (hgone.out.1.1.cell (p := ⟨Y, 3, none⟩) (Nat.lt_succ_self _)).trans y3; have t4 := (hgone.out.1.1.cell (p := ⟨g, k, none⟩) (Nat.lt_succ_of_lt hYg)).trans htx)
                  | (go_at_call 12; refine (HLN.out _ ((Below.refl _ _).drew.alloc (Nat.le_refl _) _)).mono ?_; rintro e w4 ⟨b1, m1, d1, b2, m2, d2, b3, m3, d3, b4, m4, d4, rfl, hgone⟩; have t0 := (hgone.out.1.1.cell (p := ⟨Y, 0, none⟩) (Nat.lt_succ_self _)).trans ((((Below.refl wr.heap.size wr).drew.alloc (Nat.le_refl _) _).cell (p := ⟨Y, 0, none⟩) hyw).trans y0); have t1 := (hgone.out.1.1.cell (p := ⟨Y, 1, none⟩) (Nat.lt_succ_self _)).trans ((((Below.refl wr.heap.size wr).drew.alloc (Nat.le_refl _) _).cell (p := ⟨Y, 1, none⟩) hyw).trans y1); have t2 := (hgone.out.1.1.cell (p := ⟨Y, 2, none⟩) (Nat.lt_succ_self _)).trans ((((Below.refl wr.heap.size wr).drew.alloc (Nat.le_refl _) _).cell (p := ⟨Y, 2, none⟩) hyw).trans y2); have t3 := (hgone.out.1.1.cell (p := ⟨Y, 3, none⟩) (Nat.lt_succ_self _)).trans ((((Below.refl wr.heap.size wr).drew.alloc (Nat.le_refl _) _).cell (p := ⟨Y, 3, none⟩) hyw).trans y3); have t4 := (hgone.out.1.1.cell (p := ⟨g, k, none⟩) (Nat.lt_succ_of_lt hYg)).trans ((((Below.refl wr.heap.size wr).drew.alloc (Nat.le_refl _) _).cell (p := ⟨g, k, none⟩) hgw).trans htx); have n0 := hgone.out.1.2 wr.heap.size _ (World.alloc_heap_new wr.drew _); have k0 : w4.cell? ⟨wr.heap.size, 0, none⟩ = some (.slice none 0 0) := (own_cell n0).trans rfl; have k1 : w4.cell? ⟨wr.heap.size, 1, none⟩ = some (.slice none 0 0) := (own_cell n0).trans rfl; have k2 : w4.cell? ⟨wr.heap.size, 2, none⟩ = some (.slice none 0 0) := (own_cell n0).trans rfl; have k3 : w4.cell? ⟨wr.heap.size, 3, none⟩ = some (.slice none 0 0) := (own_cell n0).trans rfl; have kf : ∀ j, w4.frozen? ⟨wr.heap.size, j, none⟩ = false := fun j => own_free n0; have kl : wr.heap.size < w4.heap.size := (Array.getElem?_eq_some_iff.1 n0).1; have n1 := Lib.hid n0; clear n0))
                · have al : AL Y p k w4.heap.size (.slice b1 m1 d1) (.slice b2 m2 d2) (.slice b3 m3 d3) (.slice b4 m4 d4) wr (w4.alloc (.cells #[.slice b1 m1 d1, .slice b2 m2 d2, .slice b3 m3 d3, .slice b4 m4 d4] 28)) := by
                    obtain ⟨⟨g1, g2⟩, g3⟩ := hgone.out
                    have hsz : wr.heap.size ≤ w4.heap.size := g1.size
                    exact ⟨World.alloc_heap_new _ _, by omega, (show Below (Y + 1) wr wr.drew from (Below.refl _ _).drew).trans (Below.alloc g1 (by omega) _), fun h => (g3 h).below (Joins.below_alloc1 _ _)⟩
                  have AL5 := Lib.hid al; clear al hgone t0 t1 t2 t3 t4 y0 y1 y2 y3
                  obtain ⟨W5, hW5⟩ : ∃ W5, W5 = w4.alloc (.cells #[.slice b1 m1 d1, .slice b2 m2 d2, .slice b3 m3 d3, .slice b4 m4 d4] 28) := ⟨_, rfl⟩
                  rw [← hW5] at AL5 ⊢
                  obtain ⟨Z, hZ⟩ : ∃ Z, Z = w4.heap.size := ⟨_, rfl⟩
                  rw [← hZ] at AL5 ⊢
                  clear hW5 hZ
                  have z0 : W5.cell? ⟨Z, 0, none⟩ = some (.slice b1 m1 d1) := (own_cell AL5.out.box).trans rfl
                  have z1 : W5.cell? ⟨Z, 1, none⟩ = some (.slice b2 m2 d2) := (own_cell AL5.out.box).trans rfl
                  have z2 : W5.cell? ⟨Z, 2, none⟩ = some (.slice b3 m3 d3) := (own_cell AL5.out.box).trans rfl
                  have z3 : W5.cell? ⟨Z, 3, none⟩ = some (.slice b4 m4 d4) := (own_cell AL5.out.box).trans rfl
                  have hby : W5.heap[Y]? = _ := (AL5.out.low.block Y (Nat.lt_succ_self _)).trans HRR.out.box
                  have hbx : W5.heap[X]? = _ := (AL5.out.low.block X (by omega)).trans HRR.out.res
                  have y0 : W5.cell? ⟨Y, 0, none⟩ = some vc := (own_cell hby).trans rfl
                  have y1 : W5.cell? ⟨Y, 1, none⟩ = some vs := (own_cell hby).trans rfl
                  have y2 : W5.cell? ⟨Y, 2, none⟩ = some vr := (own_cell hby).trans rfl
                  have y3 : W5.cell? ⟨Y, 3, none⟩ = some vm := (own_cell hby).trans rfl
                  have fY : ∀ j, W5.frozen? ⟨Y, j, none⟩ = false := fun j => own_free hby
                  have x0 : W5.cell? ⟨X, 0, none⟩ = some (.slice none 0 0) := (own_cell hbx).trans rfl
                  have x1 : W5.cell? ⟨X, 1, none⟩ = some (.slice none 0 0) := (own_cell hbx).trans rfl
                  have x2 : W5.cell? ⟨X, 2, none⟩ = some (.slice none 0 0) := (own_cell hbx).trans rfl
                  have x3 : W5.cell? ⟨X, 3, none⟩ = some (.slice none 0 0) := (own_cell hbx).trans rfl
                  have fX : ∀ j, W5.frozen? ⟨X, j, none⟩ = false := fun j => own_free hbx
                  have HBX := Lib.hid hbx; clear hbx hby
                  have HBW : Hid (Below X w W5) := Lib.hid (HRR.out.low.trans (AL5.out.low.mono (by omega)))
                  obtain ⟨ee, hee⟩ : ∃ ee, ee = p.err k := ⟨_, rfl⟩
                  rw [← hee]
                  have HEE := Lib.hid hee; clear hee
                  by_cases he : ee = 0
                  · subst he
                    go_wp2_with fail
                    go_roundw
                    case rel => exact ⟨k + 1, by omega, by omega, by go_num, Lib.hid ⟨_, _, _, _, RL.next HRR.out AL5.out hk1 HEE.out.symm hYX hYg⟩⟩
                    case measure => simp [intOf]; omega
                  · have he' : (ee == 0) = false := by simpa using he
                    go_wp2_with fail
                    clear x0 x1 x2 x3
                    obtain ⟨hx2, hb2⟩ := put4 HBX.out rfl HBW.out (.slice none 0 0) (.slice none 0 0) (.slice none 0 0) (.slice none 0 0)
                    refine bodyPost_ret (v := .tuple #[.agg #[.slice none 0 0, .slice none 0 0, .slice none 0 0, .slice none 0 0], .int .i64 0, .int .i64 ((k + 1 : Nat) : Int), .int .i64 ee]) (by simp [results, Tryz.results6, go_sem, World.cell?, hx2]) rfl ⟨hb2, ON.out _ _ _ (R5.out.trans (by rw [HEE.out]; exact fault_at HRR.out.good hk1 (by rw [HAC.out.1]; omega) (by rw [← HEE.out]; exact he))) he⟩
                · have al : AL Y p k wr.heap.size (.slice b1 m1 d1) (.slice b2 m2 d2) (.slice b3 m3 d3) (.slice b4 m4 d4) wr ((((w4.setCell ⟨wr.heap.size, 0, none⟩ (.slice b1 m1 d1)).setCell ⟨wr.heap.size, 1, none⟩ (.slice b2 m2 d2)).setCell ⟨wr.heap.size, 2, none⟩ (.slice b3 m3 d3)).setCell ⟨wr.heap.size, 3, none⟩ (.slice b4 m4 d4)) := by
                    obtain ⟨⟨g1, g2⟩, g3⟩ := hgone.out
                    obtain ⟨hq1, hq2⟩ := put4 n1.out rfl (Below.refl wr.heap.size w4) (.slice b1 m1 d1) (.slice b2 m2 d2) (.slice b3 m3 d3) (.slice b4 m4 d4)
                    exact ⟨hq1, hyw, (show Below (Y + 1) wr w4 from (((Below.refl wr.heap.size wr).drew.alloc (Nat.le_refl _) _).mono (by omega)).trans g1).trans (hq2.mono (by omega)), fun h => (g3 h).put4 n1.out⟩
                  clear k0 k1 k2 k3 kf kl n1
                  have AL5 := Lib.hid al; clear al hgone t0 t1 t2 t3 t4 y0 y1 y2 y3
                  obtain ⟨W5, hW5⟩ : ∃ W5, W5 = ((((w4.setCell ⟨wr.heap.size, 0, none⟩ (.slice b1 m1 d1)).setCell ⟨wr.heap.size, 1, none⟩ (.slice b2 m2 d2)).setCell ⟨wr.heap.size, 2, none⟩ (.slice b3 m3 d3)).setCell ⟨wr.heap.size, 3, none⟩ (.slice b4 m4 d4)) := ⟨_, rfl⟩
                  rw [← hW5] at AL5 ⊢
                  obtain ⟨Z, hZ⟩ : ∃ Z, Z = wr.heap.size := ⟨_, rfl⟩
                  rw [← hZ] at AL5 ⊢
                  clear hW5 hZ
                  have z0 : W5.cell? ⟨Z, 0, none⟩ = some (.slice b1 m1 d1) := (own_cell AL5.out.box).trans rfl
                  have z1 : W5.cell? ⟨Z, 1, none⟩ = some (.slice b2 m2 d2) := (own_cell AL5.out.box).trans rfl
                  have z2 : W5.cell? ⟨Z, 2, none⟩ = some (.slice b3 m3 d3) := (own_cell AL5.out.box).trans rfl
                  have z3 : W5.cell? ⟨Z, 3, none⟩ = some (.slice b4 m4 d4) := (own_cell AL5.out.box).trans rfl
                  have hby : W5.heap[Y]? = _ := (AL5.out.low.block Y (Nat.lt_succ_self _)).trans HRR.out.box
                  have hbx : W5.heap[X]? = _ := (AL5.out.low.block X (by omega)).trans HRR.out.res
                  have y0 : W5.cell? ⟨Y, 0, none⟩ = some vc := (own_cell hby).trans rfl
                  have y1 : W5.cell? ⟨Y, 1, none⟩ = some vs := (own_cell hby).trans rfl
                  have y2 : W5.cell? ⟨Y, 2, none⟩ = some vr := (own_cell hby).trans rfl
                  have y3 : W5.cell? ⟨Y, 3, none⟩ = some vm := (own_cell hby).trans rfl
                  have fY : ∀ j, W5.frozen? ⟨Y, j, none⟩ = false := fun j => own_free hby
                  have x0 : W5.cell? ⟨X, 0, none⟩ = some (.slice none 0 0) := (own_cell hbx).trans rfl
                  have x1 : W5.cell? ⟨X, 1, none⟩ = some (.slice none 0 0) := (own_cell hbx).trans rfl
                  have x2 : W5.cell? ⟨X, 2, none⟩ = some (.slice none 0 0) := (own_cell hbx).trans rfl
                  have x3 : W5.cell? ⟨X, 3, none⟩ = some (.slice none 0 0) := (own_cell hbx).trans rfl
                  have fX : ∀ j, W5.frozen? ⟨X, j, none⟩ = false := fun j => own_free hbx
                  have HBX := Lib.hid hbx; clear hbx hby
                  have HBW : Hid (Below X w W5) := Lib.hid (HRR.out.low.trans (AL5.out.low.mono (by omega)))
                  obtain ⟨ee, hee⟩ : ∃ ee, ee = p.err k := ⟨_, rfl⟩
                  rw [← hee]
                  have HEE := Lib.hid hee; clear hee
                  by_cases he : ee = 0
                  · subst he
                    go_wp2_with fail
                    go_roundw
                    case rel => exact ⟨k + 1, by omega, by omega, by go_num, Lib.hid ⟨_, _, _, _, RL.next HRR.out AL5.out hk1 HEE.out.symm hYX hYg⟩⟩
                    case measure => simp [intOf]; omega
                  · have he' : (ee == 0) = false := by simpa using he
                    go_wp2_with fail
                    clear x0 x1 x2 x3
                    obtain ⟨hx2, hb2⟩ := put4 HBX.out rfl HBW.out (.slice none 0 0) (.slice none 0 0) (.slice none 0 0) (.slice none 0 0)
                    refine bodyPost_ret (v := .tuple #[.agg #[.slice none 0 0, .slice none 0 0, .slice none 0 0, .slice none 0 0], .int .i64 0, .int .i64 ((k + 1 : Nat) : Int), .int .i64 ee]) (by simp [results, Tryz.results6, go_sem, World.cell?, hx2]) rfl ⟨hb2, ON.out _ _ _ (R5.out.trans (by rw [HEE.out]; exact fault_at HRR.out.good hk1 (by rw [HAC.out.1]; omega) (by rw [← HEE.out]; exact he))) he⟩
              · have i1 : decide ((L.length : Int) ≤ (k : Int)) = true := by simp; omega
                have es := err_short p k (by rw [HPL.out]; omega)
                have x0 : wr.cell? ⟨X, 0, none⟩ = some (.slice none 0 0) := (own_cell hr.res).trans rfl
                have x1 : wr.cell? ⟨X, 1, none⟩ = some (.slice none 0 0) := (own_cell hr.res).trans rfl
                have x2 : wr.cell? ⟨X, 2, none⟩ = some (.slice none 0 0) := (own_cell hr.res).trans rfl
                have x3 : wr.cell? ⟨X, 3, none⟩ = some (.slice none 0 0) := (own_cell hr.res).trans rfl
                have fX : ∀ j, wr.frozen? ⟨X, j, none⟩ = false := fun j => own_free hr.res
                clear y0 y1 y2 y3
                have HRR := Lib.hid hr; clear hr
                have ES := Lib.hid es; clear es
                go_wp2_with fail
                clear x0 x1 x2 x3
                obtain ⟨hx2, hb2⟩ := put4 HRR.out.res rfl HRR.out.low (.slice none 0 0) (.slice none 0 0) (.slice none 0 0) (.slice none 0 0)
                refine bodyPost_ret (v := .tuple #[.agg #[.slice none 0 0, .slice none 0 0, .slice none 0 0, .slice none 0 0], .int .i64 0, .int .i64 ((k + 1 : Nat) : Int), .int .i64 20]) (by simp [results, Tryz.results6, go_sem, World.cell?, hx2]) rfl ⟨hb2, ON.out _ _ _ (R5.out.trans (by rw [← ES.out]; exact fault_at HRR.out.good hk1 (by rw [HAC.out.1]; omega) (by rw [ES.out]; decide))) (by decide)⟩
            · obtain rfl : k = 1 + A := by omega
              have x0 : wr.cell? ⟨X, 0, none⟩ = some (.slice none 0 0) := (own_cell hr.res).trans rfl
              have x1 : wr.cell? ⟨X, 1, none⟩ = some (.slice none 0 0) := (own_cell hr.res).trans rfl
              have x2 : wr.cell? ⟨X, 2, none⟩ = some (.slice none 0 0) := (own_cell hr.res).trans rfl
              have x3 : wr.cell? ⟨X, 3, none⟩ = some (.slice none 0 0) := (own_cell hr.res).trans rfl
              have fX : ∀ j, wr.frozen? ⟨X, j, none⟩ = false := fun j => own_free hr.res
              have gd : bad p.err 1 p.all = none := by have := hr.good; rw [HAC.out.1]; rwa [show 1 + A - 1 = A by omega] at this
              have hin : InstAt (Y + 1) p _ wr := lineAt_end (by rw [HAC.out.1]; exact hr.inst)
              obtain ⟨s1, l1, c1, s2, l2, c2, s3, l3, c3, s4, l4, c4, hform⟩ := hin.form
              simp only [Value.agg.injEq, Array.mk.injEq, List.cons.injEq, and_true] at hform
              obtain ⟨rfl, rfl, rfl, rfl⟩ := hform
              have HIN := Lib.hid hin; clear hin
              have HRR := Lib.hid hr; clear hr
              have GD := Lib.hid gd; clear gd
              have i0 : decide ((1 : Int) + (A : Int) < 1 + (A : Int)) = false := by simp
              by_cases hmo : 1 + A < L.length
              · have i1 : (1 : Int) + (A : Int) < (L.length : Int) := by omega
                clear y0 y1 y2 y3
                go_wp2_with fail
                clear x0 x1 x2 x3
                obtain ⟨hx2, hb2⟩ := put4 HRR.out.res rfl HRR.out.low (.slice none 0 0) (.slice none 0 0) (.slice none 0 0) (.slice none 0 0)
                refine bodyPost_ret (v := .tuple #[.agg #[.slice none 0 0, .slice none 0 0, .slice none 0 0, .slice none 0 0], .int .i64 0, .int .i64 ((1 + A + 1 : Nat) : Int), .int .i64 22]) (by simp [results, Tryz.results6, go_sem, World.cell?, hx2]) rfl ⟨hb2, ON.out _ _ _ (R5.out.trans (by have := fault_more (ck := ck) GD.out (by rw [HAC.out.1, HPL.out]; exact hmo); rwa [HAC.out.1] at this)) (by decide)⟩
              · have i1 : ¬ ((1 : Int) + (A : Int) < (L.length : Int)) := by omega
                have hci := refCheck_any p HP.out (Y + 1) _ wr HIN.out
                rw [← HCK.out] at hci
                have HCI := Lib.hid hci; clear hci
                have hfe : rf = (0, ck) := R5.out.trans (fault_end GD.out (by rw [HAC.out.1, HPL.out]; exact hmo))
                have HFE := Lib.hid hfe; clear hfe
                go_wp2_with fail
                refine HCI.out.mono ?_
                rintro e w5 ⟨rfl, hb5⟩
                have hyx : Y < wr.heap.size := (Array.getElem?_eq_some_iff.1 HRR.out.box).1
                have hbx : w5.heap[X]? = _ := (hb5.block X (by omega)).trans HRR.out.res
                have hby : w5.heap[Y]? = _ := (hb5.block Y hyx).trans HRR.out.box
                have HB5 : Hid (Below X w w5) := Lib.hid (HRR.out.low.trans (hb5.mono (by omega)))
                have HI5 := Lib.hid (HIN.out.below hb5)
                clear x0 x1 x2 x3 y0 y1 y2 y3 fX
                have x0 : w5.cell? ⟨X, 0, none⟩ = some (.slice none 0 0) := (own_cell hbx).trans rfl
                have x1 : w5.cell? ⟨X, 1, none⟩ = some (.slice none 0 0) := (own_cell hbx).trans rfl
                have x2 : w5.cell? ⟨X, 2, none⟩ = some (.slice none 0 0) := (own_cell hbx).trans rfl
                have x3 : w5.cell? ⟨X, 3, none⟩ = some (.slice none 0 0) := (own_cell hbx).trans rfl
                have fX : ∀ j, w5.frozen? ⟨X, j, none⟩ = false := fun j => own_free hbx
                have y0 : w5.cell? ⟨Y, 0, none⟩ = some (.slice s1 l1 c1) := (own_cell hby).trans rfl
                have y1 : w5.cell? ⟨Y, 1, none⟩ = some (.slice s2 l2 c2) := (own_cell hby).trans rfl
                have y2 : w5.cell? ⟨Y, 2, none⟩ = some (.slice s3 l3 c3) := (own_cell hby).trans rfl
                have y3 : w5.cell? ⟨Y, 3, none⟩ = some (.slice s4 l4 c4) := (own_cell hby).trans rfl
                have HBX := Lib.hid hbx; clear hbx hby hb5
                by_cases hck : ck = 0
                · subst hck
                  go_wp2_with fail
                  clear x0 x1 x2 x3 y0 y1 y2 y3
                  obtain ⟨hx2, hb2⟩ := put4 HBX.out rfl HB5.out (.slice s1 l1 c1) (.slice s2 l2 c2) (.slice s3 l3 c3) (.slice s4 l4 c4)
                  have hi2 := (((HI5.out.put (f := 0) (u := .slice s1 l1 c1) HBX.out (by decide) (by decide) (by decide) (by decide)).put (f := 1) (u := .slice s2 l2 c2) (own_set HBX.out _) (by decide) (by decide) (by decide) (by decide)).put (f := 2) (u := .slice s3 l3 c3) (own_set (own_set HBX.out _) _) (by decide) (by decide) (by decide) (by decide)).put (f := 3) (u := .slice s4 l4 c4) (own_set (own_set (own_set HBX.out _) _) _) (by decide) (by decide) (by decide) (by decide)
                  refine bodyPost_ret (v := .tuple #[.agg #[.slice s1 l1 c1, .slice s2 l2 c2, .slice s3 l3 c3, .slice s4 l4 c4], .int .i64 S, .int .i64 0, .int .i64 0]) (by simp [results, Tryz.results6, go_sem, World.cell?, hx2]) rfl ⟨hb2, OY.out _ _ HFE.out (hi2.mono (by omega))⟩
                · have hck' : (ck == 0) = false := by simpa using hck
                  go_wp2_with fail
                  clear x0 x1 x2 x3
                  obtain ⟨hx2, hb2⟩ := put4 HBX.out rfl HB5.out (.slice none 0 0) (.slice none 0 0) (.slice none 0 0) (.slice none 0 0)
                  refine bodyPost_ret (v := .tuple #[.agg #[.slice none 0 0, .slice none 0 0, .slice none 0 0, .slice none 0 0], .int .i64 0, .int .i64 ((0 : Nat) : Int), .int .i64 ck]) (by simp [results, Tryz.results6, go_sem, World.cell?, hx2]) rfl ⟨hb2, ON.out _ 0 ck HFE.out hck⟩
      · have h0' : (he == 0) = false := by simpa using h0
        go_wp2_with fail
        clear x0 x1 x2 x3
        obtain ⟨hx2, hb2⟩ := put4 HX2.out rfl HB2.out (.slice none 0 0) (.slice none 0 0) (.slice none 0 0) (.slice none 0 0)
        refine bodyPost_ret (v := .tuple #[.agg #[.slice none 0 0, .slice none 0 0, .slice none 0 0, .slice none 0 0], .int .i64 0, .int .i64 (1 : Nat), .int .i64 he]) (by simp [results, Tryz.results6, go_sem, World.cell?, hx2]) rfl ⟨hb2, ON.out _ _ _ (R3.out (by trivial) hL h0) h0⟩
  · have hz' : (er == 0) = false := by simpa using hz
    go_wp2_with fail
    clear x0 x1 x2 x3
    obtain ⟨hx2, hb2⟩ := put4 HX1.out rfl HBB.out (.slice none 0 0) (.slice none 0 0) (.slice none 0 0) (.slice none 0 0)
    refine bodyPost_ret (v := .tuple #[.agg #[.slice none 0 0, .slice none 0 0, .slice none 0 0, .slice none 0 0], .int .i64 0, .int .i64 (0 : Nat), .int .i64 er]) (by simp [results, Tryz.results6, go_sem, World.cell?, hx2]) rfl ⟨hb2, ON.out _ _ _ (R1.out hz) hz⟩
end Sheet
end Go.Proofs.YtjmhlabgoegeoaaGreatDoor
