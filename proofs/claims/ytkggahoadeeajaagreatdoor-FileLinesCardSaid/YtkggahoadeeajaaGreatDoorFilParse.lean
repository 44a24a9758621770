/- Package file's open, read (a panic that is caught), Parse; over the translated program. -/
import Derived.Test.YtkggahoadeeajaaGreatDoorFilPlan
import Derived.Defers
import Derived.Recover
namespace Go.Proofs.YtkggahoadeeajaaGreatDoor
namespace Fil
open Go Go.RowKit Deci
set_option linter.unusedVariables false
set_option maxHeartbeats 1000000 in
theorem open_any (N B : Nat) (s : ByteArray) (w : World) (hs : s.size ≤ maxLen) (hE : EnvAt N w) (hN : N ≤ B) (h : Rd w B (.slice none 0 0) 0 (.slice none 0 0)) :
    Calls Tryz.prog 35 #[.pointer (some ⟨B, 0, none⟩), .string s] w fun e w' => w.grownBy w' (some B) ∧
      ((linesE s.data.toList = 0 ∧ e = .returned (.tuple #[]) ∧ ∃ wv, St N B w'.heap.size (linesP s.data.toList) (0 : Nat) wv w') ∨ (linesE s.data.toList ≠ 0 ∧ Gave (0 : Nat) (linesE s.data.toList) e)) := by
  have h1 := lines_any s w hE.env hs
  have hlt := h.lt
  generalize linesE s.data.toList = er at *
  generalize linesP s.data.toList = ls at *
  have HR := Lib.hid h; clear h
  have H1 := Lib.hid h1; clear h1
  have HE := Lib.hid hE; clear hE
  go_enter Tryz.func35, Tryz.ntmps35
  go_wp2_with fail
  refine H1.out.mono ?_
  rintro e w1 ⟨v, rfl, hrow, hb⟩
  have R1 := Lib.hid (HR.out.below hb)
  have E1 := Lib.hid (HE.out.below (hb.mono (by omega)))
  have hk := told_strs hrow
  have hsz := hb.size
  have HB := Lib.hid hb; clear hb hrow
  by_cases he : er = 0
  · subst he
    have K : Hid (∀ a cap, (ls = [] ∨ ∃ g o, a = some ⟨g, o, none⟩ ∧ w.heap.size ≤ g ∧ g < w1.heap.size ∧ ∀ j (h : j < ls.length), w1.cell? ⟨g, o + j, none⟩ = some (.string ls[j])) → w.grownBy (w1.setCell ⟨B, 0, none⟩ (.slice a ls.length cap)) (some B) ∧
        ∃ wv, St N B (w1.setCell ⟨B, 0, none⟩ (.slice a ls.length cap)).heap.size ls (0 : Nat) wv (w1.setCell ⟨B, 0, none⟩ (.slice a ls.length cap))) := by
      refine Lib.hid fun a cap hc => ?_
      have hg := grown_set w1 ⟨B, 0, none⟩ (.slice a ls.length cap)
      have hB1 : B < w1.heap.size := R1.out.lt
      refine ⟨(grown_of HB.out _).trans hg, _, ⟨_, R1.out.s0 _, a, cap, rfl, hc.imp id ?_⟩, E1.out.below (below_of hg hN hB1), hN, by rw [World.size_setCell]; exact hB1, Nat.le_refl _⟩
      rintro ⟨g, o, rfl, h1, h2, h3⟩
      refine ⟨g, o, rfl, by omega, by rw [World.size_setCell]; exact h2, fun j hj => ?_⟩
      exact (hg.cell_far ⟨g, o + j, none⟩ h2 (by simp; omega)).trans (h3 j hj)
    have f0 := R1.out.fz 0
    have c0 := R1.out.c0
    rcases hk with ⟨rfl, rfl⟩ | ⟨g, cap, rfl, hcap, hg0, hg1, hcs⟩
    · go_wp2_with (go_at_call 52; refine (must_ok B _).mono ?_; rintro e w' ⟨rfl, rfl⟩)
      go_end0
      have := K.out none 0 (.inl trivial)
      exact ⟨this.1, rfl, this.2⟩
    · have hkk := K.out (some ⟨g, 0, none⟩) cap (.inr ⟨g, 0, rfl, hg0, hg1, fun j hj => by rw [Nat.zero_add]; exact hcs j hj⟩)
      have HK := Lib.hid hkk; clear hkk
      clear K hcs hcap
      generalize ls.length = n at *
      go_wp2_with (go_at_call 52; refine (must_ok B _).mono ?_; rintro e w' ⟨rfl, rfl⟩)
      go_end0
      exact ⟨HK.out.1, rfl, HK.out.2⟩
  · have c1 := R1.out.c1
    clear hk
    go_wp2_with (go_at_call 52; refine (must_gave B 0 er _ R1.out.c1 he).mono ?_; rintro e w' ⟨rfl, rfl⟩)
    exact ⟨rfl, grown_of HB.out _, .inr ⟨he, rfl⟩⟩
theorem assert_fault (v : Value) (xT : TypeId) (w : World) : (Instr.typeAssert (.iface 46 v) xT 46 false).run Tryz.prog w = .ok v w := by kernel_rfl
theorem catch_idle (p q : Addr) (w : World) :
    CallsD Tryz.prog 34 #[.pointer (some p), .pointer (some q)] .returning w fun e u' w' => e = .returned (.tuple #[]) ∧ u' = .returning ∧ w' = w := by
  refine callsD_of_wpS Tryz.func34 rfl fun c₀ cs hu => ?_
  apply wpS_seq
  apply wpS_region
  simp [wpOpsS, go_sem, recoverD, hu, Tryz.ntmps34, Exit.thenS]
  apply wpS_seq
  apply wpS_region
  simp [wpOpsS, go_sem, Exit.thenS, Act.eval]
  refine wpS_cond (t := false) (by simp [Act.eval, Array.replicate]) ?_
  simp only [Bool.false_eq_true, if_false]
  refine wpS_of_wp (wp_skip ?_)
  cases c₀
  simp_all [bodyPostS, results, Tryz.results34]
theorem catch_gave (X Z : Nat) (ln er c a0 b0 : Int) (v0 v1 v2 : Value) (older : List PanicEntry) (w : World)
    (hX : w.heap[X]? = some (.cells #[v0, v1, v2, .int .i64 c] 27)) (hZ : w.heap[Z]? = some (.cells #[.int .i64 a0, .int .i64 b0] 46)) (hXZ : X ≠ Z) (base : Nat) (bX : base ≤ X) (bZ : base ≤ Z) :
    CallsD Tryz.prog 34 #[.pointer (some ⟨X, 0, none⟩), .pointer (some ⟨Z, 0, none⟩)] (.panicking ({ v := .iface 46 (.agg #[.int .i64 ln, .int .i64 er]), recovered := false } :: older)) w fun e u' w' =>
      e = .returned (.tuple #[]) ∧ u' = .panicking ({ v := .iface 46 (.agg #[.int .i64 ln, .int .i64 er]), recovered := true } :: older) ∧
      w'.heap[X]? = some (.cells #[.slice none 0 0, .slice none 0 0, .slice none 0 0, .int .i64 0] 27) ∧ w'.heap[Z]? = some (.cells #[.int .i64 ln, .int .i64 er] 46) ∧ Below base w w' := by
  refine callsD_of_wpS Tryz.func34 rfl fun c₀ cs hu => ?_
  apply wpS_seq
  apply wpS_region
  simp [wpOpsS, go_sem, recoverD, hu, Tryz.ntmps34, Exit.thenS]
  apply wpS_seq
  apply wpS_region
  simp [wpOpsS, go_sem, Exit.thenS, Act.eval]
  refine wpS_cond (t := true) (by simp [Act.eval, Array.replicate]) ?_
  simp only [if_true]
  refine wpS_of_wp ?_
  have x0 : w.cell? ⟨X, 0, none⟩ = some v0 := (own_cell hX).trans rfl
  have x1 : w.cell? ⟨X, 1, none⟩ = some v1 := (own_cell hX).trans rfl
  have x2 : w.cell? ⟨X, 2, none⟩ = some v2 := (own_cell hX).trans rfl
  have x3 : w.cell? ⟨X, 3, none⟩ = some (.int .i64 c) := (own_cell hX).trans rfl
  have z0 : w.cell? ⟨Z, 0, none⟩ = some (.int .i64 a0) := (own_cell hZ).trans rfl
  have z1 : w.cell? ⟨Z, 1, none⟩ = some (.int .i64 b0) := (own_cell hZ).trans rfl
  have fX : ∀ j, w.frozen? ⟨X, j, none⟩ = false := fun j => own_free hX
  have fZ : ∀ j, w.frozen? ⟨Z, j, none⟩ = false := fun j => own_free hZ
  have HXh := Lib.hid hX; clear hX
  have HZh := Lib.hid hZ; clear hZ
  have hZX := hXZ.symm
  have hta := fun (v : Value) (xT : TypeId) (w : World) => assert_fault v xT w
  go_region
  all_goals
    refine ⟨rfl, _, rfl, .tuple #[], by simp [results, Tryz.results34], rfl, rfl, ?_, ?_, ?_⟩
    · rw [show ∀ W : World, W.drew.heap = W.heap from fun _ => rfl]
      exact own_other (own_other (own_set (own_set (own_set (own_set HXh.out (.slice none 0 0)) (.slice none 0 0)) (.slice none 0 0)) (.int .i64 0)) hXZ _) hXZ _
    · rw [show ∀ W : World, W.drew.heap = W.heap from fun _ => rfl]
      exact own_set (own_set (own_other (own_other (own_other (own_other HZh.out hZX _) hZX _) hZX _) hZX _) (.int .i64 ln)) (.int .i64 er)
    · exact ((((((((Below.refl base w).setCell (p := ⟨X, 0, none⟩) bX _).setCell (p := ⟨X, 1, none⟩) bX _).setCell (p := ⟨X, 2, none⟩) bX _).setCell (p := ⟨X, 3, none⟩) bX _).setCell (p := ⟨Z, 0, none⟩) bZ _).setCell (p := ⟨Z, 1, none⟩) bZ _)).drew
/-- What is read of a text: the plan, or nothing; the line and the error. -/
def ReadOut (base : Nat) (l : List UInt8) (e : Ending) (W : World) : Prop :=
  ∃ v, e = .returned (.tuple #[v, .agg #[.int .i64 (readF l).1, .int .i64 (readF l).2]]) ∧ PlanOwn base (parseP l) v W
theorem tailF_line {L : List ByteArray} {n : Nat} (h : (tailF L n).2 = 0) : (tailF L n).1 = 0 := by
  unfold tailF at h ⊢
  split at h
  · rename_i h1; exact absurd h h1
  · rename_i h1
    rw [if_neg h1]
    split at h
    · rename_i h2; exact absurd h h2
    · rename_i h2; rw [if_neg h2]
theorem planF_line {L : List ByteArray} (h : (planF L).2 = 0) : (planF L).1 = 0 := by
  unfold planF allF at h ⊢
  split at h
  · rename_i h1; exact absurd h h1
  · rename_i h1
    rw [if_neg h1]
    split at h
    · rename_i h2; exact absurd h h2
    · rename_i h2
      rw [if_neg h2]
      exact tailF_line h
set_option maxHeartbeats 4000000 in
set_option maxRecDepth 100000 in
theorem read_any (s : ByteArray) (w : World) (hs : s.size ≤ 1000000) (hE : EnvAt w.heap.size w) :
    Calls Tryz.prog 17 #[.string s] w fun e w' => Below w.heap.size w w' ∧ ReadOut w.heap.size s.data.toList e w' := by
  have hl := lines_size s.data.toList
  have hn := lines_many s.data.toList
  have hsz : s.data.toList.length = s.size := by simp
  have hl' : ∀ q ∈ linesP s.data.toList, q.size ≤ 1000000 := fun q hq => by have := hl q hq; omega
  have hn' : (linesP s.data.toList).length ≤ 1000001 := by omega
  clear hl hn hsz
  have HL := Lib.hid hl'; clear hl'
  obtain ⟨X, hX⟩ : ∃ X, X = w.heap.size := ⟨_, rfl⟩
  rw [← hX] at hE ⊢
  have HE := Lib.hid hE; clear hE
  have HXe := Lib.hid hX; clear hX
  have HN := Lib.hid hn'; clear hn'
  have hmf : ∀ (fn : Fn) (first cap : Array Value) (w : World), (Instr.makeFunc fn first cap).run Tryz.prog w = .ok (.func fn first cap) w := fun _ _ _ _ => rfl
  go_enter_defers Tryz.func17, Tryz.ntmps17
  go_wp2_with fail
  have hX := HXe.out
  obtain ⟨W4, hW4⟩ : ∃ W4, W4 = ((w.alloc (.cells #[.slice none 0 0, .slice none 0 0, .slice none 0 0, .int .i64 0] 27)).alloc (.cells #[.int .i64 0, .int .i64 0] 46)).alloc (.cells #[.slice none 0 0, .int .i64 0, .slice none 0 0] 70) := ⟨_, rfl⟩
  have hz4 : W4.heap.size = X + 1 + 1 + 1 := by rw [hW4, hX]; simp
  have hb4 : Below X w W4 := by rw [hW4, hX]; exact (((Below.refl _ _).alloc (Nat.le_refl _) _).alloc (by simp) _).alloc (by simp <;> omega) _
  have hx4 : W4.heap[X]? = some (.cells #[.slice none 0 0, .slice none 0 0, .slice none 0 0, .int .i64 0] 27) := by
    rw [hW4, hX, Below.heap_alloc _ _ _ (by simp; omega), Below.heap_alloc _ _ _ (by simp)]; exact World.alloc_heap_new w _
  have hq4 : W4.heap[X + 1]? = some (.cells #[.int .i64 0, .int .i64 0] 46) := by
    rw [hW4, hX, Below.heap_alloc _ _ _ (by simp)]
    rw [← World.size_alloc w (.cells #[.slice none 0 0, .slice none 0 0, .slice none 0 0, .int .i64 0] 27)]; exact World.alloc_heap_new _ _
  have hr4 : Rd W4 (X + 1 + 1) (.slice none 0 0) 0 (.slice none 0 0) := by
    unfold Rd
    rw [hW4, hX]
    rw [← World.size_alloc w (.cells #[.slice none 0 0, .slice none 0 0, .slice none 0 0, .int .i64 0] 27), ← World.size_alloc _ (.cells #[.int .i64 0, .int .i64 0] 46)]; exact World.alloc_heap_new _ _
  rw [← hW4, ← hX]
  have HE4 := Lib.hid (HE.out.below hb4)
  have HB4 := Lib.hid hb4; clear hb4
  have HX4 := Lib.hid hx4; clear hx4
  have HQ4 := Lib.hid hq4; clear hq4
  have HR4 := Lib.hid hr4; clear hr4
  have HZ4 := Lib.hid hz4; clear hz4
  clear hW4 HE hX
  -- what a reader that gave up leaves
  have hgave : ∀ (W5 : World) (tmps : Array Value) (hg : W4.grownBy W5 (some (X + 1 + 1))) (ln er : Int) (hf : (((readF s.data.toList).1 : Nat) : Int) = ln ∧ (readF s.data.toList).2 = er ∧ er ≠ 0) (h2 : tmps[2]? = some (.pointer (some ⟨X, 0, none⟩))) (h3 : tmps[3]? = some (.pointer (some ⟨X + 1, 0, none⟩))),
      Leaves Tryz.prog Tryz.f17 tmps (fun e w' => Below X w w' ∧ ReadOut X s.data.toList e w') [{ target := .fn (.func 34) #[.pointer (some ⟨X, 0, none⟩), .pointer (some ⟨X + 1, 0, none⟩)], args := #[] }]
        (.panicking [{ v := .iface 46 (.agg #[.int .i64 ln, .int .i64 er]), recovered := false }]) W5 := by
    intro W5 tmps hg ln er hf h2 h3
    refine leaves_cons (f := 34) (args := #[.pointer (some ⟨X, 0, none⟩), .pointer (some ⟨X + 1, 0, none⟩)]) (by simp) (by simp [go_sem]) ?_
    refine (catch_gave X (X + 1) ln er 0 0 0 _ _ _ [] W5 (own_kept hg (by omega) HX4.out) (own_kept hg (by omega) HQ4.out) (by omega) X (Nat.le_refl _) (by omega)).mono ?_
    rintro e u' w'' ⟨rfl, rfl, hx, hq, hb⟩
    have hbb : Below X w w'' := (HB4.out.trans (below_of hg (by omega) HR4.out.lt)).trans hb
    refine ⟨.tuple #[.agg #[.slice none 0 0, .slice none 0 0, .slice none 0 0, .int .i64 0], .agg #[.int .i64 ln, .int .i64 er]], ?_, hbb, .agg #[.slice none 0 0, .slice none 0 0, .slice none 0 0, .int .i64 0], ?_, ?_⟩
    · simp [results, Tryz.results17, go_sem, h2, h3, World.cell?, hx, hq]
    · rw [hf.1, hf.2.1]
    · unfold parseP
      rw [if_neg (by rw [hf.2.1]; exact hf.2.2)]
      exact planOwn_none _ _
  have HG := Lib.hid hgave; clear hgave
  refine (open_any X (X + 1 + 1) s W4 (by unfold maxLen; omega) HE4.out (by omega) HR4.out).mono ?_
  rintro e w5 ⟨hg5, ⟨ho, rfl, wv5, hs5⟩ | ⟨ho, rfl⟩⟩
  · have HF : Hid (readF s.data.toList = planF (linesP s.data.toList)) := Lib.hid (by unfold readF; rw [if_neg (by simpa using ho)])
    clear ho
    have HS5 := Lib.hid hs5; clear hs5
    have HG5 := Lib.hid hg5; clear hg5
    go_wp2_with fail
    refine (plan_walk X (X + 1 + 1) w5.heap.size (linesP s.data.toList) w5 HL.out HN.out wv5 HS5.out).mono ?_
    rintro e w6 ⟨hg6, ⟨hf0, v, rfl, hi⟩ | ⟨hf0, rfl⟩⟩
    · have hf : readF s.data.toList = (0, 0) := by
        rw [HF.out]
        exact Prod.ext (planF_line hf0) hf0
      have hpp : parseP s.data.toList = planP (linesP s.data.toList) := by unfold parseP; rw [hf]; rfl
      have hz5 : X + 1 + 1 < w5.heap.size := HS5.out.lt
      have hg46 := HG5.out.trans hg6
      have hx6 := own_kept hg46 (by omega) HX4.out
      have hq6 := own_kept hg46 (by omega) HQ4.out
      have hb6 := HB4.out.trans (below_of hg46 (by omega) HR4.out.lt)
      obtain ⟨a1, n1, c1, a2, n2, c2, a3, n3, c3, rfl⟩ := hi.form
      generalize hcost : (planP (linesP s.data.toList)).cost = cost at *
      clear hcost hf0
      rw [← hpp] at hi
      have HI := Lib.hid hi; clear hi hpp
      have HFF := Lib.hid hf; clear hf
      have hx60 : w6.cell? ⟨X, 0, none⟩ = some (.slice none 0 0) := (own_cell hx6).trans rfl
      have hx61 : w6.cell? ⟨X, 1, none⟩ = some (.slice none 0 0) := (own_cell hx6).trans rfl
      have hx62 : w6.cell? ⟨X, 2, none⟩ = some (.slice none 0 0) := (own_cell hx6).trans rfl
      have hx63 : w6.cell? ⟨X, 3, none⟩ = some (.int .i64 0) := (own_cell hx6).trans rfl
      have fx6 : ∀ j, w6.frozen? ⟨X, j, none⟩ = false := fun j => own_free hx6
      have hq60 : w6.cell? ⟨X + 1, 0, none⟩ = some (.int .i64 0) := (own_cell hq6).trans rfl
      have hq61 : w6.cell? ⟨X + 1, 1, none⟩ = some (.int .i64 0) := (own_cell hq6).trans rfl
      have fq6 : ∀ j, w6.frozen? ⟨X + 1, j, none⟩ = false := fun j => own_free hq6
      have hne : ¬ X + 1 = X := by omega
      have HX6 := Lib.hid hx6; clear hx6
      have HQ6 := Lib.hid hq6; clear hq6
      have HB6 := Lib.hid hb6; clear hb6
      clear hg6 hg46
      go_wp2_with fail
      clear hx60 hx61 hx62 hx63 fx6 hq60 hq61 fq6
      change Leaves _ _ _ _ _ _ _
      obtain ⟨W8, hW8⟩ : ∃ W8, W8 = ((((((w6.setCell ⟨X, 0, none⟩ (.slice a1 n1 c1)).setCell ⟨X, 1, none⟩ (.slice a2 n2 c2)).setCell ⟨X, 2, none⟩ (.slice a3 n3 c3)).setCell ⟨X, 3, none⟩ (.int .i64 cost)).setCell ⟨X + 1, 0, none⟩ (.int .i64 0)).setCell ⟨X + 1, 1, none⟩ (.int .i64 0)) := ⟨_, rfl⟩
      have hx8 : W8.heap[X]? = some (.cells #[.slice a1 n1 c1, .slice a2 n2 c2, .slice a3 n3 c3, .int .i64 cost] 27) := by
        rw [hW8]; exact own_other (own_other (own_set (own_set (own_set (own_set HX6.out _) _) _) _) (by omega) _) (by omega) _
      have hq8 : W8.heap[X + 1]? = some (.cells #[.int .i64 0, .int .i64 0] 46) := by
        rw [hW8]; exact own_set (own_set (own_other (own_other (own_other (own_other HQ6.out (by omega) _) (by omega) _) (by omega) _) (by omega) _) _) _
      have hb8 : Below X w W8 := by
        rw [hW8]
        exact (((((HB6.out.setCell (p := ⟨X, 0, none⟩) (Nat.le_refl _) _).setCell (p := ⟨X, 1, none⟩) (Nat.le_refl _) _).setCell (p := ⟨X, 2, none⟩) (Nat.le_refl _) _).setCell (p := ⟨X, 3, none⟩) (Nat.le_refl _) _).setCell (p := ⟨X + 1, 0, none⟩) (by simp) _).setCell (p := ⟨X + 1, 1, none⟩) (by simp) _
      have hi8 : PlanOwn X (parseP s.data.toList) (.agg #[.slice a1 n1 c1, .slice a2 n2 c2, .slice a3 n3 c3, .int .i64 cost]) W8 := by
        refine (HI.out.same fun g o hg h => ?_).mono (by omega)
        rw [hW8]
        exact own_other (own_other (own_other (own_other (own_other (own_other h (by omega) _) (by omega) _) (by omega) _) (by omega) _) (by omega) _) (by omega) _
      rw [← hW8]
      clear hW8
      refine leaves_cons (f := 34) (args := #[.pointer (some ⟨X, 0, none⟩), .pointer (some ⟨X + 1, 0, none⟩)]) (by simp) (by simp [go_sem]) ?_
      refine (catch_idle _ _ W8).mono ?_
      rintro e u' w'' ⟨rfl, rfl, rfl⟩
      refine ⟨.tuple #[.agg #[.slice a1 n1 c1, .slice a2 n2 c2, .slice a3 n3 c3, .int .i64 cost], .agg #[.int .i64 0, .int .i64 0]], ?_, hb8, _, ?_, hi8⟩
      · simp [results, Tryz.results17, go_sem, World.cell?, hx8, hq8]
      · rw [HFF.out]; rfl
    · go_wp2_with fail
      change Leaves _ _ _ _ _ _ _
      refine HG.out _ _ (HG5.out.trans hg6) _ _ ⟨by rw [HF.out], by rw [HF.out], hf0⟩ ?_ ?_ <;> rfl
  · have hf : readF s.data.toList = (0, linesE s.data.toList) := by unfold readF; rw [if_pos ho]
    go_wp2_with fail
    change Leaves _ _ _ _ _ _ _
    refine HG.out _ _ hg5 0 _ ⟨by rw [hf]; rfl, by rw [hf], ho⟩ ?_ ?_ <;> rfl
/-- What Parse leaves. -/
def ParseOut (base : Nat) (l : List UInt8) (e : Ending) (W : World) : Prop :=
  ∃ v, e = .returned (.tuple #[v, .int .i64 (readF l).1, .int .i64 (readF l).2]) ∧ PlanOwn base (parseP l) v W
set_option maxHeartbeats 4000000 in
set_option maxRecDepth 100000 in
theorem parse_any (s : ByteArray) (w : World) (hs : s.size ≤ 1000000) (hE : EnvAt w.heap.size w) :
    Calls Tryz.prog 9 #[.string s] w fun e w' => Below w.heap.size w w' ∧ ParseOut w.heap.size s.data.toList e w' := by
  obtain ⟨X, hX⟩ : ∃ X, X = w.heap.size := ⟨_, rfl⟩
  obtain ⟨W0, hW0⟩ : ∃ W0, W0 = w.alloc (.cells #[.slice none 0 0, .slice none 0 0, .slice none 0 0, .int .i64 0] 27) := ⟨_, rfl⟩
  have hb0 : Below X w W0 := by rw [hX, hW0]; exact (Below.refl _ _).alloc (Nat.le_refl _) _
  have hx0 : W0.heap[X]? = some (.cells #[.slice none 0 0, .slice none 0 0, .slice none 0 0, .int .i64 0] 27) := by rw [hX, hW0]; exact World.alloc_heap_new w _
  have hz0 : W0.heap.size = X + 1 := by rw [hX, hW0]; simp
  rw [← hX] at hE ⊢
  have h1 := read_any s W0 hs ((hE.below hb0).mono (by omega))
  have H1 := Lib.hid h1; clear h1 hE
  have HX := Lib.hid hX; clear hX
  have HW := Lib.hid hW0; clear hW0
  have HB0 := Lib.hid hb0; clear hb0
  have HX0 := Lib.hid hx0; clear hx0
  have HZ0 := Lib.hid hz0; clear hz0
  unfold ParseOut
  go_enter Tryz.func9, Tryz.ntmps9
  go_wp2_with fail
  rw [← HX.out, ← HW.out]
  refine H1.out.mono ?_
  rintro e w1 ⟨hb1, v, rfl, hr⟩
  generalize hln : (((readF s.data.toList).1 : Nat) : Int) = ln at *
  generalize her : (readF s.data.toList).2 = er at *
  have HLN := Lib.hid hln; clear hln
  have HER := Lib.hid her; clear her
  have hx1 : w1.heap[X]? = _ := (hb1.block X (by rw [HZ0.out]; omega)).trans HX0.out
  have hbb : Below X w w1 := HB0.out.trans (hb1.mono (by rw [HZ0.out]; omega))
  have hz1 : X + 1 ≤ w1.heap.size := by have := hb1.size; rw [HZ0.out] at this; exact this
  obtain ⟨a1, n1, c1, a2, n2, c2, a3, n3, c3, rfl⟩ := hr.form
  generalize hcost : (parseP s.data.toList).cost = cost at *
  clear hcost
  have HR := Lib.hid hr; clear hr
  have HBB := Lib.hid hbb; clear hbb hb1
  have x0 : w1.cell? ⟨X, 0, none⟩ = some (.slice none 0 0) := (own_cell hx1).trans rfl
  have x1 : w1.cell? ⟨X, 1, none⟩ = some (.slice none 0 0) := (own_cell hx1).trans rfl
  have x2 : w1.cell? ⟨X, 2, none⟩ = some (.slice none 0 0) := (own_cell hx1).trans rfl
  have x3 : w1.cell? ⟨X, 3, none⟩ = some (.int .i64 0) := (own_cell hx1).trans rfl
  have fX : ∀ j, w1.frozen? ⟨X, j, none⟩ = false := fun j => own_free hx1
  have hzx : X < w1.heap.size := by omega
  have HX1 := Lib.hid hx1; clear hx1
  go_wp2_with fail
  clear x0 x1 x2 x3 fX
  obtain ⟨Z, hZ⟩ : ∃ Z, Z = w1.heap.size := ⟨_, rfl⟩
  obtain ⟨W6, hW6⟩ : ∃ W6, W6 = ((((w1.setCell ⟨X, 0, none⟩ (.slice a1 n1 c1)).setCell ⟨X, 1, none⟩ (.slice a2 n2 c2)).setCell ⟨X, 2, none⟩ (.slice a3 n3 c3)).setCell ⟨X, 3, none⟩ (.int .i64 cost)) := ⟨_, rfl⟩
  obtain ⟨W7, hW7⟩ : ∃ W7, W7 = W6.alloc (.cells #[.int .i64 ln, .int .i64 er] 46) := ⟨_, rfl⟩
  have hz6 : W6.heap.size = Z := by rw [hW6, hZ]; simp [World.size_setCell]
  have hx7 : W7.heap[X]? = some (.cells #[.slice a1 n1 c1, .slice a2 n2 c2, .slice a3 n3 c3, .int .i64 cost] 27) := by
    rw [hW7, Below.heap_alloc _ _ _ (by rw [hz6]; omega), hW6]; exact own_set (own_set (own_set (own_set HX1.out _) _) _) _
  have hq7 : W7.heap[Z]? = some (.cells #[.int .i64 ln, .int .i64 er] 46) := by
    rw [hW7, ← hz6]; exact World.alloc_heap_new _ _
  have k7 : ∀ g, X + 1 ≤ g → g < Z → W7.heap[g]? = w1.heap[g]? := fun g h1 h2 => by
    rw [hW7, Below.heap_alloc _ _ _ (by rw [hz6]; exact h2), hW6]; exact own_other (own_other (own_other (own_other rfl (by omega) _) (by omega) _) (by omega) _) (by omega) _
  have hb7 : Below X w W7 := by
    rw [hW7]
    refine Below.alloc ?_ (by rw [hz6]; omega) _
    rw [hW6]; exact (((HBB.out.setCell (p := ⟨X, 0, none⟩) (Nat.le_refl _) _).setCell (p := ⟨X, 1, none⟩) (Nat.le_refl _) _).setCell (p := ⟨X, 2, none⟩) (Nat.le_refl _) _).setCell (p := ⟨X, 3, none⟩) (Nat.le_refl _) _
  rw [← hZ, ← hW6, ← hW7]
  have hxz : ¬ X = Z := by omega
  have hzx' : ¬ Z = X := by omega
  have HK := Lib.hid k7; clear k7
  have HBZ := Lib.hid hb7; clear hb7
  have x0 : W7.cell? ⟨X, 0, none⟩ = some (.slice a1 n1 c1) := (own_cell hx7).trans rfl
  have x1 : W7.cell? ⟨X, 1, none⟩ = some (.slice a2 n2 c2) := (own_cell hx7).trans rfl
  have x2 : W7.cell? ⟨X, 2, none⟩ = some (.slice a3 n3 c3) := (own_cell hx7).trans rfl
  have x3 : W7.cell? ⟨X, 3, none⟩ = some (.int .i64 cost) := (own_cell hx7).trans rfl
  have z0 : W7.cell? ⟨Z, 0, none⟩ = some (.int .i64 ln) := (own_cell hq7).trans rfl
  have z1 : W7.cell? ⟨Z, 1, none⟩ = some (.int .i64 er) := (own_cell hq7).trans rfl
  have fX : ∀ j, W7.frozen? ⟨X, j, none⟩ = false := fun j => own_free hx7
  have HX7 := Lib.hid hx7; clear hx7
  clear hW6 hW7 hz6 hq7 HX1 HBB
  have HZE := Lib.hid hZ; clear hZ
  go_region
  all_goals
    clear x0 x1 x2 x3 z0 z1 fX
    go_wp2_with fail
    obtain ⟨W8, hW8⟩ : ∃ W8, W8 = ((((W7.setCell ⟨X, 0, none⟩ (.slice a1 n1 c1)).setCell ⟨X, 1, none⟩ (.slice a2 n2 c2)).setCell ⟨X, 2, none⟩ (.slice a3 n3 c3)).setCell ⟨X, 3, none⟩ (.int .i64 cost)).drew := ⟨_, rfl⟩
    have hx8 : W8.heap[X]? = some (.cells #[.slice a1 n1 c1, .slice a2 n2 c2, .slice a3 n3 c3, .int .i64 cost] 27) := by
      rw [hW8, drew_heap]; exact own_set (own_set (own_set (own_set HX7.out _) _) _) _
    have hb8 : Below X w W8 := by
      rw [hW8]
      exact ((((HBZ.out.setCell (p := ⟨X, 0, none⟩) (Nat.le_refl _) _).setCell (p := ⟨X, 1, none⟩) (Nat.le_refl _) _).setCell (p := ⟨X, 2, none⟩) (Nat.le_refl _) _).setCell (p := ⟨X, 3, none⟩) (Nat.le_refl _) _).drew
    have hr8 : PlanOwn X (parseP s.data.toList) (.agg #[.slice a1 n1 c1, .slice a2 n2 c2, .slice a3 n3 c3, .int .i64 cost]) W8 := by
      refine (HR.out.same fun g o hg h => ?_).mono (by rw [HZ0.out]; omega)
      rw [HZ0.out] at hg
      have hlt : g < Z := by rw [HZE.out]; exact own_lt h
      rw [hW8, drew_heap]
      exact own_other (own_other (own_other (own_other ((HK.out g hg hlt).trans h) (by omega) _) (by omega) _) (by omega) _) (by omega) _
    rw [← hW8]
    clear hW8
    refine bodyPost_ret (v := .tuple #[.agg #[.slice a1 n1 c1, .slice a2 n2 c2, .slice a3 n3 c3, .int .i64 cost], .int .i64 ln, .int .i64 er]) (by simp [results, Tryz.results9, go_sem, World.cell?, hx8]) rfl ?_
    exact ⟨hb8, _, by rw [HLN.out, HER.out], hr8⟩
end Fil
end Go.Proofs.YtkggahoadeeajaaGreatDoor
