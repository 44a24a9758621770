/- One look along an edge, and one look through all of them (nearer), over the translated program. -/
import Derived.Test.YtjhghkieghdoaaaDiffBase
namespace Go.Proofs.Ytjhghkieghdoaaa
open Go.RowKit Go.Lib
namespace Diff
set_option linter.unusedVariables false
/-- Where the search's edges and rows lie. -/
structure At where
  a : Option Addr
  c : Nat
  d : Nat
  l : Nat
structure Rows (S : Sys) (A : At) (D L : Nat → Int) (w : World) : Prop where
  es : IsEs w A.a S.m (fun i => S.F i) (fun i => S.T i) S.W
  dist : IsB w A.d S.n D
  last : IsB w A.l S.n L
  ne : A.d ≠ A.l
  far : 0 < S.m → ∀ x, A.a = some x → x.block ≠ A.d ∧ x.block ≠ A.l
/-- the search as a value -/
def At.val (S : Sys) (A : At) : Value := .agg #[.slice A.a S.m A.c, .slice (some ⟨A.d, 0, none⟩) S.n S.n, .slice (some ⟨A.l, 0, none⟩) S.n S.n]
section
variable {S : Sys} {A : At} {D L : Nat → Int} {w w' : World}
theorem Rows.below (h : Rows S A D L w) (hb : Below w.heap.size w w') : Rows S A D L w' := ⟨h.es.below hb, h.dist.below hb, h.last.below hb, h.ne, h.far⟩
theorem Rows.turned {bs : List Nat} (h : Rows S A D L w) (hb : Turned bs w w') (h1 : A.d ∉ bs) (h2 : A.l ∉ bs) (h3 : 0 < S.m → ∀ x, A.a = some x → x.block ∉ bs) : Rows S A D L w' :=
  ⟨h.es.turned hb h3, hb.isB h.dist h1, hb.isB h.last h2, h.ne, h.far⟩
end
/-- does a look along an edge bring a number nearer? -/
def hit (S : Sys) (D : Nat → Int) (i : Nat) : Bool := decide (D (S.F i) ≠ Far) && decide (D (S.F i) + S.W i < D (S.T i))
def lookD (S : Sys) (D : Nat → Int) (i : Nat) : Nat → Int := if hit S D i = true then put D (S.T i) (D (S.F i) + S.W i) else D
def lookL (S : Sys) (D L : Nat → Int) (i : Nat) : Nat → Int := if hit S D i = true then put L (S.T i) i else L
/-- what a look leaves: B is the reader's own variable, C the one that tells whether a number got nearer -/
def LookP (S : Sys) (A : At) (D L : Nat → Int) (C : Nat) (fd : Bool) (i : Nat) (w : World) (e : Ending) (w' : World) : Prop :=
  e = .returned (.tuple #[]) ∧ Turned [A.d, A.l, C] w w' ∧ Rows S A (lookD S D i) (lookL S D L i) w' ∧ w'.cell? ⟨C, 0, none⟩ = some (.bool (fd || hit S D i)) ∧ w'.frozen? ⟨C, 0, none⟩ = false
set_option maxHeartbeats 2000000 in
theorem look_any (S : Sys) (A : At) (D L : Nat → Int) (B C : Nat) (fd : Bool) (i : Nat) (w : World) (ok : S.Ok) (hr : Rows S A D L w) (hi : i < S.m) (hD : ∀ v, v < S.n → -1000000000000000000 ≤ D v ∧ D v ≤ Far)
    (hB0 : w.cell? ⟨B, 0, none⟩ = some (.slice A.a S.m A.c)) (hB1 : w.cell? ⟨B, 1, none⟩ = some (.slice (some ⟨A.d, 0, none⟩) S.n S.n)) (hB2 : w.cell? ⟨B, 2, none⟩ = some (.slice (some ⟨A.l, 0, none⟩) S.n S.n))
    (hC : w.cell? ⟨C, 0, none⟩ = some (.bool fd)) (hCf : w.frozen? ⟨C, 0, none⟩ = false) (n1 : B ≠ A.d) (n2 : B ≠ A.l) (n3 : B ≠ C) (n4 : C ≠ A.d) (n5 : C ≠ A.l) (n6 : ∀ x, A.a = some x → x.block ≠ C) :
    Calls Try.prog 35 #[.int .i64 i, .pointer (some ⟨B, 0, none⟩), .pointer (some ⟨C, 0, none⟩)] w (LookP S A D L C fd i w) := by
  have hF := ok.hF i hi
  have hT := ok.hT i hi
  have hW := ok.hW i hi
  have hn := ok.hn
  have hm := ok.hm
  have bF := hD _ hF
  have bT := hD _ hT
  have eF := hr.dist.at hF
  have eT := hr.dist.at hT
  have fT := hr.dist.fz (S.T i)
  have gT := hr.last.fz (S.T i)
  have eL := hr.last.at hT
  have hlB := World.block_lt_of_cell? _ _ hB0
  have hlC := World.block_lt_of_cell? _ _ hC
  have hld := hr.dist.lt
  have hll := hr.last.lt
  have hdl := hr.ne
  simp only at hlB hlC
  have m1 : B ≠ w.heap.size := by omega
  have m2 : C ≠ w.heap.size := by omega
  have m3 : A.d ≠ w.heap.size := by omega
  have m4 : A.l ≠ w.heap.size := by omega
  rcases hr.es with h0 | ⟨b, off, ha, hb, hmx, hc⟩
  · omega
  obtain ⟨c0, c1, c2⟩ := hc i hi
  have m5 : b ≠ w.heap.size := by omega
  have HR := Lib.hid hr; clear hr
  have p1 := HR.out.far (by omega) _ ha
  have p2 := n6 _ ha
  simp only at p1 p2
  obtain ⟨p1, p3⟩ := p1
  rw [ha] at hB0
  have HA := Lib.hid ha; clear ha
  clear hc hmx
  have hba : Below w.heap.size w (w.alloc (.cells #[.int .i64 (S.F i), .int .i64 (S.T i), .int .i64 (S.W i)] 42)) := (Below.refl _ _).alloc (Nat.le_refl _) _
  have HBA := Lib.hid hba; clear hba
  clear n6
  by_cases h1 : D (S.F i) = Far
  · have hh : hit S D i = false := by unfold hit; simp [h1]
    unfold LookP lookD lookL
    rw [hh]
    simp only [Bool.false_eq_true, if_false, Bool.or_false]
    rw [h1] at eF
    unfold Far at eF
    have HH := Lib.hid hh; clear hh h1 bF hD
    go_enter Try.func35, Try.ntmps35
    go_wp2_with fail
    refine bodyPost_ret (results_none (by kernel_rfl) _ _ _) rfl ?_
    exact ⟨rfl, Turned.of HBA.out _, HR.out.below HBA.out, (HBA.out.cell hlC).trans hC, (HBA.out.frozen hlC).trans hCf⟩
  · unfold Far at h1
    have hit1 : hit S D i = decide (D (S.F i) + S.W i < D (S.T i)) := by unfold hit Far; simp [h1]
    have hfar : D (S.F i) < 1152921504606846976 := by unfold Far at bF; omega
    unfold Far at bF bT
    have HIT := Lib.hid hit1; clear hit1 hD
    obtain ⟨x, hx⟩ : ∃ x, x = D (S.F i) := ⟨_, rfl⟩
    obtain ⟨y, hy⟩ : ∃ y, y = D (S.T i) := ⟨_, rfl⟩
    obtain ⟨z, hz⟩ : ∃ z, z = S.W i := ⟨_, rfl⟩
    rw [← hx] at h1 hfar bF eF HIT
    rw [← hy] at bT eT HIT
    rw [← hz] at hW c2 HIT
    rw [← hz] at HBA
    have hx1 : (x == 1152921504606846976) = false := by simp [h1]
    have hx2 : decide (x = 1152921504606846976) = false := by simp [h1]
    have hwr : IntKind.i64.wrap (x + z) = x + z := IntWalk.i64_in _ (by omega)
    have HX := Lib.hid hx; clear hx
    have HY := Lib.hid hy; clear hy
    have HZ := Lib.hid hz; clear hz
    go_enter Try.func35, Try.ntmps35
    go_wp2_with fail
    go_quiet (fail)
    obtain ⟨W2, hW2⟩ : ∃ W2, W2 = (w.alloc (.cells #[.int .i64 (S.F i), .int .i64 (S.T i), .int .i64 z] 42)).drewN nq := ⟨_, rfl⟩
    have e0 : W2.cell? ⟨w.heap.size, 0, none⟩ = some (.int .i64 (S.F i)) := by rw [hW2]; simp [go_sem]
    have e1 : W2.cell? ⟨w.heap.size, 1, none⟩ = some (.int .i64 (S.T i)) := by rw [hW2]; simp [go_sem]
    have hb2 : Below w.heap.size w W2 := by rw [hW2]; exact below_drewN HBA.out nq
    rw [← hW2]
    have HW2 := Lib.hid hW2; clear hW2
    have B0 := (hb2.cell (p := ⟨B, 0, none⟩) hlB).trans hB0
    have B1 := (hb2.cell (p := ⟨B, 1, none⟩) hlB).trans hB1
    have B2 := (hb2.cell (p := ⟨B, 2, none⟩) hlB).trans hB2
    have C0 := (hb2.cell (p := ⟨C, 0, none⟩) hlC).trans hC
    have C1 := (hb2.frozen (p := ⟨C, 0, none⟩) hlC).trans hCf
    have ET := (hb2.cell (p := ⟨A.d, S.T i, none⟩) hld).trans eT
    have EL := (hb2.cell (p := ⟨A.l, S.T i, none⟩) hll).trans eL
    have FT := (hb2.frozen (p := ⟨A.d, S.T i, none⟩) hld).trans fT
    have GT := (hb2.frozen (p := ⟨A.l, S.T i, none⟩) hll).trans gT
    have hs2 : w.heap.size ≤ W2.heap.size := hb2.size
    have H2 := Lib.hid hb2; clear hb2 hB0 hB1 hB2 hC hCf eT eL fT gT eF c0 c1 c2
    by_cases h2 : x + z < y
    · have hh : hit S D i = true := by rw [HIT.out]; simp [h2]
      have HH := Lib.hid hh; clear hh
      go_wp2_with fail
      go_end0
      unfold LookP lookD lookL
      rw [HH.out, ← HX.out, ← HZ.out]
      simp only [if_true, Bool.or_true]
      have r2 := HR.out.below H2.out
      refine ⟨trivial, ((Turned.of H2.out _).set (.inl (by simp)) _ |>.set (.inl (by simp)) _).set (.inl (by simp)) _, ⟨?_, ?_, ?_, hdl, HR.out.far⟩, ?_, ?_⟩
      · refine r2.es.turned (bs := [A.d, A.l, C]) ((Turned.refl _ W2).set (.inl (by simp)) _ |>.set (.inl (by simp)) _ |>.set (.inl (by simp)) _) fun _ a ha => ?_
        rw [HA.out] at ha
        cases ha
        simp [p1, p2, p3]
      · exact ((r2.dist.set (S.T i) (x + z)).other (by exact hdl) _).other (by exact Ne.symm n4) _
      · exact ((r2.last.other (by exact Ne.symm hdl) _).set (S.T i) i).other (by exact Ne.symm n5) _
      · refine World.cell?_setCell_same _ _ _ (u := .bool fd) ?_
        rw [World.cell?_setCell_other _ _ _ _ (by simp), World.cell?_setCell_other _ _ _ _ (by simp)]
        exact C0
      · rw [World.frozen?_setCell, World.frozen?_setCell, World.frozen?_setCell]; exact C1
    · have hh : hit S D i = false := by rw [HIT.out]; simp [h2]
      have HH := Lib.hid hh; clear hh
      go_wp2_with fail
      go_end0
      unfold LookP lookD lookL
      rw [HH.out]
      simp only [Bool.false_eq_true, if_false, Bool.or_false]
      exact ⟨trivial, Turned.of H2.out _, HR.out.below H2.out, C0, C1⟩
end Diff
end Go.Proofs.Ytjhghkieghdoaaa
