/- The document's example of layer 7, without the program; and what Solve and Way answer of it. -/
import Derived.Test.YtjhghkieghdoaaaDiffSolve
namespace Go.Proofs.Ytjhghkieghdoaaa
open Go.RowKit Go.Lib
namespace Diff
set_option linter.unusedVariables false
def at2 (x y : Nat) (i : Nat) : Nat := if i = 0 then x else y
def wt2 (x y : Int) (i : Nat) : Int := if i = 0 then x else y
def S1 : Sys := ⟨2, 2, at2 0 1, at2 1 0, wt2 5 (-6), 0⟩
def S2 : Sys := ⟨4, 2, at2 0 1, at2 2 2, wt2 9 3, 0⟩
def S3 : Sys := ⟨3, 3, fun i => if i = 2 then 1 else 0, fun i => if i = 0 then 1 else 2, fun i => if i = 0 then 5 else if i = 1 then 9 else 3, 0⟩
theorem two {i : Nat} (h : i < 2) : i = 0 ∨ i = 1 := by omega
theorem three {i : Nat} (h : i < 3) : i = 0 ∨ i = 1 ∨ i = 2 := by omega
theorem ok1 : S1.Ok := by
  refine ⟨by decide, by decide, by decide, fun i hi => ?_, fun i hi => ?_, fun i hi => ?_⟩ <;> rcases two hi with rfl | rfl <;> decide
theorem ok2 : S2.Ok := by
  refine ⟨by decide, by decide, by decide, fun i hi => ?_, fun i hi => ?_, fun i hi => ?_⟩ <;> rcases two hi with rfl | rfl <;> decide
theorem ok3 : S3.Ok := by
  refine ⟨by decide, by decide, by decide, fun i hi => ?_, fun i hi => ?_, fun i hi => ?_⟩ <;> rcases three hi with rfl | rfl | rfl <;> decide
theorem no1 {D : Nat → Int} (h : Good S1 D) : False := by
  have h0 : D 0 = 0 := h.src
  have h1 : D 0 ≠ Far → D 1 ≤ D 0 + 5 := h.shut 0 (by decide)
  have h2 : D 1 ≠ Far → D 0 ≤ D 1 + -6 := h.shut 1 (by decide)
  unfold Far at h1 h2
  omega
theorem len1 {q : Nat → Int} {k x : Nat} (hk : 1 ≤ k) (hk2 : k ≤ 2) (h : IsWay S1 q k x x) : k = 2 := by
  rcases Nat.lt_or_ge k 2 with hlt | hge
  · exfalso
    obtain rfl : k = 1 := by omega
    obtain ⟨P, p0, p1, hp⟩ := h
    obtain ⟨e, e1, _, e3, e4⟩ := hp 0 (by omega)
    rw [p0] at e3
    rw [show 0 + 1 = 1 from rfl, p1] at e4
    rcases two e1 with rfl | rfl
    · have : S1.F 0 = 0 := rfl
      have : S1.T 0 = 1 := rfl
      omega
    · have : S1.F 1 = 1 := rfl
      have : S1.T 1 = 0 := rfl
      omega
  · omega
def D2 : Nat → Int := fun v => if v = 0 then 0 else if v = 2 then 9 else Far
theorem closed2 : Closed S2 (fun v => v = 0 ∨ v = 2) (fun v => if v = 2 then 9 else 0) := by
  refine ⟨.inl rfl, by decide, fun i hi => ?_⟩
  rcases two hi with rfl | rfl
  · intro _; exact ⟨.inr rfl, by decide⟩
  · intro h
    have : S2.F 1 = 1 := rfl
    rw [this] at h
    omega
theorem dist2 {D : Nat → Int} (h : Good S2 D) : ∀ v, v < 4 → D v = D2 v := by
  have h0 : D 0 = 0 := h.src
  have h1 : D 0 ≠ Far → D 2 ≤ D 0 + 9 := h.shut 0 (by decide)
  have hg := fun v hv => h.great _ _ closed2 v hv
  have g2 := hg 2 (by decide)
  have g1 := hg 1 (by decide)
  have g3 := hg 3 (by decide)
  have f1 := h.far (v := 1) (by decide)
  have f3 := h.far (v := 3) (by decide)
  intro v hv
  have hv' : v = 0 ∨ v = 1 ∨ v = 2 ∨ v = 3 := by omega
  rcases hv' with rfl | rfl | rfl | rfl
  · exact h0
  · show D 1 = Far
    rcases Int.lt_or_le (D 1) Far with c | c
    · have := (g1 c).1; omega
    · omega
  · show D 2 = 9
    have h1' := h1 (by rw [h0]; decide)
    have := (g2 (by unfold Far; omega)).2
    simp only [if_true] at this
    omega
  · show D 3 = Far
    rcases Int.lt_or_le (D 3) Far with c | c
    · have := (g3 c).1; omega
    · omega
theorem closed3 : Closed S3 (fun _ => True) (fun v => if v = 0 then 0 else if v = 1 then 5 else 8) := by
  refine ⟨trivial, by decide, fun i hi _ => ?_⟩
  rcases three hi with rfl | rfl | rfl <;> exact ⟨trivial, by decide⟩
theorem dist3 {D : Nat → Int} (h : Good S3 D) : D 2 = 8 := by
  have h0 : D 0 = 0 := h.src
  have h1 : D 0 ≠ Far → D 1 ≤ D 0 + 5 := h.shut 0 (by decide)
  have h2 : D 1 ≠ Far → D 2 ≤ D 1 + 3 := h.shut 2 (by decide)
  have g2 := h.great _ _ closed3 2 (by decide)
  simp at g2
  unfold Far at h1 h2 g2
  omega
theorem way3 {q : Nat → Int} {k : Nat} (hk : 1 ≤ k) (hk3 : k ≤ 3) (h : IsWay S3 q k 0 2) (hs : wsum S3 q k = 8) : k = 2 ∧ q 0 = 0 ∧ q 1 = 2 := by
  obtain ⟨P, p0, pk, hp⟩ := h
  have f0 : S3.F 0 = 0 := rfl
  have f1 : S3.F 1 = 0 := rfl
  have f2 : S3.F 2 = 1 := rfl
  have t0 : S3.T 0 = 1 := rfl
  have t1 : S3.T 1 = 2 := rfl
  have t2 : S3.T 2 = 2 := rfl
  have dead : ∀ i, i < k → P i ≠ 2 := fun i hi hh => by
    obtain ⟨e, e1, _, e3, _⟩ := hp i hi
    have e1' : e < 3 := e1
    rw [hh] at e3
    rcases three e1' with rfl | rfl | rfl <;> omega
  obtain ⟨e, e1, e2, e3, e4⟩ := hp 0 (by omega)
  have e1' : e < 3 := e1
  rw [p0] at e3
  rcases three e1' with rfl | rfl | rfl
  · have h1 : P 1 = 1 := by rw [← e4]; exact t0
    have hk1 : k ≠ 1 := by rintro rfl; omega
    obtain ⟨e', c1, c2, c3, c4⟩ := hp 1 (by omega)
    have c1' : e' < 3 := c1
    rw [h1] at c3
    have he : e' = 2 := by rcases three c1' with rfl | rfl | rfl <;> omega
    subst he
    have h2 : P 2 = 2 := by rw [← c4]; exact t2
    have hk2 : ¬ 2 < k := fun hh => dead 2 hh h2
    exact ⟨by omega, by rw [e2]; rfl, by rw [c2]; rfl⟩
  · have h1 : P 1 = 2 := by rw [← e4]; exact t1
    have hk1 : ¬ 1 < k := fun hh => dead 1 hh h1
    obtain rfl : k = 1 := by omega
    simp only [wsum, sumUp, e2] at hs
    have : S3.W (((1 : Nat) : Int)).toNat = 9 := rfl
    omega
  · omega
theorem isEs2 {w : World} {b o f0 f1 t0 t1 : Nat} {g0 g1 : Int} (hb : b < w.heap.size) (h00 : w.cell? ⟨b, o, none⟩ = some (.int .i64 f0)) (h01 : w.cell? ⟨b, o + 1, none⟩ = some (.int .i64 t0)) (h02 : w.cell? ⟨b, o + 2, none⟩ = some (.int .i64 g0))
    (h10 : w.cell? ⟨b, o + 3, none⟩ = some (.int .i64 f1)) (h11 : w.cell? ⟨b, o + 4, none⟩ = some (.int .i64 t1)) (h12 : w.cell? ⟨b, o + 5, none⟩ = some (.int .i64 g1)) :
    IsEs w (some ⟨b, o, none⟩) 2 (fun i => at2 f0 f1 i) (fun i => at2 t0 t1 i) (wt2 g0 g1) := by
  refine .inr ⟨b, o, rfl, hb, by unfold maxLen; omega, fun j hj => ?_⟩
  rcases two hj with rfl | rfl
  · exact ⟨h00, h01, h02⟩
  · exact ⟨h10, h11, h12⟩
/-- The four calls of the example. -/
theorem call1 (b o c : Nat) (w : World) (he : IsEs w (some ⟨b, o, none⟩) 2 (fun i => S1.F i) (fun i => S1.T i) S1.W) :
    Calls Try.prog 9 #[.int .i64 2, .slice (some ⟨b, o, none⟩) 2 c, .int .i64 0] w fun e w' => ∃ g cc, e = .returned (.tuple #[.slice none 0 0, .slice (some ⟨g, 0, none⟩) 2 cc, .int .i64 0]) ∧ Below w.heap.size w w' := by
  refine (solve_yes S1 (some ⟨b, o, none⟩) c w ok1 he).mono ?_
  rintro e w' ⟨hb, v, ⟨rfl, d, D, _, _, hg, _⟩ | ⟨rfl, g, cc, k, x, q, rfl, _, k1, k2, _, _, hw, _⟩⟩
  · exact (no1 hg).elim
  · have hk : k = 2 := len1 k1 k2 hw
    subst hk
    exact ⟨g, cc, rfl, hb⟩
theorem call2 (b o c : Nat) (w : World) (he : IsEs w (some ⟨b, o, none⟩) 2 (fun i => S2.F i) (fun i => S2.T i) S2.W) :
    Calls Try.prog 9 #[.int .i64 4, .slice (some ⟨b, o, none⟩) 2 c, .int .i64 0] w fun e w' => ∃ d, e = .returned (.tuple #[.slice (some ⟨d, 0, none⟩) 4 4, .slice none 0 0, .int .i64 0]) ∧ IsB w' d 4 D2 ∧ Below w.heap.size w w' := by
  refine (solve_yes S2 (some ⟨b, o, none⟩) c w ok2 he).mono ?_
  rintro e w' ⟨hb, v, ⟨rfl, d, D, rfl, hB, hg, _⟩ | ⟨rfl, g, cc, k, x, q, rfl, _, k1, k2, _, _, hw, _, hno⟩⟩
  · exact ⟨d, rfl, IsB.congr hB (dist2 hg), hb⟩
  · exact (hno _ _ closed2).elim
theorem call3 (a : Option Addr) (c : Nat) (w : World) (he : IsEs w a 3 (fun i => S3.F i) (fun i => S3.T i) S3.W) :
    Calls Try.prog 15 #[.int .i64 3, .slice a 3 c, .int .i64 0, .int .i64 2] w fun e w' => ∃ g cc q, e = .returned (.tuple #[.slice (some ⟨g, 0, none⟩) 2 cc, .int .i64 0]) ∧ IsB w' g 2 q ∧ q 0 = 0 ∧ q 1 = 2 ∧ Below w.heap.size w w' := by
  refine (way_yes S3 2 a c w ok3 (by decide) he).mono ?_
  rintro e w' ⟨hb, ⟨rfl, hno⟩ | ⟨D, hg, _, ⟨rfl, hf⟩ | ⟨rfl, hts, _⟩ | ⟨g, cc, k, q, rfl, hB, k1, k2, hw, hs, _⟩⟩⟩
  · exact (hno _ _ closed3).elim
  · rw [dist3 hg] at hf; exact absurd hf (by decide)
  · exact absurd hts (by decide)
  · rw [dist3 hg] at hs
    obtain ⟨hk, q0, q1⟩ := way3 k1 k2 hw hs
    subst hk
    exact ⟨g, cc, q, rfl, hB, q0, q1, hb⟩
theorem call4 (b o c : Nat) (w : World) (he : IsEs w (some ⟨b, o, none⟩) 2 (fun i => S1.F i) (fun i => S1.T i) S1.W) :
    Calls Try.prog 15 #[.int .i64 2, .slice (some ⟨b, o, none⟩) 2 c, .int .i64 0, .int .i64 1] w fun e w' => e = .returned (.tuple #[.slice none 0 0, .int .i64 34]) ∧ Below w.heap.size w w' := by
  refine (way_yes S1 1 (some ⟨b, o, none⟩) c w ok1 (by decide) he).mono ?_
  rintro e w' ⟨hb, ⟨rfl, hno⟩ | ⟨D, hg, _⟩⟩
  · exact ⟨rfl, hb⟩
  · exact (no1 hg).elim
theorem call5 (b o c : Nat) (w : World) (he : IsEs w (some ⟨b, o, none⟩) 2 (fun i => S2.F i) (fun i => S2.T i) S2.W) :
    Calls Try.prog 15 #[.int .i64 4, .slice (some ⟨b, o, none⟩) 2 c, .int .i64 0, .int .i64 3] w fun e w' => e = .returned (.tuple #[.slice none 0 0, .int .i64 4]) ∧ Below w.heap.size w w' := by
  refine (way_yes S2 3 (some ⟨b, o, none⟩) c w ok2 (by decide) he).mono ?_
  rintro e w' ⟨hb, ⟨rfl, hno⟩ | ⟨D, hg, _, ⟨rfl, hf⟩ | ⟨rfl, hts, _⟩ | ⟨g, cc, k, q, rfl, hB, k1, k2, hw, hs, hf⟩⟩⟩
  · exact (hno _ _ closed2).elim
  · exact ⟨rfl, hb⟩
  · exact absurd hts (by decide)
  · rw [dist2 hg 3 (by decide)] at hf; exact absurd hf (by decide)
end Diff
end Go.Proofs.Ytjhghkieghdoaaa
