/- One look through all edges (nearer), over the translated program. -/
import Derived.Test.YtjhghkieghdoaaaDiffLook
namespace Go.Proofs.Ytjhghkieghdoaaa
open Go.RowKit Go.Lib
namespace Diff
set_option linter.unusedVariables false
/-- the place that is looked at as the j-th one -/
def turnI (m : Nat) (back : Bool) (j : Nat) : Nat := if back = true then m - 1 - j else j
/-- behind j looks of a round that began with D0, L0 -/
structure Mid (S : Sys) (K : Nat) (D0 L0 : Nat → Int) (back : Bool) (j : Nat) (D L : Nat → Int) (fd : Bool) : Prop where
  inv : Inv S (K + j) D L
  top : ∀ v, v < S.n → D0 v ≤ Far
  le : ∀ v, v < S.n → D v ≤ D0 v
  seen : ∀ i, i < j → D0 (S.F (turnI S.m back i)) ≠ Far → D (S.T (turnI S.m back i)) ≤ D0 (S.F (turnI S.m back i)) + S.W (turnI S.m back i)
  no : fd = false → D = D0 ∧ L = L0
  yes : fd = true → ∃ v, v < S.n ∧ D v < D0 v
theorem turnI_lt {m : Nat} {back : Bool} {j : Nat} (h : j < m) : turnI m back j < m := by unfold turnI; split <;> omega
section
variable {S : Sys} {K : Nat} {D0 L0 D L : Nat → Int} {back fd : Bool} {j : Nat}
theorem Inv.grow (h : Inv S K D L) {K' : Nat} (hK : K ≤ K') : Inv S K' D L := by
  refine ⟨fun v hv => ?_, h.src, h.last, h.root, h.rank, h.great⟩
  rcases h.bnd v hv with b | b
  · exact .inl b
  · right; omega
theorem Mid.start (h : Inv S K D0 L0) (hK : K ≤ 20000) : Mid S K D0 L0 back 0 D0 L0 false :=
  ⟨h, fun v hv => h.far hK hv, fun v _ => Int.le_refl _, fun i hi => by omega, fun _ => ⟨rfl, rfl⟩, fun h => by cases h⟩
theorem Mid.next (h : Mid S K D0 L0 back j D L fd) (ok : S.Ok) (hj : j < S.m) (hK : K + j < 20000) :
    Mid S K D0 L0 back (j + 1) (lookD S D (turnI S.m back j)) (lookL S D L (turnI S.m back j)) (fd || hit S D (turnI S.m back j)) := by
  have hi := turnI_lt (back := back) hj
  generalize hq : turnI S.m back j = i at *
  have hF := ok.hF i hi
  have hT := ok.hT i hi
  unfold lookD lookL
  cases hh : hit S D i with
  | true =>
    have h12 : D (S.F i) ≠ Far ∧ D (S.F i) + S.W i < D (S.T i) := by unfold hit at hh; simpa using hh
    simp only [if_true, Bool.or_true]
    have hle : ∀ v, put D (S.T i) (D (S.F i) + S.W i) v ≤ D v := fun v => by
      by_cases e : v = S.T i
      · subst e; rw [put_at]; omega
      · rw [put_ne _ _ e]; omega
    refine ⟨h.inv.upd ok hK hi h12.1 h12.2, h.top, fun v hv => by have := hle v; have := h.le v hv; omega, fun k hk hd => ?_, (by intro h; cases h), fun _ => ⟨S.T i, hT, by rw [put_at]; have := h.le _ hT; omega⟩⟩
    rcases Nat.lt_or_ge k j with h' | h'
    · have := h.seen k h' hd; have := hle (S.T (turnI S.m back k)); omega
    · obtain rfl : k = j := by omega
      rw [hq] at hd ⊢
      rw [put_at]
      have := h.le _ hF; omega
  | false =>
    simp only [Bool.false_eq_true, if_false, Bool.or_false]
    have hno : D (S.F i) ≠ Far → ¬ D (S.F i) + S.W i < D (S.T i) := by
      intro h1 h2; unfold hit at hh; simp [h1, h2] at hh
    refine ⟨h.inv.grow (by omega), h.top, h.le, fun k hk hd => ?_, h.no, h.yes⟩
    rcases Nat.lt_or_ge k j with h' | h'
    · exact h.seen k h' hd
    · obtain rfl : k = j := by omega
      rw [hq] at hd ⊢
      have l1 := h.le _ hF
      have hne : D (S.F i) ≠ Far := by have := h.top _ hF; omega
      have := hno hne
      omega
/-- behind all looks: what was seen -/
theorem Mid.all (h : Mid S K D0 L0 back S.m D L fd) : ∀ i, i < S.m → D0 (S.F i) ≠ Far → D (S.T i) ≤ D0 (S.F i) + S.W i := by
  intro i hi hd
  cases back with
  | false => exact h.seen i hi hd
  | true =>
    have := h.seen (S.m - 1 - i) (by omega)
    have e : turnI S.m true (S.m - 1 - i) = i := by unfold turnI; simp; omega
    rw [e] at this
    exact this hd
theorem Mid.shut (h : Mid S K D0 L0 back S.m D L false) : D = D0 ∧ L = L0 ∧ Shut S D0 := by
  obtain ⟨h1, h2⟩ := h.no rfl
  have := h.all
  rw [h1] at this
  exact ⟨h1, h2, this⟩
end
/-- what nearer leaves -/
def NearP (S : Sys) (A : At) (K : Nat) (D0 L0 : Nat → Int) (back : Bool) (w : World) (e : Ending) (w' : World) : Prop :=
  ∃ D L fd, e = .returned (.bool fd) ∧ Turned [A.d, A.l] w w' ∧ Rows S A D L w' ∧ Mid S K D0 L0 back S.m D L fd
/-- between two looks: B and B + 1 are the call's own -/
structure NearR (S : Sys) (A : At) (K : Nat) (D0 L0 : Nat → Int) (back : Bool) (w : World) (B j : Nat) (wr : World) : Prop where
  mid : ∃ D L fd, Rows S A D L wr ∧ Mid S K D0 L0 back j D L fd ∧ wr.cell? ⟨B + 1, 0, none⟩ = some (.bool fd)
  fz : wr.frozen? ⟨B + 1, 0, none⟩ = false
  b0 : wr.cell? ⟨B, 0, none⟩ = some (.slice A.a S.m A.c)
  b1 : wr.cell? ⟨B, 1, none⟩ = some (.slice (some ⟨A.d, 0, none⟩) S.n S.n)
  b2 : wr.cell? ⟨B, 2, none⟩ = some (.slice (some ⟨A.l, 0, none⟩) S.n S.n)
  turned : Turned [A.d, A.l] w wr
set_option maxHeartbeats 2000000 in
theorem near_any (S : Sys) (A : At) (K : Nat) (D0 L0 : Nat → Int) (back : Bool) (w : World) (ok : S.Ok) (hr : Rows S A D0 L0 w) (hv : Inv S K D0 L0) (hK : K + S.m ≤ 20000) :
    Calls Try.prog 30 #[.agg #[.slice A.a S.m A.c, .slice (some ⟨A.d, 0, none⟩) S.n S.n, .slice (some ⟨A.l, 0, none⟩) S.n S.n], .bool back] w (NearP S A K D0 L0 back w) := by
  have hm := ok.hm
  have hld := hr.dist.lt
  have hll := hr.last.lt
  have hM := Mid.start (back := back) hv (by omega)
  have HR := Lib.hid hr; clear hr
  have HM := Lib.hid hM; clear hM hv
  go_enter Try.func30, Try.ntmps30
  go_wp2_with fail
  obtain ⟨Bq, hBq⟩ : ∃ Bq, Bq = w.heap.size := ⟨_, rfl⟩
  have hba : Below w.heap.size w ((w.alloc (.cells #[.slice A.a S.m A.c, .slice (some ⟨A.d, 0, none⟩) S.n S.n, .slice (some ⟨A.l, 0, none⟩) S.n S.n] 48)).alloc (.cells #[.bool false] 4)) := ((Below.refl _ _).alloc (Nat.le_refl _) _).alloc (by simp) _
  have hR0 : NearR S A K D0 L0 back w Bq 0 ((w.alloc (.cells #[.slice A.a S.m A.c, .slice (some ⟨A.d, 0, none⟩) S.n S.n, .slice (some ⟨A.l, 0, none⟩) S.n S.n] 48)).alloc (.cells #[.bool false] 4)) := by
    subst hBq
    exact ⟨⟨D0, L0, false, HR.out.below hba, HM.out, by simp [go_sem]⟩, by simp [go_sem], by simp [go_sem], by simp [go_sem], by simp [go_sem], Turned.of hba _⟩
  rw [← hBq]
  have HR0 := Lib.hid hR0; clear hR0 hba
  have HBQ := Lib.hid hBq; clear hBq
  go_loopg [7, 12] S.m (fun gg _ s12 wr => ∃ j : Nat, j ≤ S.m ∧ S.m - j ≤ gg ∧ s12 = .int .i64 j ∧ Hid (NearR S A K D0 L0 back w Bq j wr))
  case atStart => exact ⟨0, Nat.zero_le _, by omega, rfl, HR0⟩
  case round =>
    obtain ⟨j, hj, hg, rfl, HN⟩ := hrel
    by_cases hlt : j < S.m
    · obtain ⟨⟨D, L, fd, r1, r2, r3⟩, r4, r5, r6, r7, r8⟩ := HN.out
      have hD : ∀ v, v < S.n → -1000000000000000000 ≤ D v ∧ D v ≤ Far := fun v hv => ⟨by have := r2.inv.low (by omega) hv; omega, r2.inv.far (by omega) hv⟩
      have hcall := look_any S A D L Bq (Bq + 1) fd (turnI S.m back j) wr ok r1 (turnI_lt hlt) hD r5 r6 r7 r3 r4 (by have := HBQ.out; omega) (by have := HBQ.out; omega) (by omega) (by have := HBQ.out; omega) (by have := HBQ.out; omega) (fun x hx => by
        rcases HR.out.es with h0 | ⟨b, off, h1, h2, _⟩
        · omega
        · rw [h1] at hx; cases hx; have := HBQ.out; simp; omega)
      have HCALL := Lib.hid hcall; clear hcall
      have R2 := Lib.hid r2; clear r2
      have R8 := Lib.hid r8; clear r8 r1 hD
      have hnext : ∀ e w1, LookP S A D L (Bq + 1) fd (turnI S.m back j) wr e w1 → e = .returned (.tuple #[]) ∧ Hid (NearR S A K D0 L0 back w Bq (j + 1) w1) := by
        intro e w1 ⟨h1, h2, h3, h4, h5⟩
        have hszB : Bq + 1 < wr.heap.size := World.block_lt_of_cell? _ _ r3
        have kp : ∀ o, w1.cell? ⟨Bq, o, none⟩ = wr.cell? ⟨Bq, o, none⟩ := fun o => h2.cell (a := ⟨Bq, o, none⟩) (by simp; omega) (by have := HBQ.out; simp; omega)
        refine ⟨h1, Lib.hid ⟨⟨_, _, _, h3, R2.out.next ok hlt (by omega), h4⟩, h5, (kp 0).trans r5, (kp 1).trans r6, (kp 2).trans r7, ?_⟩⟩
        have hw := R8.out.size
        exact ⟨h2.os.trans R8.out.os, h2.tape.trans R8.out.tape, h2.output.trans R8.out.output, Nat.le_trans R8.out.size h2.size, fun k hk hn => (h2.block k (by omega) (by
          simp only [List.mem_cons, List.not_mem_nil, or_false, not_or] at hn ⊢
          exact ⟨hn.1, hn.2, by have := HBQ.out; omega⟩)).trans (R8.out.block k hk hn)⟩
      have HNEXT := Lib.hid hnext; clear hnext
      have heg : ∀ args w, (callFunc 35 args).run Try.prog w = .ok (.enter 35 args) w := fun _ _ => rfl
      cases back with
      | true =>
        have hx : ((S.m : Int) - 1 - (j : Int)) = ((turnI S.m true j : Nat) : Int) := by unfold turnI; simp; omega
        have HX := Lib.hid hx; clear hx
        go_wp2_with fail
        rw [HX.out]
        refine HCALL.out.mono ?_
        intro e w1 hp
        obtain ⟨rfl, HN2⟩ := HNEXT.out e w1 hp
        clear hp r3 r4 r5 r6 r7
        go_wp2_with fail
        go_roundg (S.m - (j + 1))
        case measure => omega
        case rel => exact ⟨j + 1, by omega, by omega, by go_num, HN2⟩
      | false =>
        have hx : (j : Int) = ((turnI S.m false j : Nat) : Int) := by unfold turnI; simp
        have HX := Lib.hid hx; clear hx
        go_wp2_with fail
        refine (show Calls _ _ _ _ _ from by rw [HX.out]; exact HCALL.out).mono ?_
        intro e w1 hp
        obtain ⟨rfl, HN2⟩ := HNEXT.out e w1 hp
        clear hp r3 r4 r5 r6 r7
        go_wp2_with fail
        go_roundg (S.m - (j + 1))
        case measure => omega
        case rel => exact ⟨j + 1, by omega, by omega, by go_num, HN2⟩
    · obtain rfl : j = S.m := by omega
      obtain ⟨⟨D, L, fd, r1, r2, r3⟩, r4, r5, r6, r7, r8⟩ := HN.out
      have R1 := Lib.hid r1; clear r1
      have R2 := Lib.hid r2; clear r2
      have R8 := Lib.hid r8; clear r8
      clear hlt
      go_wp2_with fail
      go_ret
      exact ⟨D, L, fd, rfl, R8.out, R1.out, R2.out⟩
end Diff
end Go.Proofs.Ytjhghkieghdoaaa
