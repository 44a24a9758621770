/- Rows of numbers and of edges in memory; whether a system is right, over the translated program. -/
import Derived.Test.YtjhghkieghdoaaaDiffMath
import Derived.WalkKit
import Derived.WalkLawsBesides
import Derived.WalkSpells
import Derived.Lib.Hide
import Derived.Lib.Walk
import Derived.Lib.SliceRun
import Derived.Deep.LoopGhost
import Derived.IntWalk
import Derived.BigQuiet
import Derived.Below
import Derived.Deep.QuietTactic
import Derived.Laws.MakeOwn
namespace Go.Proofs.Ytjhghkieghdoaaa
open Go.RowKit Go.Lib
namespace Diff
set_option linter.unusedVariables false
theorem ret_int {k : IntKind} {a b : Int} (h : a = b) : Ending.returned (.int k a) = .returned (.int k b) := by rw [h]
theorem ret_bool {a b : Bool} (h : a = b) : Ending.returned (.bool a) = .returned (.bool b) := by rw [h]
theorem bcell {W w1 : World} (hb : Below W.heap.size W w1) : (∀ b o, b < W.heap.size → w1.cell? ⟨b, o, none⟩ = W.cell? ⟨b, o, none⟩) ∧ (∀ b o, b < W.heap.size → w1.frozen? ⟨b, o, none⟩ = W.frozen? ⟨b, o, none⟩) :=
  ⟨fun b o h => hb.cell (p := ⟨b, o, none⟩) h, fun b o h => hb.frozen (p := ⟨b, o, none⟩) h⟩

/-! ### a row of numbers that is a block of its own -/
def IsB (w : World) (B n : Nat) (f : Nat → Int) : Prop := ∃ a t, w.heap[B]? = some (.cells a t) ∧ ∀ j, j < n → a[j]? = some (.int .i64 (f j))
section
variable {w w' : World} {B n : Nat} {f : Nat → Int}
theorem IsB.lt (h : IsB w B n f) : B < w.heap.size := by
  obtain ⟨a, t, h, _⟩ := h; exact (Array.getElem?_eq_some_iff.1 h).1
theorem IsB.at (h : IsB w B n f) {j : Nat} (hj : j < n) : w.cell? ⟨B, j, none⟩ = some (.int .i64 (f j)) := by
  obtain ⟨a, t, h1, h2⟩ := h; simp only [World.cell?, h1]; exact h2 j hj
theorem IsB.at0 (h : IsB w B n f) {j : Nat} (hj : j < n) : w.cell? ⟨B, 0 + j, none⟩ = some (.int .i64 (f j)) := by
  rw [Nat.zero_add]; exact h.at hj
theorem IsB.fz (h : IsB w B n f) (j : Nat) : w.frozen? ⟨B, j, none⟩ = false := by
  obtain ⟨a, t, h1, h2⟩ := h; simp [World.frozen?, h1]
theorem IsB.kept (h : IsB w B n f) (hb : w'.heap[B]? = w.heap[B]?) : IsB w' B n f := by
  obtain ⟨a, t, h1, h2⟩ := h; exact ⟨a, t, hb.trans h1, h2⟩
theorem IsB.below (h : IsB w B n f) (hb : Below w.heap.size w w') : IsB w' B n f := h.kept (hb.block B h.lt)
theorem IsB.set (h : IsB w B n f) (k : Nat) (x : Int) : IsB (w.setCell ⟨B, k, none⟩ (.int .i64 x)) B n (put f k x) := by
  obtain ⟨a, t, h1, h2⟩ := h
  refine ⟨a.setIfInBounds k (.int .i64 x), t, by simp [World.setCell, Array.getElem?_modify, h1], fun j hj => ?_⟩
  have hs : j < a.size := (Array.getElem?_eq_some_iff.1 (h2 j hj)).1
  by_cases e : j = k
  · subst e; simp [put, hs]
  · rw [put_ne _ _ e, Array.getElem?_setIfInBounds_ne (Ne.symm e)]; exact h2 j hj
theorem IsB.other (h : IsB w B n f) {a : Addr} (hne : B ≠ a.block) (u : Value) : IsB (w.setCell a u) B n f := h.kept (Below.heap_setCell w a u B hne)
theorem IsB.congr {g : Nat → Int} (h : IsB w B n f) (he : ∀ j, j < n → f j = g j) : IsB w B n g := by
  obtain ⟨a, t, h1, h2⟩ := h; exact ⟨a, t, h1, fun j hj => by rw [← he j hj]; exact h2 j hj⟩
end

/-! ### some blocks turned -/
/-- Of what was there nothing but some blocks has turned. -/
structure Turned (bs : List Nat) (w w' : World) : Prop where
  os : w'.os = w.os
  tape : w'.tape = w.tape
  output : w'.output = w.output
  size : w.heap.size ≤ w'.heap.size
  block : ∀ k, k < w.heap.size → k ∉ bs → w'.heap[k]? = w.heap[k]?
section
variable {bs : List Nat} {w w' w'' : World}
theorem Turned.refl (bs : List Nat) (w : World) : Turned bs w w := ⟨rfl, rfl, rfl, Nat.le_refl _, fun _ _ _ => rfl⟩
theorem Turned.trans (h : Turned bs w w') (k : Turned bs w' w'') : Turned bs w w'' :=
  ⟨k.os.trans h.os, k.tape.trans h.tape, k.output.trans h.output, Nat.le_trans h.size k.size, fun i hi hn => (k.block i (Nat.lt_of_lt_of_le hi h.size) hn).trans (h.block i hi hn)⟩
theorem Turned.of (h : Below w.heap.size w w') (bs : List Nat) : Turned bs w w' := ⟨h.os, h.tape, h.output, h.size, fun k hk _ => h.block k hk⟩
theorem Turned.mono {bs' : List Nat} (h : Turned bs w w') (hs : ∀ k ∈ bs, k ∈ bs') : Turned bs' w w' := ⟨h.os, h.tape, h.output, h.size, fun k hk hn => h.block k hk fun hm => hn (hs k hm)⟩
theorem Turned.below {N : Nat} (h : Turned bs w w') (hN : N ≤ w.heap.size) (hb : ∀ k ∈ bs, N ≤ k) : Below N w w' :=
  ⟨h.os, h.tape, h.output, h.size, fun k hk => h.block k (by omega) fun hm => by have := hb k hm; omega⟩
theorem Turned.alloc (h : Turned bs w w') (o : Obj) : Turned bs w (w'.alloc o) := h.trans (.of ((Below.refl _ _).alloc (Nat.le_refl _) o) _)
theorem Turned.drew (h : Turned bs w w') : Turned bs w w'.drew := h.trans (.of (Below.refl _ _).drew _)
theorem Turned.drewN (h : Turned bs w w') (n : Nat) : Turned bs w (w'.drewN n) := h.trans (.of (below_drewN (Below.refl _ _) n) _)
theorem Turned.set (h : Turned bs w w') {a : Addr} (ha : a.block ∈ bs ∨ w.heap.size ≤ a.block) (u : Value) : Turned bs w (w'.setCell a u) :=
  ⟨h.os, h.tape, h.output, by rw [World.size_setCell]; exact h.size, fun k hk hn => (Below.heap_setCell w' a u k (fun e => by
    rcases ha with ha | ha
    · exact hn (e ▸ ha)
    · omega)).trans (h.block k hk hn)⟩
theorem Turned.cell (h : Turned bs w w') {a : Addr} (ha : a.block < w.heap.size) (hn : a.block ∉ bs) : w'.cell? a = w.cell? a := World.cell?_of_block (w := w) (h.block a.block ha hn)
theorem Turned.frozen (h : Turned bs w w') {a : Addr} (ha : a.block < w.heap.size) (hn : a.block ∉ bs) : w'.frozen? a = w.frozen? a := World.frozen?_of_block (w := w) (h.block a.block ha hn)
theorem Turned.isB {B n : Nat} {f : Nat → Int} (h : Turned bs w w') (hB : IsB w B n f) (hn : B ∉ bs) : IsB w' B n f := hB.kept (h.block B hB.lt hn)
end

/-! ### rows of edges -/
/-- a slice of edges: nil or empty, or a row of cells -/
def IsEs (w : World) (a : Option Addr) (m : Nat) (f t g : Nat → Int) : Prop :=
  m = 0 ∨ ∃ b off, a = some ⟨b, off, none⟩ ∧ b < w.heap.size ∧ m ≤ maxLen ∧ ∀ j, j < m → w.cell? ⟨b, off + j * 3, none⟩ = some (.int .i64 (f j)) ∧ w.cell? ⟨b, off + j * 3 + 1, none⟩ = some (.int .i64 (t j)) ∧ w.cell? ⟨b, off + j * 3 + 2, none⟩ = some (.int .i64 (g j))
theorem IsEs.below {w w' : World} {a : Option Addr} {m : Nat} {f t g : Nat → Int} (h : IsEs w a m f t g) (hb : Below w.heap.size w w') : IsEs w' a m f t g := by
  rcases h with h | ⟨b, off, h1, h2, h3, h4⟩
  · exact .inl h
  · exact .inr ⟨b, off, h1, Nat.lt_of_lt_of_le h2 hb.size, h3, fun j hj => ⟨(hb.cell h2).trans (h4 j hj).1, (hb.cell h2).trans (h4 j hj).2.1, (hb.cell h2).trans (h4 j hj).2.2⟩⟩
theorem IsEs.turned {w w' : World} {bs : List Nat} {a : Option Addr} {m : Nat} {f t g : Nat → Int} (h : IsEs w a m f t g) (hb : Turned bs w w') (hn : 0 < m → ∀ x, a = some x → x.block ∉ bs) : IsEs w' a m f t g := by
  rcases Nat.eq_zero_or_pos m with h0 | h0
  · exact .inl h0
  rcases h with h | ⟨b, off, h1, h2, h3, h4⟩
  · exact .inl h
  · have hn : b ∉ bs := hn h0 _ h1
    have e : ∀ o, w'.cell? ⟨b, o, none⟩ = w.cell? ⟨b, o, none⟩ := fun o => hb.cell (a := ⟨b, o, none⟩) h2 hn
    exact .inr ⟨b, off, h1, Nat.lt_of_lt_of_le h2 hb.size, h3, fun j hj => ⟨(e _).trans (h4 j hj).1, (e _).trans (h4 j hj).2.1, (e _).trans (h4 j hj).2.2⟩⟩

theorem IsEs.lt {w : World} {a : Option Addr} {m : Nat} {f t g : Nat → Int} (h : IsEs w a m f t g) (h0 : 0 < m) : ∀ x, a = some x → x.block < w.heap.size := by
  intro x hx
  rcases h with h | ⟨b, off, h1, h2, _⟩
  · omega
  · rw [h1] at hx; cases hx; exact h2
/-! ### isIn, Right -/
def inB (x n : Int) : Bool := decide (0 ≤ x) && decide (x < n)
theorem inB_iff {x n : Int} : inB x n = true ↔ 0 ≤ x ∧ x < n := by unfold inB; simp
theorem isIn_any (x n : Int) (w : World) : Calls Try.prog 20 #[.int .i64 x, .int .i64 n] w fun e w' => e = .returned (.bool (inB x n)) ∧ w = w' := by
  by_cases h1 : 0 ≤ x
  · by_cases h2 : x < n
    · have hr : inB x n = true := inB_iff.2 ⟨h1, h2⟩
      generalize inB x n = z at *
      subst hr
      go_enter Try.func20, Try.ntmps20
      go_wp2
      go_ret
      exact ⟨rfl, rfl⟩
    · have hr : inB x n = false := by unfold inB; simp [h2]
      generalize inB x n = z at *
      subst hr
      go_enter Try.func20, Try.ntmps20
      go_wp2
      go_ret
      exact ⟨rfl, rfl⟩
  · have hr : inB x n = false := by unfold inB; simp [h1]
    generalize inB x n = z at *
    subst hr
    go_enter Try.func20, Try.ntmps20
    go_wp2
    go_ret
    exact ⟨rfl, rfl⟩
/-- an edge that isn't right -/
def badE (n f t g : Int) : Bool := !(inB f n) || !(inB t n) || decide (g < -2199023255552) || decide (2199023255552 < g)
theorem badE_false {n f t g : Int} : badE n f t g = false ↔ (0 ≤ f ∧ f < n) ∧ (0 ≤ t ∧ t < n) ∧ -2199023255552 ≤ g ∧ g ≤ 2199023255552 := by
  unfold badE
  simp only [Bool.or_eq_false_iff, Bool.not_eq_false', inB_iff, decide_eq_false_iff_not]
  omega
theorem right1_any (A : Nat) (n f t g : Int) (w : World) (hA : w.cell? ⟨A, 0, none⟩ = some (.int .i64 n)) :
    Calls Try.prog 23 #[.agg #[.int .i64 f, .int .i64 t, .int .i64 g], .pointer (some ⟨A, 0, none⟩)] w fun e w' => e = .returned (.bool (badE n f t g)) ∧ Below w.heap.size w w' := by
  have hlt := World.block_lt_of_cell? _ _ hA
  have hne : A ≠ w.heap.size := by simp at hlt; omega
  have hb : Below w.heap.size w (w.alloc (.cells #[.int .i64 f, .int .i64 t, .int .i64 g] 42)) := (Below.refl _ _).alloc (Nat.le_refl _) _
  have HB := Lib.hid hb; clear hb
  cases h1 : inB f n with
  | false =>
    have hr : badE n f t g = true := by unfold badE; simp [h1]
    generalize badE n f t g = z at *
    subst hr
    have H1 := Lib.hid h1; clear h1
    go_enter Try.func23, Try.ntmps23
    go_wp2_with fail
    refine (isIn_any _ _ _).mono ?_
    rintro e w' ⟨rfl, rfl⟩
    rw [H1.out]
    go_wp2_with fail
    go_ret
    exact ⟨rfl, HB.out⟩
  | true =>
    cases h2 : inB t n with
    | false =>
      have hr : badE n f t g = true := by unfold badE; simp [h2]
      generalize badE n f t g = z at *
      subst hr
      have H1 := Lib.hid h1; clear h1
      have H2 := Lib.hid h2; clear h2
      go_enter Try.func23, Try.ntmps23
      go_wp2_with fail
      refine (isIn_any _ _ _).mono ?_
      rintro e w' ⟨rfl, rfl⟩
      rw [H1.out]
      go_wp2_with fail
      refine (isIn_any _ _ _).mono ?_
      rintro e w' ⟨rfl, rfl⟩
      rw [H2.out]
      go_wp2_with fail
      go_ret
      exact ⟨rfl, HB.out⟩
    | true =>
      have hr : badE n f t g = (decide (g < -2199023255552) || decide (2199023255552 < g)) := by unfold badE; simp [h1, h2]
      rw [hr]; clear hr
      have H1 := Lib.hid h1; clear h1
      have H2 := Lib.hid h2; clear h2
      by_cases h3 : g < -2199023255552
      · have hr : (decide (g < -2199023255552) || decide (2199023255552 < g)) = true := by simp [h3]
        rw [hr]; clear hr
        go_enter Try.func23, Try.ntmps23
        go_wp2_with fail
        refine (isIn_any _ _ _).mono ?_
        rintro e w' ⟨rfl, rfl⟩
        rw [H1.out]
        go_wp2_with fail
        refine (isIn_any _ _ _).mono ?_
        rintro e w' ⟨rfl, rfl⟩
        rw [H2.out]
        go_wp2_with fail
        go_ret
        exact ⟨rfl, HB.out⟩
      · by_cases h4 : 2199023255552 < g
        · have hr : (decide (g < -2199023255552) || decide (2199023255552 < g)) = true := by simp [h4]
          rw [hr]; clear hr
          go_enter Try.func23, Try.ntmps23
          go_wp2_with fail
          refine (isIn_any _ _ _).mono ?_
          rintro e w' ⟨rfl, rfl⟩
          rw [H1.out]
          go_wp2_with fail
          refine (isIn_any _ _ _).mono ?_
          rintro e w' ⟨rfl, rfl⟩
          rw [H2.out]
          go_wp2_with fail
          go_ret
          exact ⟨rfl, HB.out⟩
        · have hr : (decide (g < -2199023255552) || decide (2199023255552 < g)) = false := by simp [h3, h4]
          rw [hr]; clear hr
          have hd3 : decide (g < -2199023255552) = false := by simp; omega
          have hd4 : decide (2199023255552 < g) = false := by simp; omega
          go_enter Try.func23, Try.ntmps23
          go_wp2_with fail
          refine (isIn_any _ _ _).mono ?_
          rintro e w' ⟨rfl, rfl⟩
          rw [H1.out]
          go_wp2_with fail
          refine (isIn_any _ _ _).mono ?_
          rintro e w' ⟨rfl, rfl⟩
          rw [H2.out]
          go_wp2_with fail
          go_ret
          exact ⟨rfl, HB.out⟩
/-! ### the library's search by a function -/
/-- the first place that a test takes, -1 if none -/
def idx (p : Nat → Bool) : Nat → Nat → Int
  | 0, _ => -1
  | k + 1, i => if p i = true then i else idx p k (i + 1)
def anyTo (p : Nat → Bool) : Nat → Bool
  | 0 => false
  | k + 1 => anyTo p k || p k
theorem anyTo_iff {p : Nat → Bool} {k : Nat} : anyTo p k = true ↔ ∃ i, i < k ∧ p i = true := by
  induction k with
  | zero => simp [anyTo]
  | succ k ih =>
    simp only [anyTo, Bool.or_eq_true, ih]
    constructor
    · rintro (⟨i, h1, h2⟩ | h)
      · exact ⟨i, by omega, h2⟩
      · exact ⟨k, by omega, h⟩
    · rintro ⟨i, h1, h2⟩
      by_cases e : i = k
      · subst e; exact .inr h2
      · exact .inl ⟨i, by omega, h2⟩
theorem anyTo_false {p : Nat → Bool} {k : Nat} : anyTo p k = false ↔ ∀ i, i < k → p i = false := by
  rw [← Bool.not_eq_true, anyTo_iff]
  constructor
  · intro h i hi; cases hp : p i with
    | false => rfl
    | true => exact absurd ⟨i, hi, hp⟩ h
  · rintro h ⟨i, h1, h2⟩; rw [h i h1] at h2; cases h2
set_option maxHeartbeats 1000000 in
/-- slices.IndexFunc of edges -/
theorem index_es (a : Option Addr) (m c : Nat) (f t g : Nat → Int) (p : Nat → Bool) (fn : Nat) (lb : Array Value) (w : World) (eg : ∀ args w, (callFunc fn args).run Try.prog w = .ok (.enter fn args) w) (he : IsEs w a m f t g) (hm : m ≤ 100000000)
    (hp : ∀ j, j < m → ∀ W, Below w.heap.size w W → Calls Try.prog fn (#[.agg #[.int .i64 (f j), .int .i64 (t j), .int .i64 (g j)]] ++ lb) W fun e w' => e = .returned (.bool (p j)) ∧ Below W.heap.size W w') :
    Calls Try.prog 32 #[.slice a m c, .func (.func fn) #[] lb] w fun e w' => ∃ i : Int, e = .returned (.int .i64 i) ∧ decide (0 ≤ i) = anyTo p m ∧ Below w.heap.size w w' := by
  have HE := Lib.hid he; clear he
  have HP := Lib.hid hp; clear hp
  have EG := Lib.hid eg; clear eg
  go_enter Try.func32, Try.ntmps32
  go_wp2_with fail
  go_loopg [5, 8] m (fun gg _ s8 wr => ∃ k : Nat, k ≤ m ∧ m - k ≤ gg ∧ s8 = .int .i64 k ∧ Hid (Below w.heap.size w wr) ∧ Hid (anyTo p k = false))
  case atStart => exact ⟨0, Nat.zero_le _, by omega, rfl, Lib.hid (Below.refl _ _), Lib.hid rfl⟩
  case round =>
    obtain ⟨k, hk, hg, rfl, BW, AN⟩ := hrel
    by_cases hlt : k < m
    · rcases HE.out with h0 | ⟨b, off, rfl, hb, hmx, hc⟩
      · omega
      · obtain ⟨c0, c1, c2⟩ := hc k hlt
        have d0 := (BW.out.cell hb).trans c0
        have d1 := (BW.out.cell hb).trans c1
        have d2 := (BW.out.cell hb).trans c2
        have hcall := HP.out k hlt wr BW.out
        clear hc hmx c0 c1 c2
        have eg := EG.out
        cases hq : p k with
        | true =>
          rw [hq] at hcall
          have HQ := Lib.hid hq; clear hq
          have HC := Lib.hid hcall; clear hcall
          go_wp2_with fail
          refine HC.out.mono ?_
          rintro e w' ⟨rfl, hb⟩
          have HB := Lib.hid hb
          clear hb eg d0 d1 d2
          go_wp2_with fail
          go_ret
          exact ⟨_, rfl, by rw [anyTo_iff.2 ⟨k, hlt, HQ.out⟩]; simp, BW.out.trans (HB.out.mono BW.out.size)⟩
        | false =>
          rw [hq] at hcall
          have HQ := Lib.hid hq; clear hq
          have HC := Lib.hid hcall; clear hcall
          go_wp2_with fail
          refine HC.out.mono ?_
          rintro e w' ⟨rfl, hb⟩
          have HB := Lib.hid hb
          clear hb eg d0 d1 d2
          go_wp2_with fail
          go_roundg (m - (k + 1))
          case measure => omega
          case rel => exact ⟨k + 1, by omega, by omega, by go_num, Lib.hid (BW.out.trans (HB.out.mono BW.out.size)), Lib.hid (by unfold anyTo; rw [AN.out, HQ.out]; rfl)⟩
    · obtain rfl : k = m := by omega
      go_wp2_with fail
      go_ret
      exact ⟨_, rfl, by rw [AN.out]; rfl, BW.out⟩
end Diff
end Go.Proofs.Ytjhghkieghdoaaa
