/- slices.IndexFunc and ContainsFunc of cars, stops, numbers and rows of numbers; over the translated program. (Printed by drafts/gen_find.py.) -/
import Derived.Test.YtjmhlabgoegeoaaGreatDoorSheetLeaf2
import Derived.Deep.LoopGhost
import Derived.Lib.Walk
namespace Go.Proofs.YtjmhlabgoegeoaaGreatDoor
namespace Sheet
open Go Go.RowKit Deci
attribute [local go_sem] store_cx
def anyTo (p : Nat → Bool) : Nat → Bool
  | 0 => false
  | k + 1 => anyTo p k || p k
theorem anyTo_iff {p : Nat → Bool} {k : Nat} : anyTo p k = true ↔ ∃ i, i < k ∧ p i = true := by
  induction k with
  | zero => simp [anyTo]
  | succ k ih =>
    simp only [anyTo, Bool.or_eq_true, ih]
    constructor
    · rintro (⟨i, h1, h2⟩ | h)
      · exact ⟨i, by omega, h2⟩
      · exact ⟨k, by omega, h⟩
    · rintro ⟨i, h1, h2⟩
      by_cases e : i = k
      · subst e; exact .inr h2
      · exact .inl ⟨i, by omega, h2⟩
theorem anyTo_false {p : Nat → Bool} {k : Nat} : anyTo p k = false ↔ ∀ i, i < k → p i = false := by
  rw [← Bool.not_eq_true, anyTo_iff]
  constructor
  · intro h i hi; cases hp : p i with
    | false => rfl
    | true => exact absurd ⟨i, hi, hp⟩ h
  · rintro h ⟨i, h1, h2⟩; rw [h i h1] at h2; cases h2
/-- A slice of elements: nil or empty, or a row of cells. -/
def IsCar (w : World) (a : Option Addr) (m : Nat) (x : Nat → Int) (y : Nat → Int) (z : Nat → Int) : Prop :=
  m = 0 ∨ ∃ b off, a = some ⟨b, off, none⟩ ∧ b < w.heap.size ∧ ∀ j, j < m → w.cell? ⟨b, off + j * 3, none⟩ = some (.int .i64 (x j)) ∧ w.cell? ⟨b, off + j * 3 + 1, none⟩ = some (.int .i64 (y j)) ∧ w.cell? ⟨b, off + j * 3 + 2, none⟩ = some (.int .i64 (z j))
theorem IsCar.below {w w' : World} {a : Option Addr} {m : Nat} {x : Nat → Int} {y : Nat → Int} {z : Nat → Int} (h : IsCar w a m x y z) (hb : Below w.heap.size w w') : IsCar w' a m x y z := by
  rcases h with h | ⟨b, off, h1, h2, h3⟩
  · exact .inl h
  · refine .inr ⟨b, off, h1, Nat.lt_of_lt_of_le h2 hb.size, fun j hj => ?_⟩
    have h := h3 j hj
    exact ⟨(hb.cell h2).trans h.1, (hb.cell h2).trans h.2.1, (hb.cell h2).trans h.2.2⟩
set_option maxHeartbeats 2000000 in
theorem index_car (a : Option Addr) (m c : Nat) (x : Nat → Int) (y : Nat → Int) (z : Nat → Int) (p : Nat → Bool) (fn : Nat) (lb : Array Value) (w : World) (eg : ∀ args w, (callFunc fn args).run Tryz.prog w = .ok (.enter fn args) w) (he : IsCar w a m x y z) (hm : m ≤ 5000)
    (hp : ∀ j, j < m → ∀ W, Below w.heap.size w W → Calls Tryz.prog fn (#[.agg #[.int .i64 (x j), .int .i64 (y j), .int .i64 (z j)]] ++ lb) W fun e w' => e = .returned (.bool (p j)) ∧ Below W.heap.size W w') :
    Calls Tryz.prog 60 #[.slice a m c, .func (.func fn) #[] lb] w fun e w' => ∃ i : Int, e = .returned (.int .i64 i) ∧ decide (0 ≤ i) = anyTo p m ∧ Below w.heap.size w w' := by
  have HE := Lib.hid he; clear he
  have HP := Lib.hid hp; clear hp
  have EG := Lib.hid eg; clear eg
  go_enter Tryz.func60, Tryz.ntmps60
  go_wp2_with fail
  go_loopg [5, 8] m (fun gg _ s8 wr => ∃ k : Nat, k ≤ m ∧ m - k ≤ gg ∧ s8 = .int .i64 k ∧ Hid (Below w.heap.size w wr) ∧ Hid (anyTo p k = false))
  case atStart => exact ⟨0, Nat.zero_le _, by omega, rfl, Lib.hid (Below.refl _ _), Lib.hid rfl⟩
  case round =>
    obtain ⟨k, hk, hg, rfl, BW, AN⟩ := hrel
    by_cases hlt : k < m
    · rcases HE.out with h0 | ⟨b, off, rfl, hb, hc⟩
      · omega
      · have hc0 := hc k hlt
        obtain ⟨c0, c1, c2⟩ := hc0
        have d0 := (BW.out.cell hb).trans c0
        have d1 := (BW.out.cell hb).trans c1
        have d2 := (BW.out.cell hb).trans c2
        have hcall := HP.out k hlt wr BW.out
        clear hc c0 c1 c2
        have eg := EG.out
        cases hq : p k with
        | true =>
          rw [hq] at hcall
          have HQ := Lib.hid hq; clear hq
          have HC := Lib.hid hcall; clear hcall
          go_wp2_with fail
          refine HC.out.mono ?_
          rintro e w' ⟨rfl, hb⟩
          have HB := Lib.hid hb
          clear hb eg d0 d1 d2
          go_wp2_with fail
          go_ret
          exact ⟨_, rfl, by rw [anyTo_iff.2 ⟨k, hlt, HQ.out⟩]; simp, BW.out.trans (HB.out.mono BW.out.size)⟩
        | false =>
          rw [hq] at hcall
          have HQ := Lib.hid hq; clear hq
          have HC := Lib.hid hcall; clear hcall
          go_wp2_with fail
          refine HC.out.mono ?_
          rintro e w' ⟨rfl, hb⟩
          have HB := Lib.hid hb
          clear hb eg d0 d1 d2
          go_wp2_with fail
          go_roundg (m - (k + 1))
          case measure => omega
          case rel => exact ⟨k + 1, by omega, by omega, by go_num, Lib.hid (BW.out.trans (HB.out.mono BW.out.size)), Lib.hid (by unfold anyTo; rw [AN.out, HQ.out]; rfl)⟩
    · obtain rfl : k = m := by omega
      go_wp2_with fail
      go_ret
      exact ⟨_, rfl, by rw [AN.out]; rfl, BW.out⟩
theorem contains_car (a : Option Addr) (m c : Nat) (x : Nat → Int) (y : Nat → Int) (z : Nat → Int) (p : Nat → Bool) (fn : Nat) (lb : Array Value) (w : World) (eg : ∀ args w, (callFunc fn args).run Tryz.prog w = .ok (.enter fn args) w) (he : IsCar w a m x y z) (hm : m ≤ 5000)
    (hp : ∀ j, j < m → ∀ W, Below w.heap.size w W → Calls Tryz.prog fn (#[.agg #[.int .i64 (x j), .int .i64 (y j), .int .i64 (z j)]] ++ lb) W fun e w' => e = .returned (.bool (p j)) ∧ Below W.heap.size W w') :
    Calls Tryz.prog 30 #[.slice a m c, .func (.func fn) #[] lb] w fun e w' => e = .returned (.bool (anyTo p m)) ∧ Below w.heap.size w w' := by
  have h := index_car a m c x y z p fn lb w eg he hm hp
  have H := Lib.hid h; clear h hp he eg
  go_enter Tryz.func30, Tryz.ntmps30
  go_wp2_with fail
  refine H.out.mono ?_
  rintro e w' ⟨i, rfl, h1, h2⟩
  have H1 := Lib.hid h1; clear h1
  have H2 := Lib.hid h2; clear h2
  go_wp2_with fail
  go_ret
  exact ⟨ret_bool H1.out, H2.out⟩
/-- A slice of elements: nil or empty, or a row of cells. -/
def IsStop (w : World) (a : Option Addr) (m : Nat) (s : Nat → Int) (t : Nat → Int) (x : Nat → Int) (y : Nat → Int) (z : Nat → Int) (u : Nat → Nat) (v : Nat → Nat) : Prop :=
  m = 0 ∨ ∃ b off, a = some ⟨b, off, none⟩ ∧ b < w.heap.size ∧ ∀ j, j < m → w.cell? ⟨b, off + j * 6, none⟩ = some (.int .i64 (s j)) ∧ w.cell? ⟨b, off + j * 6 + 1, none⟩ = some (.int .i64 (t j)) ∧ w.cell? ⟨b, off + j * 6 + 2, none⟩ = some (.int .i64 (x j)) ∧ w.cell? ⟨b, off + j * 6 + 3, none⟩ = some (.int .i64 (y j)) ∧ w.cell? ⟨b, off + j * 6 + 4, none⟩ = some (.int .i64 (z j)) ∧ w.cell? ⟨b, off + j * 6 + 5, none⟩ = some (.complex .f64 (u j) (v j))
theorem IsStop.below {w w' : World} {a : Option Addr} {m : Nat} {s : Nat → Int} {t : Nat → Int} {x : Nat → Int} {y : Nat → Int} {z : Nat → Int} {u : Nat → Nat} {v : Nat → Nat} (h : IsStop w a m s t x y z u v) (hb : Below w.heap.size w w') : IsStop w' a m s t x y z u v := by
  rcases h with h | ⟨b, off, h1, h2, h3⟩
  · exact .inl h
  · refine .inr ⟨b, off, h1, Nat.lt_of_lt_of_le h2 hb.size, fun j hj => ?_⟩
    have h := h3 j hj
    exact ⟨(hb.cell h2).trans h.1, (hb.cell h2).trans h.2.1, (hb.cell h2).trans h.2.2.1, (hb.cell h2).trans h.2.2.2.1, (hb.cell h2).trans h.2.2.2.2.1, (hb.cell h2).trans h.2.2.2.2.2⟩
set_option maxHeartbeats 2000000 in
theorem index_stop (a : Option Addr) (m c : Nat) (s : Nat → Int) (t : Nat → Int) (x : Nat → Int) (y : Nat → Int) (z : Nat → Int) (u : Nat → Nat) (v : Nat → Nat) (p : Nat → Bool) (fn : Nat) (lb : Array Value) (w : World) (eg : ∀ args w, (callFunc fn args).run Tryz.prog w = .ok (.enter fn args) w) (he : IsStop w a m s t x y z u v) (hm : m ≤ 5000)
    (hp : ∀ j, j < m → ∀ W, Below w.heap.size w W → Calls Tryz.prog fn (#[.agg #[.int .i64 (s j), .int .i64 (t j), .int .i64 (x j), .int .i64 (y j), .int .i64 (z j), .complex .f64 (u j) (v j)]] ++ lb) W fun e w' => e = .returned (.bool (p j)) ∧ Below W.heap.size W w') :
    Calls Tryz.prog 63 #[.slice a m c, .func (.func fn) #[] lb] w fun e w' => ∃ i : Int, e = .returned (.int .i64 i) ∧ decide (0 ≤ i) = anyTo p m ∧ Below w.heap.size w w' := by
  have HE := Lib.hid he; clear he
  have HP := Lib.hid hp; clear hp
  have EG := Lib.hid eg; clear eg
  go_enter Tryz.func63, Tryz.ntmps63
  go_wp2_with fail
  go_loopg [5, 8] m (fun gg _ s8 wr => ∃ k : Nat, k ≤ m ∧ m - k ≤ gg ∧ s8 = .int .i64 k ∧ Hid (Below w.heap.size w wr) ∧ Hid (anyTo p k = false))
  case atStart => exact ⟨0, Nat.zero_le _, by omega, rfl, Lib.hid (Below.refl _ _), Lib.hid rfl⟩
  case round =>
    obtain ⟨k, hk, hg, rfl, BW, AN⟩ := hrel
    by_cases hlt : k < m
    · rcases HE.out with h0 | ⟨b, off, rfl, hb, hc⟩
      · omega
      · have hc0 := hc k hlt
        obtain ⟨c0, c1, c2, c3, c4, c5⟩ := hc0
        have d0 := (BW.out.cell hb).trans c0
        have d1 := (BW.out.cell hb).trans c1
        have d2 := (BW.out.cell hb).trans c2
        have d3 := (BW.out.cell hb).trans c3
        have d4 := (BW.out.cell hb).trans c4
        have d5 := (BW.out.cell hb).trans c5
        have hcall := HP.out k hlt wr BW.out
        clear hc c0 c1 c2 c3 c4 c5
        have eg := EG.out
        cases hq : p k with
        | true =>
          rw [hq] at hcall
          have HQ := Lib.hid hq; clear hq
          have HC := Lib.hid hcall; clear hcall
          go_wp2_with fail
          refine HC.out.mono ?_
          rintro e w' ⟨rfl, hb⟩
          have HB := Lib.hid hb
          clear hb eg d0 d1 d2 d3 d4 d5
          go_wp2_with fail
          go_ret
          exact ⟨_, rfl, by rw [anyTo_iff.2 ⟨k, hlt, HQ.out⟩]; simp, BW.out.trans (HB.out.mono BW.out.size)⟩
        | false =>
          rw [hq] at hcall
          have HQ := Lib.hid hq; clear hq
          have HC := Lib.hid hcall; clear hcall
          go_wp2_with fail
          refine HC.out.mono ?_
          rintro e w' ⟨rfl, hb⟩
          have HB := Lib.hid hb
          clear hb eg d0 d1 d2 d3 d4 d5
          go_wp2_with fail
          go_roundg (m - (k + 1))
          case measure => omega
          case rel => exact ⟨k + 1, by omega, by omega, by go_num, Lib.hid (BW.out.trans (HB.out.mono BW.out.size)), Lib.hid (by unfold anyTo; rw [AN.out, HQ.out]; rfl)⟩
    · obtain rfl : k = m := by omega
      go_wp2_with fail
      go_ret
      exact ⟨_, rfl, by rw [AN.out]; rfl, BW.out⟩
theorem contains_stop (a : Option Addr) (m c : Nat) (s : Nat → Int) (t : Nat → Int) (x : Nat → Int) (y : Nat → Int) (z : Nat → Int) (u : Nat → Nat) (v : Nat → Nat) (p : Nat → Bool) (fn : Nat) (lb : Array Value) (w : World) (eg : ∀ args w, (callFunc fn args).run Tryz.prog w = .ok (.enter fn args) w) (he : IsStop w a m s t x y z u v) (hm : m ≤ 5000)
    (hp : ∀ j, j < m → ∀ W, Below w.heap.size w W → Calls Tryz.prog fn (#[.agg #[.int .i64 (s j), .int .i64 (t j), .int .i64 (x j), .int .i64 (y j), .int .i64 (z j), .complex .f64 (u j) (v j)]] ++ lb) W fun e w' => e = .returned (.bool (p j)) ∧ Below W.heap.size W w') :
    Calls Tryz.prog 34 #[.slice a m c, .func (.func fn) #[] lb] w fun e w' => e = .returned (.bool (anyTo p m)) ∧ Below w.heap.size w w' := by
  have h := index_stop a m c s t x y z u v p fn lb w eg he hm hp
  have H := Lib.hid h; clear h hp he eg
  go_enter Tryz.func34, Tryz.ntmps34
  go_wp2_with fail
  refine H.out.mono ?_
  rintro e w' ⟨i, rfl, h1, h2⟩
  have H1 := Lib.hid h1; clear h1
  have H2 := Lib.hid h2; clear h2
  go_wp2_with fail
  go_ret
  exact ⟨ret_bool H1.out, H2.out⟩
/-- A slice of elements: nil or empty, or a row of cells. -/
def IsLong (w : World) (a : Option Addr) (m : Nat) (x : Nat → Int) : Prop :=
  m = 0 ∨ ∃ b off, a = some ⟨b, off, none⟩ ∧ b < w.heap.size ∧ ∀ j, j < m → w.cell? ⟨b, off + j, none⟩ = some (.int .i64 (x j))
theorem IsLong.below {w w' : World} {a : Option Addr} {m : Nat} {x : Nat → Int} (h : IsLong w a m x) (hb : Below w.heap.size w w') : IsLong w' a m x := by
  rcases h with h | ⟨b, off, h1, h2, h3⟩
  · exact .inl h
  · refine .inr ⟨b, off, h1, Nat.lt_of_lt_of_le h2 hb.size, fun j hj => ?_⟩
    have h := h3 j hj
    exact (hb.cell h2).trans h
set_option maxHeartbeats 2000000 in
theorem index_long (a : Option Addr) (m c : Nat) (x : Nat → Int) (p : Nat → Bool) (fn : Nat) (lb : Array Value) (w : World) (eg : ∀ args w, (callFunc fn args).run Tryz.prog w = .ok (.enter fn args) w) (he : IsLong w a m x) (hm : m ≤ 5000)
    (hp : ∀ j, j < m → ∀ W, Below w.heap.size w W → Calls Tryz.prog fn (#[.int .i64 (x j)] ++ lb) W fun e w' => e = .returned (.bool (p j)) ∧ Below W.heap.size W w') :
    Calls Tryz.prog 62 #[.slice a m c, .func (.func fn) #[] lb] w fun e w' => ∃ i : Int, e = .returned (.int .i64 i) ∧ decide (0 ≤ i) = anyTo p m ∧ Below w.heap.size w w' := by
  have HE := Lib.hid he; clear he
  have HP := Lib.hid hp; clear hp
  have EG := Lib.hid eg; clear eg
  go_enter Tryz.func62, Tryz.ntmps62
  go_wp2_with fail
  go_loopg [5, 8] m (fun gg _ s8 wr => ∃ k : Nat, k ≤ m ∧ m - k ≤ gg ∧ s8 = .int .i64 k ∧ Hid (Below w.heap.size w wr) ∧ Hid (anyTo p k = false))
  case atStart => exact ⟨0, Nat.zero_le _, by omega, rfl, Lib.hid (Below.refl _ _), Lib.hid rfl⟩
  case round =>
    obtain ⟨k, hk, hg, rfl, BW, AN⟩ := hrel
    by_cases hlt : k < m
    · rcases HE.out with h0 | ⟨b, off, rfl, hb, hc⟩
      · omega
      · have hc0 := hc k hlt
        have c0 := hc0; clear hc0
        have d0 := (BW.out.cell hb).trans c0
        have hcall := HP.out k hlt wr BW.out
        clear hc c0
        have eg := EG.out
        cases hq : p k with
        | true =>
          rw [hq] at hcall
          have HQ := Lib.hid hq; clear hq
          have HC := Lib.hid hcall; clear hcall
          go_wp2_with fail
          refine HC.out.mono ?_
          rintro e w' ⟨rfl, hb⟩
          have HB := Lib.hid hb
          clear hb eg d0
          go_wp2_with fail
          go_ret
          exact ⟨_, rfl, by rw [anyTo_iff.2 ⟨k, hlt, HQ.out⟩]; simp, BW.out.trans (HB.out.mono BW.out.size)⟩
        | false =>
          rw [hq] at hcall
          have HQ := Lib.hid hq; clear hq
          have HC := Lib.hid hcall; clear hcall
          go_wp2_with fail
          refine HC.out.mono ?_
          rintro e w' ⟨rfl, hb⟩
          have HB := Lib.hid hb
          clear hb eg d0
          go_wp2_with fail
          go_roundg (m - (k + 1))
          case measure => omega
          case rel => exact ⟨k + 1, by omega, by omega, by go_num, Lib.hid (BW.out.trans (HB.out.mono BW.out.size)), Lib.hid (by unfold anyTo; rw [AN.out, HQ.out]; rfl)⟩
    · obtain rfl : k = m := by omega
      go_wp2_with fail
      go_ret
      exact ⟨_, rfl, by rw [AN.out]; rfl, BW.out⟩
theorem contains_long (a : Option Addr) (m c : Nat) (x : Nat → Int) (p : Nat → Bool) (fn : Nat) (lb : Array Value) (w : World) (eg : ∀ args w, (callFunc fn args).run Tryz.prog w = .ok (.enter fn args) w) (he : IsLong w a m x) (hm : m ≤ 5000)
    (hp : ∀ j, j < m → ∀ W, Below w.heap.size w W → Calls Tryz.prog fn (#[.int .i64 (x j)] ++ lb) W fun e w' => e = .returned (.bool (p j)) ∧ Below W.heap.size W w') :
    Calls Tryz.prog 32 #[.slice a m c, .func (.func fn) #[] lb] w fun e w' => e = .returned (.bool (anyTo p m)) ∧ Below w.heap.size w w' := by
  have h := index_long a m c x p fn lb w eg he hm hp
  have H := Lib.hid h; clear h hp he eg
  go_enter Tryz.func32, Tryz.ntmps32
  go_wp2_with fail
  refine H.out.mono ?_
  rintro e w' ⟨i, rfl, h1, h2⟩
  have H1 := Lib.hid h1; clear h1
  have H2 := Lib.hid h2; clear h2
  go_wp2_with fail
  go_ret
  exact ⟨ret_bool H1.out, H2.out⟩
/-- A slice of elements: nil or empty, or a row of cells. -/
def IsRow (w : World) (a : Option Addr) (m : Nat) (x : Nat → Value) : Prop :=
  m = 0 ∨ ∃ b off, a = some ⟨b, off, none⟩ ∧ b < w.heap.size ∧ ∀ j, j < m → w.cell? ⟨b, off + j, none⟩ = some (x j)
theorem IsRow.below {w w' : World} {a : Option Addr} {m : Nat} {x : Nat → Value} (h : IsRow w a m x) (hb : Below w.heap.size w w') : IsRow w' a m x := by
  rcases h with h | ⟨b, off, h1, h2, h3⟩
  · exact .inl h
  · refine .inr ⟨b, off, h1, Nat.lt_of_lt_of_le h2 hb.size, fun j hj => ?_⟩
    have h := h3 j hj
    exact (hb.cell h2).trans h
set_option maxHeartbeats 2000000 in
theorem index_row (a : Option Addr) (m c : Nat) (x : Nat → Value) (p : Nat → Bool) (fn : Nat) (lb : Array Value) (w : World) (eg : ∀ args w, (callFunc fn args).run Tryz.prog w = .ok (.enter fn args) w) (he : IsRow w a m x) (hm : m ≤ 5000)
    (hp : ∀ j, j < m → ∀ W, Below w.heap.size w W → Calls Tryz.prog fn (#[x j] ++ lb) W fun e w' => e = .returned (.bool (p j)) ∧ Below W.heap.size W w') :
    Calls Tryz.prog 89 #[.slice a m c, .func (.func fn) #[] lb] w fun e w' => ∃ i : Int, e = .returned (.int .i64 i) ∧ decide (0 ≤ i) = anyTo p m ∧ Below w.heap.size w w' := by
  have HE := Lib.hid he; clear he
  have HP := Lib.hid hp; clear hp
  have EG := Lib.hid eg; clear eg
  go_enter Tryz.func89, Tryz.ntmps89
  go_wp2_with fail
  go_loopg [5, 8] m (fun gg _ s8 wr => ∃ k : Nat, k ≤ m ∧ m - k ≤ gg ∧ s8 = .int .i64 k ∧ Hid (Below w.heap.size w wr) ∧ Hid (anyTo p k = false))
  case atStart => exact ⟨0, Nat.zero_le _, by omega, rfl, Lib.hid (Below.refl _ _), Lib.hid rfl⟩
  case round =>
    obtain ⟨k, hk, hg, rfl, BW, AN⟩ := hrel
    by_cases hlt : k < m
    · rcases HE.out with h0 | ⟨b, off, rfl, hb, hc⟩
      · omega
      · have hc0 := hc k hlt
        have c0 := hc0; clear hc0
        have d0 := (BW.out.cell hb).trans c0
        have hcall := HP.out k hlt wr BW.out
        clear hc c0
        have eg := EG.out
        cases hq : p k with
        | true =>
          rw [hq] at hcall
          have HQ := Lib.hid hq; clear hq
          have HC := Lib.hid hcall; clear hcall
          go_wp2_with fail
          refine HC.out.mono ?_
          rintro e w' ⟨rfl, hb⟩
          have HB := Lib.hid hb
          clear hb eg d0
          go_wp2_with fail
          go_ret
          exact ⟨_, rfl, by rw [anyTo_iff.2 ⟨k, hlt, HQ.out⟩]; simp, BW.out.trans (HB.out.mono BW.out.size)⟩
        | false =>
          rw [hq] at hcall
          have HQ := Lib.hid hq; clear hq
          have HC := Lib.hid hcall; clear hcall
          go_wp2_with fail
          refine HC.out.mono ?_
          rintro e w' ⟨rfl, hb⟩
          have HB := Lib.hid hb
          clear hb eg d0
          go_wp2_with fail
          go_roundg (m - (k + 1))
          case measure => omega
          case rel => exact ⟨k + 1, by omega, by omega, by go_num, Lib.hid (BW.out.trans (HB.out.mono BW.out.size)), Lib.hid (by unfold anyTo; rw [AN.out, HQ.out]; rfl)⟩
    · obtain rfl : k = m := by omega
      go_wp2_with fail
      go_ret
      exact ⟨_, rfl, by rw [AN.out]; rfl, BW.out⟩
theorem contains_row (a : Option Addr) (m c : Nat) (x : Nat → Value) (p : Nat → Bool) (fn : Nat) (lb : Array Value) (w : World) (eg : ∀ args w, (callFunc fn args).run Tryz.prog w = .ok (.enter fn args) w) (he : IsRow w a m x) (hm : m ≤ 5000)
    (hp : ∀ j, j < m → ∀ W, Below w.heap.size w W → Calls Tryz.prog fn (#[x j] ++ lb) W fun e w' => e = .returned (.bool (p j)) ∧ Below W.heap.size W w') :
    Calls Tryz.prog 70 #[.slice a m c, .func (.func fn) #[] lb] w fun e w' => e = .returned (.bool (anyTo p m)) ∧ Below w.heap.size w w' := by
  have h := index_row a m c x p fn lb w eg he hm hp
  have H := Lib.hid h; clear h hp he eg
  go_enter Tryz.func70, Tryz.ntmps70
  go_wp2_with fail
  refine H.out.mono ?_
  rintro e w' ⟨i, rfl, h1, h2⟩
  have H1 := Lib.hid h1; clear h1
  have H2 := Lib.hid h2; clear h2
  go_wp2_with fail
  go_ret
  exact ⟨ret_bool H1.out, H2.out⟩
end Sheet
end Go.Proofs.YtjmhlabgoegeoaaGreatDoor
