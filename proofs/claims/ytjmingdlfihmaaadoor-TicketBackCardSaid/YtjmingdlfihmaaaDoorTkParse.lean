/- Package ticket's Parse, of the text of lines that may be; over the translated program. -/
import Derived.Test.YtjmingdlfihmaaaDoorTkRead2
import Derived.Lib.OwnBridge
import Derived.Deep.DeepCutAuto
import Derived.Outline
import Derived.Deep.CutBlock
namespace Go.Proofs.YtjmingdlfihmaaaDoor
namespace Tk
open Go Go.RowKit Deci
set_option linter.unusedVariables false
theorem rowC_take {L : List LN} {k : Nat} (hk : k < L.length) : rowC (L.take (k + 1)) = rowC (L.take k) ++ L[k].cs := by
  rw [List.take_succ_eq_append_getElem hk, rowC_snoc]
theorem own_base {w : World} {base base' size n : Nat} {e : TypeId} {v : Value} {xs : List Value} (h : w.ownsRow base e size v n xs) (hb : base' ≤ base) : w.ownsRow base' e size v n xs := by
  refine ⟨h.1, h.2.imp id ?_⟩
  rintro ⟨g, cap, cur, h1, h2, h3⟩
  exact ⟨g, cap, cur, h1, Nat.le_trans hb h2, h3⟩
theorem row_last {w : World} {base : Nat} {v : Value} {L : List LN} {q : Nat} (h : w.ownsRow base 25 6 v (q + 1) (rowC (L.take (q + 1)))) (hq : q < L.length) :
    ∃ g cap, v = .slice (some ⟨g, 0, none⟩) (q + 1) cap ∧ w.cell? ⟨g, q * 6, none⟩ = some (.int .i64 L[q].id) := by
  have hl : (L.take (q + 1)).length = q + 1 := by rw [List.length_take]; omega
  rcases h.2 with ⟨_, h0⟩ | ⟨g, cap, cur, rfl, _⟩
  · omega
  · refine ⟨g, cap, rfl, ?_⟩
    have h' : w.ownsRow base 25 6 (.slice (some ⟨g, 0, none⟩) (L.take (q + 1)).length cap) (L.take (q + 1)).length (rowC (L.take (q + 1))) := by rw [hl]; exact h
    have := (own_at h' q (by omega)).c0
    rw [Nat.zero_add] at this
    rw [this]
    simp
/-- What holds between two rounds. -/
def J (w1 : World) (v : Value) (k : Nat) (xs : List Value) (W : World) : Prop := W.ownsRow w1.heap.size 25 6 v k xs ∧ Below w1.heap.size w1 W
theorem J.below {w1 W W' : World} {v : Value} {k : Nat} {xs : List Value} (h : J w1 v k xs W) (hb : Below W.heap.size W W') : J w1 v k xs W' :=
  ⟨h.1.kept (grown_of hb none) (own_none h.1), h.2.trans (hb.mono h.2.size)⟩
theorem J.grown {w1 W W' : World} {v v' : Value} {k k' : Nat} {xs xs' : List Value} (h : J w1 v k xs W) (hown : W'.ownsRow w1.heap.size 25 6 v' k' xs') (hg : W.grownBy W' v.ownBlock) : J w1 v' k' xs' W' :=
  ⟨hown, h.2.grown hg h.2.size (fun k hk => (h.1.lt k hk).1)⟩
/-- What Parse leaves, of lines whose IDs rise up to place m. -/
def ParseOut (w : World) (L : List LN) (m : Nat) (e : Ending) (w' : World) : Prop :=
  Below w.heap.size w w' ∧ ((m = L.length ∧ ∃ v, e = .returned (.tuple #[v, .int .i64 0, .int .i64 0]) ∧ w'.ownsRow w.heap.size 25 6 v L.length (rowC L)) ∨ (m < L.length ∧ e = .returned (.tuple #[.slice none 0 0, .int .i64 ((m : Int) + 1), .int .i64 5])))
/-- Lines whose IDs rise up to place m. -/
structure Rise (L : List LN) (m : Nat) : Prop where
  le : m ≤ L.length
  up : ∀ j (h : j + 1 < L.length), j + 1 < m → L[j].id < L[j + 1].id
  no : ∀ j (h : j + 1 < L.length), j + 1 = m → L[j + 1].id ≤ L[j].id
  pos : m < L.length → 0 < m
set_option maxHeartbeats 4000000 in
set_option maxRecDepth 100000 in
theorem parse_any (L : List LN) (m : Nat) (w : World) (hE : Env w) (hok : ∀ l ∈ L, l.Ok) (hn : L.length ≤ 1000) (hR : Rise L m) :
    Calls Tryd.prog 5 #[.string (strOf (textT L))] w (ParseOut w L m) := by
  have hlen := textT_len hok
  have htold := lines_any (strOf (textT L)) w hE (by show (textT L).length ≤ _; unfold maxLen; omega)
  rw [data_strOf, (textT_lines hok hn).1, (textT_lines hok hn).2] at htold
  have hEA := env_at hE
  obtain ⟨i9, hi0, hz0, hz1, hz2⟩ := info_parts info_line
  have hrow := fun k (hk : k < L.length) => rowC_take hk
  have hall : rowC (L.take L.length) = rowC L := by rw [List.take_length]
  have hlo := fun k (hk : k < L.length) => hok L[k] (List.getElem_mem hk)
  have hps : ∀ k (hk : k < L.length) (h' : k < (L.map (fun l => strOf (lineB l))).length), (L.map (fun l => strOf (lineB l)))[k] = strOf (lineB L[k]) := fun k hk h' => by simp
  have hpl : (L.map (fun l => strOf (lineB l))).length = L.length := by simp
  have hne : L.length = 0 → (L.map (fun l => strOf (lineB l))) = [] := fun h => by rw [List.eq_nil_of_length_eq_zero h]; rfl
  generalize L.map (fun l => strOf (lineB l)) = ps at *
  generalize strOf (textT L) = text at *
  unfold ParseOut
  obtain ⟨n, hnn⟩ : ∃ n, n = L.length := ⟨_, rfl⟩
  obtain ⟨q1, q2, q3, q4⟩ := hR
  have HT := Lib.hid htold; clear htold
  have HE := Lib.hid hEA; clear hEA hE
  have HROW := Lib.hid hrow; clear hrow
  have HALL := Lib.hid hall; clear hall
  have HLO := Lib.hid hlo; clear hlo
  have HPS := Lib.hid hps; clear hps
  have HPL := Lib.hid hpl; clear hpl
  have HNE := Lib.hid hne; clear hne
  have Q2 := Lib.hid q2; clear q2
  have Q3 := Lib.hid q3; clear q3
  have Q4 := Lib.hid q4; clear q4
  rw [← hnn] at q1 hn
  have HN := Lib.hid hnn; clear hnn
  clear hok hlen
  go_enter Tryd.func5, Tryd.ntmps5
  go_wp2_with fail
  refine HT.out.mono ?_
  rintro e w1 ⟨v, rfl, hown, hb1⟩
  have hS := strs_of hown
  obtain ⟨a, cap, rfl, hcap, hat⟩ := hS
  rw [HPL.out, ← HN.out] at hcap ⊢
  have hat' : n = 0 ∨ ∃ g o, a = some ⟨g, o, none⟩ ∧ ∀ k (hk : k < L.length) W, Below w1.heap.size w1 W → W.cell? ⟨g, o + k, none⟩ = some (.string (strOf (lineB L[k]))) := by
    rcases hat with h | ⟨g, o, e, hg, hc⟩
    · left; rw [HN.out, ← HPL.out, h]; rfl
    · refine .inr ⟨g, o, e, fun k hk W hb => ?_⟩
      have hk' : k < ps.length := by rw [HPL.out]; exact hk
      rw [hb.cell (p := ⟨g, o + k, none⟩) hg, hc k hk', HPS.out k hk hk']
  have HAT := Lib.hid hat'; clear hat' hat hown
  have HB1 := Lib.hid hb1; clear hb1
  go_wp2_with fail
  go_loopw [7, 22] (fun v i wr => ∃ (k : Nat) (sa : Option Addr) (sc : Nat), k ≤ m ∧ v = .slice sa k sc ∧ i = .int .i64 k ∧ Hid (J w1 (.slice sa k sc) k (rowC (L.take k)) wr)) (fun _ i _ => n - (intOf i).toNat)
  case atStart => exact ⟨0, none, 0, Nat.zero_le _, rfl, rfl, Lib.hid ⟨by rw [List.take_zero]; exact World.ownsRow_nil _ _ _ _, Below.refl _ _⟩⟩
  case round =>
    obtain ⟨k, sa, sc, hk, rfl, rfl, HJ⟩ := hrel
    obtain ⟨R0, hR0⟩ : ∃ R, R = rowC (L.take k) := ⟨_, rfl⟩
    rw [← hR0] at HJ
    by_cases hlt : k < n
    · have hkl : k < L.length := by rw [← HN.out]; exact hlt
      obtain ⟨g, o, rfl, hat⟩ := HAT.out.resolve_left (by omega)
      have hc := hat k hkl wr HJ.out.2
      have hlo := HLO.out k hkl
      have hrow := HROW.out k hkl
      have hq2 := fun q (h : q + 1 = k) => Q2.out q (by omega)
      have hq3 := fun q (h : q + 1 = k) => Q3.out q (by omega)
      have hlast := fun q (h : q + 1 = k) => row_last (q := q) (base := w1.heap.size) (w := wr) (v := .slice sa k sc) (L := L) (by have := HJ.out.1; rw [hR0] at this; subst h; exact this) (by omega)
      obtain ⟨i, c, p, d, r, s, hl⟩ : ∃ i c p d r s, L[k] = ⟨i, c, p, d, r, s⟩ := ⟨_, _, _, _, _, _, rfl⟩
      rw [hl] at hc hlo hrow
      have hqi : ∀ q (h : q + 1 = k) (h' : q + 1 < L.length), L[q + 1].id = i := fun q h h' => by subst h; rw [hl]
      have hrd := read_line i c p d r s wr ((HE.out.below ((HB1.out.trans (HJ.out.2.mono HB1.out.size)))).mono (by have := HB1.out.size; have := HJ.out.2.size; omega)) hlo
      have HRD := Lib.hid hrd; clear hrd
      obtain ⟨R1, hR1⟩ : ∃ R, R = rowC (L.take (k + 1)) := ⟨_, rfl⟩
      rw [← hR0, ← hR1] at hrow
      have HRO := Lib.hid (show R1 = R0 ++ [.int .i64 i, .int .i64 c, .int .i64 p, .int .i64 d, .int .i64 r, .bool s] from hrow); clear hrow
      have HR1 := Lib.hid hR1; clear hR1
      have i0 : (k : Int) < (n : Int) := by omega
      have i1 : (0 : Int) ≤ k := by omega
      generalize strOf (lineB ⟨i, c, p, d, r, s⟩) = txt at *
      clear hl hR0 hat
      go_wp2_with fail
      refine HRD.out.mono ?_
      rintro e w2 ⟨rfl, hb2⟩
      obtain ⟨X, hX⟩ : ∃ X, X = w2.heap.size := ⟨_, rfl⟩
      obtain ⟨W3, hW3⟩ : ∃ W3, W3 = w2.alloc (.cells #[.int .i64 i, .int .i64 c, .int .i64 p, .int .i64 d, .int .i64 r, .bool s] 25) := ⟨_, rfl⟩
      have hb3 : Below wr.heap.size wr W3 := by rw [hW3]; exact hb2.alloc hb2.size _
      have hx3 : W3.heap[X]? = some (.cells #[.int .i64 i, .int .i64 c, .int .i64 p, .int .i64 d, .int .i64 r, .bool s] 25) := by rw [hW3, hX]; exact World.alloc_heap_new w2 _
      have HJ3 := Lib.hid (HJ.out.below hb3)
      have HX := Lib.hid hX; clear hX
      have HW3 := Lib.hid hW3; clear hW3
      have HX3 := Lib.hid hx3; clear hx3
      clear hc HRD hlo
      rcases Nat.eq_zero_or_pos k with hk0 | hkp
      · subst hk0
        have hm0 : 0 < m := by
          by_cases hmn : m < L.length
          · exact Q4.out hmn
          · have := HN.out; omega
        clear hq2 hq3 hlast hqi hb3
        go_upto_region 9 with fail
        rw [← HX.out, ← HW3.out]
        have x0 : W3.cell? ⟨X, 0, none⟩ = some (.int .i64 i) := (own_cell HX3.out).trans rfl
        go_quiet (fail)
        clear x0
        obtain ⟨W4, hW4⟩ : ∃ W4, W4 = W3.drewN nq := ⟨_, rfl⟩
        have hb4 : Below W3.heap.size W3 W4 := by rw [hW4]; exact below_drewN (Below.refl _ _) _
        have hx4 : W4.heap[X]? = some (.cells #[.int .i64 i, .int .i64 c, .int .i64 p, .int .i64 d, .int .i64 r, .bool s] 25) := (hb4.block X (own_lt HX3.out)).trans HX3.out
        have HJ4 := Lib.hid (HJ3.out.below hb4)
        rw [← hW4]
        clear hW4 hb4
        have x0 : W4.cell? ⟨X, 0, none⟩ = some (.int .i64 i) := (own_cell hx4).trans rfl
        have x1 : W4.cell? ⟨X, 1, none⟩ = some (.int .i64 c) := (own_cell hx4).trans rfl
        have x2 : W4.cell? ⟨X, 2, none⟩ = some (.int .i64 p) := (own_cell hx4).trans rfl
        have x3 : W4.cell? ⟨X, 3, none⟩ = some (.int .i64 d) := (own_cell hx4).trans rfl
        have x4 : W4.cell? ⟨X, 4, none⟩ = some (.int .i64 r) := (own_cell hx4).trans rfl
        have x5 : W4.cell? ⟨X, 5, none⟩ = some (.bool s) := (own_cell hx4).trans rfl
        clear hx4
        have HNEW : Hid (∀ u ∈ [Value.int .i64 i, .int .i64 c, .int .i64 p, .int .i64 d, .int .i64 r, .bool s], u.oneCell' = true) := Lib.hid (by intro u hu; simp at hu; rcases hu with rfl | rfl | rfl | rfl | rfl | rfl <;> rfl)
        go_wp2_with (at_builtin; refine wpList_append_own _ rfl _ _ 22 rfl w1.heap.size 25 i9 (.agg #[.int .i64 0, .int .i64 0, .int .i64 0, .int .i64 0, .int .i64 0, .bool false]) 6 48 Tryd.underlying22 hi0 hz0 hz1 hz2 rfl (by decide) _ _ _ rfl (HJ4.out.1.alloc _) ⟨W4.heap.size, 0, none⟩ 1 1 [.int .i64 i, .int .i64 c, .int .i64 p, .int .i64 d, .int .i64 r, .bool s] rfl rfl (cells_made (l := [_, _, _, _, _, _])) HNEW.out ?y0c3 ?y0c4 ?y0c5 ?_)
        case y0c3 => unfold maxLen; omega
        case y0c4 => omega
        case y0c5 => have := HJ4.out.2.size; simp; omega
        intro v' w5 hown' hgrow
        try intro _
        obtain ⟨sa', sc', rfl⟩ := own_slice hown'
        have hj5 := (HJ4.out.below ((Below.refl _ _).alloc (Nat.le_refl _) _)).grown hown' hgrow
        rw [← HRO.out, HR1.out] at hj5
        have HJ5 := Lib.hid hj5; clear hj5 hown' hgrow
        go_wp2_with fail
        go_roundw
        case rel => exact ⟨0 + 1, _, _, by omega, rfl, by go_num, HJ5⟩
        case measure => simp [intOf]; omega
      · obtain ⟨q, hqk⟩ : ∃ q, q + 1 = k := ⟨k - 1, by omega⟩
        obtain ⟨lg, lc, hsl, hlc⟩ := hlast q hqk
        obtain ⟨rfl, -, rfl⟩ : sa = some ⟨lg, 0, none⟩ ∧ k = q + 1 ∧ sc = lc := by simpa using hsl
        have hl3 := (hb3.cell (p := ⟨lg, q * 6, none⟩) (World.block_lt_of_cell? _ _ hlc)).trans hlc
        have hup := hq2 q hqk
        have hno := hq3 q hqk
        rw [hqi q hqk (by omega)] at hup hno
        generalize L[q].id = j at *
        have w0 : (k : Int) - 1 = q := by omega
        have w1' : IntKind.i64.wrap ((k : Int) - 1) = q := by rw [w0]; exact IntWalk.i64_in _ (by omega)
        have hz : ¬ (k : Int) = 0 := by omega
        have hp0 : (0 : Int) < (k : Int) := by omega
        have hqn : (q : Int) < (k : Int) := by omega
        have hq0 : (0 : Int) ≤ (q : Int) := by omega
        clear hq2 hq3 hlast hqi hb3 hsl hlc
        go_upto_region 9 with fail
        rw [← HX.out, ← HW3.out]
        have x0 : W3.cell? ⟨X, 0, none⟩ = some (.int .i64 i) := (own_cell HX3.out).trans rfl
        by_cases hkm : k < m
        · have hji := hup (by omega)
          have hnle : ¬ i ≤ j := by omega
          have hdec : decide (i ≤ j) = false := by simpa using hnle
          clear hup hno
          go_quiet (fail)
          clear x0
          obtain ⟨W4, hW4⟩ : ∃ W4, W4 = W3.drewN nq := ⟨_, rfl⟩
          have hb4 : Below W3.heap.size W3 W4 := by rw [hW4]; exact below_drewN (Below.refl _ _) _
          have hx4 : W4.heap[X]? = some (.cells #[.int .i64 i, .int .i64 c, .int .i64 p, .int .i64 d, .int .i64 r, .bool s] 25) := (hb4.block X (own_lt HX3.out)).trans HX3.out
          have HJ4 := Lib.hid (HJ3.out.below hb4)
          rw [← hW4]
          clear hW4 hb4
          have x0 : W4.cell? ⟨X, 0, none⟩ = some (.int .i64 i) := (own_cell hx4).trans rfl
          have x1 : W4.cell? ⟨X, 1, none⟩ = some (.int .i64 c) := (own_cell hx4).trans rfl
          have x2 : W4.cell? ⟨X, 2, none⟩ = some (.int .i64 p) := (own_cell hx4).trans rfl
          have x3 : W4.cell? ⟨X, 3, none⟩ = some (.int .i64 d) := (own_cell hx4).trans rfl
          have x4 : W4.cell? ⟨X, 4, none⟩ = some (.int .i64 r) := (own_cell hx4).trans rfl
          have x5 : W4.cell? ⟨X, 5, none⟩ = some (.bool s) := (own_cell hx4).trans rfl
          clear hx4
          have HNEW : Hid (∀ u ∈ [Value.int .i64 i, .int .i64 c, .int .i64 p, .int .i64 d, .int .i64 r, .bool s], u.oneCell' = true) := Lib.hid (by intro u hu; simp at hu; rcases hu with rfl | rfl | rfl | rfl | rfl | rfl <;> rfl)
          go_wp2_with (at_builtin; refine wpList_append_own _ rfl _ _ 22 rfl w1.heap.size 25 i9 (.agg #[.int .i64 0, .int .i64 0, .int .i64 0, .int .i64 0, .int .i64 0, .bool false]) 6 48 Tryd.underlying22 hi0 hz0 hz1 hz2 rfl (by decide) _ _ _ rfl (HJ4.out.1.alloc _) ⟨W4.heap.size, 0, none⟩ 1 1 [.int .i64 i, .int .i64 c, .int .i64 p, .int .i64 d, .int .i64 r, .bool s] rfl rfl (cells_made (l := [_, _, _, _, _, _])) HNEW.out ?y1c3 ?y1c4 ?y1c5 ?_)
          case y1c3 => unfold maxLen; omega
          case y1c4 => omega
          case y1c5 => have := HJ4.out.2.size; simp; omega
          intro v' w5 hown' hgrow
          try intro _
          obtain ⟨sa', sc', rfl⟩ := own_slice hown'
          have hj5 := (HJ4.out.below ((Below.refl _ _).alloc (Nat.le_refl _) _)).grown hown' hgrow
          rw [← HRO.out, HR1.out] at hj5
          have HJ5 := Lib.hid hj5; clear hj5 hown' hgrow
          go_wp2_with fail
          go_roundw
          case rel => exact ⟨k + 1, _, _, by omega, rfl, by go_num, HJ5⟩
          case measure => simp [intOf]; omega
        · obtain rfl : k = m := by omega
          have hle : i ≤ j := hno hqk
          have hdec : decide (i ≤ j) = true := by simpa using hle
          clear hup hno
          go_quiet (fail)
          clear x0
          go_wp2_with fail
          refine bodyPost_ret (v := .tuple #[.slice none 0 0, .int .i64 ((k : Int) + 1), .int .i64 5]) (by simp [results, Tryd.results5, go_sem]) rfl ?_
          refine ⟨?_, .inr ⟨by rw [← HN.out]; exact hlt, rfl⟩⟩
          have hb := HB1.out.trans (HJ3.out.2.mono HB1.out.size)
          exact below_drewN hb _
    · obtain rfl : k = n := by omega
      have hkm : k = m := by omega
      have hj := HJ.out
      rw [hR0, show L.take k = L by rw [HN.out, List.take_length]] at hj
      have HJL := Lib.hid hj; clear hj hR0
      go_wp2_with fail
      refine bodyPost_ret (v := .tuple #[.slice sa k sc, .int .i64 0, .int .i64 0]) (by simp [results, Tryd.results5, go_sem]) rfl ?_
      refine ⟨HB1.out.trans (HJL.out.2.mono HB1.out.size), .inl ⟨by rw [← hkm]; exact HN.out, _, rfl, ?_⟩⟩
      have := own_base (base' := w.heap.size) HJL.out.1 HB1.out.size
      rw [← HN.out]
      exact this
end Tk
end Go.Proofs.YtjmingdlfihmaaaDoor
