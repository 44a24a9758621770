/- Package sheet's reader: next, the next line; over the translated program. -/
import Derived.Test.YtjmhlabgoegeoaaGreatDoorSheetRd
import Derived.Deep.RegionHeld3
namespace Go.Proofs.YtjmhlabgoegeoaaGreatDoor
namespace Sheet
open Go Go.RowKit Deci
/-- The error of the next line, and its words behind the first one. -/
def lineE (l name : ByteArray) (cnt : Nat) : Int := if wordsE l.data.toList = 0 ∧ (wordsP l.data.toList).length = cnt + 1 ∧ (wordsP l.data.toList).head? = some name then 0 else 21
def nextE (L : List ByteArray) (n : Nat) (name : ByteArray) (cnt : Nat) : Int := if h : n < L.length then lineE L[n] name cnt else 20
def nextW (L : List ByteArray) (n : Nat) : List ByteArray := if h : n < L.length then (wordsP L[n].data.toList).tail else []
/-- The words of a line, told, lie in blocks of the call's own. -/
theorem told_strs {w w' : World} {v : Value} {ps : List ByteArray} (h : w'.ownsRow w.heap.size 9 1 v ps.length (ps.map Value.string)) :
    (v = .slice none 0 0 ∧ ps = []) ∨ ∃ g cap, v = .slice (some ⟨g, 0, none⟩) ps.length cap ∧ ps.length ≤ cap ∧ w.heap.size ≤ g ∧ g < w'.heap.size ∧ ∀ j (h : j < ps.length), w'.cell? ⟨g, j, none⟩ = some (.string ps[j]) := by
  rcases h.2 with ⟨rfl, h0⟩ | ⟨g, cap, cur, rfl, hb, hg, h1, _, h2, h3⟩
  · exact .inl ⟨rfl, List.eq_nil_of_length_eq_zero h0⟩
  · refine .inr ⟨g, cap, rfl, h1, hb, (Array.getElem?_eq_some_iff.1 hg).1, fun j hj => ?_⟩
    have e : cur[j]? = some (.string ps[j]) := by
      have := congrArg (·[j]?) h3
      simp only [Nat.mul_one] at this
      rw [List.getElem?_take, if_pos hj, List.getElem?_map, List.getElem?_eq_getElem hj] at this
      simpa using this
    simp only [World.cell?, hg]
    exact e
set_option maxHeartbeats 1000000 in
theorem next_short (N B M : Nat) (Av : List Nat) (L : List ByteArray) (n : Nat) (sc : Int) (ps : List ByteArray) (name : ByteArray) (cnt : Nat) (w : World) (hn : ¬ n < L.length) (hn2 : n ≤ 1000000) (h : St N B M Av L n ps sc w) :
    Calls Tryz.prog 81 #[.pointer (some ⟨B, 0, none⟩), .string name, .int .i64 cnt] w fun e w' => Gave (n + 1) 20 e ∧ w.grownBy w' (some B) := by
  have hlt := h.lt
  obtain ⟨⟨lv, wv, hr, ⟨a, cap, rfl, -, -⟩, -⟩, -⟩ := h
  generalize L.length = ll at *
  have c0 := hr.c0
  have c1 := hr.c1
  have f1 := hr.fz 1
  have hs := hr.s1 (n + 1)
  have hg := grown_set w ⟨B, 1, none⟩ (.int .i64 (n + 1))
  have HR := Lib.hid hr; clear hr
  have HG := Lib.hid hg; clear hg
  have HS := Lib.hid hs; clear hs
  go_enter Tryz.func81, Tryz.ntmps81
  go_wp2_with fail
  clear c0 c1 f1
  generalize w.setCell ⟨B, 1, none⟩ (.int .i64 (n + 1)) = w1 at *
  have c0 := HS.out.c0
  have c1 := HS.out.c1
  go_quiet (fail)
  go_wp2_with (go_at_call 48; refine (giveUp_any B (n + 1) 20 _ (by first | exact HS.out.c1 | (rw [World.cell?_drewN]; exact HS.out.c1))).mono ?_; rintro e w' ⟨rfl, rfl⟩)
  exact ⟨rfl, rfl, HG.out.trans (grown_of (Joins.below_draws _ _ _) _)⟩
set_option maxHeartbeats 1000000 in
theorem next_some (N B M : Nat) (Av : List Nat) (L : List ByteArray) (n : Nat) (sc : Int) (ps : List ByteArray) (name : ByteArray) (cnt : Nat) (w : World) (hn : n < L.length) (hl : ∀ s ∈ L, s.size ≤ 1000000) (hn2 : L.length ≤ 1000000) (hc2 : cnt ≤ 1000000) (h : St N B M Av L n ps sc w) :
    Calls Tryz.prog 81 #[.pointer (some ⟨B, 0, none⟩), .string name, .int .i64 cnt] w (Res N B M Av L (n + 1) (wordsP L[n].data.toList).tail sc w (lineE L[n] name cnt) (.tuple #[])) := by
  have hlt := h.lt
  have hsz := hl _ (List.getElem_mem hn)
  obtain ⟨⟨lv, wv, hr, hL, hW⟩, hE, hN, hbot, htop, hown⟩ := h
  have hL' := hL
  obtain ⟨a, cap, rfl, hcap, hLL⟩ := hL
  rcases hLL with hLL | ⟨g, o, rfl, hne, hgs, hc⟩
  · subst hLL; simp at hn
  have q0 := hc n hn
  have c0 := hr.c0
  have c1 := hr.c1
  have f1 := hr.fz 1
  have hs := hr.s1 (n + 1)
  have hg := grown_set w ⟨B, 1, none⟩ (.int .i64 (n + 1))
  have qq := (hg.cell_far ⟨g, o + n, none⟩ hgs (by simpa using fun e : g = B => hne (.inl e))).trans q0
  have HL := Lib.hid (hL'.grown (.inl rfl) hg); clear hL'
  have HE := Lib.hid (hE.below (below_of hg hN hlt)); clear hE
  have HR := Lib.hid hr; clear hr
  have HG := Lib.hid hg; clear hg
  have HS := Lib.hid hs; clear hs
  have HQ := Lib.hid qq; clear qq
  have HO := Lib.hid hown; clear hown
  clear hW hc hne q0
  have hwd := fun w => Deci.words_any L[n] w (by omega)
  have hle : (wordsE L[n].data.toList = 0 ∧ (wordsP L[n].data.toList).length = cnt + 1 ∧ (wordsP L[n].data.toList).head? = some name → lineE L[n] name cnt = 0) ∧ (¬ (wordsE L[n].data.toList = 0 ∧ (wordsP L[n].data.toList).length = cnt + 1 ∧ (wordsP L[n].data.toList).head? = some name) → lineE L[n] name cnt = 21) := by
    unfold lineE; exact ⟨fun h => if_pos h, fun h => if_neg h⟩
  have her : wordsE L[n].data.toList = 0 ∨ wordsE L[n].data.toList = 21 := by unfold wordsE; split <;> (try split) <;> simp
  generalize lineE L[n] name cnt = le at *
  generalize wordsP L[n].data.toList = ws at *
  generalize wordsE L[n].data.toList = er at *
  have HLE := Lib.hid hle; clear hle
  have HER := Lib.hid her; clear her
  generalize L[n] = l at *
  generalize hll : L.length = ll at *
  have HWD := Lib.hid hwd; clear hwd
  clear hl hsz
  go_enter Tryz.func81, Tryz.ntmps81
  go_wp2_with fail
  clear c0 c1 f1
  generalize w.setCell ⟨B, 1, none⟩ (.int .i64 (n + 1)) = w1 at *
  have c0 := HS.out.c0
  have c1 := HS.out.c1
  have c3 := HQ.out
  go_quiet (fail)
  go_wp2_with fail
  have hb1 := Joins.below_draws w1.heap.size w1 nq
  have HB1 := Lib.hid hb1; clear hb1
  generalize hW2 : w1.drewN nq = w2 at *
  have c0 : w2.cell? ⟨B, 0, none⟩ = some (.slice (some ⟨g, o, none⟩) ll cap) := by rw [← hW2]; exact HS.out.c0
  have c1 : w2.cell? ⟨B, 1, none⟩ = some (.int .i64 (n + 1)) := by rw [← hW2]; exact HS.out.c1
  have c3 : w2.cell? ⟨g, o + n, none⟩ = some (.string l) := by rw [← hW2]; exact HQ.out
  have hB2 : B < w2.heap.size := by rw [← hW2]; exact Nat.lt_of_lt_of_le hlt HG.out.size
  have hg2 : g < w2.heap.size := by rw [← hW2]; exact Nat.lt_of_lt_of_le hgs HG.out.size
  have HB2 := Lib.hid hB2; clear hB2
  have HG2 := Lib.hid hg2; clear hg2
  have i0 : (0 : Int) ≤ (n : Int) := by omega
  have i1 : (n : Int) < (ll : Int) := by omega
  have i3 : IntKind.i64.wrap (n : Int) = (n : Int) := by unfold IntKind.wrap; simp [IntKind.signed, IntKind.bits]; omega
  have i2 : IntKind.i64.wrap ((n : Int) + 1 - 1) = (n : Int) := by rw [show (n : Int) + 1 - 1 = n by omega]; exact i3
  have i4 : (n : Int) ≤ (ll : Int) := by omega
  have i5 : ¬ (n : Int) < 0 := by omega
  have i6 : ¬ (ll : Int) ≤ (n : Int) := by omega
  go_region_held3 (fun w' => w'.cell? ⟨B, 0, none⟩ = some (.slice (some ⟨g, o, none⟩) ll cap) ∧ w'.cell? ⟨B, 1, none⟩ = some (.int .i64 (n + 1)) ∧ w'.cell? ⟨g, o + n, none⟩ = some (.string l)) (go_keep) (first | (go_at_call 99; refine (HWD.out _).mono ?_; rintro e w3 ⟨v, rfl, hrow, hbb⟩; have HROW := Lib.hid hrow; clear hrow; have k0 := (hbb.cell (p := ⟨B, 0, none⟩) HB2.out).trans c0; have k1 := (hbb.cell (p := ⟨B, 1, none⟩) HB2.out).trans c1; have k3 := (hbb.cell (p := ⟨g, o + n, none⟩) HG2.out).trans c3; have HBB := Lib.hid hbb; clear hbb))
  have B3 : Below w1.heap.size w1 w3 := by subst hW2; exact HB1.out.drew.trans HBB.out
  have hs1 : w.heap.size ≤ w1.heap.size := HG.out.size
  have R3 := Lib.hid (HS.out.below (B3.mono (Nat.le_refl _)))
  have G3 := Lib.hid (HG.out.trans (grown_of B3 (some B)))
  have L3 := Lib.hid (HL.out.grown (.inl rfl) (grown_of B3 (some B)))
  have E3 := Lib.hid (HE.out.below (B3.mono (by omega)))
  have hrow : w3.ownsRow w1.heap.size 9 1 v ws.length (ws.map Value.string) := by subst hW2; exact HROW.out
  have hk := told_strs hrow
  have hz3 : w1.heap.size ≤ w3.heap.size := B3.size
  clear hrow B3 HROW HBB HE HL HS HG HQ HR HB1 c0 c1 c3 k0 k3 i0 i1 i2 i3 i4 i5 i6 hW2
  rcases HER.out with rfl | rfl
  case inr =>
    have hl21 : le = 21 := HLE.out.2 (by rintro ⟨h, -⟩; exact absurd h (by decide))
    subst hl21
    go_wp2_with (go_at_call 47; refine (must_gave B (n + 1) 21 _ R3.out.c1 (by decide)).mono ?_; rintro e w' ⟨rfl, rfl⟩)
    exact ⟨rfl, G3.out, .inr ⟨by decide, rfl⟩⟩
  case inl =>
    have c0 := R3.out.c0
    have c1 := R3.out.c1
    by_cases hlen : ws.length = cnt + 1
    · rcases hk with ⟨rfl, rfl⟩ | ⟨g', cap', rfl, hcap', hg0, hg1, hcs⟩
      · simp at hlen
      · obtain ⟨p, rest, rfl⟩ : ∃ p rest, ws = p :: rest := by
          cases ws with
          | nil => simp at hlen
          | cons p rest => exact ⟨p, rest, rfl⟩
        have q0 := hcs 0 (by simp)
        simp only [List.getElem_cons_zero] at q0
        have HCS := Lib.hid hcs; clear hcs
        have f2 := R3.out.fz 2
        have c2 := R3.out.c2
        by_cases hp : p = name
        · have hl0 : le = 0 := HLE.out.1 ⟨rfl, hlen, by rw [hp]; rfl⟩
          subst hl0
          simp only [List.length_cons, Nat.add_right_cancel_iff] at hlen hcap'
          have K : ∀ u, (∃ a', u = .slice a' rest.length (cap' - 1) ∧ (rest = [] ∨ a' = some ⟨g', 1, none⟩)) → Res N B M Av L (n + 1) rest sc w 0 (.tuple #[]) (.returned (.tuple #[])) (w3.setCell ⟨B, 2, none⟩ u) := by
            rintro u ⟨a', rfl, hu⟩
            have hg := grown_set w3 ⟨B, 2, none⟩ (.slice a' rest.length (cap' - 1))
            have hB3 : B < w3.heap.size := R3.out.lt
            refine ⟨G3.out.trans hg, .inl ⟨rfl, rfl, ⟨_, _, R3.out.s2 _, L3.out.grown (.inl rfl) hg, a', cap' - 1, rfl, by omega, ?_⟩, E3.out.below (below_of hg hN hB3), hN, hbot, by rw [World.size_setCell]; omega, fun b hb => ⟨(HO.out b hb).1, by rw [World.size_setCell]; have := (HO.out b hb).2; omega⟩⟩⟩
            rcases hu with hu | rfl
            · exact .inl hu
            · have hne : ¬ BadW B Av g' := by
                rintro (h | h)
                · omega
                · have := (HO.out _ h).2; omega
              refine .inr ⟨g', 1, rfl, hne, by rw [World.size_setCell]; exact hg1, fun j hj => ?_⟩
              have := HCS.out (j + 1) (by simp; omega)
              rw [show 1 + j = j + 1 by omega]
              refine (hg.cell_far ⟨g', j + 1, none⟩ hg1 (by simpa using fun e : g' = B => hne (.inl e))).trans ?_
              simpa using this
          have HK := Lib.hid K; clear K
          have hz : rest.length = 0 → rest = [] := List.eq_nil_of_length_eq_zero
          have HZ := Lib.hid hz; clear hz
          clear HCS HLE HER HWD
          subst hp
          subst hlen
          simp only [List.length_cons, List.tail_cons]
          generalize rest.length = rl at *
          go_wp2_with (go_at_call 47; refine (must_ok B _).mono ?_; rintro e w' ⟨rfl, rfl⟩)
          all_goals go_end0
          · exact HK.out _ ⟨_, by first | rfl | (subst_vars; rfl), .inl (HZ.out (by omega))⟩
          · exact HK.out _ ⟨_, rfl, .inr rfl⟩
        · have hl21 : le = 21 := HLE.out.2 (by rintro ⟨-, -, h⟩; simp at h; exact hp h)
          subst hl21
          have hpn : (p.toList == name.toList) = false := by
            rw [Lib.toList_data, Lib.toList_data, beq_eq_false_iff_ne]
            intro h
            exact hp (by rw [← strOf_data p, h, strOf_data])
          simp only [List.length_cons] at *
          clear HCS HLE HER HWD
          go_wp2_with (first
            | (go_at_call 47; refine (must_ok B _).mono ?_; rintro e w' ⟨rfl, rfl⟩)
            | (go_at_call 48; refine (giveUp_any B (n + 1) 21 _ R3.out.c1).mono ?_; rintro e w' ⟨rfl, rfl⟩))
          exact ⟨rfl, G3.out, .inr ⟨by decide, rfl⟩⟩
    · have hl21 : le = 21 := HLE.out.2 (by rintro ⟨-, h, -⟩; exact hlen h)
      subst hl21
      rcases hk with ⟨rfl, rfl⟩ | ⟨g', cap', rfl, hcap', hg0, hg1, hcs⟩
      · clear HWD
        go_wp2_with (first
          | (go_at_call 47; refine (must_ok B _).mono ?_; rintro e w' ⟨rfl, rfl⟩)
          | (go_at_call 48; refine (giveUp_any B (n + 1) 21 _ R3.out.c1).mono ?_; rintro e w' ⟨rfl, rfl⟩))
        exact ⟨rfl, G3.out, .inr ⟨by decide, rfl⟩⟩
      · clear HWD hcs
        generalize ws.length = wl at *
        go_wp2_with (first
          | (go_at_call 47; refine (must_ok B _).mono ?_; rintro e w' ⟨rfl, rfl⟩)
          | (go_at_call 48; refine (giveUp_any B (n + 1) 21 _ R3.out.c1).mono ?_; rintro e w' ⟨rfl, rfl⟩))
        exact ⟨rfl, G3.out, .inr ⟨by decide, rfl⟩⟩
theorem next_any (N B M : Nat) (Av : List Nat) (L : List ByteArray) (n : Nat) (sc : Int) (ps : List ByteArray) (name : ByteArray) (cnt : Nat) (w : World) (hn : n ≤ 1000000) (hl : ∀ s ∈ L, s.size ≤ 1000000) (hn2 : L.length ≤ 1000000) (hc2 : cnt ≤ 1000000) (h : St N B M Av L n ps sc w) :
    Calls Tryz.prog 81 #[.pointer (some ⟨B, 0, none⟩), .string name, .int .i64 cnt] w (Res N B M Av L (n + 1) (nextW L n) sc w (nextE L n name cnt) (.tuple #[])) := by
  by_cases hlt : n < L.length
  · have h1 := next_some N B M Av L n sc ps name cnt w hlt hl hn2 hc2 h
    unfold nextW nextE
    rw [dif_pos hlt, dif_pos hlt]
    exact h1
  · unfold nextE
    rw [dif_neg hlt]
    refine (next_short N B M Av L n sc ps name cnt w hlt hn h).mono ?_
    rintro e w' ⟨h1, h2⟩
    exact ⟨h2, .inr ⟨by decide, h1⟩⟩
/-- end: behind the last line there is none. -/
def endE (L : List ByteArray) (n : Nat) : Int := if n < L.length then 22 else 0
set_option maxHeartbeats 1000000 in
theorem end_any (N B M : Nat) (Av : List Nat) (L : List ByteArray) (n : Nat) (sc : Int) (ps : List ByteArray) (w : World) (hn : n ≤ 1000000) (_hn2 : L.length ≤ 1000000) (h : St N B M Av L n ps sc w) :
    Calls Tryz.prog 55 #[.pointer (some ⟨B, 0, none⟩)] w fun e w' => w.grownBy w' (some B) ∧ ((endE L n = 0 ∧ e = .returned (.tuple #[]) ∧ St N B M Av L 0 ps sc w') ∨ (endE L n ≠ 0 ∧ Gave (n + 1) (endE L n) e)) := by
  have hlt := h.lt
  obtain ⟨⟨lv, wv, hr, hL, hW⟩, hE, hN, hbot, htop, hown⟩ := h
  have K : ∀ (k : Nat) (z : Int), w.grownBy ((w.drewN k).setCell ⟨B, 1, none⟩ (.int .i64 z)) (some B) ∧ St N B M Av L z ps sc ((w.drewN k).setCell ⟨B, 1, none⟩ (.int .i64 z)) := by
    intro k z
    have hg : w.grownBy ((w.drewN k).setCell ⟨B, 1, none⟩ (.int .i64 z)) (some B) := (grown_of (Joins.below_draws _ _ _) _).trans (grown_set _ _ _)
    have hd : Rd (w.drewN k) B lv n wv sc := hr
    exact ⟨hg, ⟨_, _, hd.s1 z, hL.grown (.inl rfl) hg, hW.grown (.inl rfl) hg⟩, hE.below (below_of hg hN hlt), hN, hbot, by rw [World.size_setCell]; exact htop, fun b hb => by rw [World.size_setCell]; exact hown b hb⟩
  have HK := Lib.hid K; clear K
  obtain ⟨a, cap, rfl, -, -⟩ := hL
  have c0 := hr.c0
  have c1 := hr.c1
  have f1 := hr.fz 1
  have HR := Lib.hid hr; clear hr
  clear hW hE hown
  have hee : (n < L.length → endE L n = 22) ∧ (¬ n < L.length → endE L n = 0) := ⟨fun h => if_pos h, fun h => if_neg h⟩
  generalize endE L n = ee at *
  have HEE := Lib.hid hee; clear hee
  generalize hll : L.length = ll at *
  by_cases hnl : n < ll
  · have h22 := HEE.out.1 hnl
    subst h22
    go_enter Tryz.func55, Tryz.ntmps55
    go_wp2_with fail
    go_quiet (fail)
    go_wp2_with fail
    refine (giveUp_any B (n + 1) 22 _ (HK.out _ _).2.c1).mono ?_
    rintro e w' ⟨rfl, rfl⟩
    go_wp2_with fail
    exact ⟨rfl, (HK.out _ _).1, .inr ⟨by decide, rfl⟩⟩
  · have h0 := HEE.out.2 hnl
    subst h0
    go_enter Tryz.func55, Tryz.ntmps55
    go_wp2_with fail
    go_quiet (fail)
    go_wp2_with fail
    go_end0
    exact ⟨(HK.out _ _).1, .inl ⟨by trivial, rfl, (HK.out _ _).2⟩⟩
end Sheet
end Go.Proofs.YtjmhlabgoegeoaaGreatDoor
