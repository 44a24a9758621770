/- Package file's reader: giveUp, must, next, list, end, time; over the translated program. -/
import Derived.Test.YtkggahoadeeajaaGreatDoorFilA
import Derived.Deep.RegionHeld3
namespace Go.Proofs.YtkggahoadeeajaaGreatDoor
namespace Fil
open Go Go.RowKit Deci
set_option linter.unusedVariables false
/-- The reader's variable: its lines, the line's number, the line's words. -/
def Rd (w : World) (B : Nat) (lv : Value) (ln : Int) (wv : Value) : Prop :=
  w.heap[B]? = some (.cells #[lv, .int .i64 ln, wv] 70)
section
variable {w w' : World} {B : Nat} {lv wv : Value} {ln : Int}
theorem Rd.lt (h : Rd w B lv ln wv) : B < w.heap.size := own_lt h
theorem Rd.c0 (h : Rd w B lv ln wv) : w.cell? ⟨B, 0, none⟩ = some lv := (own_cell h).trans rfl
theorem Rd.c1 (h : Rd w B lv ln wv) : w.cell? ⟨B, 1, none⟩ = some (.int .i64 ln) := (own_cell h).trans rfl
theorem Rd.c2 (h : Rd w B lv ln wv) : w.cell? ⟨B, 2, none⟩ = some wv := (own_cell h).trans rfl
theorem Rd.fz (h : Rd w B lv ln wv) (j : Nat) : w.frozen? ⟨B, j, none⟩ = false := own_free h
theorem Rd.s0 (h : Rd w B lv ln wv) (v : Value) : Rd (w.setCell ⟨B, 0, none⟩ v) B v ln wv := by
  have h' : w.heap[B]? = _ := h
  simp [Rd, World.setCell, Array.getElem?_modify, h']
theorem Rd.s1 (h : Rd w B lv ln wv) (n : Int) : Rd (w.setCell ⟨B, 1, none⟩ (.int .i64 n)) B lv n wv := by
  have h' : w.heap[B]? = _ := h
  simp [Rd, World.setCell, Array.getElem?_modify, h']
theorem Rd.s2 (h : Rd w B lv ln wv) (v : Value) : Rd (w.setCell ⟨B, 2, none⟩ v) B lv ln v := by
  have h' : w.heap[B]? = _ := h
  simp [Rd, World.setCell, Array.getElem?_modify, h']
theorem Rd.below (h : Rd w B lv ln wv) (hb : Below w.heap.size w w') : Rd w' B lv ln wv := (hb.block B h.lt).trans h
end
/-- The world's facts, for whatever turns behind block N. -/
def EnvAt (N : Nat) (w : World) : Prop := ∀ w', Below N w w' → Env w'
theorem EnvAt.env {N : Nat} {w : World} (h : EnvAt N w) : Env w := h w (Below.refl _ _)
theorem EnvAt.below {N : Nat} {w w' : World} (h : EnvAt N w) (hb : Below N w w') : EnvAt N w' := fun x hx => h x (hb.trans hx)
theorem EnvAt.mono {N N' : Nat} {w : World} (h : EnvAt N w) (hN : N ≤ N') : EnvAt N' w := fun w' hb => h w' (hb.mono hN)
theorem env_at {w : World} (h : Env w) : EnvAt w.heap.size w := fun _ hb => h.below hb
/-- The reader's lines: they lie ahead of block M, and not in its own. -/
def LinesAt (B M : Nat) (w : World) (lv : Value) (L : List ByteArray) : Prop :=
  ∃ a cap, lv = .slice a L.length cap ∧ (L = [] ∨ ∃ g o, a = some ⟨g, o, none⟩ ∧ g ≠ B ∧ g < M ∧ ∀ j (h : j < L.length), w.cell? ⟨g, o + j, none⟩ = some (.string L[j]))
theorem LinesAt.kept {B M : Nat} {w w' : World} {lv : Value} {L : List ByteArray} (h : LinesAt B M w lv L) (hk : ∀ g, g ≠ B → g < M → w'.heap[g]? = w.heap[g]?) : LinesAt B M w' lv L := by
  obtain ⟨a, cap, h1, h2⟩ := h
  refine ⟨a, cap, h1, h2.imp id ?_⟩
  rintro ⟨g, o, e, h3, h4, hc⟩
  exact ⟨g, o, e, h3, h4, fun j hj => (World.cell?_of_block (w := w) (a := ⟨g, o + j, none⟩) (hk g h3 h4)).trans (hc j hj)⟩
/-- THE READER's STATE: it lies in block B, behind block N, and its lines ahead of block M. -/
structure St (N B M : Nat) (L : List ByteArray) (ln : Int) (wv : Value) (w : World) : Prop where
  rd : ∃ lv, Rd w B lv ln wv ∧ LinesAt B M w lv L
  env : EnvAt N w
  le : N ≤ B
  bot : B < M
  top : M ≤ w.heap.size
section
variable {N B M : Nat} {L : List ByteArray} {ln : Int} {wv : Value} {w w' : World}
theorem St.lt (h : St N B M L ln wv w) : B < w.heap.size := Nat.lt_of_lt_of_le h.bot h.top
theorem St.c1 (h : St N B M L ln wv w) : w.cell? ⟨B, 1, none⟩ = some (.int .i64 ln) := by obtain ⟨lv, h, -⟩ := h.rd; exact h.c1
theorem St.c2 (h : St N B M L ln wv w) : w.cell? ⟨B, 2, none⟩ = some wv := by obtain ⟨lv, h, -⟩ := h.rd; exact h.c2
/-- Behind what turns nothing ahead of M. -/
theorem St.keep (h : St N B M L ln wv w) (hb : Below M w w') : St N B M L ln wv w' := by
  obtain ⟨⟨lv, h1, h2⟩, h4, h5, h6, h7⟩ := h
  exact ⟨⟨lv, (hb.block B h6).trans h1, h2.kept fun g _ hg => hb.block g hg⟩, h4.below (hb.mono (by omega)), h5, h6, Nat.le_trans h7 hb.size⟩
theorem St.below (h : St N B M L ln wv w) (hb : Below w.heap.size w w') : St N B M L ln wv w' := h.keep (hb.mono h.top)
theorem St.put (h : St N B M L ln wv w) {a : Addr} (h1 : M ≤ a.block) (u : Value) : St N B M L ln wv (w.setCell a u) := h.keep ((Below.refl _ _).setCell h1 u)
theorem St.grow (h : St N B M L ln wv w) {row : Option Nat} (hg : w.grownBy w' row) (hr : ∀ g, row = some g → M ≤ g) : St N B M L ln wv w' := by
  have htop := h.top
  exact h.keep ⟨hg.os, hg.tape, hg.output, hg.size, fun k hk => hg.block k (by omega) (fun e => absurd (hr k e.symm) (by omega))⟩
end
/-- A call that gives up, at a line, with an error. -/
def Gave (ln er : Int) (e : Ending) : Prop := e = .panicked [{ v := .iface 46 (.agg #[.int .i64 ln, .int .i64 er]), recovered := false }]
theorem giveUp_any (B : Nat) (ln er : Int) (w : World) (h : w.cell? ⟨B, 1, none⟩ = some (.int .i64 ln)) :
    Calls Tryz.prog 76 #[.pointer (some ⟨B, 0, none⟩), .int .i64 er] w fun e w' => Gave ln er e ∧ w = w' := by
  go_enter Tryz.func76, Tryz.ntmps76
  go_wp2
  exact ⟨rfl, rfl, rfl⟩
theorem must_ok (B : Nat) (w : World) :
    Calls Tryz.prog 52 #[.pointer (some ⟨B, 0, none⟩), .int .i64 0] w fun e w' => e = .returned (.tuple #[]) ∧ w = w' := by
  go_enter Tryz.func52, Tryz.ntmps52
  go_wp2
  go_end0
  exact ⟨rfl, rfl⟩
theorem must_gave (B : Nat) (ln er : Int) (w : World) (h : w.cell? ⟨B, 1, none⟩ = some (.int .i64 ln)) (he : er ≠ 0) :
    Calls Tryz.prog 52 #[.pointer (some ⟨B, 0, none⟩), .int .i64 er] w fun e w' => Gave ln er e ∧ w = w' := by
  go_enter Tryz.func52, Tryz.ntmps52
  go_wp2_with (go_at_call 76; refine (giveUp_any B ln er _ h).mono ?_; rintro e w' ⟨rfl, rfl⟩)
  exact ⟨rfl, rfl, rfl⟩
/-- What a call that goes to a line leaves: the reader, with that line's words; or it gives up. -/
def ResN (N B M : Nat) (L : List ByteArray) (n : Nat) (w : World) (er : Int) (e : Ending) (w' : World) : Prop :=
  w.grownBy w' (some B) ∧ ((er = 0 ∧ e = .returned (.tuple #[]) ∧ ∃ wv, St N B M L (n + 1 : Nat) wv w' ∧ Strs w' wv (nextW L n)) ∨ (er ≠ 0 ∧ Gave (n + 1 : Nat) er e))
def Went (N B M : Nat) (L : List ByteArray) (n : Nat) (ws : List ByteArray) (w : World) (er : Int) (e : Ending) (w' : World) : Prop :=
  w.grownBy w' (some B) ∧ ((er = 0 ∧ e = .returned (.tuple #[]) ∧ ∃ wv, St N B M L (n + 1 : Nat) wv w' ∧ Strs w' wv ws) ∨ (er ≠ 0 ∧ Gave (n + 1 : Nat) er e))
/-- The words of a line, told, lie in blocks of the call's own. -/
theorem told_strs {w w' : World} {v : Value} {ps : List ByteArray} (h : w'.ownsRow w.heap.size 9 1 v ps.length (ps.map Value.string)) :
    (v = .slice none 0 0 ∧ ps = []) ∨ ∃ g cap, v = .slice (some ⟨g, 0, none⟩) ps.length cap ∧ ps.length ≤ cap ∧ w.heap.size ≤ g ∧ g < w'.heap.size ∧ ∀ j (h : j < ps.length), w'.cell? ⟨g, j, none⟩ = some (.string ps[j]) := by
  rcases h.2 with ⟨rfl, h0⟩ | ⟨g, cap, cur, rfl, hb, hg, h1, _, h2, h3⟩
  · exact .inl ⟨rfl, List.eq_nil_of_length_eq_zero h0⟩
  · refine .inr ⟨g, cap, rfl, h1, hb, (Array.getElem?_eq_some_iff.1 hg).1, fun j hj => ?_⟩
    have e : cur[j]? = some (.string ps[j]) := by
      have := congrArg (·[j]?) h3
      simp only [Nat.mul_one] at this
      rw [List.getElem?_take, if_pos hj, List.getElem?_map, List.getElem?_eq_getElem hj] at this
      simpa using this
    simp only [World.cell?, hg]
    exact e
set_option maxHeartbeats 1000000 in
theorem next_short (N B M : Nat) (L : List ByteArray) (n : Nat) (wv : Value) (name : ByteArray) (w : World) (hn : ¬ n < L.length) (hn2 : n ≤ 2000000) (h : St N B M L n wv w) :
    Calls Tryz.prog 77 #[.pointer (some ⟨B, 0, none⟩), .string name] w fun e w' => Gave (n + 1 : Nat) 20 e ∧ w.grownBy w' (some B) := by
  have hlt := h.lt
  obtain ⟨⟨lv, hr, ⟨a, cap, rfl, -⟩⟩, -⟩ := h
  generalize L.length = ll at *
  have c0 := hr.c0
  have c1 := hr.c1
  have f1 := hr.fz 1
  have hs := hr.s1 (n + 1)
  have hg := grown_set w ⟨B, 1, none⟩ (.int .i64 (n + 1))
  have HR := Lib.hid hr; clear hr
  have HG := Lib.hid hg; clear hg
  have HS := Lib.hid hs; clear hs
  go_enter Tryz.func77, Tryz.ntmps77
  go_wp2_with fail
  clear c0 c1 f1
  generalize w.setCell ⟨B, 1, none⟩ (.int .i64 (n + 1)) = w1 at *
  have c0 := HS.out.c0
  have c1 := HS.out.c1
  go_quiet (fail)
  go_wp2_with (go_at_call 76; refine (giveUp_any B (n + 1) 20 _ (by first | exact HS.out.c1 | (rw [World.cell?_drewN]; exact HS.out.c1))).mono ?_; rintro e w' ⟨rfl, rfl⟩)
  exact ⟨rfl, rfl, HG.out.trans (grown_of (Joins.below_draws _ _ _) _)⟩
set_option maxHeartbeats 1000000 in
theorem next_some (N B M : Nat) (L : List ByteArray) (n : Nat) (wv : Value) (name : ByteArray) (w : World) (hn : n < L.length) (hl : ∀ s ∈ L, s.size ≤ 1000000) (hn2 : L.length ≤ 1000001) (h : St N B M L n wv w) :
    Calls Tryz.prog 77 #[.pointer (some ⟨B, 0, none⟩), .string name] w (Went N B M L n (wordsP L[n].data.toList).tail w (lineE L[n] name)) := by
  have hlt := h.lt
  have hsz := hl _ (List.getElem_mem hn)
  obtain ⟨⟨lv, hr, hL⟩, hE, hN, hbot, htop⟩ := h
  have hL' := hL
  obtain ⟨a, cap, rfl, hLL⟩ := hL
  rcases hLL with hLL | ⟨g, o, rfl, hne, hgs, hc⟩
  · subst hLL; simp at hn
  have q0 := hc n hn
  have c0 := hr.c0
  have c1 := hr.c1
  have f1 := hr.fz 1
  have hs := hr.s1 (n + 1)
  have hg := grown_set w ⟨B, 1, none⟩ (.int .i64 (n + 1))
  have hgs' : g < w.heap.size := Nat.lt_of_lt_of_le hgs htop
  have qq := (hg.cell_far ⟨g, o + n, none⟩ hgs' (by simpa using fun e : g = B => hne e)).trans q0
  have HL := Lib.hid (hL'.kept (w' := w.setCell ⟨B, 1, none⟩ (.int .i64 (n + 1))) fun k h1 h2 => Below.heap_setCell w ⟨B, 1, none⟩ _ k h1); clear hL'
  have HE := Lib.hid (hE.below (below_of hg hN hlt)); clear hE
  have HR := Lib.hid hr; clear hr
  have HG := Lib.hid hg; clear hg
  have HS := Lib.hid hs; clear hs
  have HQ := Lib.hid qq; clear qq
  clear hc hne q0
  have hwd := fun w => Deci.words_any L[n] w (by omega)
  have hle : (wordsE L[n].data.toList = 0 ∧ (wordsP L[n].data.toList).head? = some name → lineE L[n] name = 0) ∧ (¬ (wordsE L[n].data.toList = 0 ∧ (wordsP L[n].data.toList).head? = some name) → lineE L[n] name = 21) := by
    unfold lineE; exact ⟨fun h => if_pos h, fun h => if_neg h⟩
  have her : wordsE L[n].data.toList = 0 ∨ wordsE L[n].data.toList = 21 := by unfold wordsE; split <;> (try split) <;> simp
  have hmany := words_many L[n].data.toList
  have hsz' : L[n].data.toList.length = L[n].size := by simp
  generalize lineE L[n] name = le at *
  generalize wordsP L[n].data.toList = ws at *
  generalize wordsE L[n].data.toList = er at *
  have hmany' : ws.length ≤ 1000001 := by omega
  clear hmany hsz'
  have HLE := Lib.hid hle; clear hle
  have HER := Lib.hid her; clear her
  generalize L[n] = l at *
  generalize hll : L.length = ll at *
  have HWD := Lib.hid hwd; clear hwd
  clear hl hsz
  go_enter Tryz.func77, Tryz.ntmps77
  go_wp2_with fail
  clear c0 c1 f1
  generalize w.setCell ⟨B, 1, none⟩ (.int .i64 (n + 1)) = w1 at *
  have c0 := HS.out.c0
  have c1 := HS.out.c1
  have c3 := HQ.out
  go_quiet (fail)
  go_wp2_with fail
  have hb1 := Joins.below_draws w1.heap.size w1 nq
  have HB1 := Lib.hid hb1; clear hb1
  generalize hW2 : w1.drewN nq = w2 at *
  have c0 : w2.cell? ⟨B, 0, none⟩ = some (.slice (some ⟨g, o, none⟩) ll cap) := by rw [← hW2]; exact HS.out.c0
  have c1 : w2.cell? ⟨B, 1, none⟩ = some (.int .i64 (n + 1)) := by rw [← hW2]; exact HS.out.c1
  have c3 : w2.cell? ⟨g, o + n, none⟩ = some (.string l) := by rw [← hW2]; exact HQ.out
  have hB2 : B < w2.heap.size := by rw [← hW2]; exact Nat.lt_of_lt_of_le hlt HG.out.size
  have hg2 : g < w2.heap.size := by rw [← hW2]; exact Nat.lt_of_lt_of_le hgs' HG.out.size
  have HB2 := Lib.hid hB2; clear hB2
  have HG2 := Lib.hid hg2; clear hg2
  have i0 : (0 : Int) ≤ (n : Int) := by omega
  have i1 : (n : Int) < (ll : Int) := by omega
  have i3 : IntKind.i64.wrap (n : Int) = (n : Int) := by unfold IntKind.wrap; simp [IntKind.signed, IntKind.bits]; omega
  have i2 : IntKind.i64.wrap ((n : Int) + 1 - 1) = (n : Int) := by rw [show (n : Int) + 1 - 1 = n by omega]; exact i3
  have i4 : (n : Int) ≤ (ll : Int) := by omega
  have i5 : ¬ (n : Int) < 0 := by omega
  have i6 : ¬ (ll : Int) ≤ (n : Int) := by omega
  go_region_held3 (fun w' => w'.cell? ⟨B, 0, none⟩ = some (.slice (some ⟨g, o, none⟩) ll cap) ∧ w'.cell? ⟨B, 1, none⟩ = some (.int .i64 (n + 1)) ∧ w'.cell? ⟨g, o + n, none⟩ = some (.string l)) (go_keep) (first | (go_at_call 96; refine (HWD.out _).mono ?_; rintro e w3 ⟨v, rfl, hrow, hbb⟩; have HROW := Lib.hid hrow; clear hrow; have k0 := (hbb.cell (p := ⟨B, 0, none⟩) HB2.out).trans c0; have k1 := (hbb.cell (p := ⟨B, 1, none⟩) HB2.out).trans c1; have k3 := (hbb.cell (p := ⟨g, o + n, none⟩) HG2.out).trans c3; have HBB := Lib.hid hbb; clear hbb))
  have B3 : Below w1.heap.size w1 w3 := by subst hW2; exact HB1.out.drew.trans HBB.out
  have hs1 : w.heap.size ≤ w1.heap.size := HG.out.size
  have R3 := Lib.hid (HS.out.below (B3.mono (Nat.le_refl _)))
  have G3 := Lib.hid (HG.out.trans (grown_of B3 (some B)))
  have L3 := Lib.hid (HL.out.kept (w' := w3) fun k _ h2 => B3.block k (by omega))
  have E3 := Lib.hid (HE.out.below (B3.mono (by omega)))
  have hrow : w3.ownsRow w1.heap.size 9 1 v ws.length (ws.map Value.string) := by subst hW2; exact HROW.out
  have hk := told_strs hrow
  have hz3 : w1.heap.size ≤ w3.heap.size := B3.size
  clear hrow B3 HROW HBB HE HL HS HG HQ HR HB1 c0 c1 c3 k0 k3 i0 i1 i2 i3 i4 i5 i6 hW2
  rcases HER.out with rfl | rfl
  case inr =>
    have hl21 : le = 21 := HLE.out.2 (by rintro ⟨h, -⟩; exact absurd h (by decide))
    subst hl21
    go_wp2_with (go_at_call 52; refine (must_gave B (n + 1) 21 _ R3.out.c1 (by decide)).mono ?_; rintro e w' ⟨rfl, rfl⟩)
    exact ⟨rfl, G3.out, .inr ⟨by decide, rfl⟩⟩
  case inl =>
    have c0 := R3.out.c0
    have c1 := R3.out.c1
    rcases hk with ⟨rfl, rfl⟩ | ⟨g', cap', rfl, hcap', hg0, hg1, hcs⟩
    · have hl21 : le = 21 := HLE.out.2 (by rintro ⟨-, h⟩; simp at h)
      subst hl21
      clear HWD
      go_wp2_with (first
        | (go_at_call 52; refine (must_ok B _).mono ?_; rintro e w' ⟨rfl, rfl⟩)
        | (go_at_call 76; refine (giveUp_any B (n + 1) 21 _ R3.out.c1).mono ?_; rintro e w' ⟨rfl, rfl⟩))
      exact ⟨rfl, G3.out, .inr ⟨by decide, rfl⟩⟩
    · cases ws with
      | nil =>
        have hl21 : le = 21 := HLE.out.2 (by rintro ⟨-, h⟩; simp at h)
        subst hl21
        clear HWD hcs
        simp only [List.length_nil]
        go_wp2_with (first
          | (go_at_call 52; refine (must_ok B _).mono ?_; rintro e w' ⟨rfl, rfl⟩)
          | (go_at_call 76; refine (giveUp_any B (n + 1) 21 _ R3.out.c1).mono ?_; rintro e w' ⟨rfl, rfl⟩))
        exact ⟨rfl, G3.out, .inr ⟨by decide, rfl⟩⟩
      | cons p rest =>
        have q0 := hcs 0 (by simp)
        simp only [List.getElem_cons_zero] at q0
        have HCS := Lib.hid hcs; clear hcs
        have f2 := R3.out.fz 2
        have c2 := R3.out.c2
        by_cases hp : p = name
        · have hl0 : le = 0 := HLE.out.1 ⟨rfl, by rw [hp]; rfl⟩
          subst hl0
          simp only [List.length_cons] at hcap' hmany'
          have K : ∀ u, (∃ a', u = .slice a' rest.length (cap' - 1) ∧ (rest = [] ∨ a' = some ⟨g', 1, none⟩)) →
              Went N B M L n rest w 0 (.returned (.tuple #[])) (w3.setCell ⟨B, 2, none⟩ u) := by
            rintro u ⟨a', rfl, hu⟩
            have hg := grown_set w3 ⟨B, 2, none⟩ (.slice a' rest.length (cap' - 1))
            have hB3 : B < w3.heap.size := R3.out.lt
            refine ⟨G3.out.trans hg, .inl ⟨rfl, rfl, _, ⟨⟨_, R3.out.s2 _, L3.out.kept fun k h1 h2 => Below.heap_setCell w3 ⟨B, 2, none⟩ _ k h1⟩, E3.out.below (below_of hg hN hB3), hN, hbot, by rw [World.size_setCell]; omega⟩, a', cap' - 1, rfl, by omega, ?_⟩⟩
            rcases hu with hu | rfl
            · exact .inl hu
            · refine .inr ⟨g', 1, rfl, by rw [World.size_setCell]; exact hg1, fun j hj => ?_⟩
              have := HCS.out (j + 1) (by simp; omega)
              rw [show 1 + j = j + 1 by omega]
              refine (hg.cell_far ⟨g', j + 1, none⟩ hg1 (by simpa using fun e : g' = B => by omega)).trans ?_
              simpa using this
          have HK := Lib.hid K; clear K
          have hz : rest.length = 0 → rest = [] := List.eq_nil_of_length_eq_zero
          have HZ := Lib.hid hz; clear hz
          clear HCS HLE HER HWD
          subst hp
          simp only [List.length_cons, List.tail_cons]
          generalize rest.length = rl at *
          go_wp2_with (go_at_call 52; refine (must_ok B _).mono ?_; rintro e w' ⟨rfl, rfl⟩)
          all_goals go_end0
          · exact HK.out _ ⟨_, by first | rfl | (subst_vars; rfl), .inl (HZ.out (by omega))⟩
          · exact HK.out _ ⟨_, rfl, .inr rfl⟩
        · have hl21 : le = 21 := HLE.out.2 (by rintro ⟨-, h⟩; simp at h; exact hp h)
          subst hl21
          have hpn : (p.toList == name.toList) = false := by
            rw [Lib.toList_data, Lib.toList_data, beq_eq_false_iff_ne]
            intro h
            exact hp (by rw [← strOf_data p, h, strOf_data])
          simp only [List.length_cons] at *
          clear HCS HLE HER HWD
          go_wp2_with (first
            | (go_at_call 52; refine (must_ok B _).mono ?_; rintro e w' ⟨rfl, rfl⟩)
            | (go_at_call 76; refine (giveUp_any B (n + 1) 21 _ R3.out.c1).mono ?_; rintro e w' ⟨rfl, rfl⟩))
          exact ⟨rfl, G3.out, .inr ⟨by decide, rfl⟩⟩
theorem next_any (N B M : Nat) (L : List ByteArray) (n : Nat) (wv : Value) (name : ByteArray) (w : World) (hn : n ≤ 2000000) (hl : ∀ s ∈ L, s.size ≤ 1000000) (hn2 : L.length ≤ 1000001) (h : St N B M L n wv w) :
    Calls Tryz.prog 77 #[.pointer (some ⟨B, 0, none⟩), .string name] w (ResN N B M L n w (nextE L n name)) := by
  unfold ResN
  by_cases hlt : n < L.length
  · have h1 := next_some N B M L n wv name w hlt hl hn2 h
    unfold nextW nextE
    rw [dif_pos hlt, dif_pos hlt]
    exact h1
  · unfold nextE
    rw [dif_neg hlt]
    refine (next_short N B M L n wv name w hlt hn h).mono ?_
    rintro e w' ⟨h1, h2⟩
    exact ⟨h2, .inr ⟨by decide, h1⟩⟩
theorem resN_yes {N B M n : Nat} {L : List ByteArray} {w w' : World} {e : Ending} (h : ResN N B M L n w 0 e w') : e = .returned (.tuple #[]) ∧ w.grownBy w' (some B) ∧ ∃ wv, St N B M L (n + 1 : Nat) wv w' ∧ Strs w' wv (nextW L n) := by
  obtain ⟨h1, h2 | h2⟩ := h
  · exact ⟨h2.2.1, h1, h2.2.2⟩
  · exact absurd rfl h2.1
theorem resN_no {N B M n : Nat} {L : List ByteArray} {w w' : World} {er : Int} {e : Ending} (h : ResN N B M L n w er e w') (he : er ≠ 0) : Gave (n + 1 : Nat) er e ∧ w.grownBy w' (some B) := by
  obtain ⟨h1, h2 | h2⟩ := h
  · exact absurd h2.1 he
  · exact ⟨h2.2, h1⟩
set_option maxHeartbeats 1000000 in
theorem list_any (N B M : Nat) (L : List ByteArray) (n : Nat) (wv : Value) (name : ByteArray) (w : World) (hn : n ≤ 2000000) (hl : ∀ s ∈ L, s.size ≤ 1000000) (hn2 : L.length ≤ 1000001) (h : St N B M L n wv w) :
    Calls Tryz.prog 56 #[.pointer (some ⟨B, 0, none⟩), .string name] w (ResN N B M L n w (listE L n name)) := by
  have h0 := next_any N B M L n wv name w hn hl hn2 h
  have hm := nextW_many (n := n) hl
  unfold listE
  clear h hl
  by_cases he : nextE L n name = 0
  · rw [he] at h0
    rw [he, twoE_ok]
    have H0 := Lib.hid (h0.mono fun _ _ h => resN_yes h); clear h0
    unfold ResN
    by_cases hbig : 4096 < (nextW L n).length
    · rw [if_pos hbig]
      go_enter Tryz.func56, Tryz.ntmps56
      go_wp2_with fail
      refine H0.out.mono ?_
      rintro e w1 ⟨rfl, hg, wv1, hs, a, cap, rfl, -, -⟩
      have c2 := hs.c2
      have HS := Lib.hid hs; clear hs
      have HG := Lib.hid hg; clear hg
      clear he
      generalize (nextW L n).length = k at *
      go_wp2_with (go_at_call 76; refine (giveUp_any B (n + 1 : Nat) 3 _ HS.out.c1).mono ?_; rintro e w' ⟨rfl, rfl⟩)
      exact ⟨rfl, HG.out, .inr ⟨by decide, rfl⟩⟩
    · rw [if_neg hbig]
      go_enter Tryz.func56, Tryz.ntmps56
      go_wp2_with fail
      refine H0.out.mono ?_
      rintro e w1 ⟨rfl, hg, wv1, hs, hw⟩
      obtain ⟨a, cap, rfl, hcap, hw2⟩ := hw
      have HW := Lib.hid (show Strs w1 (.slice a (nextW L n).length cap) (nextW L n) from ⟨a, cap, rfl, hcap, hw2⟩); clear hw2
      have c2 := hs.c2
      have HS := Lib.hid hs; clear hs
      have HG := Lib.hid hg; clear hg
      clear he
      generalize hk : (nextW L n).length = k at *
      have HKK := Lib.hid hk; clear hk
      go_wp2_with fail
      go_end0
      exact ⟨HG.out, .inl ⟨by trivial, rfl, _, HS.out, HW.out⟩⟩
  · rw [twoE_no _ he]
    have H0 := Lib.hid (h0.mono fun _ _ h => resN_no h he); clear h0
    unfold ResN
    generalize nextE L n name = er at *
    go_enter Tryz.func56, Tryz.ntmps56
    go_wp2_with fail
    refine H0.out.mono ?_
    rintro e w1 ⟨rfl, hg1⟩
    go_wp2_with fail
    exact ⟨rfl, hg1, .inr ⟨he, rfl⟩⟩
set_option maxHeartbeats 1000000 in
theorem end_any (N B M : Nat) (L : List ByteArray) (n : Nat) (wv : Value) (w : World) (hn : n ≤ 2000000) (hn2 : L.length ≤ 1000001) (h : St N B M L n wv w) :
    Calls Tryz.prog 59 #[.pointer (some ⟨B, 0, none⟩)] w fun e w' => w.grownBy w' (some B) ∧ ((endE L n = 0 ∧ e = .returned (.tuple #[])) ∨ (endE L n ≠ 0 ∧ Gave (n + 1 : Nat) (endE L n) e)) := by
  have hlt := h.lt
  obtain ⟨⟨lv, hr, hL⟩, -⟩ := h
  obtain ⟨a, cap, rfl, -⟩ := hL
  have K : ∀ (k : Nat) (z : Int), w.grownBy ((w.drewN k).setCell ⟨B, 1, none⟩ (.int .i64 z)) (some B) ∧ ((w.drewN k).setCell ⟨B, 1, none⟩ (.int .i64 z)).cell? ⟨B, 1, none⟩ = some (.int .i64 z) := by
    intro k z
    have hd : Rd (w.drewN k) B (.slice a L.length cap) n wv := hr
    exact ⟨(grown_of (Joins.below_draws _ _ _) _).trans (grown_set _ _ _), (hd.s1 z).c1⟩
  have HK := Lib.hid K; clear K
  have c0 := hr.c0
  have c1 := hr.c1
  have f1 := hr.fz 1
  have HR := Lib.hid hr; clear hr
  have hee : (n < L.length → endE L n = 22) ∧ (¬ n < L.length → endE L n = 0) := ⟨fun h => if_pos h, fun h => if_neg h⟩
  generalize endE L n = ee at *
  have HEE := Lib.hid hee; clear hee
  generalize hll : L.length = ll at *
  by_cases hnl : n < ll
  · have h22 := HEE.out.1 hnl
    subst h22
    go_enter Tryz.func59, Tryz.ntmps59
    go_wp2_with fail
    go_quiet (fail)
    go_wp2_with fail
    refine (giveUp_any B (n + 1) 22 _ (HK.out _ _).2).mono ?_
    rintro e w' ⟨rfl, rfl⟩
    go_wp2_with fail
    exact ⟨rfl, (HK.out _ _).1, .inr ⟨by decide, rfl⟩⟩
  · have h0 := HEE.out.2 hnl
    subst h0
    go_enter Tryz.func59, Tryz.ntmps59
    go_wp2_with fail
    go_quiet (fail)
    go_wp2_with fail
    go_end0
    exact ⟨grown_of (Joins.below_draws _ _ _) _, .inl ⟨by trivial, rfl⟩⟩
set_option maxHeartbeats 1000000 in
theorem time_any (s : ByteArray) (w : World) (hE : Env w) (hs : s.size ≤ 4294967000) :
    Calls Tryz.prog 78 #[.string s] w fun e w' => e = .returned (.tuple #[.int .i64 (timeV s.data.toList), .int .i64 (timeE s.data.toList)]) ∧ Below w.heap.size w w' := by
  have h1 := read_any s 0 w hE hs
  have hv : (readV s.data.toList 0 < 0 → timeV s.data.toList = 0 ∧ timeE s.data.toList = 23) ∧ (¬ readV s.data.toList 0 < 0 → timeV s.data.toList = readV s.data.toList 0 ∧ timeE s.data.toList = readE s.data.toList 0) := by
    unfold timeV timeE; exact ⟨fun h => ⟨if_pos h, if_pos h⟩, fun h => ⟨if_neg h, if_neg h⟩⟩
  generalize timeV s.data.toList = tv at *
  generalize timeE s.data.toList = te at *
  generalize readV s.data.toList 0 = v at *
  generalize readE s.data.toList 0 = er at *
  have H1 := Lib.hid h1; clear h1
  have HV := Lib.hid hv; clear hv
  by_cases hneg : v < 0
  · obtain ⟨rfl, rfl⟩ := HV.out.1 hneg
    go_enter Tryz.func78, Tryz.ntmps78
    go_wp2_with fail
    refine H1.out.mono ?_
    rintro e w1 ⟨rfl, hb⟩
    have HB := Lib.hid hb; clear hb
    go_wp2_with fail
    go_ret2
    exact ⟨rfl, HB.out⟩
  · obtain ⟨rfl, rfl⟩ := HV.out.2 hneg
    clear HV
    go_enter Tryz.func78, Tryz.ntmps78
    go_wp2_with fail
    refine H1.out.mono ?_
    rintro e w1 ⟨rfl, hb⟩
    have HB := Lib.hid hb; clear hb
    go_wp2_with fail
    go_ret2
    exact ⟨rfl, HB.out⟩
end Fil
end Go.Proofs.YtkggahoadeeajaaGreatDoor
