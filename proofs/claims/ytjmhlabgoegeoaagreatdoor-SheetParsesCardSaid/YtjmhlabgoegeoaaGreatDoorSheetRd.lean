/- Package sheet's reader: what its small methods answer, and with what they give up; over the translated program. Package sheet's reader: whole, within, load, spot: over the translated program. Package sheet's reader: load, spot, next: over the translated program. -/
import Derived.Test.YtjmhlabgoegeoaaGreatDoorDeciLines
import Derived.Test.YtjmhlabgoegeoaaGreatDoorDeciWhole
import Derived.Deep.QuietTactic
import Derived.BigQuiet
import Derived.Deep.AppendLies
import Derived.Test.YtjmhlabgoegeoaaGreatDoorSheetSpot
namespace Go.Proofs.YtjmhlabgoegeoaaGreatDoor
namespace Sheet
open Go Go.RowKit Deci
/-- The reader's variable: its lines, the line's number, the words that are left, the scale. -/
def Rd (w : World) (B : Nat) (lv : Value) (ln : Int) (wv : Value) (sc : Int) : Prop :=
  w.heap[B]? = some (.cells #[lv, .int .i64 ln, wv, .int .i64 sc] 61)
section
variable {w : World} {B : Nat} {lv wv : Value} {ln sc : Int}
theorem Rd.lt (h : Rd w B lv ln wv sc) : B < w.heap.size := (Array.getElem?_eq_some_iff.1 h).1
theorem Rd.c0 (h : Rd w B lv ln wv sc) : w.cell? ⟨B, 0, none⟩ = some lv := by simp [World.cell?, show w.heap[B]? = _ from h]
theorem Rd.c1 (h : Rd w B lv ln wv sc) : w.cell? ⟨B, 1, none⟩ = some (.int .i64 ln) := by simp [World.cell?, show w.heap[B]? = _ from h]
theorem Rd.c2 (h : Rd w B lv ln wv sc) : w.cell? ⟨B, 2, none⟩ = some wv := by simp [World.cell?, show w.heap[B]? = _ from h]
theorem Rd.c3 (h : Rd w B lv ln wv sc) : w.cell? ⟨B, 3, none⟩ = some (.int .i64 sc) := by simp [World.cell?, show w.heap[B]? = _ from h]
theorem Rd.fz (h : Rd w B lv ln wv sc) (j : Nat) : w.frozen? ⟨B, j, none⟩ = false := by simp [World.frozen?, show w.heap[B]? = _ from h]
theorem Rd.s0 (h : Rd w B lv ln wv sc) (v : Value) : Rd (w.setCell ⟨B, 0, none⟩ v) B v ln wv sc := by
  have h' : w.heap[B]? = _ := h
  simp [Rd, World.setCell, Array.getElem?_modify, h']
theorem Rd.s1 (h : Rd w B lv ln wv sc) (n : Int) : Rd (w.setCell ⟨B, 1, none⟩ (.int .i64 n)) B lv n wv sc := by
  have h' : w.heap[B]? = _ := h
  simp [Rd, World.setCell, Array.getElem?_modify, h']
theorem Rd.s2 (h : Rd w B lv ln wv sc) (v : Value) : Rd (w.setCell ⟨B, 2, none⟩ v) B lv ln v sc := by
  have h' : w.heap[B]? = _ := h
  simp [Rd, World.setCell, Array.getElem?_modify, h']
theorem Rd.s3 (h : Rd w B lv ln wv sc) (n : Int) : Rd (w.setCell ⟨B, 3, none⟩ (.int .i64 n)) B lv ln wv n := by
  have h' : w.heap[B]? = _ := h
  simp [Rd, World.setCell, Array.getElem?_modify, h']
theorem Rd.below {w' : World} (h : Rd w B lv ln wv sc) (hb : Below w.heap.size w w') : Rd w' B lv ln wv sc := (hb.block B h.lt).trans h
end
/-- A store into a block turns that one alone. -/
theorem grown_set (w : World) (a : Addr) (u : Value) : w.grownBy (w.setCell a u) (some a.block) :=
  ⟨rfl, rfl, rfl, by rw [World.size_setCell]; exact Nat.le_refl _, fun k _ hne => Below.heap_setCell w a u k (fun e => hne (by rw [e]))⟩
theorem grown_of {w w' : World} (h : Below w.heap.size w w') (row : Option Nat) : w.grownBy w' row := ⟨h.os, h.tape, h.output, h.size, fun k hk _ => h.block k hk⟩
theorem grown_refl (w : World) (row : Option Nat) : w.grownBy w row := ⟨rfl, rfl, rfl, Nat.le_refl _, fun _ _ _ => rfl⟩
theorem below_of {w w' : World} {N B : Nat} (h : w.grownBy w' (some B)) (hN : N ≤ B) (hB : B < w.heap.size) : Below N w w' :=
  ⟨h.os, h.tape, h.output, h.size, fun k hk => h.block k (by omega) (fun e => by cases e; omega)⟩
/-- A slice, none of whose cells lie in some blocks, holds these texts. -/
def Strs (w : World) (Bad : Nat → Prop) (v : Value) (ps : List ByteArray) : Prop :=
  ∃ a cap, v = .slice a ps.length cap ∧ ps.length ≤ cap ∧ (ps = [] ∨ ∃ g o, a = some ⟨g, o, none⟩ ∧ ¬ Bad g ∧ g < w.heap.size ∧ ∀ j (h : j < ps.length), w.cell? ⟨g, o + j, none⟩ = some (.string ps[j]))
theorem Strs.turned {w w' : World} {Bad : Nat → Prop} {v : Value} {ps : List ByteArray} (h : Strs w Bad v ps) (hs : w.heap.size ≤ w'.heap.size) (hg : ∀ a : Addr, a.block < w.heap.size → ¬ Bad a.block → w'.cell? a = w.cell? a) : Strs w' Bad v ps := by
  obtain ⟨a, cap, h1, h2, h3⟩ := h
  refine ⟨a, cap, h1, h2, h3.imp id ?_⟩
  rintro ⟨g, o, e, hne, hlt, hc⟩
  exact ⟨g, o, e, hne, Nat.lt_of_lt_of_le hlt hs, fun j hj => (hg ⟨g, o + j, none⟩ hlt hne).trans (hc j hj)⟩
theorem Strs.grown {w w' : World} {Bad : Nat → Prop} {B : Nat} {v : Value} {ps : List ByteArray} (h : Strs w Bad v ps) (hB : Bad B) (hg : w.grownBy w' (some B)) : Strs w' Bad v ps :=
  h.turned hg.size fun a h1 h2 => hg.cell_far a h1 (by simpa using fun e : a.block = B => h2 (e ▸ hB))
theorem Strs.set {w : World} {Bad : Nat → Prop} {v : Value} {ps : List ByteArray} (h : Strs w Bad v ps) {a : Addr} (ha : Bad a.block) (u : Value) : Strs (w.setCell a u) Bad v ps :=
  h.turned (by rw [World.size_setCell]; exact Nat.le_refl _) fun x _ h2 => World.cell?_of_block (Below.heap_setCell w a u x.block (fun e => h2 (e ▸ ha)))
theorem Strs.mono {w : World} {Bad Bad' : Nat → Prop} {v : Value} {ps : List ByteArray} (h : Strs w Bad v ps) (hM : ∀ k, k < w.heap.size → Bad' k → Bad k) : Strs w Bad' v ps := by
  obtain ⟨a, cap, h1, h2, h3⟩ := h
  exact ⟨a, cap, h1, h2, h3.imp id fun ⟨g, o, e, hne, hlt, hc⟩ => ⟨g, o, e, fun hb => hne (hM g hlt hb), hlt, hc⟩⟩
theorem Strs.nil {w : World} {Bad : Nat → Prop} {v : Value} (h : Strs w Bad v []) (w' : World) (Bad' : Nat → Prop) : Strs w' Bad' v [] := by
  obtain ⟨a, cap, h1, h2, h3⟩ := h
  exact ⟨a, cap, h1, h2, .inl rfl⟩
/-- The world's facts, for whatever turns behind block N. -/
def EnvAt (N : Nat) (w : World) : Prop := ∀ w', Below N w w' → Env w'
theorem EnvAt.env {N : Nat} {w : World} (h : EnvAt N w) : Env w := h w (Below.refl _ _)
theorem EnvAt.below {N : Nat} {w w' : World} (h : EnvAt N w) (hb : Below N w w') : EnvAt N w' := fun x hx => h x (hb.trans hx)
/-- Blocks in which a line's text may not lie; blocks in which a word that is left may not lie. -/
def BadL (B M : Nat) (k : Nat) : Prop := k = B ∨ M ≤ k
def BadW (B : Nat) (Av : List Nat) (k : Nat) : Prop := k = B ∨ k ∈ Av
/-- THE READER's STATE: it lies in block B, behind block N; it and its lines ahead of block M; the caller's own blocks Av lie behind that; its lines, the line's number, the words that are left, the scale. -/
structure St (N B M : Nat) (Av : List Nat) (L : List ByteArray) (ln : Int) (ps : List ByteArray) (sc : Int) (w : World) : Prop where
  rd : ∃ lv wv, Rd w B lv ln wv sc ∧ Strs w (BadL B M) lv L ∧ Strs w (BadW B Av) wv ps
  env : EnvAt N w
  le : N ≤ B
  bot : B < M
  top : M ≤ w.heap.size
  own : ∀ b ∈ Av, M ≤ b ∧ b < w.heap.size
section
variable {N B M : Nat} {Av : List Nat} {L ps : List ByteArray} {ln sc : Int} {w w' : World}
theorem St.lt (h : St N B M Av L ln ps sc w) : B < w.heap.size := Nat.lt_of_lt_of_le h.bot h.top
theorem St.below (h : St N B M Av L ln ps sc w) (hb : Below w.heap.size w w') : St N B M Av L ln ps sc w' := by
  have hlt := h.lt
  obtain ⟨⟨lv, wv, h1, h2, h3⟩, h4, h5, h6, h7, h8⟩ := h
  exact ⟨⟨lv, wv, h1.below hb, h2.grown (.inl rfl) (grown_of hb _), h3.grown (.inl rfl) (grown_of hb _)⟩, h4.below (hb.mono (by omega)), h5, h6, Nat.le_trans h7 hb.size, fun b hb' => ⟨(h8 b hb').1, Nat.lt_of_lt_of_le (h8 b hb').2 hb.size⟩⟩
theorem St.set (h : St N B M Av L ln ps sc w) {a : Addr} (ha : a.block ∈ Av) (u : Value) : St N B M Av L ln ps sc (w.setCell a u) := by
  obtain ⟨⟨lv, wv, h1, h2, h3⟩, h4, h5, h6, h7, h8⟩ := h
  have hM := (h8 _ ha).1
  have hb : Below M w (w.setCell a u) := (Below.refl _ _).setCell hM u
  exact ⟨⟨lv, wv, (hb.block B h6).trans h1, h2.set (.inr hM) _, h3.set (.inr ha) _⟩, h4.below (hb.mono (by omega)), h5, h6, by rw [World.size_setCell]; exact h7, fun b hb' => ⟨(h8 b hb').1, by rw [World.size_setCell]; exact (h8 b hb').2⟩⟩
/-- A new block is one of the caller's own. -/
theorem St.fresh (h : St N B M Av L ln ps sc w) (o : Obj) : St N B M (w.heap.size :: Av) L ln ps sc (w.alloc o) := by
  have hb : Below w.heap.size w (w.alloc o) := (Below.refl _ _).alloc (Nat.le_refl _) _
  have hlt := h.lt
  obtain ⟨⟨lv, wv, h1, h2, h3⟩, h4, h5, h6, h7, h8⟩ := h
  refine ⟨⟨lv, wv, h1.below hb, h2.grown (.inl rfl) (grown_of hb _), ?_⟩, h4.below (hb.mono (by omega)), h5, h6, Nat.le_trans h7 hb.size, fun b hb' => ?_⟩
  · exact (h3.mono (Bad' := BadW B (w.heap.size :: Av)) (fun k hk hk' => hk'.imp id fun hm => (List.mem_cons.1 hm).resolve_left (by omega))).grown (.inl rfl) (grown_of hb _)
  · rcases List.mem_cons.1 hb' with rfl | hm
    · exact ⟨h7, by simp⟩
    · exact ⟨(h8 b hm).1, Nat.lt_of_lt_of_le (h8 b hm).2 hb.size⟩
theorem St.drop {b : Nat} (h : St N B M (b :: Av) L ln ps sc w) : St N B M Av L ln ps sc w := by
  obtain ⟨⟨lv, wv, h1, h2, h3⟩, h4, h5, h6, h7, h8⟩ := h
  exact ⟨⟨lv, wv, h1, h2, h3.mono fun k _ hk => hk.imp id (List.mem_cons_of_mem _)⟩, h4, h5, h6, h7, fun b hb => h8 b (List.mem_cons_of_mem _ hb)⟩
/-- With no word left anything behind M may be the caller's own. -/
theorem St.free (h : St N B M Av L ln [] sc w) (Av' : List Nat) (hA : ∀ b ∈ Av', M ≤ b ∧ b < w.heap.size) : St N B M Av' L ln [] sc w := by
  obtain ⟨⟨lv, wv, h1, h2, h3⟩, h4, h5, h6, h7, h8⟩ := h
  exact ⟨⟨lv, wv, h1, h2, h3.nil _ _⟩, h4, h5, h6, h7, hA⟩
end
/-- A store into a block of the call's own. -/
theorem grown_own {w w' : World} {B : Nat} (h : w.grownBy w' (some B)) {a : Addr} (ha : w.heap.size ≤ a.block) (u : Value) : w.grownBy (w'.setCell a u) (some B) :=
  ⟨h.os, h.tape, h.output, by rw [World.size_setCell]; exact h.size, fun k hk hne => (Below.heap_setCell _ _ _ _ (by omega)).trans (h.block k hk hne)⟩
/-- A call that gives up, at a line, with an error. -/
def Gave (ln er : Int) (e : Ending) : Prop := e = .panicked [{ v := .iface 39 (.agg #[.int .i64 ln, .int .i64 er]), recovered := false }]
/-- A call that answers, or gives up. -/
def Out (ln er : Int) (v : Value) (e : Ending) : Prop := (er = 0 ∧ e = .returned v) ∨ (er ≠ 0 ∧ Gave ln er e)

theorem giveUp_any (B : Nat) (ln er : Int) (w : World) (h : w.cell? ⟨B, 1, none⟩ = some (.int .i64 ln)) :
    Calls Tryz.prog 48 #[.pointer (some ⟨B, 0, none⟩), .int .i64 er] w fun e w' => Gave ln er e ∧ w = w' := by
  go_enter Tryz.func48, Tryz.ntmps48
  go_wp2
  exact ⟨rfl, rfl, rfl⟩
theorem must_ok (B : Nat) (w : World) :
    Calls Tryz.prog 47 #[.pointer (some ⟨B, 0, none⟩), .int .i64 0] w fun e w' => e = .returned (.tuple #[]) ∧ w = w' := by
  go_enter Tryz.func47, Tryz.ntmps47
  go_wp2
  go_end0
  exact ⟨rfl, rfl⟩
theorem must_gave (B : Nat) (ln er : Int) (w : World) (h : w.cell? ⟨B, 1, none⟩ = some (.int .i64 ln)) (he : er ≠ 0) :
    Calls Tryz.prog 47 #[.pointer (some ⟨B, 0, none⟩), .int .i64 er] w fun e w' => Gave ln er e ∧ w = w' := by
  go_enter Tryz.func47, Tryz.ntmps47
  go_wp2_with (go_at_call 48; refine (giveUp_any B ln er _ h).mono ?_; rintro e w' ⟨rfl, rfl⟩)
  exact ⟨rfl, rfl, rfl⟩
set_option maxHeartbeats 1000000 in
theorem word_any (N B M : Nat) (Av : List Nat) (L : List ByteArray) (ln sc : Int) (p : ByteArray) (ps : List ByteArray) (w : World) (hl : ps.length ≤ 1000000) (h : St N B M Av L ln (p :: ps) sc w) :
    Calls Tryz.prog 83 #[.pointer (some ⟨B, 0, none⟩)] w fun e w' => e = .returned (.string p) ∧ St N B M Av L ln ps sc w' ∧ w.grownBy w' (some B) := by
  obtain ⟨⟨lv, wv, hr, hL, hW⟩, hE, hN, hbot, htop, hown⟩ := h
  obtain ⟨a, cap, rfl, hcap, hW⟩ := hW
  rcases hW with hW | ⟨g, o, rfl, hne, hlt, hc⟩
  · simp at hW
  have h2 := hr.c2
  have f2 := hr.fz 2
  have q := hc 0 (by simp)
  have hB := hr.lt
  simp only [List.getElem_cons_zero, Nat.add_zero] at q
  have K : ∀ u, (∃ a', u = .slice a' ps.length (cap - 1) ∧ (ps = [] ∨ a' = some ⟨g, o + 1, none⟩)) → St N B M Av L ln ps sc (w.setCell ⟨B, 2, none⟩ u) ∧ w.grownBy (w.setCell ⟨B, 2, none⟩ u) (some B) := by
    rintro u ⟨a', rfl, hu⟩
    have hg := grown_set w ⟨B, 2, none⟩ (.slice a' ps.length (cap - 1))
    refine ⟨⟨⟨lv, _, hr.s2 _, hL.grown (.inl rfl) hg, a', cap - 1, rfl, by simp at hcap; omega, ?_⟩, hE.below (below_of hg hN hB), hN, hbot, by rw [World.size_setCell]; exact htop, fun b hb => by rw [World.size_setCell]; exact hown b hb⟩, hg⟩
    rcases hu with hu | rfl
    · exact .inl hu
    · refine .inr ⟨g, o + 1, rfl, hne, by rw [World.size_setCell]; exact hlt, fun j hj => ?_⟩
      have := hc (j + 1) (by simp; omega)
      rw [show o + 1 + j = o + (j + 1) by omega]
      refine (hg.cell_far ⟨g, o + (j + 1), none⟩ hlt (by simpa using fun e : g = B => hne (.inl e))).trans ?_
      simpa using this
  have HK := Lib.hid K; clear K hc
  simp only [List.length_cons] at *
  have hz : ps.length = 0 → ps = [] := List.eq_nil_of_length_eq_zero
  have HZ := Lib.hid hz; clear hz
  generalize ps.length = n at *
  go_enter Tryz.func83, Tryz.ntmps83
  go_wp2
  all_goals go_ret
  · exact ⟨rfl, HK.out _ ⟨_, by first | rfl | (subst_vars; rfl), .inl (HZ.out (by omega))⟩⟩
  · exact ⟨rfl, HK.out _ ⟨_, rfl, .inr rfl⟩⟩
theorem read_out (l : List UInt8) (s : Int) : readE l s ≠ 0 → readV l s = 0 := by
  unfold readE readV
  split
  · simp
  · split
    · simp
    · split <;> simp
set_option maxHeartbeats 1000000 in
theorem decimal_any (N B M : Nat) (Av : List Nat) (L : List ByteArray) (ln sc s : Int) (p : ByteArray) (ps : List ByteArray) (w : World) (hl : ps.length ≤ 1000000) (hp : p.size ≤ 4294967000) (h : St N B M Av L ln (p :: ps) sc w) :
    Calls Tryz.prog 85 #[.pointer (some ⟨B, 0, none⟩), .int .i64 s] w fun e w' => Out ln (readE p.data.toList s) (.int .i64 (readV p.data.toList s)) e ∧ St N B M Av L ln ps sc w' ∧ w.grownBy w' (some B) := by
  have h1 := word_any N B M Av L ln sc p ps w hl h
  have h2 : ∀ w, St N B M Av L ln ps sc w → _ := fun w h => read_any p s w h.env.env hp
  have h3 : ∀ w', St N B M Av L ln ps sc w' → w'.cell? ⟨B, 1, none⟩ = some (.int .i64 ln) := fun w' h => by obtain ⟨lv, wv, h, -⟩ := h.rd; exact h.c1
  unfold Out
  generalize readE p.data.toList s = er at *
  generalize readV p.data.toList s = v at *
  have H1 := Lib.hid h1; clear h1
  have H2 := Lib.hid h2; clear h2
  have H3 := Lib.hid h3; clear h3
  clear h
  by_cases he : er = 0
  · subst he
    go_enter Tryz.func85, Tryz.ntmps85
    go_wp2_with (first
      | (go_at_call 83; refine H1.out.mono ?_; rintro e w1 ⟨rfl, hs, hg⟩; have HS := Lib.hid hs; clear hs; have HG := Lib.hid hg; clear hg)
      | (go_at_call 102; refine (H2.out _ HS.out).mono ?_; rintro e w2 ⟨rfl, hb⟩; have HB := Lib.hid hb; clear hb)
      | (go_at_call 47; refine (must_ok B _).mono ?_; rintro e w' ⟨rfl, rfl⟩))
    go_ret
    exact ⟨.inl ⟨by trivial, rfl⟩, HS.out.below HB.out, HG.out.trans (grown_of HB.out _)⟩
  · go_enter Tryz.func85, Tryz.ntmps85
    go_wp2_with (first
      | (go_at_call 83; refine H1.out.mono ?_; rintro e w1 ⟨rfl, hs, hg⟩; have HS := Lib.hid hs; clear hs; have HG := Lib.hid hg; clear hg)
      | (go_at_call 102; refine (H2.out _ HS.out).mono ?_; rintro e w2 ⟨rfl, hb⟩; have HB := Lib.hid hb; clear hb)
      | (go_at_call 47; refine (must_gave B ln er _ (H3.out _ (HS.out.below HB.out)) he).mono ?_; rintro e w' ⟨rfl, rfl⟩))
    exact ⟨rfl, .inr ⟨he, rfl⟩, HS.out.below HB.out, HG.out.trans (grown_of HB.out _)⟩
end Sheet
end Go.Proofs.YtjmhlabgoegeoaaGreatDoor
namespace Go.Proofs.YtjmhlabgoegeoaaGreatDoor
namespace Sheet
open Go Go.RowKit Deci
theorem St.c1 {N B M : Nat} {Av : List Nat} {L ps : List ByteArray} {ln sc : Int} {w : World} (h : St N B M Av L ln ps sc w) : w.cell? ⟨B, 1, none⟩ = some (.int .i64 ln) := by obtain ⟨lv, wv, h, -⟩ := h.rd; exact h.c1
set_option maxHeartbeats 1000000 in
theorem whole_any (N B M : Nat) (Av : List Nat) (L : List ByteArray) (ln sc : Int) (p : ByteArray) (ps : List ByteArray) (w : World) (hl : ps.length ≤ 1000000) (hp : p.size ≤ 4294967000) (h : St N B M Av L ln (p :: ps) sc w) :
    Calls Tryz.prog 82 #[.pointer (some ⟨B, 0, none⟩)] w fun e w' => Out ln (wholeE p.data.toList) (.int .i64 (wholeV p.data.toList)) e ∧ St N B M Av L ln ps sc w' ∧ w.grownBy w' (some B) := by
  have h1 := word_any N B M Av L ln sc p ps w hl h
  have h2 : ∀ w, St N B M Av L ln ps sc w → _ := fun w h => Deci.whole_any p w h.env.env hp
  unfold Out
  generalize wholeE p.data.toList = er at *
  generalize wholeV p.data.toList = v at *
  have H1 := Lib.hid h1; clear h1
  have H2 := Lib.hid h2; clear h2
  clear h
  by_cases he : er = 0
  · subst he
    go_enter Tryz.func82, Tryz.ntmps82
    go_wp2_with (first
      | (go_at_call 83; refine H1.out.mono ?_; rintro e w1 ⟨rfl, hs, hg⟩; have HS := Lib.hid hs; clear hs; have HG := Lib.hid hg; clear hg)
      | (go_at_call 100; refine (H2.out _ HS.out).mono ?_; rintro e w2 ⟨rfl, hb⟩; have HB := Lib.hid hb; clear hb)
      | (go_at_call 47; refine (must_ok B _).mono ?_; rintro e w' ⟨rfl, rfl⟩))
    go_ret
    exact ⟨.inl ⟨by trivial, rfl⟩, HS.out.below HB.out, HG.out.trans (grown_of HB.out _)⟩
  · go_enter Tryz.func82, Tryz.ntmps82
    go_wp2_with (first
      | (go_at_call 83; refine H1.out.mono ?_; rintro e w1 ⟨rfl, hs, hg⟩; have HS := Lib.hid hs; clear hs; have HG := Lib.hid hg; clear hg)
      | (go_at_call 100; refine (H2.out _ HS.out).mono ?_; rintro e w2 ⟨rfl, hb⟩; have HB := Lib.hid hb; clear hb)
      | (go_at_call 47; refine (must_gave B ln er _ (HS.out.below HB.out).c1 he).mono ?_; rintro e w' ⟨rfl, rfl⟩))
    exact ⟨rfl, .inr ⟨he, rfl⟩, HS.out.below HB.out, HG.out.trans (grown_of HB.out _)⟩
/-- A number of scale 0 within bounds on both sides; its error. -/
def smallV (l : List UInt8) (most : Int) : Int := if readE l 0 = 0 then (if readV l 0 < -most ∨ most < readV l 0 then 0 else readV l 0) else 0
def smallE (l : List UInt8) (most : Int) : Int := if readE l 0 = 0 then (if readV l 0 < -most ∨ most < readV l 0 then 23 else 0) else readE l 0
set_option maxHeartbeats 1000000 in
theorem within_any (N B M : Nat) (Av : List Nat) (L : List ByteArray) (ln sc : Int) (p : ByteArray) (ps : List ByteArray) (most : Int) (w : World) (hm : 0 ≤ most) (hm2 : most ≤ 1000000000) (hl : ps.length ≤ 1000000) (hp : p.size ≤ 4294967000) (h : St N B M Av L ln (p :: ps) sc w) :
    Calls Tryz.prog 101 #[.pointer (some ⟨B, 0, none⟩), .int .i64 most] w fun e w' => Out ln (smallE p.data.toList most) (.int .i64 (smallV p.data.toList most)) e ∧ St N B M Av L ln ps sc w' ∧ w.grownBy w' (some B) := by
  have h1 := decimal_any N B M Av L ln sc 0 p ps w hl hp h
  unfold Out at *
  unfold smallE smallV
  generalize readE p.data.toList 0 = er at *
  generalize readV p.data.toList 0 = v at *
  clear h
  by_cases he : er = 0
  · subst he
    have h2 : Calls Tryz.prog 85 #[.pointer (some ⟨B, 0, none⟩), .int .i64 0] w fun e w' => e = .returned (.int .i64 v) ∧ St N B M Av L ln ps sc w' ∧ w.grownBy w' (some B) := h1.mono (by
      rintro e w' ⟨h | h, hr⟩
      · exact ⟨h.2, hr⟩
      · exact absurd rfl h.1)
    clear h1
    have H1 := Lib.hid h2; clear h2
    by_cases hlo : v < -most
    · simp only [if_true, hlo, true_or]
      go_enter Tryz.func101, Tryz.ntmps101
      go_wp2_with (first
        | (go_at_call 85; refine H1.out.mono ?_; rintro e w1 ⟨rfl, hs, hg⟩; have HS := Lib.hid hs; clear hs; have HG := Lib.hid hg; clear hg)
        | (go_at_call 48; refine (giveUp_any B ln 23 _ HS.out.c1).mono ?_; rintro e w' ⟨rfl, rfl⟩))
      exact ⟨rfl, .inr ⟨by decide, rfl⟩, HS.out, HG.out⟩
    · by_cases hhi : most < v
      · simp only [if_true, hlo, hhi, false_or]
        go_enter Tryz.func101, Tryz.ntmps101
        go_wp2_with (first
          | (go_at_call 85; refine H1.out.mono ?_; rintro e w1 ⟨rfl, hs, hg⟩; have HS := Lib.hid hs; clear hs; have HG := Lib.hid hg; clear hg)
          | (go_at_call 48; refine (giveUp_any B ln 23 _ HS.out.c1).mono ?_; rintro e w' ⟨rfl, rfl⟩))
        exact ⟨rfl, .inr ⟨by decide, rfl⟩, HS.out, HG.out⟩
      · simp only [if_true, hlo, hhi, false_or, if_false]
        go_enter Tryz.func101, Tryz.ntmps101
        go_wp2_with (first
          | (go_at_call 85; refine H1.out.mono ?_; rintro e w1 ⟨rfl, hs, hg⟩; have HS := Lib.hid hs; clear hs; have HG := Lib.hid hg; clear hg))
        go_ret
        exact ⟨.inl ⟨by trivial, rfl⟩, HS.out, HG.out⟩
  · have h2 : Calls Tryz.prog 85 #[.pointer (some ⟨B, 0, none⟩), .int .i64 0] w fun e w' => Gave ln er e ∧ St N B M Av L ln ps sc w' ∧ w.grownBy w' (some B) := h1.mono (by
      rintro e w' ⟨h | h, hr⟩
      · exact absurd h.1 he
      · exact ⟨h.2, hr⟩)
    clear h1
    have H1 := Lib.hid h2; clear h2
    simp only [he, if_false]
    go_enter Tryz.func101, Tryz.ntmps101
    go_wp2_with (first
      | (go_at_call 85; refine H1.out.mono ?_; rintro e w1 ⟨rfl, hs, hg⟩; have HS := Lib.hid hs; clear hs; have HG := Lib.hid hg; clear hg))
    exact ⟨rfl, .inr ⟨he, rfl⟩, HS.out, HG.out⟩
end Sheet
end Go.Proofs.YtjmhlabgoegeoaaGreatDoor
namespace Go.Proofs.YtjmhlabgoegeoaaGreatDoor
namespace Sheet
open Go Go.RowKit Deci
/-- What a call of the reader's leaves: of what was there its own variable alone has turned; it answers, with so many words left, or gives up. -/
def Res (N B M : Nat) (Av : List Nat) (L : List ByteArray) (ln : Int) (ps : List ByteArray) (sc : Int) (w : World) (er : Int) (v : Value) (e : Ending) (w' : World) : Prop :=
  w.grownBy w' (some B) ∧ ((er = 0 ∧ e = .returned v ∧ St N B M Av L ln ps sc w') ∨ (er ≠ 0 ∧ Gave ln er e))
theorem res_of {N B M : Nat} {Av : List Nat} {L : List ByteArray} {ln : Int} {ps : List ByteArray} {sc : Int} {w : World} {er : Int} {v : Value} {e : Ending} {w' : World}
    (h : Out ln er v e ∧ St N B M Av L ln ps sc w' ∧ w.grownBy w' (some B)) : Res N B M Av L ln ps sc w er v e w' := by
  obtain ⟨h1 | h1, h2, h3⟩ := h
  · exact ⟨h3, .inl ⟨h1.1, h1.2, h2⟩⟩
  · exact ⟨h3, .inr h1⟩
section
variable {N B M : Nat} {Av : List Nat} {L : List ByteArray} {ln sc : Int} {p q : ByteArray} {ps : List ByteArray} {w : World}
theorem decimal_res (s : Int) (hl : ps.length ≤ 1000000) (hp : p.size ≤ 4294967000) (h : St N B M Av L ln (p :: ps) sc w) :
    Calls Tryz.prog 85 #[.pointer (some ⟨B, 0, none⟩), .int .i64 s] w (Res N B M Av L ln ps sc w (readE p.data.toList s) (.int .i64 (readV p.data.toList s))) :=
  (decimal_any N B M Av L ln sc s p ps w hl hp h).mono fun _ _ h => res_of h
theorem whole_res (hl : ps.length ≤ 1000000) (hp : p.size ≤ 4294967000) (h : St N B M Av L ln (p :: ps) sc w) :
    Calls Tryz.prog 82 #[.pointer (some ⟨B, 0, none⟩)] w (Res N B M Av L ln ps sc w (wholeE p.data.toList) (.int .i64 (wholeV p.data.toList))) :=
  (whole_any N B M Av L ln sc p ps w hl hp h).mono fun _ _ h => res_of h
theorem within_res (most : Int) (hm : 0 ≤ most) (hm2 : most ≤ 1000000000) (hl : ps.length ≤ 1000000) (hp : p.size ≤ 4294967000) (h : St N B M Av L ln (p :: ps) sc w) :
    Calls Tryz.prog 101 #[.pointer (some ⟨B, 0, none⟩), .int .i64 most] w (Res N B M Av L ln ps sc w (smallE p.data.toList most) (.int .i64 (smallV p.data.toList most))) :=
  (within_any N B M Av L ln sc p ps most w hm hm2 hl hp h).mono fun _ _ h => res_of h
end
def twoE (a b : Int) : Int := if a = 0 then b else a
theorem twoE_ok (b : Int) : twoE 0 b = b := by simp [twoE]
theorem twoE_no {a : Int} (b : Int) (h : a ≠ 0) : twoE a b = a := by simp [twoE, h]
set_option maxHeartbeats 1000000 in
theorem load_any (N B M : Nat) (Av : List Nat) (L : List ByteArray) (ln sc : Int) (p q : ByteArray) (ps : List ByteArray) (w : World) (hl : ps.length ≤ 100000) (hp : p.size ≤ 4294967000) (hq : q.size ≤ 4294967000) (h : St N B M Av L ln (p :: q :: ps) sc w) :
    Calls Tryz.prog 84 #[.pointer (some ⟨B, 0, none⟩)] w (Res N B M Av L ln ps sc w (twoE (smallE p.data.toList 1000) (smallE q.data.toList 1000)) (.agg #[.int .i64 (smallV p.data.toList 1000), .int .i64 (smallV q.data.toList 1000)])) := by
  have h1 : ∀ Av w, St N B M Av L ln (p :: q :: ps) sc w → _ := fun Av w h => within_res (w := w) 1000 (by decide) (by decide) (by simp; omega) hp h
  have h2 : ∀ Av w, St N B M Av L ln (q :: ps) sc w → _ := fun Av w h => within_res (w := w) 1000 (by decide) (by decide) (by omega) hq h
  generalize smallE p.data.toList 1000 = e1 at *
  generalize smallE q.data.toList 1000 = e2 at *
  generalize smallV p.data.toList 1000 = v1 at *
  generalize smallV q.data.toList 1000 = v2 at *
  have H1 := Lib.hid h1; clear h1
  have H2 := Lib.hid h2; clear h2
  have HS0 := Lib.hid h; clear h
  have hB : B ≠ w.heap.size := Nat.ne_of_lt HS0.out.lt
  have HB := Lib.hid hB; clear hB
  go_enter Tryz.func84, Tryz.ntmps84
  go_wp2_with fail
  have B0 : Below w.heap.size w (w.alloc (.cells #[.int .i64 0, .int .i64 0] 52)) := (Below.refl _ _).alloc (Nat.le_refl _) _
  have n0 : (w.alloc (.cells #[.int .i64 0, .int .i64 0] 52)).heap[w.heap.size]? = some (.cells #[.int .i64 0, .int .i64 0] 52) := World.alloc_heap_new w _
  have s0 := HS0.out.fresh (.cells #[.int .i64 0, .int .i64 0] 52)
  generalize w.alloc (.cells #[.int .i64 0, .int .i64 0] 52) = w0 at *
  refine (H1.out _ _ s0).mono ?_
  rintro e w1 ⟨hg1, ⟨he1, rfl, hs1⟩ | ⟨he1, rfl⟩⟩
  · subst he1
    rw [twoE_ok]
    have n1 : w1.heap[w.heap.size]? = _ := (hg1.block w.heap.size (Array.getElem?_eq_some_iff.1 n0).1 (by intro e; injection e with e; exact HB.out e.symm)).trans n0
    have G1 := Lib.hid ((grown_of B0 _).trans hg1); clear hg1 B0 n0 s0
    have S1 := Lib.hid hs1; clear hs1
    have N1 := Lib.hid n1; clear n1
    go_wp2_with fail
    refine (H2.out _ _ S1.out).mono ?_
    rintro e w2 ⟨hg2, ⟨he2, rfl, hs2⟩ | ⟨he2, rfl⟩⟩
    · subst he2
      have n2 : w2.heap[w.heap.size]? = _ := (hg2.block w.heap.size (Array.getElem?_eq_some_iff.1 N1.out).1 (by intro e; injection e with e; exact HB.out e.symm)).trans N1.out
      have c0 : w2.cell? ⟨w.heap.size, 0, none⟩ = some (.int .i64 0) := by simp [World.cell?, n2]
      have c1 : w2.cell? ⟨w.heap.size, 1, none⟩ = some (.int .i64 0) := by simp [World.cell?, n2]
      have f0 : w2.frozen? ⟨w.heap.size, 0, none⟩ = false := by simp [World.frozen?, n2]
      have f1 : w2.frozen? ⟨w.heap.size, 1, none⟩ = false := by simp [World.frozen?, n2]
      have G2 := Lib.hid (G1.out.trans hg2); clear hg2
      have S2 := Lib.hid hs2; clear hs2
      have N2 := Lib.hid n2; clear n2
      go_wp2_with fail
      refine bodyPost_ret (v := .agg #[.int .i64 v1, .int .i64 v2]) (by simp [results, Tryz.results84, go_sem, c0, c1]) rfl ?_
      exact ⟨grown_own (grown_own G2.out (Nat.le_refl _) _) (Nat.le_refl _) _, .inl ⟨by decide, rfl, ((S2.out.set (List.mem_cons_self ..) _).set (List.mem_cons_self ..) _).drop⟩⟩
    · go_wp2_with fail
      exact ⟨rfl, G1.out.trans hg2, .inr ⟨he2, rfl⟩⟩
  · rw [twoE_no _ he1]
    go_wp2_with fail
    exact ⟨rfl, (grown_of B0 _).trans hg1, .inr ⟨he1, rfl⟩⟩
theorem smallV_near (l : List UInt8) (m : Int) (hm : 0 ≤ m) : -m ≤ smallV l m ∧ smallV l m ≤ m := by
  unfold smallV
  split
  · split <;> omega
  · omega
set_option maxHeartbeats 1000000 in
theorem spot_any (N B M : Nat) (Av : List Nat) (L : List ByteArray) (ln sc : Int) (p q : ByteArray) (ps : List ByteArray) (w : World) (hl : ps.length ≤ 100000) (hp : p.size ≤ 4294967000) (hq : q.size ≤ 4294967000) (h : St N B M Av L ln (p :: q :: ps) sc w) :
    Calls Tryz.prog 86 #[.pointer (some ⟨B, 0, none⟩)] w (Res N B M Av L ln ps sc w (twoE (smallE p.data.toList 16777216) (smallE q.data.toList 16777216)) (.complex .f64 (Spot.wd (smallV p.data.toList 16777216)) (Spot.wd (smallV q.data.toList 16777216)))) := by
  have h1 := within_res 16777216 (by decide) (by decide) (by simp; omega) hp h
  have h2 : ∀ w, St N B M Av L ln (q :: ps) sc w → _ := fun w h => within_res (w := w) 16777216 (by decide) (by decide) (by omega) hq h
  have h3 := fun w => Spot.at_yes _ _ w (smallV_near p.data.toList 16777216 (by decide)) (smallV_near q.data.toList 16777216 (by decide))
  generalize smallE p.data.toList 16777216 = e1 at *
  generalize smallE q.data.toList 16777216 = e2 at *
  generalize smallV p.data.toList 16777216 = v1 at *
  generalize smallV q.data.toList 16777216 = v2 at *
  generalize Spot.wd v1 = d1 at *
  generalize Spot.wd v2 = d2 at *
  have H1 := Lib.hid h1; clear h1
  have H2 := Lib.hid h2; clear h2
  have H3 := Lib.hid h3; clear h3
  clear h
  go_enter Tryz.func86, Tryz.ntmps86
  go_wp2_with fail
  refine H1.out.mono ?_
  rintro e w1 ⟨hg1, ⟨he1, rfl, hs1⟩ | ⟨he1, rfl⟩⟩
  · subst he1
    rw [twoE_ok]
    have G1 := Lib.hid hg1; clear hg1
    have S1 := Lib.hid hs1; clear hs1
    go_wp2_with fail
    refine (H2.out _ S1.out).mono ?_
    rintro e w2 ⟨hg2, ⟨he2, rfl, hs2⟩ | ⟨he2, rfl⟩⟩
    · subst he2
      have G2 := Lib.hid (G1.out.trans hg2); clear hg2
      have S2 := Lib.hid hs2; clear hs2
      go_wp2_with (go_at_call 103; refine (H3.out _).mono ?_; rintro e w' ⟨rfl, rfl⟩)
      go_ret
      exact ⟨G2.out, .inl ⟨by decide, rfl, S2.out⟩⟩
    · go_wp2_with fail
      exact ⟨rfl, G1.out.trans hg2, .inr ⟨he2, rfl⟩⟩
  · rw [twoE_no _ he1]
    go_wp2_with fail
    exact ⟨rfl, hg1, .inr ⟨he1, rfl⟩⟩
end Sheet
end Go.Proofs.YtjmhlabgoegeoaaGreatDoor
