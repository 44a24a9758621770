/- Package sheet's reader: open; over the translated program. Package sheet's reader: row; over the translated program. Package sheet's read$1: the deferred closure, entered as a frame's that panics with a fault, or returns. -/
import Derived.Test.YtjmhlabgoegeoaaGreatDoorSheetHead
import Derived.OwnWalk
import Derived.Outline
import Derived.Defers
import Derived.Recover
namespace Go.Proofs.YtjmhlabgoegeoaaGreatDoor
namespace Sheet
open Go Go.RowKit Deci
def openE (l : List UInt8) : Int := if linesE l ≠ 0 then linesE l else if linesP l = [] then 20 else 0
set_option maxHeartbeats 1000000 in
theorem open_any (N B : Nat) (s : ByteArray) (w : World) (hs : s.size ≤ maxLen) (hE : EnvAt N w) (hN : N ≤ B) (h : Rd w B (.slice none 0 0) 0 (.slice none 0 0) 0) :
    Calls Tryz.prog 18 #[.pointer (some ⟨B, 0, none⟩), .string s] w fun e w' => w.grownBy w' (some B) ∧
      ((openE s.data.toList = 0 ∧ e = .returned (.tuple #[]) ∧ St N B w'.heap.size [] (linesP s.data.toList) 0 [] 0 w') ∨ (openE s.data.toList ≠ 0 ∧ Gave 0 (openE s.data.toList) e)) := by
  have h1 := lines_any s w hE.env hs
  have hlt := h.lt
  have ho : (linesE s.data.toList ≠ 0 → openE s.data.toList = linesE s.data.toList) ∧ (linesE s.data.toList = 0 → linesP s.data.toList = [] → openE s.data.toList = 20) ∧ (linesE s.data.toList = 0 → linesP s.data.toList ≠ [] → openE s.data.toList = 0) := by
    unfold openE
    refine ⟨fun h => if_pos h, fun h1 h2 => ?_, fun h1 h2 => ?_⟩
    · rw [if_neg (by simpa using h1), if_pos h2]
    · rw [if_neg (by simpa using h1), if_neg h2]
  generalize openE s.data.toList = oe at *
  generalize linesE s.data.toList = er at *
  generalize linesP s.data.toList = ls at *
  have HO := Lib.hid ho; clear ho
  have HR := Lib.hid h; clear h
  have H1 := Lib.hid h1; clear h1
  have HE := Lib.hid hE; clear hE
  go_enter Tryz.func18, Tryz.ntmps18
  go_wp2_with fail
  refine H1.out.mono ?_
  rintro e w1 ⟨v, rfl, hrow, hb⟩
  have R1 := Lib.hid (HR.out.below hb)
  have E1 := Lib.hid (HE.out.below (hb.mono (by omega)))
  have hk := told_strs hrow
  have hsz := hb.size
  have HB := Lib.hid hb; clear hb hrow
  by_cases he : er = 0
  · subst he
    rcases hk with ⟨rfl, rfl⟩ | ⟨g, cap, rfl, hcap, hg0, hg1, hcs⟩
    · have h20 := HO.out.2.1 rfl rfl
      subst h20
      go_wp2_with (first
        | (go_at_call 47; refine (must_ok B _).mono ?_; rintro e w' ⟨rfl, rfl⟩)
        | (go_at_call 48; refine (giveUp_any B 0 20 _ R1.out.c1).mono ?_; rintro e w' ⟨rfl, rfl⟩))
      exact ⟨rfl, grown_of HB.out _, .inr ⟨by decide, rfl⟩⟩
    · have HCS := Lib.hid hcs; clear hcs
      have HCAP := Lib.hid hcap; clear hcap
      by_cases hz : ls = []
      · have h20 := HO.out.2.1 rfl hz
        subst h20; subst hz
        simp only [List.length_nil]
        go_wp2_with (first
          | (go_at_call 47; refine (must_ok B _).mono ?_; rintro e w' ⟨rfl, rfl⟩)
          | (go_at_call 48; refine (giveUp_any B 0 20 _ R1.out.c1).mono ?_; rintro e w' ⟨rfl, rfl⟩))
        exact ⟨rfl, grown_of HB.out _, .inr ⟨by decide, rfl⟩⟩
      · have h0 := HO.out.2.2 rfl hz
        subst h0
        have hpos : ls.length ≠ 0 := fun h => hz (List.eq_nil_of_length_eq_zero h)
        have K : Hid (w.grownBy (w1.setCell ⟨B, 0, none⟩ (.slice (some ⟨g, 0, none⟩) ls.length cap)) (some B) ∧
            St N B (w1.setCell ⟨B, 0, none⟩ (.slice (some ⟨g, 0, none⟩) ls.length cap)).heap.size [] ls 0 [] 0 (w1.setCell ⟨B, 0, none⟩ (.slice (some ⟨g, 0, none⟩) ls.length cap))) := by
          have hg := grown_set w1 ⟨B, 0, none⟩ (.slice (some ⟨g, 0, none⟩) ls.length cap)
          have hB1 : B < w1.heap.size := R1.out.lt
          refine ⟨(grown_of HB.out _).trans hg, ⟨_, _, R1.out.s0 _, ⟨_, cap, rfl, HCAP.out, .inr ⟨g, 0, rfl, ?_, by rw [World.size_setCell]; exact hg1, fun j hj => ?_⟩⟩, ⟨none, 0, rfl, by simp, .inl rfl⟩⟩, E1.out.below (below_of hg hN hB1), hN, by rw [World.size_setCell]; exact hB1, Nat.le_refl _, by simp⟩
          · rw [World.size_setCell]
            rintro (h | h) <;> omega
          · rw [Nat.zero_add]
            exact (hg.cell_far ⟨g, j, none⟩ hg1 (by simp; omega)).trans (HCS.out j hj)
        have f0 := R1.out.fz 0
        have c0 := R1.out.c0
        clear HCS HCAP HO hz
        generalize ls.length = n at *
        go_wp2_with (go_at_call 47; refine (must_ok B _).mono ?_; rintro e w' ⟨rfl, rfl⟩)
        go_end0
        first | exact ⟨K.out.1, .inl ⟨by trivial, rfl, K.out.2⟩⟩ | exact ⟨K.out.1, rfl, K.out.2⟩
  · have h21 := HO.out.1 he
    subst h21
    have c1 := R1.out.c1
    clear hk
    go_wp2_with (go_at_call 47; refine (must_gave B 0 oe _ R1.out.c1 he).mono ?_; rintro e w' ⟨rfl, rfl⟩)
    exact ⟨rfl, grown_of HB.out _, .inr ⟨he, rfl⟩⟩
end Sheet
end Go.Proofs.YtjmhlabgoegeoaaGreatDoor
namespace Go.Proofs.YtjmhlabgoegeoaaGreatDoor
namespace Sheet
open Go Go.RowKit Deci
theorem info_long : (Tryz.prog.info? 2).map (fun i => (i.zero, i.size, i.bytes)) = some (some (.int .i64 0), 1, 8) := by kernel_rfl
/-- A block that a call has made is one of the caller's own. -/
theorem St.made {N B M : Nat} {Av : List Nat} {L ps : List ByteArray} {ln sc : Int} {w w' : World} (h : St N B M Av L ln ps sc w) (hb : Below w.heap.size w w') {b : Nat} (h1 : w.heap.size ≤ b) (h2 : b < w'.heap.size) : St N B M (b :: Av) L ln ps sc w' := by
  have hlt := h.lt
  obtain ⟨⟨lv, wv, g1, g2, g3⟩, h4, h5, h6, h7, h8⟩ := h
  refine ⟨⟨lv, wv, g1.below hb, g2.grown (.inl rfl) (grown_of hb _), ?_⟩, h4.below (hb.mono (by omega)), h5, h6, Nat.le_trans h7 hb.size, fun c hc => ?_⟩
  · exact (g3.mono (Bad' := BadW B (b :: Av)) (fun k hk hk' => hk'.imp id fun hm => (List.mem_cons.1 hm).resolve_left (by omega))).grown (.inl rfl) (grown_of hb _)
  · rcases List.mem_cons.1 hc with rfl | hm
    · exact ⟨by omega, h2⟩
    · exact ⟨(h8 c hm).1, Nat.lt_of_lt_of_le (h8 c hm).2 hb.size⟩
/-- The first error of some words, as decimals. -/
def decsE : List ByteArray → Int → Int
  | [], _ => 0
  | p :: ps, sc => twoE (readE p.data.toList sc) (decsE ps sc)
def decsV (ws : List ByteArray) (sc : Int) : List Value := ws.map fun p => .int .i64 (readV p.data.toList sc)
def rowE (L : List ByteArray) (n m : Nat) (sc : Int) : Int := twoE (nextE L n ⟨#[114, 111, 119]⟩ m) (decsE (nextW L n) sc)
theorem decs_drop {ws : List ByteArray} {k : Nat} (h : k < ws.length) (sc : Int) : decsE (ws.drop k) sc = twoE (readE ws[k].data.toList sc) (decsE (ws.drop (k + 1)) sc) := by
  rw [List.drop_eq_getElem_cons h]; rfl
/-- The row so far: m numbers, of which the first k are those of the words. -/
def RowAt (w : World) (G m : Nat) (ws : List ByteArray) (sc : Int) (k : Nat) : Prop :=
  ∃ cur : Array Value, w.heap[G]? = some (.cells cur 2) ∧ cur.size = m ∧ ∀ j, j < k → cur[j]? = (decsV ws sc)[j]?
theorem RowAt.kept {w w' : World} {B G m k : Nat} {ws : List ByteArray} {sc : Int} (h : RowAt w G m ws sc k) (hg : w.grownBy w' (some B)) (hB : B ≠ G) : RowAt w' G m ws sc k := by
  obtain ⟨cur, h1, h2, h3⟩ := h
  exact ⟨cur, own_kept hg hB h1, h2, h3⟩
theorem RowAt.old {w : World} {G m k : Nat} {ws : List ByteArray} {sc : Int} (h : RowAt w G m ws sc k) {j : Nat} (hj : j < m) : ∃ u, w.cell? ⟨G, j, none⟩ = some u := by
  obtain ⟨cur, h1, h2, h3⟩ := h
  exact ⟨cur[j], by rw [own_cell h1]; exact Array.getElem?_eq_getElem (by omega)⟩
theorem RowAt.free {w : World} {G m k : Nat} {ws : List ByteArray} {sc : Int} (h : RowAt w G m ws sc k) (j : Nat) : w.frozen? ⟨G, j, none⟩ = false := by
  obtain ⟨cur, h1, h2, h3⟩ := h
  exact own_free h1
theorem RowAt.put {w : World} {G m k : Nat} {ws : List ByteArray} {sc : Int} (h : RowAt w G m ws sc k) (hk : k < ws.length) (hm : k < m) :
    RowAt (w.setCell ⟨G, k, none⟩ (.int .i64 (readV ws[k].data.toList sc))) G m ws sc (k + 1) := by
  obtain ⟨cur, h1, h2, h3⟩ := h
  refine ⟨_, own_set h1 _, by simp [h2], fun j hj => ?_⟩
  by_cases e : j = k
  · subst e
    simp [decsV, h2, hm, hk]
  · rw [Array.getElem?_setIfInBounds_ne (by omega)]
    exact h3 j (by omega)
set_option maxHeartbeats 2000000 in
theorem row_any (N B M : Nat) (Av : List Nat) (L : List ByteArray) (n m : Nat) (sc : Int) (ps : List ByteArray) (w : World) (hn : n ≤ 1000000) (hm : m ≤ 5000) (hl : ∀ s ∈ L, s.size ≤ 1000000) (hn2 : L.length ≤ 1000000) (h : St N B M Av L n ps sc w) :
    Calls Tryz.prog 54 #[.pointer (some ⟨B, 0, none⟩), .int .i64 m] w fun e w' => w.grownBy w' (some B) ∧
      ((rowE L n m sc = 0 ∧ (∃ G, e = .returned (.slice (some ⟨G, 0, none⟩) m m) ∧ w.heap.size ≤ G ∧ RowAt w' G m (nextW L n) sc m) ∧ (nextW L n).length = m ∧ St N B M Av L (n + 1) [] sc w') ∨ (rowE L n m sc ≠ 0 ∧ Gave (n + 1) (rowE L n m sc) e)) := by
  have h0 := next_any N B M Av L n sc ps ⟨#[114, 111, 119]⟩ m w hn hl hn2 (by omega) h
  have hw := nextW_size (n := n) hl
  have hlt0 := h.lt
  unfold rowE
  by_cases he : nextE L n ⟨#[114, 111, 119]⟩ m = 0
  · have hlen := next_words he
    rw [he] at h0
    rw [he, twoE_ok]
    generalize nextW L n = ws at *
    obtain ⟨i0, hi, hz0, hz1, hz2⟩ : ∃ i0, Tryz.prog.info? 2 = some i0 ∧ i0.zero = some (.int .i64 0) ∧ i0.size = 1 ∧ i0.bytes = 8 := by
      have := info_long
      cases hh : Tryz.prog.info? 2 with
      | none => rw [hh] at this; simp at this
      | some i0 => rw [hh] at this; simp at this; exact ⟨i0, rfl, this.1, this.2.1, this.2.2⟩
    have h1 : ∀ Av (k : Nat) (hk : k < ws.length) w1, St N B M Av L (n + 1) (ws.drop k) sc w1 → Calls Tryz.prog 85 #[.pointer (some ⟨B, 0, none⟩), .int .i64 sc] w1 (Res N B M Av L (n + 1) (ws.drop (k + 1)) sc w1 (readE ws[k].data.toList sc) (.int .i64 (readV ws[k].data.toList sc))) := fun Av k hk w1 h => by
      rw [List.drop_eq_getElem_cons hk] at h
      exact decimal_res (w := w1) sc (by simp; omega) (by have := hw _ (List.getElem_mem hk); omega) h
    have hd := fun k (hk : k < ws.length) => decs_drop hk sc
    have H0 := Lib.hid (h0.mono fun _ _ h => res_yes h); clear h0
    have H1 := Lib.hid h1; clear h1
    have HD := Lib.hid hd; clear hd
    have HW := Lib.hid hw; clear hw
    have HL := Lib.hid hl; clear hl
    clear h
    go_enter Tryz.func54, Tryz.ntmps54
    go_wp2_with fail
    refine H0.out.mono ?_
    rintro e w1 ⟨rfl, hg1, hs1⟩
    have S1 := Lib.hid hs1; clear hs1
    have G1 := Lib.hid hg1; clear hg1
    go_wp2_with (at_make; refine wpList_make_full _ rfl _ _ 25 rfl w1.heap.size 2 i0 (.int .i64 0) 1 Tryz.underlying25 hi hz0 hz1 .i64 .i64 _ _ m rfl rfl rfl rfl (by rw [hz2]; omega) (by unfold maxLen; omega) (Nat.le_refl _) ?_; intro w2 hown2 hgrow2; have HOW := Lib.hid hown2; clear hown2; have HGW := Lib.hid hgrow2; clear hgrow2)
    have hG : w1.heap.size < w2.heap.size := (HOW.out.lt _ rfl).2
    have hwG : w.heap.size ≤ w1.heap.size := G1.out.size
    have hb2 : Below w1.heap.size w1 w2 := (Below.refl _ _).grown HGW.out (Nat.le_refl _) (fun _ h => by cases h)
    have hrow0 : RowAt w2 w1.heap.size m ws sc 0 := by
      rcases HOW.out.2 with ⟨h', _⟩ | ⟨g', cap', cur, h', hbg, hg, h1', h2', h3', h4'⟩
      · simp at h'
      · simp only [Value.slice.injEq, Option.some.injEq, Addr.mk.injEq, and_true, true_and] at h'
        obtain ⟨rfl, rfl⟩ := h'
        exact ⟨cur, hg, by omega, fun j hj => absurd hj (by omega)⟩
    have hst0 : St N B M (w1.heap.size :: Av) L (n + 1) (ws.drop 0) sc w2 := S1.out.made hb2 (Nat.le_refl _) hG
    have hg0 : w.grownBy w2 (some B) := G1.out.trans (grown_of hb2 _)
    have hBG : B ≠ w1.heap.size := Nat.ne_of_lt S1.out.lt
    generalize hGe : w1.heap.size = G at *
    have HBG := Lib.hid hBG; clear hBG
    have HREL0 := Lib.hid (show St N B M (G :: Av) L (n + 1) (ws.drop 0) sc w2 ∧ w.grownBy w2 (some B) ∧ RowAt w2 G m ws sc 0 from ⟨hst0, hg0, hrow0⟩)
    clear hst0 hg0 hrow0 hb2 HOW HGW S1 G1 H0 HW HL hi hz0 hz1 hz2 hGe he
    go_loopw [14] (fun i wr => ∃ k : Nat, k ≤ m ∧ i = .int .i64 k ∧ Hid (decsE ws sc = decsE (ws.drop k) sc) ∧ Hid (St N B M (G :: Av) L (n + 1) (ws.drop k) sc wr ∧ w.grownBy wr (some B) ∧ RowAt wr G m ws sc k)) (fun i _ => m - (intOf i).toNat)
    case atStart => exact ⟨0, Nat.zero_le _, rfl, Lib.hid rfl, HREL0⟩
    case round =>
      obtain ⟨k, hk, rfl, HDE, HREL⟩ := hrel
      by_cases hlt : k < m
      · have hkw : k < ws.length := by omega
        have c3 := HREL.out.1.c3
        have h1 := H1.out (G :: Av) k hkw wr HREL.out.1
        have hdd := HDE.out.trans (HD.out k hkw)
        have hput := fun w' (h : RowAt w' G m ws sc k) => h.put hkw hlt
        generalize readE ws[k].data.toList sc = er at *
        generalize readV ws[k].data.toList sc = v at *
        have HDD := Lib.hid hdd; clear hdd
        have HP := Lib.hid hput; clear hput
        have H1k := Lib.hid h1; clear h1
        go_wp2_with fail
        refine H1k.out.mono ?_
        rintro e w3 ⟨hg, ho⟩
        rcases ho.symm with ⟨he1, rfl⟩ | ⟨he1, rfl, hs⟩
        · go_wp2_with fail
          refine ⟨rfl, HREL.out.2.1.trans hg, .inr ?_⟩
          rw [HDD.out, twoE_no _ he1]
          exact ⟨he1, rfl⟩
        · subst he1
          clear ho c3
          have hr3 := HREL.out.2.2.kept hg HBG.out
          obtain ⟨u, hu⟩ := hr3.old hlt
          have hf := hr3.free k
          have HN := Lib.hid (show St N B M (G :: Av) L (n + 1) (ws.drop (k + 1)) sc (w3.setCell ⟨G, k, none⟩ (.int .i64 v)) ∧ w.grownBy (w3.setCell ⟨G, k, none⟩ (.int .i64 v)) (some B) ∧ RowAt (w3.setCell ⟨G, k, none⟩ (.int .i64 v)) G m ws sc (k + 1) from
            ⟨hs.set (a := ⟨G, k, none⟩) (by simp) _, grown_own (HREL.out.2.1.trans hg) (a := ⟨G, k, none⟩) hwG _, HP.out _ hr3⟩)
          have HE := Lib.hid (HDD.out.trans (twoE_ok _))
          clear hs hg hr3
          go_wp2_with fail
          go_roundw
          case rel => exact ⟨k + 1, by omega, by go_num, HE, HN⟩
          case measure => simp [intOf]; omega
      · have hkm : k = m := by omega
        subst hkm
        have hdr : ws.drop k = [] := List.drop_eq_nil_of_le (by omega)
        have hrel := HREL.out
        rw [hdr] at hrel
        have hde := HDE.out
        rw [hdr] at hde
        have HR := Lib.hid hrel; clear hrel
        have HE := Lib.hid hde; clear hde
        go_wp2_with fail
        go_ret
        exact ⟨HR.out.2.1, .inl ⟨HE.out, ⟨G, rfl, hwG, HR.out.2.2⟩, hlen, HR.out.1.drop⟩⟩
  · rw [twoE_no _ he]
    have H0 := Lib.hid (h0.mono fun _ _ h => res_no h he); clear h0
    generalize nextE L n ⟨#[114, 111, 119]⟩ m = er at *
    clear hw hl
    go_enter Tryz.func54, Tryz.ntmps54
    go_wp2_with fail
    refine H0.out.mono ?_
    rintro e w1 ⟨rfl, hg1⟩
    go_wp2_with fail
    exact ⟨rfl, hg1, .inr ⟨he, rfl⟩⟩
end Sheet
end Go.Proofs.YtjmhlabgoegeoaaGreatDoor
namespace Go.Proofs.YtjmhlabgoegeoaaGreatDoor
namespace Sheet
open Go Go.RowKit Deci
theorem assert_fault (v : Value) (xT : TypeId) (w : World) : (Instr.typeAssert (.iface 39 v) xT 39 false).run Tryz.prog w = .ok v w := by kernel_rfl
theorem catch_idle (p q r : Addr) (w : World) :
    CallsD Tryz.prog 17 #[.pointer (some p), .pointer (some q), .pointer (some r)] .returning w fun e u' w' => e = .returned (.tuple #[]) ∧ u' = .returning ∧ w' = w := by
  refine callsD_of_wpS Tryz.func17 rfl fun c₀ cs hu => ?_
  apply wpS_seq
  apply wpS_region
  simp [wpOpsS, go_sem, recoverD, hu, Tryz.ntmps17, Exit.thenS]
  apply wpS_seq
  apply wpS_region
  simp [wpOpsS, go_sem, Exit.thenS, Act.eval]
  refine wpS_cond (t := false) (by simp [Act.eval, Array.replicate]) ?_
  simp only [Bool.false_eq_true, if_false]
  refine wpS_of_wp (wp_skip ?_)
  cases c₀
  simp_all [bodyPostS, results, Tryz.results17]
theorem catch_gave (X Y Z : Nat) (ln er s0 a0 b0 : Int) (v0 v1 v2 v3 : Value) (older : List PanicEntry) (w : World)
    (hX : w.heap[X]? = some (.cells #[v0, v1, v2, v3] 28)) (hY : w.heap[Y]? = some (.cells #[.int .i64 s0] 3)) (hZ : w.heap[Z]? = some (.cells #[.int .i64 a0, .int .i64 b0] 39)) (hXY : X ≠ Y) (hXZ : X ≠ Z) (hYZ : Y ≠ Z) (base : Nat) (bX : base ≤ X) (bY : base ≤ Y) (bZ : base ≤ Z) :
    CallsD Tryz.prog 17 #[.pointer (some ⟨X, 0, none⟩), .pointer (some ⟨Y, 0, none⟩), .pointer (some ⟨Z, 0, none⟩)] (.panicking ({ v := .iface 39 (.agg #[.int .i64 ln, .int .i64 er]), recovered := false } :: older)) w fun e u' w' =>
      e = .returned (.tuple #[]) ∧ u' = .panicking ({ v := .iface 39 (.agg #[.int .i64 ln, .int .i64 er]), recovered := true } :: older) ∧
      w'.heap[X]? = some (.cells #[.slice none 0 0, .slice none 0 0, .slice none 0 0, .slice none 0 0] 28) ∧ w'.heap[Y]? = some (.cells #[.int .i64 0] 3) ∧ w'.heap[Z]? = some (.cells #[.int .i64 ln, .int .i64 er] 39) ∧ Below base w w' := by
  refine callsD_of_wpS Tryz.func17 rfl fun c₀ cs hu => ?_
  apply wpS_seq
  apply wpS_region
  simp [wpOpsS, go_sem, recoverD, hu, Tryz.ntmps17, Exit.thenS]
  apply wpS_seq
  apply wpS_region
  simp [wpOpsS, go_sem, Exit.thenS, Act.eval]
  refine wpS_cond (t := true) (by simp [Act.eval, Array.replicate]) ?_
  simp only [if_true]
  refine wpS_of_wp ?_
  have x0 : w.cell? ⟨X, 0, none⟩ = some v0 := (own_cell hX).trans rfl
  have x1 : w.cell? ⟨X, 1, none⟩ = some v1 := (own_cell hX).trans rfl
  have x2 : w.cell? ⟨X, 2, none⟩ = some v2 := (own_cell hX).trans rfl
  have x3 : w.cell? ⟨X, 3, none⟩ = some v3 := (own_cell hX).trans rfl
  have y0 : w.cell? ⟨Y, 0, none⟩ = some (.int .i64 s0) := (own_cell hY).trans rfl
  have z0 : w.cell? ⟨Z, 0, none⟩ = some (.int .i64 a0) := (own_cell hZ).trans rfl
  have z1 : w.cell? ⟨Z, 1, none⟩ = some (.int .i64 b0) := (own_cell hZ).trans rfl
  have fX : ∀ j, w.frozen? ⟨X, j, none⟩ = false := fun j => own_free hX
  have fY : ∀ j, w.frozen? ⟨Y, j, none⟩ = false := fun j => own_free hY
  have fZ : ∀ j, w.frozen? ⟨Z, j, none⟩ = false := fun j => own_free hZ
  have HXh := Lib.hid hX; clear hX
  have HYh := Lib.hid hY; clear hY
  have HZh := Lib.hid hZ; clear hZ
  have hYX := hXY.symm
  have hZX := hXZ.symm
  have hZY := hYZ.symm
  have hta := fun (v : Value) (xT : TypeId) (w : World) => assert_fault v xT w
  go_region
  all_goals
    refine ⟨rfl, _, rfl, .tuple #[], by simp [results, Tryz.results17], rfl, rfl, ?_, ?_, ?_, ?_⟩
    · rw [show ∀ W : World, W.drew.heap = W.heap from fun _ => rfl]
      exact own_other (own_other (own_other (own_set (own_set (own_set (own_set HXh.out (.slice none 0 0)) (.slice none 0 0)) (.slice none 0 0)) (.slice none 0 0)) hXY _) hXZ _) hXZ _
    · rw [show ∀ W : World, W.drew.heap = W.heap from fun _ => rfl]
      exact own_other (own_other (own_set (own_other (own_other (own_other (own_other HYh.out hYX _) hYX _) hYX _) hYX _) (.int .i64 0)) hYZ _) hYZ _
    · rw [show ∀ W : World, W.drew.heap = W.heap from fun _ => rfl]
      exact own_set (own_set (own_other (own_other (own_other (own_other (own_other HZh.out hZX _) hZX _) hZX _) hZX _) hZY _) (.int .i64 ln)) (.int .i64 er)
    · exact (((((((((Below.refl base w).setCell (p := ⟨X, 0, none⟩) bX _).setCell (p := ⟨X, 1, none⟩) bX _).setCell (p := ⟨X, 2, none⟩) bX _).setCell (p := ⟨X, 3, none⟩) bX _).setCell (p := ⟨Y, 0, none⟩) bY _).setCell (p := ⟨Z, 0, none⟩) bZ _).setCell (p := ⟨Z, 1, none⟩) bZ _)).drew
end Sheet
end Go.Proofs.YtjmhlabgoegeoaaGreatDoor
