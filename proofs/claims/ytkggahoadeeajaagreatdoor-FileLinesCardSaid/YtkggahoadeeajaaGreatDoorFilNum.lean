/- Package file's reader: numbers; over the translated program. -/
import Derived.Test.YtkggahoadeeajaaGreatDoorFilRd
import Derived.OwnWalk
import Derived.Outline
import Derived.Lib.Walk
import Derived.Laws.MakeOwn
namespace Go.Proofs.YtkggahoadeeajaaGreatDoor
namespace Fil
open Go Go.RowKit Deci
set_option linter.unusedVariables false
/-- A row of numbers in block G, m of them, of which the first k are those of the words. -/
def NumsAt (w : World) (G m : Nat) (T : TypeId) (b : Bool) (ws : List ByteArray) (k : Nat) : Prop :=
  ∃ cur : Array Value, w.heap[G]? = some (.cells cur T) ∧ cur.size = m ∧ ∀ j, j < k → cur[j]? = ((numsV b ws).map (Value.int .i64))[j]?
section
variable {w w' : World} {G m k : Nat} {T : TypeId} {b : Bool} {ws : List ByteArray}
theorem NumsAt.lt (h : NumsAt w G m T b ws k) : G < w.heap.size := by obtain ⟨cur, h1, -⟩ := h; exact own_lt h1
theorem NumsAt.below (h : NumsAt w G m T b ws k) (hb : Below w.heap.size w w') : NumsAt w' G m T b ws k := by
  obtain ⟨cur, h1, h2, h3⟩ := h
  exact ⟨cur, (hb.block G (own_lt h1)).trans h1, h2, h3⟩
theorem NumsAt.old (h : NumsAt w G m T b ws k) {j : Nat} (hj : j < m) : ∃ u, w.cell? ⟨G, j, none⟩ = some u := by
  obtain ⟨cur, h1, h2, h3⟩ := h
  exact ⟨cur[j], by rw [own_cell h1]; exact Array.getElem?_eq_getElem (by omega)⟩
theorem NumsAt.free (h : NumsAt w G m T b ws k) (j : Nat) : w.frozen? ⟨G, j, none⟩ = false := by
  obtain ⟨cur, h1, h2, h3⟩ := h
  exact own_free h1
theorem NumsAt.put (h : NumsAt w G m T b ws k) (hk : k < ws.length) (hm : k < m) : NumsAt (w.setCell ⟨G, k, none⟩ (.int .i64 (oneV b ws[k]))) G m T b ws (k + 1) := by
  obtain ⟨cur, h1, h2, h3⟩ := h
  refine ⟨_, own_set h1 _, by simp [h2], fun j hj => ?_⟩
  by_cases e : j = k
  · subst e
    simp [numsV, h2, hm, hk]
  · rw [Array.getElem?_setIfInBounds_ne (by omega)]
    exact h3 j (by omega)
theorem NumsAt.deep {base : Nat} (h : NumsAt w G ws.length T b ws ws.length) (hb : base ≤ G) : Deep base T (numsV b ws) (.slice (some ⟨G, 0, none⟩) ws.length ws.length) w := by
  obtain ⟨cur, h1, h2, h3⟩ := h
  have hl : (numsV b ws).length = ws.length := by simp [numsV]
  refine ⟨_, ws.length, by rw [hl], by omega, .inr ⟨G, cur, rfl, hb, h1, fun t ht => ?_⟩⟩
  rw [h3 t (by omega), List.getElem?_map, List.getElem?_eq_getElem ht]
  rfl
end
set_option maxHeartbeats 2000000 in
set_option maxRecDepth 100000 in
theorem numbers_int (N B M : Nat) (L : List ByteArray) (ln : Int) (wv : Value) (ws : List ByteArray) (w : World) (hm : ws.length ≤ 1000000) (hl : ∀ s ∈ ws, s.size ≤ 1000000) (h : St N B M L ln wv w) (hw : Strs w wv ws) :
    Calls Tryz.prog 57 #[.pointer (some ⟨B, 0, none⟩), .func (.func 58) #[] #[]] w fun e w' => Below w.heap.size w w' ∧
      ((numsE false ws = 0 ∧ ∃ v, e = .returned v ∧ Deep w.heap.size 3 (numsV false ws) v w') ∨ (numsE false ws ≠ 0 ∧ Gave ln (numsE false ws) e)) := by
  obtain ⟨i0, hi, hz0, hz1, hz2⟩ := info_parts info_int
  obtain ⟨a, cap, rfl, hcap, hcs⟩ := hw
  have h1 : ∀ (k : Nat) (hk : k < ws.length) W, Below w.heap.size w W → Calls Tryz.prog 58 #[.string ws[k]] W fun e w' => e = .returned (.tuple #[.int .i64 (oneV false ws[k]), .int .i64 (oneE false ws[k])]) ∧ Below W.heap.size W w' :=
    fun k hk W hW => Deci.whole_any ws[k] W (h.below hW).env.env (by have := hl _ (List.getElem_mem hk); omega)
  have eg : ∀ args W, (callFunc 58 args).run Tryz.prog W = .ok (.enter 58 args) W := fun _ _ => rfl
  have c1 := h.c1
  have c2 := h.c2
  have hB := h.lt
  obtain ⟨m, hmm⟩ : ∃ m, m = ws.length := ⟨_, rfl⟩
  have hcw : ∀ k (hk : k < ws.length), ∃ g o, a = some ⟨g, o, none⟩ ∧ g < w.heap.size ∧ w.cell? ⟨g, o + k, none⟩ = some (.string ws[k]) := fun k hk => by
    rcases hcs with rfl | ⟨g, o, h1, h2, h3⟩
    · simp at hk
    · exact ⟨g, o, h1, h2, h3 k hk⟩
  rw [← hmm] at c2
  have hd := fun k (hk : k < ws.length) => nums_drop (b := false) hk
  have H1 := Lib.hid h1; clear h1
  have HD := Lib.hid hd; clear hd
  have HCW := Lib.hid hcw; clear hcw
  have HC1 := Lib.hid c1; clear c1
  have hm2 : m ≤ 1000000 := by omega
  clear hcs hcap hl hm h
  have HMM := Lib.hid hmm; clear hmm
  go_enter Tryz.func57, Tryz.ntmps57
  go_wp2_with (at_make; refine wpList_make_full _ rfl _ _ 25 rfl w.heap.size 3 i0 (.int .i64 0) 1 Tryz.underlying25 hi hz0 hz1 .i64 .i64 _ _ m rfl rfl rfl rfl (by rw [hz2]; omega) (by unfold maxLen; omega) (Nat.le_refl _) ?_; intro w2 hown2 hgrow2; have HOW := Lib.hid hown2; clear hown2; have HGW := Lib.hid hgrow2; clear hgrow2; have c2' : w2.cell? ⟨B, 2, none⟩ = some (.slice a m cap) := ((Below.refl w.heap.size w).grown HGW.out (Nat.le_refl _) (fun _ h => by cases h)).cell (p := ⟨B, 2, none⟩) hB |>.trans c2)
  have hG : w.heap.size < w2.heap.size := (HOW.out.lt _ rfl).2
  have hb2 : Below w.heap.size w w2 := (Below.refl _ _).grown HGW.out (Nat.le_refl _) (fun _ h => by cases h)
  have hrow0 : NumsAt w2 w.heap.size m 3 false ws 0 := by
    rcases HOW.out.2 with ⟨h', _⟩ | ⟨g', cap', cur, h', hbg, hg, h1', h2', h3', h4'⟩
    · simp at h'
    · simp only [Value.slice.injEq, Option.some.injEq, Addr.mk.injEq, and_true, true_and] at h'
      obtain ⟨rfl, rfl⟩ := h'
      exact ⟨cur, hg, by omega, fun j hj => absurd hj (by omega)⟩
  generalize hGe : w.heap.size = G at *
  have HG := Lib.hid hGe; clear hGe
  have HREL0 := Lib.hid (show Below G w w2 ∧ NumsAt w2 G m 3 false ws 0 from ⟨hb2, hrow0⟩)
  clear hrow0 hb2 HOW HGW hi hz0 hz1 hz2 c2 c2'
  go_loopw [21] (fun i wr => ∃ k : Nat, k ≤ m ∧ i = .int .i64 k ∧ Hid (numsE false ws = numsE false (ws.drop k)) ∧ Hid (Below G w wr ∧ NumsAt wr G m 3 false ws k)) (fun i _ => m - (intOf i).toNat)
  case atStart => exact ⟨0, Nat.zero_le _, rfl, Lib.hid rfl, HREL0⟩
  case round =>
    obtain ⟨k, hk, rfl, HDE, HREL⟩ := hrel
    by_cases hlt : k < m
    · have hkw : k < ws.length := by rw [← HMM.out]; exact hlt
      obtain ⟨g, o, rfl, hgs, hq⟩ := HCW.out k hkw
      have q0 : wr.cell? ⟨g, o + k, none⟩ = some (.string ws[k]) := (HREL.out.1.cell (p := ⟨g, o + k, none⟩) hgs).trans hq
      have h1 := H1.out k hkw wr HREL.out.1
      have hdd := HDE.out.trans (HD.out k hkw)
      have hput := fun w' (h : NumsAt w' G m 3 false ws k) => h.put hkw hlt
      clear hq
      generalize oneE false ws[k] = er at *
      generalize oneV false ws[k] = v at *
      generalize ws[k] = p at *
      have HDD := Lib.hid hdd; clear hdd
      have HP := Lib.hid hput; clear hput
      have H1k := Lib.hid h1; clear h1
      have hlk : (k : Int) < (m : Int) := by omega
      go_wp2_with fail
      refine H1k.out.mono ?_
      rintro e w3 ⟨rfl, hb⟩
      have hr3 := HREL.out.2.below hb
      have hGl := HREL.out.2.lt
      have hB3 : Below G w w3 := HREL.out.1.trans (hb.mono (by omega))
      have hc1 : w3.cell? ⟨B, 1, none⟩ = some (.int .i64 ln) := (hB3.cell (p := ⟨B, 1, none⟩) hB).trans HC1.out
      clear q0 hb
      by_cases he1 : er = 0
      · subst he1
        obtain ⟨u, hu⟩ := hr3.old hlt
        have hf := hr3.free k
        have HN := Lib.hid (show Below G w (w3.setCell ⟨G, k, none⟩ (.int .i64 v)) ∧ NumsAt (w3.setCell ⟨G, k, none⟩ (.int .i64 v)) G m 3 false ws (k + 1) from
          ⟨hB3.setCell (p := ⟨G, k, none⟩) (Nat.le_refl _) _, HP.out _ hr3⟩)
        have HE := Lib.hid (HDD.out.trans (twoE_ok _))
        clear hr3 hB3 hc1
        go_wp2_with (go_at_call 52; refine (must_ok B _).mono ?_; rintro e w' ⟨rfl, rfl⟩)
        go_roundw
        case rel => exact ⟨k + 1, by omega, by go_num, HE, HN⟩
        case measure => simp [intOf]; omega
      · have HB3 := Lib.hid hB3; clear hB3 hr3
        go_wp2_with (go_at_call 52; refine (must_gave B ln er _ hc1 he1).mono ?_; rintro e w' ⟨rfl, rfl⟩)
        rw [HG.out]
        refine ⟨rfl, HB3.out, .inr ?_⟩
        rw [HDD.out, twoE_no _ he1]
        exact ⟨he1, rfl⟩
    · have hkm : k = m := by omega
      subst hkm
      have hdr : ws.drop k = [] := List.drop_eq_nil_of_le (by rw [← HMM.out]; omega)
      have hde := HDE.out
      rw [hdr] at hde
      have HE := Lib.hid hde; clear hde
      go_wp2_with fail
      go_ret
      rw [HG.out]
      refine ⟨HREL.out.1, .inl ⟨HE.out, _, rfl, ?_⟩⟩
      have hr := HREL.out.2
      rw [HMM.out] at hr ⊢
      exact hr.deep (Nat.le_refl _)
set_option maxHeartbeats 2000000 in
set_option maxRecDepth 100000 in
theorem numbers_long (N B M : Nat) (L : List ByteArray) (ln : Int) (wv : Value) (ws : List ByteArray) (w : World) (hm : ws.length ≤ 1000000) (hl : ∀ s ∈ ws, s.size ≤ 1000000) (h : St N B M L ln wv w) (hw : Strs w wv ws) :
    Calls Tryz.prog 79 #[.pointer (some ⟨B, 0, none⟩), .func (.func 78) #[] #[]] w fun e w' => Below w.heap.size w w' ∧
      ((numsE true ws = 0 ∧ ∃ v, e = .returned v ∧ Deep w.heap.size 2 (numsV true ws) v w') ∨ (numsE true ws ≠ 0 ∧ Gave ln (numsE true ws) e)) := by
  obtain ⟨i0, hi, hz0, hz1, hz2⟩ := info_parts info_long
  obtain ⟨a, cap, rfl, hcap, hcs⟩ := hw
  have h1 : ∀ (k : Nat) (hk : k < ws.length) W, Below w.heap.size w W → Calls Tryz.prog 78 #[.string ws[k]] W fun e w' => e = .returned (.tuple #[.int .i64 (oneV true ws[k]), .int .i64 (oneE true ws[k])]) ∧ Below W.heap.size W w' :=
    fun k hk W hW => time_any ws[k] W (h.below hW).env.env (by have := hl _ (List.getElem_mem hk); omega)
  have eg : ∀ args W, (callFunc 78 args).run Tryz.prog W = .ok (.enter 78 args) W := fun _ _ => rfl
  have c1 := h.c1
  have c2 := h.c2
  have hB := h.lt
  obtain ⟨m, hmm⟩ : ∃ m, m = ws.length := ⟨_, rfl⟩
  have hcw : ∀ k (hk : k < ws.length), ∃ g o, a = some ⟨g, o, none⟩ ∧ g < w.heap.size ∧ w.cell? ⟨g, o + k, none⟩ = some (.string ws[k]) := fun k hk => by
    rcases hcs with rfl | ⟨g, o, h1, h2, h3⟩
    · simp at hk
    · exact ⟨g, o, h1, h2, h3 k hk⟩
  rw [← hmm] at c2
  have hd := fun k (hk : k < ws.length) => nums_drop (b := true) hk
  have H1 := Lib.hid h1; clear h1
  have HD := Lib.hid hd; clear hd
  have HCW := Lib.hid hcw; clear hcw
  have HC1 := Lib.hid c1; clear c1
  have hm2 : m ≤ 1000000 := by omega
  clear hcs hcap hl hm h
  have HMM := Lib.hid hmm; clear hmm
  go_enter Tryz.func79, Tryz.ntmps79
  go_wp2_with (at_make; refine wpList_make_full _ rfl _ _ 55 rfl w.heap.size 2 i0 (.int .i64 0) 1 Tryz.underlying55 hi hz0 hz1 .i64 .i64 _ _ m rfl rfl rfl rfl (by rw [hz2]; omega) (by unfold maxLen; omega) (Nat.le_refl _) ?_; intro w2 hown2 hgrow2; have HOW := Lib.hid hown2; clear hown2; have HGW := Lib.hid hgrow2; clear hgrow2; have c2' : w2.cell? ⟨B, 2, none⟩ = some (.slice a m cap) := ((Below.refl w.heap.size w).grown HGW.out (Nat.le_refl _) (fun _ h => by cases h)).cell (p := ⟨B, 2, none⟩) hB |>.trans c2)
  have hG : w.heap.size < w2.heap.size := (HOW.out.lt _ rfl).2
  have hb2 : Below w.heap.size w w2 := (Below.refl _ _).grown HGW.out (Nat.le_refl _) (fun _ h => by cases h)
  have hrow0 : NumsAt w2 w.heap.size m 2 true ws 0 := by
    rcases HOW.out.2 with ⟨h', _⟩ | ⟨g', cap', cur, h', hbg, hg, h1', h2', h3', h4'⟩
    · simp at h'
    · simp only [Value.slice.injEq, Option.some.injEq, Addr.mk.injEq, and_true, true_and] at h'
      obtain ⟨rfl, rfl⟩ := h'
      exact ⟨cur, hg, by omega, fun j hj => absurd hj (by omega)⟩
  generalize hGe : w.heap.size = G at *
  have HG := Lib.hid hGe; clear hGe
  have HREL0 := Lib.hid (show Below G w w2 ∧ NumsAt w2 G m 2 true ws 0 from ⟨hb2, hrow0⟩)
  clear hrow0 hb2 HOW HGW hi hz0 hz1 hz2 c2 c2'
  go_loopw [21] (fun i wr => ∃ k : Nat, k ≤ m ∧ i = .int .i64 k ∧ Hid (numsE true ws = numsE true (ws.drop k)) ∧ Hid (Below G w wr ∧ NumsAt wr G m 2 true ws k)) (fun i _ => m - (intOf i).toNat)
  case atStart => exact ⟨0, Nat.zero_le _, rfl, Lib.hid rfl, HREL0⟩
  case round =>
    obtain ⟨k, hk, rfl, HDE, HREL⟩ := hrel
    by_cases hlt : k < m
    · have hkw : k < ws.length := by rw [← HMM.out]; exact hlt
      obtain ⟨g, o, rfl, hgs, hq⟩ := HCW.out k hkw
      have q0 : wr.cell? ⟨g, o + k, none⟩ = some (.string ws[k]) := (HREL.out.1.cell (p := ⟨g, o + k, none⟩) hgs).trans hq
      have h1 := H1.out k hkw wr HREL.out.1
      have hdd := HDE.out.trans (HD.out k hkw)
      have hput := fun w' (h : NumsAt w' G m 2 true ws k) => h.put hkw hlt
      clear hq
      generalize oneE true ws[k] = er at *
      generalize oneV true ws[k] = v at *
      generalize ws[k] = p at *
      have HDD := Lib.hid hdd; clear hdd
      have HP := Lib.hid hput; clear hput
      have H1k := Lib.hid h1; clear h1
      have hlk : (k : Int) < (m : Int) := by omega
      go_wp2_with fail
      refine H1k.out.mono ?_
      rintro e w3 ⟨rfl, hb⟩
      have hr3 := HREL.out.2.below hb
      have hGl := HREL.out.2.lt
      have hB3 : Below G w w3 := HREL.out.1.trans (hb.mono (by omega))
      have hc1 : w3.cell? ⟨B, 1, none⟩ = some (.int .i64 ln) := (hB3.cell (p := ⟨B, 1, none⟩) hB).trans HC1.out
      clear q0 hb
      by_cases he1 : er = 0
      · subst he1
        obtain ⟨u, hu⟩ := hr3.old hlt
        have hf := hr3.free k
        have HN := Lib.hid (show Below G w (w3.setCell ⟨G, k, none⟩ (.int .i64 v)) ∧ NumsAt (w3.setCell ⟨G, k, none⟩ (.int .i64 v)) G m 2 true ws (k + 1) from
          ⟨hB3.setCell (p := ⟨G, k, none⟩) (Nat.le_refl _) _, HP.out _ hr3⟩)
        have HE := Lib.hid (HDD.out.trans (twoE_ok _))
        clear hr3 hB3 hc1
        go_wp2_with (go_at_call 52; refine (must_ok B _).mono ?_; rintro e w' ⟨rfl, rfl⟩)
        go_roundw
        case rel => exact ⟨k + 1, by omega, by go_num, HE, HN⟩
        case measure => simp [intOf]; omega
      · have HB3 := Lib.hid hB3; clear hB3 hr3
        go_wp2_with (go_at_call 52; refine (must_gave B ln er _ hc1 he1).mono ?_; rintro e w' ⟨rfl, rfl⟩)
        rw [HG.out]
        refine ⟨rfl, HB3.out, .inr ?_⟩
        rw [HDD.out, twoE_no _ he1]
        exact ⟨he1, rfl⟩
    · have hkm : k = m := by omega
      subst hkm
      have hdr : ws.drop k = [] := List.drop_eq_nil_of_le (by rw [← HMM.out]; omega)
      have hde := HDE.out
      rw [hdr] at hde
      have HE := Lib.hid hde; clear hde
      go_wp2_with fail
      go_ret
      rw [HG.out]
      refine ⟨HREL.out.1, .inl ⟨HE.out, _, rfl, ?_⟩⟩
      have hr := HREL.out.2
      rw [HMM.out] at hr ⊢
      exact hr.deep (Nat.le_refl _)
end Fil
end Go.Proofs.YtkggahoadeeajaaGreatDoor
