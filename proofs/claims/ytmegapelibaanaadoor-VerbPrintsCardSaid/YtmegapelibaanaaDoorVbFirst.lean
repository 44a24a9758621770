/- Package verb's joined and first; over the translated program. -/
import Derived.Test.YtmegapelibaanaaDoorVbRead4
import Derived.Test.YtmegapelibaanaaDoorVbMath2
import Derived.Test.YtmegapelibaanaaDoorVbWrite
namespace Go.Proofs.YtmegapelibaanaaDoor
namespace Vb
open Go Go.RowKit Deci
set_option linter.unusedVariables false
theorem joinS_take {ps : List ByteArray} {k : Nat} (hk : k < ps.length) : joinS (ps.take (k + 1)) = joinS (ps.take k) ++ (ps[k].data.toList ++ [10]) := by
  rw [List.take_succ_eq_append_getElem hk, joinS_snoc]
theorem joinS_len : ∀ (ps : List ByteArray) (k : Nat), (joinS (ps.take k)).length ≤ (joinS ps).length
  | [], k => by simp
  | p :: ps, 0 => by simp [joinS]
  | p :: ps, k + 1 => by
    have := joinS_len ps k
    unfold joinS at this ⊢
    simp only [List.take_succ_cons, List.flatMap_cons, List.length_append] at this ⊢
    omega
theorem joinS_many : ∀ (ps : List ByteArray), ps.length ≤ (joinS ps).length
  | [] => by simp
  | p :: ps => by
    have := joinS_many ps
    unfold joinS at this ⊢
    simp only [List.flatMap_cons, List.length_append, List.length_cons, List.length_nil] at this ⊢
    omega
set_option maxHeartbeats 2000000 in
set_option maxRecDepth 100000 in
theorem joined_any (v : Value) (ps : List ByteArray) (w : World) (hS : Strs w v ps) (hl : (joinS ps).length ≤ 2000000) :
    Calls Tryd.prog 38 #[v] w fun e w' => e = .returned (.string (strOf (joinS ps))) ∧ Below w.heap.size w w' := by
  obtain ⟨B, hB⟩ : ∃ B, B = w.heap.size := ⟨_, rfl⟩
  obtain ⟨W0, hW0⟩ : ∃ W0, W0 = w.alloc (.cells #[.pointer none, .slice none 0 0] 43) := ⟨_, rfl⟩
  have hp0 : IsPage B B [] W0 := by rw [hB, hW0]; exact page_new w
  have hb0 : Below B w W0 := by rw [hB, hW0]; exact (Below.refl _ _).alloc (Nat.le_refl _) _
  have hx0 : W0.heap[B]? = some (.cells #[.pointer none, .slice none 0 0] 43) := by rw [hW0, hB]; exact World.alloc_heap_new w _
  have hz0 : W0.heap.size = B + 1 := by rw [hW0, hB]; simp
  rw [← hB]
  obtain ⟨a, cap, rfl, hcap, hat⟩ := hS
  have HB := Lib.hid hB; clear hB
  have HW0 := Lib.hid hW0; clear hW0
  have HP0 := Lib.hid hp0; clear hp0
  have HB0 := Lib.hid hb0; clear hb0
  by_cases hL : ps = []
  · subst hL
    clear hat
    have hsn := string_nil B W0 hx0
    have HSN := Lib.hid hsn; clear hsn
    rw [show strOf (joinS []) = ⟨#[]⟩ from rfl]
    go_enter Tryd.func38, Tryd.ntmps38
    go_wp2_with fail
    rw [← HB.out, ← HW0.out]
    go_loopw [8] (fun i wr => i = .int .i64 0 ∧ Hid (wr = W0)) (fun i _ => 0)
    case atStart => exact ⟨rfl, Lib.hid rfl⟩
    case round =>
      obtain ⟨rfl, HW⟩ := hrel
      obtain rfl := HW.out.symm
      clear HW
      go_wp2_with fail
      refine HSN.out.mono ?_
      rintro e w1 ⟨rfl, hb1⟩
      have HB1 := Lib.hid (HB0.out.trans (hb1.mono (by rw [hz0]; omega))); clear hb1
      go_wp2_with fail
      go_ret
      exact ⟨rfl, HB1.out⟩
  · obtain ⟨g, o, rfl, hg, hc⟩ := hat.resolve_left hL
    have hlg : g < B := by rw [HB.out]; exact hg
    have hcell : ∀ k (hk : k < ps.length) W, Below B w W → W.cell? ⟨g, o + k, none⟩ = some (.string ps[k]) := fun k hk W hW => (hW.cell (p := ⟨g, o + k, none⟩) hlg).trans (hc k hk)
    have hst := fun k (hk : k < ps.length) => joinS_take (ps := ps) hk
    have hln := fun k => Nat.le_trans (joinS_len ps k) hl
    have hne : joinS ps ≠ [] := by
      cases ps with
      | nil => exact absurd rfl hL
      | cons p ps => simp [joinS]
    have hall : joinS (ps.take ps.length) = joinS ps := by rw [List.take_length]
    have hsv := fun b (l : List UInt8) W h => string_any B b l W h
    obtain ⟨m, hm⟩ : ∃ m, m = ps.length := ⟨_, rfl⟩
    have hml : m ≤ 2000000 := by have := joinS_many ps; omega
    rw [← hm] at hall hcap ⊢
    have HM := Lib.hid hm; clear hm
    have HCE := Lib.hid hcell; clear hcell hc
    have HST := Lib.hid hst; clear hst
    have HLN := Lib.hid hln; clear hln
    have HALL := Lib.hid hall; clear hall
    have HNE := Lib.hid hne; clear hne
    have HSV := Lib.hid hsv; clear hsv
    have HP1 : Hid (Pg B B (joinS (ps.take 0)) W0 W0) := Lib.hid (Pg.refl HP0.out)
    clear hat hL hx0 hl
    go_enter Tryd.func38, Tryd.ntmps38
    go_wp2_with fail
    rw [← HB.out, ← HW0.out]
    go_loopw [8] (fun i wr => ∃ k : Nat, k ≤ m ∧ i = .int .i64 k ∧ Hid (Pg B B (joinS (ps.take k)) W0 wr)) (fun i _ => m - (intOf i).toNat)
    case atStart => exact ⟨0, Nat.zero_le _, rfl, HP1⟩
    case round =>
      obtain ⟨k, hk, rfl, HP⟩ := hrel
      have hBr : B ≤ wr.heap.size := by have := HP.out.2.1.size; omega
      by_cases hlt : k < m
      · have hkl : k < ps.length := by rw [← HM.out]; exact hlt
        have hc := HCE.out k hkl wr (HB0.out.trans HP.out.2.1)
        have hst := HST.out k hkl
        have hl1 := HLN.out (k + 1)
        generalize ps[k] = s at *
        have hsz : s.data.toList.length = s.size := by simp
        have hl2 : (joinS (ps.take k)).length + s.size + 1 ≤ 2000000 := by
          rw [hst] at hl1; simp only [List.length_append, List.length_cons, List.length_nil] at hl1; omega
        have hcc := writeString_any B B (joinS (ps.take k)) s wr HP.out.1 (by omega) hBr
        have HC := Lib.hid hcc; clear hcc
        have HS := Lib.hid hst; clear hst
        have i0 : (k : Int) < (m : Int) := by omega
        clear hl1
        go_wp2_with fail
        refine HC.out.mono ?_
        rintro e w2 ⟨rfl, hp2⟩
        have hp2' := HP.out.trans hp2
        have hcc := writeByte_any B B _ 10 w2 hp2'.1 (by rw [List.length_append]; omega) (by have := hp2'.2.1.size; omega)
        rw [List.append_assoc, ← HS.out] at hcc
        have HC2 := Lib.hid hcc; clear hcc
        have HP2 := Lib.hid hp2'; clear hp2' hp2
        go_wp2_with fail
        refine HC2.out.mono ?_
        rintro e w3 ⟨rfl, hp3⟩
        have HP3 := Lib.hid (HP2.out.trans hp3); clear hp3
        go_wp2_with fail
        go_roundw
        case rel => exact ⟨k + 1, by omega, by go_num, HP3⟩
        case measure => simp [intOf]; omega
      · obtain rfl : k = m := by omega
        have hj : ps.take k = ps := by rw [HM.out, List.take_length]
        have hsv := HSV.out B (joinS ps) wr (by have := HP.out.1; rw [hj] at this; exact this) HNE.out
        have HS := Lib.hid hsv; clear hsv
        go_wp2_with fail
        refine HS.out.mono ?_
        rintro e w2 ⟨rfl, hb2⟩
        have HB2 := Lib.hid ((HB0.out.trans HP.out.2.1).trans hb2); clear hb2
        go_wp2_with fail
        go_ret
        exact ⟨rfl, HB2.out⟩
theorem own_empty {B B' : Nat} {W W' : World} {v : Value} (h : OwnXs B W v []) : OwnXs B' W' v [] := by
  obtain ⟨a, cap, h1, h2, h0, -⟩ := h
  exact ⟨a, cap, h1, h2, h0, .inl rfl⟩
/-- What first leaves. -/
def FirstOut (w : World) (p : ByteArray) (ps : List ByteArray) (e : Ending) (w' : World) : Prop :=
  Below w.heap.size w w' ∧ ∃ c da dn dc t, e = .returned (.tuple #[CM.v c (.slice da dn dc), .int .i64 t, .int .i64 (firstE p ps)]) ∧ (firstE p ps = 0 → t = ((owed p + 1 : Nat) : Int) ∧ c = firstC p ps ∧ OwnXs w.heap.size w' (.slice da dn dc) c.draws)
set_option maxHeartbeats 4000000 in
set_option maxRecDepth 100000 in
theorem first_any (v : Value) (p : ByteArray) (ps : List ByteArray) (w : World) (hE : EnvAt w.heap.size w) (hS : Strs w v (p :: ps)) (hp : p.size ≤ 1000000) (hl : (joinS ps).length ≤ 2000000) :
    Calls Tryd.prog 21 #[v] w (FirstOut w p ps) := by
  obtain ⟨a, cap, rfl, hcap, hat⟩ := hS
  obtain ⟨g, o, rfl, hg, hcell⟩ := hat.resolve_left (by simp)
  obtain ⟨X, hX⟩ : ∃ X, X = w.heap.size := ⟨_, rfl⟩
  obtain ⟨W0, hW0⟩ : ∃ W0, W0 = w.alloc (.cells #[.int .i64 0, .int .i64 0, .int .i64 0, .int .i64 0, .slice none 0 0, .string ⟨#[]⟩] 37) := ⟨_, rfl⟩
  have hb0 : Below X w W0 := by rw [hX, hW0]; exact (Below.refl _ _).alloc (Nat.le_refl _) _
  have hr0 : W0.heap[X]? = some (.cells #[.int .i64 0, .int .i64 0, .int .i64 0, .int .i64 0, .slice none 0 0, .string ⟨#[]⟩] 37) := by rw [hW0, hX]; exact World.alloc_heap_new w _
  have c0 : W0.cell? ⟨g, o, none⟩ = some (.string p) := (hb0.cell (p := ⟨g, o, none⟩) (by rw [hX]; exact hg)).trans (hcell 0 (by simp))
  have hline := line_any p W0 ((hE.below (by rw [← hX]; exact hb0)).mono (by have := hb0.size; omega)) hp
  have htl : ∀ W, Below X w W → ∀ j (hj : j < ps.length), W.cell? ⟨g, o + 1 + j, none⟩ = some (.string ps[j]) := fun W hW j hj => by
    have := hcell (j + 1) (by simp; omega)
    rw [show o + (j + 1) = o + 1 + j by omega] at this
    exact (hW.cell (p := ⟨g, o + 1 + j, none⟩) (by rw [hX]; exact hg)).trans (by simpa using this)
  have hfe : firstE p ps = if lineE p.data.toList ≠ 0 then lineE p.data.toList else if (lineC p.data.toList).kind = 1 ∧ (ps.length : Int) < (lineC p.data.toList).n then 20 else 0 := rfl
  have hfc : firstC p ps = if (lineC p.data.toList).kind = 1 then { lineC p.data.toList with text := strOf (joinS (ps.take (lineC p.data.toList).n.toNat)) } else lineC p.data.toList := rfl
  have how : owed p = if (lineC p.data.toList).kind = 1 then (lineC p.data.toList).n.toNat else 0 := rfl
  have hok := fun h => line_ok (l := p.data.toList) h
  have hml := joinS_many ps
  have hjl := joinS_len ps
  unfold FirstOut
  generalize firstE p ps = fe at *
  generalize firstC p ps = fc at *
  generalize owed p = ow at *
  generalize lineE p.data.toList = er at *
  generalize lineC p.data.toList = cm at *
  rw [← hX]
  obtain ⟨n, hn⟩ : ∃ n, n = ps.length := ⟨_, rfl⟩
  have hpl : (p :: ps).length = n + 1 := by rw [hn]; rfl
  rw [hpl] at hcap ⊢
  rw [← hn] at hfe hml
  have HX := Lib.hid hX; clear hX
  have HW0 := Lib.hid hW0; clear hW0
  have HB0 := Lib.hid hb0; clear hb0
  have HR0 := Lib.hid hr0; clear hr0
  have HLI := Lib.hid hline; clear hline
  have HTL := Lib.hid htl; clear htl
  have HN := Lib.hid hn; clear hn
  have HOK := Lib.hid hok; clear hok
  have HJL := Lib.hid hjl; clear hjl
  have HG := Lib.hid hg; clear hg
  clear hE hat hcell hpl
  have i0 : (0 : Int) < ((n + 1 : Nat) : Int) := by omega
  have i1 : (1 : Int) ≤ ((n + 1 : Nat) : Int) := by omega
  have c0' := c0
  rw [HW0.out] at c0'
  go_enter Tryd.func21, Tryd.ntmps21
  go_wp2_with fail
  rw [← HX.out, ← HW0.out]
  clear c0 c0'
  refine HLI.out.mono ?_
  rintro e w1 ⟨hb1, c, da, dn, dc, rfl, hc⟩
  have hr1 := (hb1.block _ (own_lt HR0.out)).trans HR0.out
  have hs0 : X ≤ W0.heap.size := by have := own_lt HR0.out; omega
  have hb01 := HB0.out.trans (hb1.mono hs0)
  obtain ⟨k1, k2, k3, k4, k5, k6⟩ := c
  unfold CM.v
  simp only at hc ⊢
  have r0 : w1.cell? ⟨X, 0, none⟩ = _ := (own_cell hr1).trans rfl
  have r1 : w1.cell? ⟨X, 1, none⟩ = _ := (own_cell hr1).trans rfl
  have r2 : w1.cell? ⟨X, 2, none⟩ = _ := (own_cell hr1).trans rfl
  have r3 : w1.cell? ⟨X, 3, none⟩ = _ := (own_cell hr1).trans rfl
  have r4 : w1.cell? ⟨X, 4, none⟩ = _ := (own_cell hr1).trans rfl
  have r5 : w1.cell? ⟨X, 5, none⟩ = _ := (own_cell hr1).trans rfl
  have f0 : ∀ j, w1.frozen? ⟨X, j, none⟩ = false := fun j => own_free hr1
  have HR1 := Lib.hid hr1; clear hr1
  have HB1 := Lib.hid hb01; clear hb01
  have HSZ := Lib.hid hb1.size; clear hb1
  have HC := Lib.hid hc; clear hc
  by_cases hre : er ≠ 0
  · rw [if_pos hre] at hfe
    subst hfe
    clear hfc how
    have hre' : ¬ fe = 0 := hre
    go_wp2_with fail
    clear r0 r1 r2 r3 r4 r5 f0
    rw [six_eq, six_eq]
    have hx9 := six_heap (six_heap HR1.out (.int .i64 k1) (.int .i64 k2) (.int .i64 k3) (.int .i64 k4) (.slice da dn dc) (.string k6)) (.int .i64 k1) (.int .i64 k2) (.int .i64 k3) (.int .i64 k4) (.slice da dn dc) (.string k6)
    have hb9 := six_below (six_below HB1.out (Nat.le_refl X) (.int .i64 k1) (.int .i64 k2) (.int .i64 k3) (.int .i64 k4) (.slice da dn dc) (.string k6)) (Nat.le_refl X) (.int .i64 k1) (.int .i64 k2) (.int .i64 k3) (.int .i64 k4) (.slice da dn dc) (.string k6)
    refine bodyPost_ret (v := .tuple #[CM.v ⟨k1, k2, k3, k4, k5, k6⟩ (.slice da dn dc), .int .i64 1, .int .i64 fe]) (by simp [results, Tryd.results21, go_sem, World.cell?, hx9]; rfl) rfl ?_
    refine ⟨hb9, _, _, _, _, _, rfl, ?_⟩
    exact fun h => absurd h hre
  obtain rfl : er = 0 := by simpa using hre
  rw [if_neg hre] at hfe
  clear hre
  obtain ⟨hcm, hown⟩ := HC.out rfl
  subst hcm
  simp only at hfe hfc how hown
  have HOW := Lib.hid hown; clear hown
  rcases HOK.out rfl with ⟨nn, hn1, hn2, hcm⟩ | ⟨hk1, -⟩
  · simp only [CM.mk.injEq] at hcm
    obtain ⟨rfl, rfl, rfl, rfl, rfl, rfl⟩ := hcm
    obtain ⟨q, rfl⟩ : ∃ q : Nat, k2 = q := ⟨k2.toNat, by omega⟩
    simp only [true_and, if_true, Int.toNat_natCast] at hfe hfc how
    by_cases hcp : cap = 1
    · subst hcp
      obtain rfl : n = 0 := by omega
      have hq0 : ((0 : Nat) : Int) = 0 := rfl
      by_cases hq : ((0 : Nat) : Int) < (q : Int)
      · rw [if_pos hq] at hfe
        subst hfe
        clear hfc how
        go_wp2_with fail
        clear r0 r1 r2 r3 r4 r5 f0
        rw [six_eq, six_eq]
        have hx9 := six_heap (six_heap HR1.out (.int .i64 1) (.int .i64 (q : Int)) (.int .i64 0) (.int .i64 0) (.slice da dn dc) (.string ⟨#[]⟩)) (.int .i64 0) (.int .i64 0) (.int .i64 0) (.int .i64 0) (.slice none 0 0) (.string ⟨#[]⟩)
        have hb9 := six_below (six_below HB1.out (Nat.le_refl X) (.int .i64 1) (.int .i64 (q : Int)) (.int .i64 0) (.int .i64 0) (.slice da dn dc) (.string ⟨#[]⟩)) (Nat.le_refl X) (.int .i64 0) (.int .i64 0) (.int .i64 0) (.int .i64 0) (.slice none 0 0) (.string ⟨#[]⟩)
        refine bodyPost_ret (v := .tuple #[CM.v ⟨0, 0, 0, 0, [], ⟨#[]⟩⟩ (.slice none 0 0), .int .i64 0, .int .i64 20]) (by simp [results, Tryd.results21, go_sem, World.cell?, hx9]; rfl) rfl ?_
        first
          | exact ⟨hb9, _, _, _, _, _, rfl⟩
          | exact ⟨hb9, _, _, _, _, _, rfl, fun h => absurd h (by decide)⟩
          | exact ⟨hb9, _, _, _, _, _, rfl, by trivial⟩
      · rw [if_neg hq] at hfe
        obtain rfl : q = 0 := by omega
        have HST : Hid (∀ W, Below X w W → Strs W (.slice (some ⟨g, o, none⟩) 0 0) (ps.take 0)) := Lib.hid fun W hW => by
          rw [List.take_zero]
          exact ⟨_, 0, rfl, Nat.le_refl _, .inl rfl⟩
        subst hfe hfc how
        go_wp2_with fail
        rw [six_eq]
        clear r0 r1 r2 r3 r4 r5 f0
        have hx2 := six_heap HR1.out (.int .i64 1) (.int .i64 0) (.int .i64 0) (.int .i64 0) (.slice da dn dc) (.string ⟨#[]⟩)
        have hb2 := six_below HB1.out (Nat.le_refl X) (.int .i64 1) (.int .i64 0) (.int .i64 0) (.int .i64 0) (.slice da dn dc) (.string ⟨#[]⟩)
        have ho2 := six_own HOW.out HR1.out hs0 (.int .i64 1) (.int .i64 0) (.int .i64 0) (.int .i64 0) (.slice da dn dc) (.string ⟨#[]⟩)
        obtain ⟨W2, hW2⟩ : ∃ W2, W2 = six w1 X (.int .i64 1) (.int .i64 0) (.int .i64 0) (.int .i64 0) (.slice da dn dc) (.string ⟨#[]⟩) := ⟨_, rfl⟩
        rw [← hW2] at hx2 hb2 ho2 ⊢
        clear hW2
        have hj := joined_any _ _ W2 (HST.out W2 hb2) (Nat.le_trans (HJL.out _) hl)
        have HJ := Lib.hid hj; clear hj
        refine HJ.out.mono ?_
        rintro e w3 ⟨rfl, hb3⟩
        have hx3 := (hb3.block _ (own_lt hx2)).trans hx2
        have hb03 := hb2.trans (hb3.mono (Nat.le_of_lt (own_lt hx2)))
        have ho3 := ho2.below hb3
        generalize hJ : strOf (joinS (ps.take 0)) = J at *
        have r0 : w3.cell? ⟨X, 0, none⟩ = _ := (own_cell hx3).trans rfl
        have r1 : w3.cell? ⟨X, 1, none⟩ = _ := (own_cell hx3).trans rfl
        have r2 : w3.cell? ⟨X, 2, none⟩ = _ := (own_cell hx3).trans rfl
        have r3 : w3.cell? ⟨X, 3, none⟩ = _ := (own_cell hx3).trans rfl
        have r4 : w3.cell? ⟨X, 4, none⟩ = _ := (own_cell hx3).trans rfl
        have r5 : w3.cell? ⟨X, 5, none⟩ = _ := (own_cell hx3).trans rfl
        have f0 : ∀ j, w3.frozen? ⟨X, j, none⟩ = false := fun j => own_free hx3
        have HX3 := Lib.hid hx3; clear hx3 hx2
        have HB3 := Lib.hid hb03; clear hb03 hb2 hb3
        have HO3 := Lib.hid ho3; clear ho3 ho2
        go_wp2_with fail
        clear r0 r1 r2 r3 r4 r5 f0
        rw [six_eq]
        have hx9 := six_heap (own_set (i := 5) HX3.out (.string J)) (.int .i64 1) (.int .i64 0) (.int .i64 0) (.int .i64 0) (.slice da dn dc) (.string J)
        have hb9 := six_below (HB3.out.setCell (p := ⟨X, 5, none⟩) (Nat.le_refl X) (.string J)) (Nat.le_refl X) (.int .i64 1) (.int .i64 0) (.int .i64 0) (.int .i64 0) (.slice da dn dc) (.string J)
        refine bodyPost_ret (v := .tuple #[CM.v ⟨1, 0, 0, 0, [], J⟩ (.slice da dn dc), .int .i64 (1 + 0), .int .i64 0]) (by simp [results, Tryd.results21, go_sem, World.cell?, hx9]; rfl) rfl ?_
        refine ⟨hb9, _, _, _, _, _, rfl, ?_⟩
        first
          | exact ⟨by omega, by rw [hJ], own_empty HO3.out⟩
          | exact ⟨by omega, rfl, own_empty HO3.out⟩
          | exact ⟨by omega, by rw [← hJ, List.take_zero], own_empty HO3.out⟩
    · by_cases hq : (n : Int) < (q : Int)
      · rw [if_pos hq] at hfe
        subst hfe
        clear hfc how
        go_wp2_with fail
        clear r0 r1 r2 r3 r4 r5 f0
        rw [six_eq, six_eq]
        have hx9 := six_heap (six_heap HR1.out (.int .i64 1) (.int .i64 (q : Int)) (.int .i64 0) (.int .i64 0) (.slice da dn dc) (.string ⟨#[]⟩)) (.int .i64 0) (.int .i64 0) (.int .i64 0) (.int .i64 0) (.slice none 0 0) (.string ⟨#[]⟩)
        have hb9 := six_below (six_below HB1.out (Nat.le_refl X) (.int .i64 1) (.int .i64 (q : Int)) (.int .i64 0) (.int .i64 0) (.slice da dn dc) (.string ⟨#[]⟩)) (Nat.le_refl X) (.int .i64 0) (.int .i64 0) (.int .i64 0) (.int .i64 0) (.slice none 0 0) (.string ⟨#[]⟩)
        refine bodyPost_ret (v := .tuple #[CM.v ⟨0, 0, 0, 0, [], ⟨#[]⟩⟩ (.slice none 0 0), .int .i64 0, .int .i64 20]) (by simp [results, Tryd.results21, go_sem, World.cell?, hx9]; rfl) rfl ?_
        first
          | exact ⟨hb9, _, _, _, _, _, rfl⟩
          | exact ⟨hb9, _, _, _, _, _, rfl, fun h => absurd h (by decide)⟩
          | exact ⟨hb9, _, _, _, _, _, rfl, by trivial⟩
      · rw [if_neg hq] at hfe
        have HST : Hid (∀ W, Below X w W → Strs W (.slice (some ⟨g, o + 1, none⟩) q (cap - 1)) (ps.take q)) := Lib.hid fun W hW => by
          have hql : q ≤ ps.length := by rw [← HN.out]; omega
          have hl : (ps.take q).length = q := by rw [List.length_take]; omega
          refine ⟨_, cap - 1, by rw [hl], by rw [hl]; omega, .inr ⟨g, o + 1, rfl, ?_, fun j hj => ?_⟩⟩
          · have := HG.out; have := hW.size; omega
          · rw [HTL.out W hW j (by rw [hl] at hj; omega)]; simp
        subst hfe hfc how
        go_wp2_with fail
        rw [six_eq]
        clear r0 r1 r2 r3 r4 r5 f0
        have hx2 := six_heap HR1.out (.int .i64 1) (.int .i64 (ow : Int)) (.int .i64 0) (.int .i64 0) (.slice da dn dc) (.string ⟨#[]⟩)
        have hb2 := six_below HB1.out (Nat.le_refl X) (.int .i64 1) (.int .i64 (ow : Int)) (.int .i64 0) (.int .i64 0) (.slice da dn dc) (.string ⟨#[]⟩)
        have ho2 := six_own HOW.out HR1.out hs0 (.int .i64 1) (.int .i64 (ow : Int)) (.int .i64 0) (.int .i64 0) (.slice da dn dc) (.string ⟨#[]⟩)
        obtain ⟨W2, hW2⟩ : ∃ W2, W2 = six w1 X (.int .i64 1) (.int .i64 (ow : Int)) (.int .i64 0) (.int .i64 0) (.slice da dn dc) (.string ⟨#[]⟩) := ⟨_, rfl⟩
        rw [← hW2] at hx2 hb2 ho2 ⊢
        clear hW2
        have hj := joined_any _ _ W2 (HST.out W2 hb2) (Nat.le_trans (HJL.out _) hl)
        have HJ := Lib.hid hj; clear hj
        refine HJ.out.mono ?_
        rintro e w3 ⟨rfl, hb3⟩
        have hx3 := (hb3.block _ (own_lt hx2)).trans hx2
        have hb03 := hb2.trans (hb3.mono (Nat.le_of_lt (own_lt hx2)))
        have ho3 := ho2.below hb3
        generalize hJ : strOf (joinS (ps.take ow)) = J at *
        have r0 : w3.cell? ⟨X, 0, none⟩ = _ := (own_cell hx3).trans rfl
        have r1 : w3.cell? ⟨X, 1, none⟩ = _ := (own_cell hx3).trans rfl
        have r2 : w3.cell? ⟨X, 2, none⟩ = _ := (own_cell hx3).trans rfl
        have r3 : w3.cell? ⟨X, 3, none⟩ = _ := (own_cell hx3).trans rfl
        have r4 : w3.cell? ⟨X, 4, none⟩ = _ := (own_cell hx3).trans rfl
        have r5 : w3.cell? ⟨X, 5, none⟩ = _ := (own_cell hx3).trans rfl
        have f0 : ∀ j, w3.frozen? ⟨X, j, none⟩ = false := fun j => own_free hx3
        have HX3 := Lib.hid hx3; clear hx3 hx2
        have HB3 := Lib.hid hb03; clear hb03 hb2 hb3
        have HO3 := Lib.hid ho3; clear ho3 ho2
        go_wp2_with fail
        clear r0 r1 r2 r3 r4 r5 f0
        rw [six_eq]
        have hx9 := six_heap (own_set (i := 5) HX3.out (.string J)) (.int .i64 1) (.int .i64 (ow : Int)) (.int .i64 0) (.int .i64 0) (.slice da dn dc) (.string J)
        have hb9 := six_below (HB3.out.setCell (p := ⟨X, 5, none⟩) (Nat.le_refl X) (.string J)) (Nat.le_refl X) (.int .i64 1) (.int .i64 (ow : Int)) (.int .i64 0) (.int .i64 0) (.slice da dn dc) (.string J)
        refine bodyPost_ret (v := .tuple #[CM.v ⟨1, (ow : Int), 0, 0, [], J⟩ (.slice da dn dc), .int .i64 (1 + (ow : Int)), .int .i64 0]) (by simp [results, Tryd.results21, go_sem, World.cell?, hx9]; rfl) rfl ?_
        refine ⟨hb9, _, _, _, _, _, rfl, ?_⟩
        first
          | exact ⟨by omega, by rw [hJ], own_empty HO3.out⟩
          | exact ⟨by omega, rfl, own_empty HO3.out⟩
          | exact ⟨by omega, by rw [← hJ, List.take_zero], own_empty HO3.out⟩
  · simp only at hk1
    rw [if_neg (by simp [hk1])] at hfe
    rw [if_neg hk1] at hfc how
    subst hfe hfc how
    go_wp2_with fail
    clear r0 r1 r2 r3 r4 r5 f0
    rw [six_eq, six_eq]
    have hx9 := six_heap (six_heap HR1.out (.int .i64 k1) (.int .i64 k2) (.int .i64 k3) (.int .i64 k4) (.slice da dn dc) (.string k6)) (.int .i64 k1) (.int .i64 k2) (.int .i64 k3) (.int .i64 k4) (.slice da dn dc) (.string k6)
    have hb9 := six_below (six_below HB1.out (Nat.le_refl X) (.int .i64 k1) (.int .i64 k2) (.int .i64 k3) (.int .i64 k4) (.slice da dn dc) (.string k6)) (Nat.le_refl X) (.int .i64 k1) (.int .i64 k2) (.int .i64 k3) (.int .i64 k4) (.slice da dn dc) (.string k6)
    refine bodyPost_ret (v := .tuple #[CM.v ⟨k1, k2, k3, k4, k5, k6⟩ (.slice da dn dc), .int .i64 1, .int .i64 0]) (by simp [results, Tryd.results21, go_sem, World.cell?, hx9]; rfl) rfl ?_
    refine ⟨hb9, _, _, _, _, _, rfl, ?_⟩
    have hq := six_own (six_own HOW.out HR1.out (Nat.le_trans hs0 (Nat.le_refl _)) (.int .i64 k1) (.int .i64 k2) (.int .i64 k3) (.int .i64 k4) (.slice da dn dc) (.string k6)) (six_heap HR1.out (.int .i64 k1) (.int .i64 k2) (.int .i64 k3) (.int .i64 k4) (.slice da dn dc) (.string k6)) (Nat.le_refl X) (.int .i64 k1) (.int .i64 k2) (.int .i64 k3) (.int .i64 k4) (.slice da dn dc) (.string k6)
    first
      | exact fun _ => ⟨rfl, rfl, hq⟩
      | exact ⟨rfl, rfl, hq⟩
      | exact hq
      | (simp; exact hq)
end Vb
end Go.Proofs.YtmegapelibaanaaDoor
