/- Package verb's Parse; over the translated program. -/
import Derived.Test.YtmegapelibaanaaDoorVbFirst
import Derived.Lib.OwnBridge
import Derived.Deep.DeepCutAuto
import Derived.Outline
import Derived.Deep.CutBlock
namespace Go.Proofs.YtmegapelibaanaaDoor
namespace Vb
open Go Go.RowKit Deci
set_option linter.unusedVariables false
theorem own_base {w : World} {base base' size n : Nat} {e : TypeId} {v : Value} {xs : List Value} (h : w.ownsRow base e size v n xs) (hb : base' ≤ base) : w.ownsRow base' e size v n xs := by
  refine ⟨h.1, h.2.imp id ?_⟩
  rintro ⟨g, cap, cur, h1, h2, h3⟩
  exact ⟨g, cap, cur, h1, Nat.le_trans hb h2, h3⟩
/-- What holds between two rounds: the commands so far, in a row of the call's own. -/
structure J (B : Nat) (w1 : World) (v : Value) (L : List (CM × Value)) (W : World) : Prop where
  own : W.ownsRow B 37 6 v L.length (rowC L)
  bel : Below B w1 W
  ds : ∀ x ∈ L, OwnXs B W x.2 x.1.draws
theorem J.below {B : Nat} {w1 W W' : World} {v : Value} {L : List (CM × Value)} (h : J B w1 v L W) (hb : Below W.heap.size W W') (hB : B ≤ W.heap.size) : J B w1 v L W' :=
  ⟨h.own.kept (grown_of hb none) (own_none h.own), h.bel.trans (hb.mono hB), fun x hx => (h.ds x hx).below hb⟩
theorem J.grown {B : Nat} {w1 W W' : World} {v v' : Value} {L L' : List (CM × Value)} (h : J B w1 v L W) (hs : B ≤ W.heap.size) (hown : W'.ownsRow B 37 6 v' L'.length (rowC L')) (hg : W.grownBy W' v.ownBlock) (hd : ∀ x ∈ L', OwnXs B W x.2 x.1.draws) : J B w1 v' L' W' :=
  ⟨hown, h.bel.grown hg hs (fun k hk => (h.own.lt k hk).1), fun x hx => (hd x hx).grown h.own (by decide) hg⟩
theorem owed_le {p : ByteArray} {ps : List ByteArray} (h : firstE p ps = 0) : owed p ≤ ps.length := by
  unfold firstE at h
  split at h
  · rename_i h0; exact absurd h h0
  · split at h
    · omega
    · rename_i h1
      unfold owed
      split
      · rename_i h2
        have : ¬ (ps.length : Int) < (lineC p.data.toList).n := fun h => h1 ⟨h2, h⟩
        omega
      · omega
theorem joinS_drop : ∀ (ps : List ByteArray) (k : Nat), (joinS (ps.drop k)).length ≤ (joinS ps).length
  | [], k => by simp
  | p :: ps, 0 => by simp
  | p :: ps, k + 1 => by
    have := joinS_drop ps k
    unfold joinS at this ⊢
    simp only [List.drop_succ_cons, List.flatMap_cons, List.length_append] at this ⊢
    omega
theorem lines_join (l : List UInt8) (h : linesE l = 0) : joinS (linesP l) = l := by
  obtain ⟨L, h1, h2⟩ := lines_list l h
  rw [h1, joinS_map, h2]
theorem join_mem : ∀ {ps : List ByteArray} {p : ByteArray}, p ∈ ps → p.size ≤ (joinS ps).length
  | q :: ps, p, h => by
    unfold joinS
    simp only [List.flatMap_cons, List.length_append, List.length_cons, List.length_nil]
    rcases List.mem_cons.1 h with rfl | h
    · have : p.data.toList.length = p.size := by simp
      omega
    · have := join_mem h
      unfold joinS at this
      omega
/-- What Parse leaves. -/
def ParseOut (w : World) (l : List UInt8) (e : Ending) (w' : World) : Prop :=
  Below w.heap.size w w' ∧ ∃ v, e = .returned (.tuple #[v, .int .i64 ((parseR l).2.1 : Nat), .int .i64 (parseR l).2.2]) ∧ IsCm w' v (parseR l).1
set_option maxHeartbeats 4000000 in
set_option maxRecDepth 100000 in
theorem parse_any (s : ByteArray) (w : World) (hE : EnvAt w.heap.size w) (hs : s.size ≤ 100000) :
    Calls Tryd.prog 11 #[.string s] w (ParseOut w s.data.toList) := by
  have htold := lines_any s w hE.env.base (by unfold maxLen; omega)
  have hsl : s.data.toList.length = s.size := by simp
  have hpr : parseR s.data.toList = if linesE s.data.toList ≠ 0 then ([], 0, linesE s.data.toList) else run (linesP s.data.toList) 0 0 := rfl
  have hjn := fun h => lines_join s.data.toList h
  unfold ParseOut
  generalize linesP s.data.toList = ps at *
  generalize linesE s.data.toList = le at *
  have HT := Lib.hid htold; clear htold
  by_cases hle : le ≠ 0
  · rw [if_pos hle] at hpr
    rw [hpr]
    clear hpr hjn
    go_enter Tryd.func11, Tryd.ntmps11
    go_wp2_with fail
    refine HT.out.mono ?_
    rintro e w1 ⟨v, rfl, -, hb1⟩
    have HB1 := Lib.hid hb1; clear hb1
    have hle' : ¬ le = 0 := hle
    go_wp2_with fail
    refine bodyPost_ret (v := .tuple #[.slice none 0 0, .int .i64 0, .int .i64 le]) (by simp [results, Tryd.results11, go_sem]) rfl ?_
    exact ⟨HB1.out, _, rfl, isCm_nil _⟩
  obtain rfl : le = 0 := by simpa using hle
  rw [if_neg hle] at hpr
  rw [hpr]
  have hjl : (joinS ps).length ≤ 100000 := by rw [hjn rfl]; omega
  clear hpr hjn hle
  generalize hR : run ps 0 0 = R at *
  have hn := joinS_many ps
  obtain ⟨n, hnn⟩ : ∃ n, n = ps.length := ⟨_, rfl⟩
  have hsh := run_shape ps 0 0
  rw [hR] at hsh
  obtain ⟨R1, R2, R3⟩ := R
  simp only at hsh ⊢
  have hjd := fun k => Nat.le_trans (joinS_drop ps k) (by omega : (joinS ps).length ≤ 2000000)
  have hmem := fun k (hk : k < ps.length) => Nat.le_trans (join_mem (List.getElem_mem hk)) (by omega : (joinS ps).length ≤ 1000000)
  have hdr := fun k (hk : k < ps.length) => List.drop_eq_getElem_cons hk
  obtain ⟨i9, hi0, hz0, hz1, hz2⟩ := info_parts info_cmd
  have HE := Lib.hid hE; clear hE
  have HR := Lib.hid hR; clear hR
  have HN := Lib.hid hnn; clear hnn
  have HJD := Lib.hid hjd; clear hjd
  have HME := Lib.hid hmem; clear hmem
  have HDR := Lib.hid hdr; clear hdr
  have HSH := Lib.hid hsh; clear hsh
  have hnl : n ≤ 100000 := by rw [HN.out]; omega
  clear hs hsl
  go_enter Tryd.func11, Tryd.ntmps11
  go_wp2_with fail
  refine HT.out.mono ?_
  rintro e w1 ⟨v, rfl, hown, hb1⟩
  obtain ⟨a, cap, rfl, hcap, hat⟩ := strs_of hown
  rw [← HN.out] at hcap ⊢
  obtain ⟨B, hB⟩ : ∃ B, B = w1.heap.size := ⟨_, rfl⟩
  have hstr : Hid (∀ k (hk : k < ps.length) W, Below B w1 W → ∃ g o, a = some ⟨g, o, none⟩ ∧ Strs W (.slice (some ⟨g, o + k, none⟩) (n - k) (cap - k)) (ps[k] :: ps.drop (k + 1))) := Lib.hid fun k hk W hW => by
    obtain ⟨g, o, e, hg, hc⟩ := hat.resolve_left (by intro e; rw [e] at hk; simp at hk)
    have hl : (ps[k] :: ps.drop (k + 1)).length = n - k := by rw [← HDR.out k hk, List.length_drop, ← HN.out]
    refine ⟨g, o, e, _, cap - k, by rw [hl], by rw [hl]; omega, .inr ⟨g, o + k, rfl, by have := hW.size; omega, fun j hj => ?_⟩⟩
    have hj' : k + j < ps.length := by rw [hl, HN.out] at hj; omega
    have h1 := hc (k + j) hj'
    rw [(hW.cell (p := ⟨g, o + k + j, none⟩) (by rw [hB]; exact hg)), Nat.add_assoc, h1]
    have h2 : ∀ (L : List ByteArray) (h : j < L.length), L = ps.drop k → L[j] = ps[k + j] := by
      intro L h e; subst e; simp
    rw [h2 _ hj (HDR.out k hk).symm]
  have HB := Lib.hid hB; clear hB
  have HB1 := Lib.hid hb1; clear hb1 hown hat
  go_wp2_with fail
  go_loopw [7, 8] (fun v i wr => ∃ (k : Nat) (sa : Option Addr) (sc : Nat) (L : List (CM × Value)), k ≤ n ∧ L.length ≤ k ∧ v = .slice sa L.length sc ∧ i = .int .i64 k ∧ Hid (J B w1 (.slice sa L.length sc) L wr) ∧ Hid (run ps 0 0 = glue (L.map (·.1)) (run (ps.drop k) 0 k))) (fun _ i _ => n - (intOf i).toNat)
  case atStart => exact ⟨0, none, 0, [], Nat.zero_le _, Nat.le_refl _, rfl, rfl, Lib.hid ⟨World.ownsRow_nil _ _ _ _, Below.refl _ _, fun x hx => by cases hx⟩, Lib.hid (by
    rw [List.drop_zero]
    exact (glue_nil _ (run_shape ps 0 0).1 (run_shape ps 0 0).2).symm)⟩
  case round =>
    obtain ⟨k, sa, sc, L, hk, hLk, rfl, rfl, HJ, HG⟩ := hrel
    have hBr : B ≤ wr.heap.size := by have := HJ.out.bel.size; have := HB.out; omega
    by_cases hlt : k < n
    · have hkl : k < ps.length := by rw [← HN.out]; exact hlt
      obtain ⟨g, o, rfl, hS⟩ := hstr.out k hkl wr HJ.out.bel
      have hg := HG.out
      rw [HDR.out k hkl] at hg
      have hjd := HJD.out (k + 1)
      have hme := HME.out k hkl
      have hdl : (ps.drop (k + 1)).length = n - (k + 1) := by rw [List.length_drop, ← HN.out]
      have hdd : ∀ j, (ps.drop (k + 1)).drop j = ps.drop (k + 1 + j) := fun j => by rw [List.drop_drop]
      generalize ps[k] = p at *
      generalize ps.drop (k + 1) = qs at *
      have hfi := first_any _ p qs wr ((HE.out.below ((HB1.out.trans (HJ.out.bel.mono (by have := HB1.out.size; have := HB.out; omega))))).mono (by have := HB1.out.size; have := HJ.out.bel.size; have := HB.out; omega)) hS hme hjd
      unfold FirstOut at hfi
      have hou := fun h => owed_le (p := p) (ps := qs) h
      have hstep := fun h => run_step (p := p) (ps := qs) (a := k) h (hou h)
      have hstop := fun h => run_stop (p := p) (ps := qs) (a := k) h
      generalize firstE p qs = fe at *
      generalize firstC p qs = fc at *
      generalize owed p = ow at *
      have HFI := Lib.hid hfi; clear hfi
      have HOU := Lib.hid hou; clear hou
      have HST := Lib.hid hstep; clear hstep
      have HSP := Lib.hid hstop; clear hstop
      have HGG := Lib.hid hg; clear hg
      have HDD := Lib.hid hdd; clear hdd
      have HDL := Lib.hid hdl; clear hdl
      clear hS hjd hme HG
      have hck : ¬ cap = k := by omega
      have i0 : (k : Int) < (n : Int) := by omega
      have i1 : (k : Int) ≤ (n : Int) := by omega
      have i2 : (0 : Int) ≤ (k : Int) := by omega
      go_wp2_with fail
      refine HFI.out.mono ?_
      rintro e w2 ⟨hb2, c, da, dn, dc, t, rfl, hcc⟩
      obtain ⟨X, hX⟩ : ∃ X, X = w2.heap.size := ⟨_, rfl⟩
      obtain ⟨k1, k2, k3, k4, k5, k6⟩ := c
      unfold CM.v
      simp only at hcc ⊢
      obtain ⟨W3, hW3⟩ : ∃ W3, W3 = w2.alloc (.cells #[.int .i64 k1, .int .i64 k2, .int .i64 k3, .int .i64 k4, .slice da dn dc, .string k6] 37) := ⟨_, rfl⟩
      have hb3 : Below wr.heap.size wr W3 := by rw [hW3]; exact hb2.alloc hb2.size _
      have hb23 : Below w2.heap.size w2 W3 := by rw [hW3]; exact (Below.refl _ _).alloc (Nat.le_refl _) _
      have hx3 : W3.heap[X]? = some (.cells #[.int .i64 k1, .int .i64 k2, .int .i64 k3, .int .i64 k4, .slice da dn dc, .string k6] 37) := by rw [hW3, hX]; exact World.alloc_heap_new w2 _
      have HJ3 := Lib.hid (HJ.out.below hb3 hBr)
      have HX := Lib.hid hX; clear hX
      have HW3 := Lib.hid hW3; clear hW3
      have HX3 := Lib.hid hx3; clear hx3
      by_cases hfe : fe ≠ 0
      · have hRR : (R1, R2, R3) = ([], k + 1, fe) := by
          rw [← HR.out, HGG.out, HSP.out hfe]
          unfold glue
          rw [if_pos hfe]
        simp only [Prod.mk.injEq] at hRR
        obtain ⟨rfl, rfl, rfl⟩ := hRR
        have hfe' : ¬ R3 = 0 := hfe
        have HB3 := Lib.hid (HB1.out.trans (HJ3.out.bel.mono (by have := HB1.out.size; have := HB.out; omega)))
        clear hb2 hb3 hb23 hcc
        go_wp2_with fail
        rw [← HX.out, ← HW3.out]
        refine bodyPost_ret (v := .tuple #[.slice none 0 0, .int .i64 ((k : Int) + 1), .int .i64 R3]) (by simp [results, Tryd.results11, go_sem]) rfl ?_
        exact ⟨HB3.out, _, rfl, isCm_nil _⟩
      · obtain rfl : fe = 0 := by simpa using hfe
        obtain ⟨rfl, rfl, hod⟩ := hcc rfl
        have hst := HST.out rfl
        have hou := HOU.out rfl
        clear hfe hcc
        have hod3 := hod.below hb23
        have hL3 : ∀ x ∈ L ++ [(⟨k1, k2, k3, k4, k5, k6⟩, .slice da dn dc)], OwnXs B W3 x.2 x.1.draws := fun x hx => by
          rcases List.mem_append.1 hx with hx | hx
          · exact HJ3.out.ds x hx
          · obtain rfl : x = (⟨k1, k2, k3, k4, k5, k6⟩, .slice da dn dc) := by simpa using hx
            exact hod3.mono (by have := HJ.out.bel.size; have := HB.out; omega)
        have hgl : run ps 0 0 = glue ((L ++ [((⟨k1, k2, k3, k4, k5, k6⟩ : CM), (.slice da dn dc : Value))]).map (·.1)) (run (ps.drop (k + (ow + 1))) 0 (k + (ow + 1))) := by
          rw [HGG.out, hst, glue_glue, HDD.out, List.map_append, show k + 1 + ow = k + (ow + 1) by omega]; rfl
        have hkn : k + (ow + 1) ≤ n := by have := HDL.out; omega
        have HL3 := Lib.hid hL3; clear hL3 hod3 hod
        have HGL := Lib.hid hgl; clear hgl hst
        have hx3 := HX3.out
        have HRS := rowC_snoc L ((⟨k1, k2, k3, k4, k5, k6⟩ : CM), (.slice da dn dc : Value))
        have HRO := Lib.hid (show rowC (L ++ [((⟨k1, k2, k3, k4, k5, k6⟩ : CM), (.slice da dn dc : Value))]) = rowC L ++ [.int .i64 k1, .int .i64 k2, .int .i64 k3, .int .i64 k4, .slice da dn dc, .string k6] from HRS); clear HRS
        have hll : (L ++ [((⟨k1, k2, k3, k4, k5, k6⟩ : CM), (.slice da dn dc : Value))]).length = L.length + 1 := by simp
        obtain ⟨L', hL'⟩ : ∃ L', L' = L ++ [((⟨k1, k2, k3, k4, k5, k6⟩ : CM), (.slice da dn dc : Value))] := ⟨_, rfl⟩
        rw [← hL'] at HL3 HGL HRO hll
        clear hL' hb2 hb3 hb23
        go_upto_region 10 with fail
        rw [← HX.out, ← HW3.out]
        have x0 : W3.cell? ⟨X, 0, none⟩ = some (.int .i64 k1) := (own_cell hx3).trans rfl
        have x1 : W3.cell? ⟨X, 1, none⟩ = some (.int .i64 k2) := (own_cell hx3).trans rfl
        have x2 : W3.cell? ⟨X, 2, none⟩ = some (.int .i64 k3) := (own_cell hx3).trans rfl
        have x3 : W3.cell? ⟨X, 3, none⟩ = some (.int .i64 k4) := (own_cell hx3).trans rfl
        have x4 : W3.cell? ⟨X, 4, none⟩ = some (.slice da dn dc) := (own_cell hx3).trans rfl
        have x5 : W3.cell? ⟨X, 5, none⟩ = some (.string k6) := (own_cell hx3).trans rfl
        clear hx3
        have HNEW : Hid (∀ u ∈ [Value.int .i64 k1, .int .i64 k2, .int .i64 k3, .int .i64 k4, .slice da dn dc, .string k6], u.oneCell' = true) := Lib.hid (by intro u hu; simp at hu; rcases hu with rfl | rfl | rfl | rfl | rfl | rfl <;> rfl)
        go_wp2_with (at_builtin; refine wpList_append_own _ rfl _ _ 22 rfl B 37 i9 (.agg #[.int .i64 0, .int .i64 0, .int .i64 0, .int .i64 0, .slice none 0 0, .string ⟨#[]⟩]) 6 72 Tryd.underlying22 hi0 hz0 hz1 hz2 rfl (by decide) _ _ _ rfl (HJ3.out.own.alloc _) ⟨W3.heap.size, 0, none⟩ 1 1 [.int .i64 k1, .int .i64 k2, .int .i64 k3, .int .i64 k4, .slice da dn dc, .string k6] rfl rfl (cells_made (l := [_, _, _, _, _, _])) HNEW.out ?y0c3 ?y0c4 ?y0c5 ?_)
        case y0c3 => unfold maxLen; omega
        case y0c4 => omega
        case y0c5 => have := HJ3.out.bel.size; have := HB.out; simp; omega
        intro v' w5 hown' hgrow
        try intro _
        obtain ⟨sa', sc', rfl⟩ := own_slice hown'
        have hj5 := (HJ3.out.below ((Below.refl _ _).alloc (Nat.le_refl _) _) (by have := HJ3.out.bel.size; have := HB.out; omega)).grown (by have := HJ3.out.bel.size; have := HB.out; simp; omega) (L' := L') (by rw [hll, HRO.out]; exact hown') hgrow (fun x hx => (HL3.out x hx).below ((Below.refl _ _).alloc (Nat.le_refl _) _))
        rw [← hll] at hj5 ⊢
        have HJ5 := Lib.hid hj5; clear hj5 hown' hgrow
        have i3 : (ow : Int) + 1 ≤ 100001 := by omega
        go_wp2_with fail
        go_roundw
        case rel => exact ⟨k + (ow + 1), _, _, L', hkn, by omega, rfl, by go_num, HJ5, HGL⟩
        case measure => simp [intOf]; omega
    · obtain rfl : k = n := by omega
      have hg := HG.out
      rw [HN.out, List.drop_length] at hg
      have hRR : (R1, R2, R3) = (L.map (·.1), 0, (0 : Int)) := by
        rw [← HR.out, hg]; simp [glue, run]
      simp only [Prod.mk.injEq] at hRR
      obtain ⟨rfl, rfl, rfl⟩ := hRR
      have hic : IsCm wr (.slice sa L.length sc) (L.map (·.1)) := isCm_own HJ.out.own fun x hx => (HJ.out.ds x hx).is
      have HIC := Lib.hid hic; clear hic hg
      go_wp2_with fail
      refine bodyPost_ret (v := .tuple #[.slice sa L.length sc, .int .i64 0, .int .i64 0]) (by simp [results, Tryd.results11, go_sem]) rfl ?_
      exact ⟨HB1.out.trans (HJ.out.bel.mono (by have := HB1.out.size; have := HB.out; omega)), _, rfl, HIC.out⟩
end Vb
end Go.Proofs.YtmegapelibaanaaDoor
