/- Package verb's checkCount, wholes; over the translated program. -/
import Derived.Test.YtmegapelibaanaaDoorVbRead
import Derived.Laws.MakeOwn
namespace Go.Proofs.YtmegapelibaanaaDoor
namespace Vb
open Go Go.RowKit Deci
set_option linter.unusedVariables false
theorem checkCount_any (k m : Nat) (w : World) (hE : EnvV w) (hk : k < 8) (hm : m ≤ 1000000000) :
    Calls Tryd.prog 53 #[.int .i64 k, .int .i64 m] w fun e w' => e = .returned (.int .i64 (countE k m)) ∧ w' = w := by
  have hc := hE.counts k hk
  have hck : countE k m = if (m : Int) - cntN k < 0 ∨ (0 < (m : Int) - cntN k ∧ k ≠ 5) then 21 else if 4096 < (m : Int) - cntN k then 3 else 0 := rfl
  have hcb : 0 ≤ cntN k ∧ cntN k ≤ 2 := by unfold cntN; split <;> simp
  generalize countE k m = ck at *
  generalize cntN k = c at *
  obtain ⟨d, hd⟩ : ∃ d : Int, d = (m : Int) - c := ⟨_, rfl⟩
  rw [← hd] at hck
  have hw : IntKind.i64.wrap ((m : Int) - c) = d := by rw [← hd]; exact IntWalk.i64_in _ (by omega)
  have hk5 : (k : Int) = 5 ↔ k = 5 := by omega
  have i0 : (0 : Int) ≤ (k : Int) := by omega
  have i1 : (k : Int) < 8 := by omega
  clear hE hcb
  by_cases h1 : d < 0
  · rw [if_pos (.inl h1)] at hck
    subst hck
    go_enter Tryd.func53, Tryd.ntmps53
    go_wp2
    go_ret
    exact ⟨rfl, rfl⟩
  · by_cases h2 : 0 < d
    · by_cases h5 : k = 5
      · subst h5
        rw [if_neg (by simp; omega)] at hck
        by_cases h3 : 4096 < d
        · rw [if_pos h3] at hck
          subst hck
          go_enter Tryd.func53, Tryd.ntmps53
          go_wp2
          go_ret
          exact ⟨rfl, rfl⟩
        · rw [if_neg h3] at hck
          subst hck
          go_enter Tryd.func53, Tryd.ntmps53
          go_wp2
          go_ret
          exact ⟨rfl, rfl⟩
      · rw [if_pos (.inr ⟨h2, h5⟩)] at hck
        subst hck
        have h5' : ¬ (k : Int) = 5 := by omega
        have h5b : ((k : Int) != 5) = true := by simpa using h5'
        go_enter Tryd.func53, Tryd.ntmps53
        go_wp2
        go_ret
        exact ⟨rfl, rfl⟩
    · rw [if_neg (by omega), if_neg (by omega)] at hck
      subst hck
      have h3 : ¬ 4096 < d := by omega
      go_enter Tryd.func53, Tryd.ntmps53
      go_wp2
      go_ret
      exact ⟨rfl, rfl⟩
def Zs (n : Nat) : Array Value := madeCells #[.int .i64 0] n
theorem zs_size (n : Nat) : (Zs n).size = n := size_madeCells _ _
theorem make_int (n : Nat) (hn : n ≤ 1000000) (W : World) : (Instr.makeSlice 35 (.int .i64 n) (.int .i64 n)).run Tryd.prog W = .ok (.slice (some ⟨W.heap.size, 0, none⟩) n n) (W.alloc (.cells (Zs n) 3)) := by
  obtain ⟨i, h1, h2, h3, h4⟩ := info_parts info_int
  have := run_make (P := Tryd.prog) W 35 3 i (.int .i64 0) Tryd.underlying35 h1 h2 .i64 .i64 n n (by omega) (Int.le_refl _) (by rw [h4]; omega) (by omega)
  rw [h3, Int.toNat_natCast, Nat.mul_one] at this
  exact this
theorem wsE_take : ∀ (ws : List ByteArray) (k : Nat) (hk : k < ws.length), wsE (ws.take k) = 0 → wholeE ws[k].data.toList ≠ 0 → wsE ws = wholeE ws[k].data.toList
  | [], k, hk, _, _ => absurd hk (by simp)
  | s :: ws, 0, _, _, h => by simp only [List.getElem_cons_zero] at h ⊢; unfold wsE; rw [if_pos h]
  | s :: ws, k + 1, hk, h0, h => by
    simp only [List.take_succ_cons, List.getElem_cons_succ] at h0 h ⊢
    unfold wsE at h0 ⊢
    by_cases hc : wholeE s.data.toList ≠ 0
    · rw [if_pos hc] at h0; exact absurd h0 hc
    · rw [if_neg hc] at h0 ⊢; exact wsE_take ws k (by simpa using hk) h0 h
theorem wsE_next : ∀ (ws : List ByteArray) (k : Nat) (hk : k < ws.length), wsE (ws.take k) = 0 → wholeE ws[k].data.toList = 0 → wsE (ws.take (k + 1)) = 0
  | [], k, hk, _, _ => absurd hk (by simp)
  | s :: ws, 0, _, _, h => by simp only [List.getElem_cons_zero] at h; simp [wsE, h]
  | s :: ws, k + 1, hk, h0, h => by
    simp only [List.take_succ_cons, List.getElem_cons_succ] at h0 h ⊢
    unfold wsE at h0 ⊢
    by_cases hc : wholeE s.data.toList ≠ 0
    · rw [if_pos hc] at h0; exact absurd h0 hc
    · rw [if_neg hc] at h0 ⊢; exact wsE_next ws k (by simpa using hk) h0 h
/-- A row of numbers, full, in a block of the call's own. -/
def FullXs (B : Nat) (w : World) (v : Value) (xs : List Int) : Prop :=
  ∃ g cur, v = .slice (some ⟨g, 0, none⟩) xs.length xs.length ∧ B ≤ g ∧ w.heap[g]? = some (.cells cur 3) ∧ ∀ j (h : j < xs.length), cur[j]? = some (.int .i64 xs[j])
/-- What wholes leaves. -/
def WholesOut (w : World) (ws : List ByteArray) (e : Ending) (w' : World) : Prop :=
  Below w.heap.size w w' ∧ ∃ v, e = .returned (.tuple #[v, .int .i64 (wsE ws)]) ∧ ((wsE ws ≠ 0 ∧ v = .slice none 0 0) ∨ (wsE ws = 0 ∧ FullXs w.heap.size w' v (wsV ws)))
set_option maxHeartbeats 2000000 in
set_option maxRecDepth 100000 in
theorem wholes_any (v : Value) (ws : List ByteArray) (w : World) (hE : EnvAt w.heap.size w) (hS : Strs w v ws) (hn : ws.length ≤ 100000) (hsz : ∀ s ∈ ws, s.size ≤ 4294967000) :
    Calls Tryd.prog 74 #[v] w (WholesOut w ws) := by
  obtain ⟨a, cap, rfl, hcap, hat⟩ := hS
  obtain ⟨G, hG⟩ : ∃ G, G = w.heap.size := ⟨_, rfl⟩
  obtain ⟨n, hnn⟩ : ∃ n, n = ws.length := ⟨_, rfl⟩
  obtain ⟨W0, hW0⟩ : ∃ W0, W0 = w.alloc (.cells (Zs n) 3) := ⟨_, rfl⟩
  have hb0 : Below G w W0 := by rw [hG, hW0]; exact (Below.refl _ _).alloc (Nat.le_refl _) _
  have hx0 : W0.heap[G]? = some (.cells (Zs n) 3) := by rw [hW0, hG]; exact World.alloc_heap_new w _
  have hmk := fun W => make_int n (by omega) W
  have hwh := fun k (hk : k < ws.length) W (hW : Below G w W) => whole_any ws[k] W (hE W (by rw [← hG]; exact hW)).base (hsz _ (List.getElem_mem hk))
  have hcell : ∀ k (hk : k < ws.length) W, Below G w W → ∃ g o, a = some ⟨g, o, none⟩ ∧ W.cell? ⟨g, o + k, none⟩ = some (.string ws[k]) := fun k hk W hW => by
    obtain ⟨g, o, e, hg, hc⟩ := hat.resolve_left (by intro e; rw [e] at hk; simp at hk)
    exact ⟨g, o, e, (hW.cell (p := ⟨g, o + k, none⟩) (by rw [hG]; exact hg)).trans (hc k hk)⟩
  have htk := fun k (hk : k < ws.length) h0 (hc : wholeE ws[k].data.toList ≠ 0) => wsE_take ws k hk h0 hc
  have hnx := fun k (hk : k < ws.length) h0 (hc : wholeE ws[k].data.toList = 0) => wsE_next ws k hk h0 hc
  have hval : ∀ k (hk : k < ws.length) (hk' : k < (wsV ws).length), (wsV ws)[k] = wholeV ws[k].data.toList := fun k hk hk' => List.getElem_map (fun s : ByteArray => wholeV s.data.toList)
  have hvl : (wsV ws).length = n := by unfold wsV; simp [hnn]
  have hall : wsE (ws.take n) = wsE ws := by rw [hnn, List.take_length]
  unfold WholesOut
  rw [← hG]
  rw [← hnn] at hcap hn ⊢
  generalize wsE ws = we at *
  generalize wsV ws = wv at *
  have HG := Lib.hid hG; clear hG
  have HN := Lib.hid hnn; clear hnn
  have HW0 := Lib.hid hW0; clear hW0
  have HB0 := Lib.hid hb0; clear hb0
  have HX0 := Lib.hid hx0; clear hx0
  have HWH := Lib.hid hwh; clear hwh
  have HCE := Lib.hid hcell; clear hcell hat
  have HTK := Lib.hid htk; clear htk
  have HNX := Lib.hid hnx; clear hnx
  have HVA := Lib.hid hval; clear hval
  have HVL := Lib.hid hvl; clear hvl
  have HALL := Lib.hid hall; clear hall
  clear hE hsz
  go_enter Tryd.func74, Tryd.ntmps74
  go_wp2_with fail
  rw [← HG.out, ← HW0.out]
  clear hmk
  go_loopw [14] (fun i wr => ∃ (k : Nat) (cur : Array Value), k ≤ n ∧ i = .int .i64 k ∧ Hid (wr.heap[G]? = some (.cells cur 3)) ∧ Hid (cur.size = n ∧ ∀ j (h : j < wv.length), j < k → cur[j]? = some (.int .i64 wv[j])) ∧ Hid (wsE (ws.take k) = 0) ∧ Hid (Below G w wr)) (fun i _ => n - (intOf i).toNat)
  case atStart => exact ⟨0, Zs n, Nat.zero_le _, rfl, HX0, Lib.hid ⟨zs_size n, fun j _ hj => absurd hj (by omega)⟩, Lib.hid (by simp [wsE]), HB0⟩
  case round =>
    obtain ⟨k, cur, hk, rfl, HC, HV, H0, HB⟩ := hrel
    by_cases hlt : k < n
    · have hkl : k < ws.length := by rw [← HN.out]; exact hlt
      have hkv : k < wv.length := by rw [HVL.out]; exact hlt
      obtain ⟨g, o, rfl, hc⟩ := HCE.out k hkl wr HB.out
      have hw := HWH.out k hkl wr HB.out
      have htk := HTK.out k hkl H0.out
      have hnx := HNX.out k hkl H0.out
      have hval := HVA.out k hkl hkv
      have hgc : Hid (∀ w', Below wr.heap.size wr w' → w'.heap[G]? = some (.cells cur 3)) := Lib.hid fun w' hb => (hb.block G (own_lt HC.out)).trans HC.out
      generalize ws[k] = s at *
      have HW := Lib.hid hw; clear hw
      have i0 : (k : Int) < (n : Int) := by omega
      have i1 : (0 : Int) ≤ k := by omega
      generalize wholeE s.data.toList = er at *
      generalize wholeV s.data.toList = val at *
      go_wp2_with fail
      refine HW.out.mono ?_
      rintro e w2 ⟨rfl, hb2⟩
      have hx2 := hgc.out w2 hb2
      have hb02 := HB.out.trans (hb2.mono (by have := own_lt HC.out; omega))
      by_cases h0 : er = 0
      · subst h0
        have hnx' := hnx rfl
        clear htk hnx hb2 hc hgc
        have hck : w2.cell? ⟨G, k, none⟩ = cur[k]? := own_cell hx2
        have hkc : k < cur.size := by rw [HV.out.1]; exact hlt
        rw [Array.getElem?_eq_getElem hkc] at hck
        have hfz : w2.frozen? ⟨G, k, none⟩ = false := own_free hx2
        have hx3 : (w2.setCell ⟨G, k, none⟩ (.int .i64 val)).heap[G]? = some (.cells (cur.setIfInBounds k (.int .i64 val)) 3) := own_set hx2 _
        have hb3 : Below G w (w2.setCell ⟨G, k, none⟩ (.int .i64 val)) := hb02.setCell (p := ⟨G, k, none⟩) (Nat.le_refl _) _
        have HX3 := Lib.hid hx3; clear hx3 hx2
        have HB3 := Lib.hid hb3; clear hb3 hb02
        have HNX' := Lib.hid hnx'; clear hnx'
        have HV3 : Hid ((cur.setIfInBounds k (.int .i64 val)).size = n ∧ ∀ j (h : j < wv.length), j < k + 1 → (cur.setIfInBounds k (.int .i64 val))[j]? = some (.int .i64 wv[j])) := Lib.hid ⟨by simp [HV.out.1], fun j hj hjk => by
          rcases Nat.lt_succ_iff_lt_or_eq.1 hjk with h | rfl
          · rw [Array.getElem?_setIfInBounds_ne (by omega)]; exact HV.out.2 j hj h
          · rw [Array.getElem?_setIfInBounds_self]; simp [hkc, hval]⟩
        clear hval
        go_wp2_with fail
        go_roundw
        case rel => exact ⟨k + 1, _, by omega, by go_num, HX3, HV3, HNX', HB3⟩
        case measure => simp [intOf]; omega
      · have htk' := htk h0
        subst htk'
        clear htk hnx hgc hval hb2 hc hx2
        have HB2 := Lib.hid hb02; clear hb02
        go_wp2_with fail
        refine bodyPost_ret (v := .tuple #[.slice none 0 0, .int .i64 we]) (by simp [results, Tryd.results74, go_sem]) rfl ?_
        exact ⟨HB2.out, _, rfl, .inl ⟨h0, rfl⟩⟩
    · obtain rfl : k = n := by omega
      have hwe : we = 0 := by rw [← HALL.out]; exact H0.out
      subst hwe
      go_wp2_with fail
      refine bodyPost_ret (v := .tuple #[.slice (some ⟨G, 0, none⟩) k k, .int .i64 0]) (by simp [results, Tryd.results74, go_sem]) rfl ?_
      have hf : FullXs G wr (.slice (some ⟨G, 0, none⟩) k k) wv := ⟨G, cur, by rw [HVL.out], Nat.le_refl _, HC.out, fun j hj => HV.out.2 j hj (by rw [← HVL.out]; exact hj)⟩
      refine ⟨HB.out, _, rfl, ?_⟩
      first | exact .inr ⟨rfl, hf⟩ | simpa using hf
end Vb
end Go.Proofs.YtmegapelibaanaaDoor
