/- jitneyref23's words, wholes and longs: the same answers; over the translated program. -/
import Derived.Test.YtkggahoadeeajaaGreatDoorFilHead
import Derived.Test.YtkggahoadeeajaaGreatDoorDeciRefWords
import Derived.OwnWalk
import Derived.Deep.RegionHeld3
namespace Go.Proofs.YtkggahoadeeajaaGreatDoor
namespace Fil
open Go Go.RowKit Deci
set_option linter.unusedVariables false
theorem listE_small {L : List ByteArray} {n : Nat} {name : ByteArray} (h : (nextW L n).length ≤ 4096) : listE L n name = nextE L n name := by
  unfold listE
  rw [if_neg (by omega)]
  unfold twoE
  split
  · rename_i h; exact h.symm
  · rfl
/-- What words leaves. -/
def RefW (L : List ByteArray) (n : Nat) (w : World) (er : Int) (e : Ending) (w' : World) : Prop :=
  Below w.heap.size w w' ∧ ∃ a k c, e = .returned (.tuple #[.slice a k c, .int .i64 er]) ∧ (er = 0 → Strs w' (.slice a k c) (nextW L n))
set_option maxHeartbeats 1000000 in
set_option maxRecDepth 100000 in
theorem refWordsOf_any (L : List ByteArray) (n : Nat) (name : ByteArray) (a : Option Addr) (cap : Nat) (w : World) (hl : ∀ s ∈ L, s.size ≤ 4000) (hv : Strs w (.slice a L.length cap) L) :
    Calls Tryz.prog 19 #[.slice a L.length cap, .int .i64 n, .string name] w (RefW L n w (nextE L n name)) := by
  unfold RefW nextE
  by_cases hlt : n < L.length
  · unfold nextW
    rw [dif_pos hlt]
    simp only [hlt, dif_pos]
    have hsz := hl _ (List.getElem_mem hlt)
    have h1 := fun w => refWords_any L[n] w (by omega)
    have hle : (wordsE L[n].data.toList = 0 ∧ (wordsP L[n].data.toList).head? = some name → lineE L[n] name = 0) ∧ (¬ (wordsE L[n].data.toList = 0 ∧ (wordsP L[n].data.toList).head? = some name) → lineE L[n] name = 21) := by
      unfold lineE; exact ⟨fun h => if_pos h, fun h => if_neg h⟩
    have hmany := words_many L[n].data.toList
    have hsz' : L[n].data.toList.length = L[n].size := by simp
    obtain ⟨a', cap', e', hcc, hvv⟩ := hv
    obtain ⟨rfl, -, rfl⟩ : a = a' ∧ True ∧ cap = cap' := by simpa using e'
    obtain ⟨g, o, rfl, hg, hc⟩ : ∃ g o, a = some ⟨g, o, none⟩ ∧ g < w.heap.size ∧ ∀ j (h : j < L.length), w.cell? ⟨g, o + j, none⟩ = some (.string L[j]) := by
      rcases hvv with rfl | h
      · simp at hlt
      · exact h
    have q0 := hc n hlt
    clear hvv e' hcc
    generalize lineE L[n] name = le at *
    generalize wordsP L[n].data.toList = ws at *
    generalize wordsE L[n].data.toList = er at *
    have hmany' : ws.length ≤ 4001 := by omega
    clear hmany hsz'
    generalize L[n] = l at *
    have HLE := Lib.hid hle; clear hle
    have H1 := Lib.hid h1; clear h1
    clear hl hc
    generalize hll : L.length = ll at *
    go_enter Tryz.func19, Tryz.ntmps19
    go_wp2_with fail
    refine (H1.out _).mono ?_
    rintro e w1 ⟨v, rfl, hrow, hb⟩
    have hk := told_strs hrow
    have HB := Lib.hid hb; clear hb hrow q0
    by_cases he : er = 0
    · subst he
      rcases hk with ⟨rfl, rfl⟩ | ⟨g', cap', rfl, hcap', hg0, hg1, hcs⟩
      · have hl21 : le = 21 := HLE.out.2 (by rintro ⟨-, h⟩; simp at h)
        subst hl21
        clear H1 HLE
        go_wp2_with fail
        go_ret2
        exact ⟨HB.out, _, _, _, rfl, fun h => absurd h (by decide)⟩
      · cases ws with
        | nil =>
          have hl21 : le = 21 := HLE.out.2 (by rintro ⟨-, h⟩; simp at h)
          subst hl21
          clear H1 HLE hcs
          simp only [List.length_nil]
          go_wp2_with fail
          go_ret2
          exact ⟨HB.out, _, _, _, rfl, fun h => absurd h (by decide)⟩
        | cons p rest =>
          have q0 := hcs 0 (by simp)
          simp only [List.getElem_cons_zero] at q0
          have HCS := Lib.hid hcs; clear hcs
          by_cases hp : p = name
          · have hl0 : le = 0 := HLE.out.1 ⟨rfl, by rw [hp]; rfl⟩
            subst hl0
            have K : ∀ u, (∃ a', u = .slice a' rest.length (cap' - 1) ∧ (rest = [] ∨ a' = some ⟨g', 1, none⟩)) → Strs w1 u rest := by
              rintro u ⟨a', rfl, hu⟩
              simp only [List.length_cons] at hcap'
              refine ⟨a', cap' - 1, rfl, by omega, hu.imp id ?_⟩
              rintro rfl
              refine ⟨g', 1, rfl, hg1, fun j hj => ?_⟩
              have := HCS.out (j + 1) (by simp; omega)
              rw [show 1 + j = j + 1 by omega]
              simpa using this
            have HK := Lib.hid K; clear K
            have hz : rest.length = 0 → rest = [] := List.eq_nil_of_length_eq_zero
            have HZ := Lib.hid hz; clear hz
            clear HCS HLE H1
            subst hp
            simp only [List.length_cons] at hmany' hcap'
            simp only [List.length_cons]
            generalize rest.length = rl at *
            go_wp2_with fail
            all_goals go_ret2
            · exact ⟨HB.out, _, _, _, rfl, HK.out _ ⟨_, by rw [show cap' - 1 = 0 by omega], .inl (HZ.out (by omega))⟩⟩
            · exact ⟨HB.out, _, _, _, rfl, HK.out _ ⟨_, rfl, .inr rfl⟩⟩
          · have hl21 : le = 21 := HLE.out.2 (by rintro ⟨-, h⟩; simp at h; exact hp h)
            subst hl21
            have hpn : (p.toList == name.toList) = false := by
              rw [Lib.toList_data, Lib.toList_data, beq_eq_false_iff_ne]
              intro h
              exact hp (by rw [← strOf_data p, h, strOf_data])
            simp only [List.length_cons] at *
            clear HCS HLE H1
            go_wp2_with fail
            go_ret2
            exact ⟨HB.out, _, _, _, rfl, fun h => absurd h (by decide)⟩
    · have hl21 : le = 21 := HLE.out.2 (by rintro ⟨h, -⟩; exact he h)
      subst hl21
      clear H1 HLE hk
      go_wp2_with fail
      go_ret2
      exact ⟨HB.out, _, _, _, rfl, fun h => absurd h (by decide)⟩
  · rw [dif_neg hlt]
    generalize nextW L n = wn
    clear hv hl
    generalize hll : L.length = ll at *
    go_enter Tryz.func19, Tryz.ntmps19
    go_wp2_with fail
    go_ret2
    exact ⟨Below.refl _ _, _, _, _, rfl, fun h => absurd h (by decide)⟩
/-- What a row of numbers leaves. -/
def RefN (T : TypeId) (b : Bool) (ws : List ByteArray) (w : World) (e : Ending) (w' : World) : Prop :=
  Below w.heap.size w w' ∧ ((numsE b ws = 0 ∧ ∃ v, e = .returned (.tuple #[v, .int .i64 0]) ∧ Deep w.heap.size T (numsV b ws) v w') ∨
    (numsE b ws ≠ 0 ∧ e = .returned (.tuple #[.slice none 0 0, .int .i64 (numsE b ws)])))
set_option maxRecDepth 100000 in
set_option maxHeartbeats 2000000 in
theorem wholes_any (ws : List ByteArray) (v : Value) (w : World) (hl : ws.length ≤ 1000000) (hsz : ∀ s ∈ ws, s.size ≤ 1000000) (hv : Strs w v ws) :
    Calls Tryz.prog 22 #[v] w (RefN 3 false ws w) := by
  unfold RefN
  obtain ⟨i0, hi, hz0, hz1, hz2⟩ := info_parts info_int
  obtain ⟨a, cap, rfl, hcap, hcs⟩ := hv
  have h1 : ∀ (k : Nat) (hk : k < ws.length) w, Calls Tryz.prog 20 #[.string ws[k]] w fun e w' => e = .returned (.tuple #[.int .i64 (oneV false ws[k]), .int .i64 (oneE false ws[k])]) ∧ w = w' := fun k hk w =>
    refWhole_any _ w (by have := hsz _ (List.getElem_mem hk); omega)
  obtain ⟨m, hm⟩ : ∃ m, m = ws.length := ⟨_, rfl⟩
  obtain ⟨te, hte⟩ : ∃ te, te = numsE false ws := ⟨_, rfl⟩
  have hcw : ∀ k (hk : k < ws.length), ∃ g o, a = some ⟨g, o, none⟩ ∧ g < w.heap.size ∧ w.cell? ⟨g, o + k, none⟩ = some (.string ws[k]) := fun k hk => by
    rcases hcs with rfl | ⟨g, o, h1, h2, h3⟩
    · simp at hk
    · exact ⟨g, o, h1, h2, h3 k hk⟩
  have hd := fun k (hk : k < ws.length) => nums_drop (b := false) hk
  have hvs : ∀ k (hk : k < ws.length), ((numsV false ws).map (Value.int .i64)).take (k + 1) = ((numsV false ws).map (Value.int .i64)).take k ++ [.int .i64 (oneV false ws[k])] := fun k hk => by
    rw [List.take_succ_eq_append_getElem (by simpa [numsV] using hk)]
    simp [numsV]
  have hfin : ∀ (v : Value) (W : World), W.ownsRow w.heap.size 3 1 v m (((numsV false ws).map (Value.int .i64)).take m) → Deep w.heap.size 3 (numsV false ws) v W := fun v W h => by
    have hln : (numsV false ws).length = m := by rw [hm]; simp [numsV]
    refine deep_of ?_
    rw [List.take_of_length_le (by simp [hln]), ← hln] at h
    exact h
  rw [← hm, ← hte]
  have H1 := Lib.hid h1; clear h1
  have HD := Lib.hid hd; clear hd
  have HV := Lib.hid hvs; clear hvs
  have HCW := Lib.hid hcw; clear hcw
  have HFIN := Lib.hid hfin; clear hfin
  have HM := Lib.hid hm
  have hm5 : m ≤ 1000000 := by omega
  have HT := Lib.hid (show te = numsE false (ws.drop 0) from hte)
  clear hsz hl hm hte hcs hcap
  go_enter Tryz.func22, Tryz.ntmps22
  go_wp2_with fail
  go_loopw [5, 4] (fun i u wr => ∃ k : Nat, k ≤ m ∧ i = .int .i64 k ∧ Hid (te = numsE false (ws.drop k)) ∧ Below w.heap.size w wr ∧ ∃ va vcap, u = .slice va k vcap ∧ Hid (wr.ownsRow w.heap.size 3 1 (.slice va k vcap) k (((numsV false ws).map (Value.int .i64)).take k))) (fun i _ _ => m - (intOf i).toNat)
  case atStart => exact ⟨0, Nat.zero_le _, rfl, HT, (Below.refl _ _).alloc (Nat.le_refl _) _, _, 0, rfl, Lib.hid ⟨rfl, .inr ⟨w.heap.size, 0, #[], rfl, Nat.le_refl _, World.alloc_heap_new w _, Nat.le_refl _, Nat.zero_le _, rfl, rfl⟩⟩⟩
  case round =>
    obtain ⟨k, hk, rfl, HTE, hB, va, vcap, rfl, HROW⟩ := hrel
    by_cases hlt : k < m
    · have hkw : k < ws.length := by rw [← HM.out]; exact hlt
      obtain ⟨g, o, rfl, hgs, hq⟩ := HCW.out k hkw
      have q0 := (hB.cell (p := ⟨g, o + k, none⟩) hgs).trans hq
      have hte := HTE.out.trans (HD.out k hkw)
      have hvs := HV.out k hkw
      have hcall := H1.out k hkw
      clear hq
      generalize oneE false ws[k] = er at *
      generalize oneV false ws[k] = v at *
      generalize ws[k] = p at *
      have HCALL := Lib.hid hcall; clear hcall
      have HTT := Lib.hid hte; clear hte
      have HVS := Lib.hid hvs; clear hvs
      have hlk : (k : Int) < (m : Int) := by omega
      by_cases he : er = 0
      · subst he
        have HTN := Lib.hid (HTT.out.trans (twoE_ok _))
        have hrow : wr.ownsRow w.heap.size 3 1 (.slice va k vcap) k (((numsV false ws).map (Value.int .i64)).take k) := HROW.out
        have hBd : Below w.heap.size w wr := hB
        have hBs : w.heap.size ≤ wr.heap.size := hBd.size
        have HVN := Lib.hid HVS.out
        clear HTT HVS
        go_wp2_with (first | (go_at_call 20; refine (HCALL.out _).mono ?_; rintro e w' ⟨rfl, rfl⟩) | (at_builtin; refine wpList_append_own _ rfl _ _ 25 rfl w.heap.size 3 i0 (.int .i64 0) 1 8 Tryz.underlying25 hi hz0 hz1 hz2 rfl (by decide) _ _ _ rfl (hrow.alloc _) ⟨wr.heap.size, 0, none⟩ 1 1 [.int .i64 v] rfl rfl (cells_made (l := [_])) (by simp [Value.oneCell']) (by unfold maxLen; omega) (by omega) (by simp; omega) ?_; intro v' w1 hown' hgrow _; obtain ⟨g', cap', rfl⟩ := ownsRow_succ hown'; have HOWN := Lib.hid hown'; clear hown'; have HGROW := Lib.hid hgrow; clear hgrow))
        have hgrow : (wr.alloc (.cells #[.int .i64 v] 3)).grownBy w1 (Value.slice va k vcap).ownBlock := HGROW.out
        have hB1 := below_append hBd hBs hrow hgrow
        have hown' := HOWN.out
        rw [← HVN.out] at hown'
        refine ⟨⟨k + 1, by omega, by go_num, HTN, hB1, _, _, rfl, Lib.hid hown'⟩, ?_⟩
        simp [intOf]; omega
      · have hter : te = er := HTT.out.trans (twoE_no _ he)
        subst hter
        have hBd : Below w.heap.size w wr := hB
        clear HTT
        go_wp2_with (go_at_call 20; refine (HCALL.out _).mono ?_; rintro e w' ⟨rfl, rfl⟩)
        go_ret2
        exact ⟨hBd, .inr ⟨he, rfl⟩⟩
    · have hkm : k = m := by omega
      subst hkm
      have hte0 : te = 0 := by have := HTE.out; rw [List.drop_eq_nil_of_le (by rw [← HM.out]; omega)] at this; exact this
      subst hte0
      go_wp2_with fail
      go_ret2
      first | exact ⟨hB, .inl ⟨rfl, _, rfl, HFIN.out _ _ HROW.out⟩⟩ | exact ⟨hB, _, rfl, HFIN.out _ _ HROW.out⟩

set_option maxRecDepth 100000 in
set_option maxHeartbeats 2000000 in
theorem longs_any (ws : List ByteArray) (v : Value) (w : World) (hl : ws.length ≤ 1000000) (hsz : ∀ s ∈ ws, s.size ≤ 1000000) (hv : Strs w v ws) :
    Calls Tryz.prog 21 #[v] w (RefN 2 true ws w) := by
  unfold RefN
  obtain ⟨i0, hi, hz0, hz1, hz2⟩ := info_parts info_long
  obtain ⟨a, cap, rfl, hcap, hcs⟩ := hv
  have h1 : ∀ (k : Nat) (hk : k < ws.length) w, Calls Tryz.prog 38 #[.string ws[k], .int .i64 0] w fun e w' => e = .returned (.tuple #[.int .i64 (readV ws[k].data.toList 0), .int .i64 (readE ws[k].data.toList 0)]) ∧ w = w' := fun k hk w =>
    refRead_any _ 0 w (by have := hsz _ (List.getElem_mem hk); omega)
  obtain ⟨m, hm⟩ : ∃ m, m = ws.length := ⟨_, rfl⟩
  obtain ⟨te, hte⟩ : ∃ te, te = numsE true ws := ⟨_, rfl⟩
  have hcw : ∀ k (hk : k < ws.length), ∃ g o, a = some ⟨g, o, none⟩ ∧ g < w.heap.size ∧ w.cell? ⟨g, o + k, none⟩ = some (.string ws[k]) := fun k hk => by
    rcases hcs with rfl | ⟨g, o, h1, h2, h3⟩
    · simp at hk
    · exact ⟨g, o, h1, h2, h3 k hk⟩
  have hd := fun k (hk : k < ws.length) => nums_drop (b := true) hk
  have hvs : ∀ k (hk : k < ws.length), ((numsV true ws).map (Value.int .i64)).take (k + 1) = ((numsV true ws).map (Value.int .i64)).take k ++ [.int .i64 (oneV true ws[k])] := fun k hk => by
    rw [List.take_succ_eq_append_getElem (by simpa [numsV] using hk)]
    simp [numsV]
  have hfin : ∀ (v : Value) (W : World), W.ownsRow w.heap.size 2 1 v m (((numsV true ws).map (Value.int .i64)).take m) → Deep w.heap.size 2 (numsV true ws) v W := fun v W h => by
    have hln : (numsV true ws).length = m := by rw [hm]; simp [numsV]
    refine deep_of ?_
    rw [List.take_of_length_le (by simp [hln]), ← hln] at h
    exact h
  rw [← hm, ← hte]
  have H1 := Lib.hid h1; clear h1
  have HD := Lib.hid hd; clear hd
  have HV := Lib.hid hvs; clear hvs
  have HCW := Lib.hid hcw; clear hcw
  have HFIN := Lib.hid hfin; clear hfin
  have HM := Lib.hid hm
  have hm5 : m ≤ 1000000 := by omega
  have HT := Lib.hid (show te = numsE true (ws.drop 0) from hte)
  clear hsz hl hm hte hcs hcap
  go_enter Tryz.func21, Tryz.ntmps21
  go_wp2_with fail
  go_loopw [5, 4] (fun i u wr => ∃ k : Nat, k ≤ m ∧ i = .int .i64 k ∧ Hid (te = numsE true (ws.drop k)) ∧ Below w.heap.size w wr ∧ ∃ va vcap, u = .slice va k vcap ∧ Hid (wr.ownsRow w.heap.size 2 1 (.slice va k vcap) k (((numsV true ws).map (Value.int .i64)).take k))) (fun i _ _ => m - (intOf i).toNat)
  case atStart => exact ⟨0, Nat.zero_le _, rfl, HT, (Below.refl _ _).alloc (Nat.le_refl _) _, _, 0, rfl, Lib.hid ⟨rfl, .inr ⟨w.heap.size, 0, #[], rfl, Nat.le_refl _, World.alloc_heap_new w _, Nat.le_refl _, Nat.zero_le _, rfl, rfl⟩⟩⟩
  case round =>
    obtain ⟨k, hk, rfl, HTE, hB, va, vcap, rfl, HROW⟩ := hrel
    by_cases hlt : k < m
    · have hkw : k < ws.length := by rw [← HM.out]; exact hlt
      obtain ⟨g, o, rfl, hgs, hq⟩ := HCW.out k hkw
      have q0 := (hB.cell (p := ⟨g, o + k, none⟩) hgs).trans hq
      have hte := HTE.out.trans (HD.out k hkw)
      have hvs := HV.out k hkw
      have hcall := H1.out k hkw
      clear hq
      have hout := read_out ws[k].data.toList 0
      have ht : (readV ws[k].data.toList 0 < 0 → oneE true ws[k] = 23) ∧ (¬ readV ws[k].data.toList 0 < 0 → oneE true ws[k] = readE ws[k].data.toList 0 ∧ oneV true ws[k] = readV ws[k].data.toList 0) := by
        unfold oneE oneV timeE timeV; simp only [if_true]; exact ⟨fun h => if_pos h, fun h => ⟨if_neg h, if_neg h⟩⟩
      generalize oneE true ws[k] = er at *
      generalize oneV true ws[k] = z at *
      generalize readE ws[k].data.toList 0 = e0 at *
      generalize readV ws[k].data.toList 0 = v at *
      have HOUT := Lib.hid hout; clear hout
      have HTI := Lib.hid ht; clear ht
      generalize ws[k] = p at *
      have HCALL := Lib.hid hcall; clear hcall
      have HTT := Lib.hid hte; clear hte
      have HVS := Lib.hid hvs; clear hvs
      have hlk : (k : Int) < (m : Int) := by omega
      by_cases he : e0 = 0
      · subst he
        by_cases hneg : v < 0
        · have hter : te = 23 := by have := HTI.out.1 hneg; subst this; exact HTT.out.trans (twoE_no _ (by decide))
          subst hter
          have hBd : Below w.heap.size w wr := hB
          clear HTT
          go_wp2_with (go_at_call 38; refine (HCALL.out _).mono ?_; rintro e w' ⟨rfl, rfl⟩)
          go_ret2
          exact ⟨hBd, .inr ⟨by decide, rfl⟩⟩
        · obtain ⟨rfl, rfl⟩ := HTI.out.2 hneg
          have HTN := Lib.hid (HTT.out.trans (twoE_ok _))
          have hrow : wr.ownsRow w.heap.size 2 1 (.slice va k vcap) k (((numsV true ws).map (Value.int .i64)).take k) := HROW.out
          have hBd : Below w.heap.size w wr := hB
          have hBs : w.heap.size ≤ wr.heap.size := hBd.size
          have HVN := Lib.hid HVS.out
          clear HTT HVS HTI HOUT
          go_wp2_with (first | (go_at_call 38; refine (HCALL.out _).mono ?_; rintro e w' ⟨rfl, rfl⟩) | (at_builtin; refine wpList_append_own _ rfl _ _ 55 rfl w.heap.size 2 i0 (.int .i64 0) 1 8 Tryz.underlying55 hi hz0 hz1 hz2 rfl (by decide) _ _ _ rfl (hrow.alloc _) ⟨wr.heap.size, 0, none⟩ 1 1 [.int .i64 z] rfl rfl (cells_made (l := [_])) (by simp [Value.oneCell']) (by unfold maxLen; omega) (by omega) (by simp; omega) ?_; intro v' w1 hown' hgrow _; obtain ⟨g', cap', rfl⟩ := ownsRow_succ hown'; have HOWN := Lib.hid hown'; clear hown'; have HGROW := Lib.hid hgrow; clear hgrow))
          have hgrow : (wr.alloc (.cells #[.int .i64 z] 2)).grownBy w1 (Value.slice va k vcap).ownBlock := HGROW.out
          have hB1 := below_append hBd hBs hrow hgrow
          have hown' := HOWN.out
          rw [← HVN.out] at hown'
          refine ⟨⟨k + 1, by omega, by go_num, HTN, hB1, _, _, rfl, Lib.hid hown'⟩, ?_⟩
          simp [intOf]; omega
      · have hv0 := HOUT.out he
        subst hv0
        obtain ⟨rfl, rfl⟩ := HTI.out.2 (by omega)
        have hter : te = er := HTT.out.trans (twoE_no _ he)
        subst hter
        have hBd : Below w.heap.size w wr := hB
        clear HTT HTI HOUT
        go_wp2_with (go_at_call 38; refine (HCALL.out _).mono ?_; rintro e w' ⟨rfl, rfl⟩)
        go_ret2
        exact ⟨hBd, .inr ⟨he, rfl⟩⟩
    · have hkm : k = m := by omega
      subst hkm
      have hte0 : te = 0 := by have := HTE.out; rw [List.drop_eq_nil_of_le (by rw [← HM.out]; omega)] at this; exact this
      subst hte0
      go_wp2_with fail
      go_ret2
      first | exact ⟨hB, .inl ⟨rfl, _, rfl, HFIN.out _ _ HROW.out⟩⟩ | exact ⟨hB, _, rfl, HFIN.out _ _ HROW.out⟩

end Fil
end Go.Proofs.YtkggahoadeeajaaGreatDoor
