/- jitneyref06.numbers; over the translated program. -/
import Derived.Test.YtjmhlabgoegeoaaGreatDoorSheetRefA
import Derived.OwnWalk
import Derived.Deep.RegionHeld3
namespace Go.Proofs.YtjmhlabgoegeoaaGreatDoor
namespace Sheet
open Go Go.RowKit Deci
/-- The numbers of some words, the first ones within bounds; the first error. -/
def oneE (ws : List ByteArray) (bs : List Int) (sc : Int) (k : Nat) : Int := if k < bs.length then smallE (ws.getD k ⟨#[]⟩).data.toList (bs.getD k 0) else readE (ws.getD k ⟨#[]⟩).data.toList sc
def oneV (ws : List ByteArray) (bs : List Int) (sc : Int) (k : Nat) : Int := if k < bs.length then smallV (ws.getD k ⟨#[]⟩).data.toList (bs.getD k 0) else readV (ws.getD k ⟨#[]⟩).data.toList sc
/-- The first error of those from k on, of m. -/
def numsE (ws : List ByteArray) (bs : List Int) (sc : Int) : Nat → Nat → Int
  | 0, _ => 0
  | m + 1, k => twoE (oneE ws bs sc k) (numsE ws bs sc m (k + 1))
def numsV (ws : List ByteArray) (bs : List Int) (sc : Int) (m : Nat) : List Value := (List.range m).map fun k => .int .i64 (oneV ws bs sc k)
theorem numsV_snoc (ws : List ByteArray) (bs : List Int) (sc : Int) (m : Nat) : numsV ws bs sc (m + 1) = numsV ws bs sc m ++ [.int .i64 (oneV ws bs sc m)] := by
  unfold numsV; rw [List.range_succ, List.map_append]; rfl
set_option maxRecDepth 100000 in
set_option maxHeartbeats 2000000 in
theorem nums_any (g o gb cap cb : Nat) (ws : List ByteArray) (bs : List Int) (sc : Int) (w : World) (hl : ws.length ≤ 5000) (hbl : bs.length ≤ 10) (hsz : ∀ s ∈ ws, s.size ≤ 1000000) (hbs : ∀ b ∈ bs, 0 ≤ b ∧ b ≤ 1000000000)
    (hg : g < w.heap.size) (hgb : gb < w.heap.size) (hc : ∀ j (h : j < ws.length), w.cell? ⟨g, o + j, none⟩ = some (.string ws[j])) (hcb : ∀ j (h : j < bs.length), w.cell? ⟨gb, j, none⟩ = some (.int .i64 bs[j])) :
    Calls Tryz.prog 22 #[.slice (some ⟨g, o, none⟩) ws.length cap, .slice (some ⟨gb, 0, none⟩) bs.length cb, .int .i64 sc] w fun e w' => Below w.heap.size w w' ∧
      ((numsE ws bs sc ws.length 0 = 0 ∧ ∃ v, e = .returned (.tuple #[v, .int .i64 0]) ∧ w'.ownsRow w.heap.size 2 1 v ws.length (numsV ws bs sc ws.length)) ∨
       (numsE ws bs sc ws.length 0 ≠ 0 ∧ e = .returned (.tuple #[.slice none 0 0, .int .i64 (numsE ws bs sc ws.length 0)]))) := by
  obtain ⟨i0, hi, hz0, hz1, hz2⟩ : ∃ i0, Tryz.prog.info? 2 = some i0 ∧ i0.zero = some (.int .i64 0) ∧ i0.size = 1 ∧ i0.bytes = 8 := by
    have := info_long
    cases hh : Tryz.prog.info? 2 with
    | none => rw [hh] at this; simp at this
    | some i0 => rw [hh] at this; simp at this; exact ⟨i0, rfl, this.1, this.2.1, this.2.2⟩
  have h1 : ∀ (k : Nat) (hk : k < ws.length) (hkb : k < bs.length) w, Calls Tryz.prog 58 #[.string ws[k], .int .i64 bs[k]] w fun e w' => e = .returned (.tuple #[.int .i64 (oneV ws bs sc k), .int .i64 (oneE ws bs sc k)]) ∧ w = w' := fun k hk hkb w => by
    unfold oneV oneE
    rw [if_pos hkb, if_pos hkb, show ws.getD k ⟨#[]⟩ = ws[k] by simp [hk], show bs.getD k 0 = bs[k] by simp [hkb]]
    exact refSmall_any _ _ w (by have := hsz _ (List.getElem_mem hk); omega) (hbs _ (List.getElem_mem hkb)).1 (hbs _ (List.getElem_mem hkb)).2
  have h2 : ∀ (k : Nat) (hk : k < ws.length) (hkb : ¬ k < bs.length) w, Calls Tryz.prog 57 #[.string ws[k], .int .i64 sc] w fun e w' => e = .returned (.tuple #[.int .i64 (oneV ws bs sc k), .int .i64 (oneE ws bs sc k)]) ∧ w = w' := fun k hk hkb w => by
    unfold oneV oneE
    rw [if_neg hkb, if_neg hkb, show ws.getD k ⟨#[]⟩ = ws[k] by simp [hk]]
    exact refRead_any _ _ w (by have := hsz _ (List.getElem_mem hk); omega)
  obtain ⟨m, hm⟩ : ∃ m, m = ws.length := ⟨_, rfl⟩
  obtain ⟨nb, hnb⟩ : ∃ nb, nb = bs.length := ⟨_, rfl⟩
  obtain ⟨te, hte⟩ : ∃ te, te = numsE ws bs sc m 0 := ⟨_, rfl⟩
  rw [← hm, ← hnb, ← hte]
  have hs0 : ∀ k, k < m → numsE ws bs sc (m - k) k = twoE (oneE ws bs sc k) (numsE ws bs sc (m - (k + 1)) (k + 1)) := fun k hk => by
    obtain ⟨r, hr⟩ : ∃ r, m - k = r + 1 := ⟨m - k - 1, by omega⟩
    rw [hr, show m - (k + 1) = r by omega]; rfl
  have hvs := numsV_snoc ws bs sc
  have H1 := Lib.hid h1; clear h1
  have H2 := Lib.hid h2; clear h2
  have HS := Lib.hid hs0; clear hs0
  have HV := Lib.hid hvs; clear hvs
  have HC := Lib.hid hc; clear hc
  have HCB := Lib.hid hcb; clear hcb
  have HM := Lib.hid hm
  have HNB := Lib.hid hnb
  have hm5 : m ≤ 5000 := by omega
  have hnb5 : nb ≤ 10 := by omega
  have HT := Lib.hid (show te = numsE ws bs sc (m - 0) 0 from hte)
  clear hsz hbs hl hbl hm hnb hte
  go_enter Tryz.func22, Tryz.ntmps22
  go_wp2_with fail
  go_loopw [9, 8] (fun i u wr => ∃ k : Nat, k ≤ m ∧ i = .int .i64 k ∧ Hid (te = numsE ws bs sc (m - k) k) ∧ Below w.heap.size w wr ∧ ∃ va vcap, u = .slice va k vcap ∧ Hid (wr.ownsRow w.heap.size 2 1 (.slice va k vcap) k (numsV ws bs sc k))) (fun i _ _ => m - (intOf i).toNat)
  case atStart => exact ⟨0, Nat.zero_le _, rfl, HT, (Below.refl _ _).alloc (Nat.le_refl _) _, _, 0, rfl, Lib.hid ⟨rfl, .inr ⟨w.heap.size, 0, #[], rfl, Nat.le_refl _, World.alloc_heap_new w _, Nat.le_refl _, Nat.zero_le _, rfl, rfl⟩⟩⟩
  case round =>
    obtain ⟨k, hk, rfl, HTE, hB, va, vcap, rfl, HROW⟩ := hrel
    by_cases hlt : k < m
    · have hkw : k < ws.length := by rw [← HM.out]; exact hlt
      have q0 := (hB.cell (p := ⟨g, o + k, none⟩) hg).trans (HC.out k hkw)
      have hte := HTE.out.trans (HS.out k hlt)
      have hvs := HV.out k
      by_cases hkb : k < nb
      · have hkb' : k < bs.length := by rw [← HNB.out]; exact hkb
        have q1 := (hB.cell (p := ⟨gb, k, none⟩) hgb).trans (HCB.out k hkb')
        have hcall := H1.out k hkw hkb'
        generalize oneE ws bs sc k = er at *
        generalize oneV ws bs sc k = v at *
        generalize ws[k] = p at *
        generalize bs[k] = b at *
        have HCALL := Lib.hid hcall; clear hcall
        have HTT := Lib.hid hte; clear hte
        have HVS := Lib.hid hvs; clear hvs
        have j0 : (0 : Int) ≤ (k : Int) := by omega
        have j1 : (k : Int) < (m : Int) := by omega
        have j2 : (k : Int) < (nb : Int) := by omega
        have j3 : ¬ (k : Int) < 0 := by omega
        have j4 : ¬ (m : Int) ≤ (k : Int) := by omega
        have j5 : ¬ (nb : Int) ≤ (k : Int) := by omega
        go_wp2_with fail
        go_region_held3 (fun w' => w'.cell? ⟨g, o + k, none⟩ = some (.string p) ∧ w'.cell? ⟨gb, k, none⟩ = some (.int .i64 b)) (go_keep) (first | (go_at_call 58; refine (HCALL.out _).mono ?_; rintro e w' ⟨rfl, rfl⟩))
        obtain ⟨W2, hW2⟩ : ∃ x, x = wr.drew := ⟨_, rfl⟩
        have HROW2 : Hid (W2.ownsRow w.heap.size 2 1 (.slice va k vcap) k (numsV ws bs sc k)) := by rw [hW2]; exact HROW.out
        have hB2 : Below w.heap.size w W2 := by rw [hW2]; exact hB.drew
        rw [← hW2]
        clear hW2 HROW hB q0 q1
        by_cases he : er = 0
        · subst he
          have HTN := Lib.hid (HTT.out.trans (twoE_ok _))
          have hrow : W2.ownsRow w.heap.size 2 1 (.slice va k vcap) k (numsV ws bs sc k) := HROW2.out
          have hBd : Below w.heap.size w W2 := hB2
          have hBs : w.heap.size ≤ W2.heap.size := hBd.size
          have HVN := Lib.hid HVS.out
          clear HTT HVS HCALL
          go_wp2_with (at_builtin; refine wpList_append_own _ rfl _ _ 25 rfl w.heap.size 2 i0 (.int .i64 0) 1 8 Tryz.underlying25 hi hz0 hz1 hz2 rfl (by decide) _ _ _ rfl (hrow.alloc _) ⟨W2.heap.size, 0, none⟩ 1 1 [.int .i64 v] rfl rfl (cell_one_new _ _ _) (by simp [Value.oneCell']) (by unfold maxLen; omega) (by omega) (by simp; omega) ?_; intro v' w1 hown' hgrow _; obtain ⟨g', cap', rfl⟩ := ownsRow_succ hown'; have HOWN := Lib.hid hown'; clear hown'; have HGROW := Lib.hid hgrow; clear hgrow)
          have hgrow : (W2.alloc (.cells #[.int .i64 v] 2)).grownBy w1 (Value.slice va k vcap).ownBlock := HGROW.out
          have hB1 := below_append hBd hBs hrow hgrow
          have hown' := HOWN.out
          rw [← HVN.out] at hown'
          refine ⟨⟨k + 1, by omega, by go_num, HTN, hB1, _, _, rfl, Lib.hid hown'⟩, ?_⟩
          simp [intOf]; omega
        · have hter : te = er := HTT.out.trans (twoE_no _ he)
          subst hter
          have hBd : Below w.heap.size w W2 := hB2
          clear HTT
          go_wp2_with fail
          go_ret2
          exact ⟨hBd, .inr ⟨he, rfl⟩⟩
      · have hkb' : ¬ k < bs.length := by rw [← HNB.out]; exact hkb
        have hcall := H2.out k hkw hkb'
        generalize oneE ws bs sc k = er at *
        generalize oneV ws bs sc k = v at *
        generalize ws[k] = p at *
        have HCALL := Lib.hid hcall; clear hcall
        have HTT := Lib.hid hte; clear hte
        have HVS := Lib.hid hvs; clear hvs
        by_cases he : er = 0
        · subst he
          have HTN := Lib.hid (HTT.out.trans (twoE_ok _))
          have hrow : wr.ownsRow w.heap.size 2 1 (.slice va k vcap) k (numsV ws bs sc k) := HROW.out
          have hBd : Below w.heap.size w wr := hB
          have hBs : w.heap.size ≤ wr.heap.size := hBd.size
          have HVN := Lib.hid HVS.out
          clear HTT HVS
          go_wp2_with (first | (go_at_call 57; refine (HCALL.out _).mono ?_; rintro e w' ⟨rfl, rfl⟩) | (at_builtin; refine wpList_append_own _ rfl _ _ 25 rfl w.heap.size 2 i0 (.int .i64 0) 1 8 Tryz.underlying25 hi hz0 hz1 hz2 rfl (by decide) _ _ _ rfl (hrow.alloc _) ⟨wr.heap.size, 0, none⟩ 1 1 [.int .i64 v] rfl rfl (cell_one_new _ _ _) (by simp [Value.oneCell']) (by unfold maxLen; omega) (by omega) (by simp; omega) ?_; intro v' w1 hown' hgrow _; obtain ⟨g', cap', rfl⟩ := ownsRow_succ hown'; have HOWN := Lib.hid hown'; clear hown'; have HGROW := Lib.hid hgrow; clear hgrow))
          have hgrow : (wr.alloc (.cells #[.int .i64 v] 2)).grownBy w1 (Value.slice va k vcap).ownBlock := HGROW.out
          have hB1 := below_append hBd hBs hrow hgrow
          have hown' := HOWN.out
          rw [← HVN.out] at hown'
          refine ⟨⟨k + 1, by omega, by go_num, HTN, hB1, _, _, rfl, Lib.hid hown'⟩, ?_⟩
          simp [intOf]; omega
        · have hter : te = er := HTT.out.trans (twoE_no _ he)
          subst hter
          have hBd : Below w.heap.size w wr := hB
          clear HTT
          go_wp2_with (go_at_call 57; refine (HCALL.out _).mono ?_; rintro e w' ⟨rfl, rfl⟩)
          go_ret2
          exact ⟨hBd, .inr ⟨he, rfl⟩⟩
    · have hkm : k = m := by omega
      subst hkm
      have hte0 : te = 0 := by have := HTE.out; rw [Nat.sub_self] at this; exact this
      subst hte0
      go_wp2_with fail
      go_ret2
      first | exact ⟨hB, .inl ⟨rfl, _, rfl, HROW.out⟩⟩ | exact ⟨hB, _, rfl, HROW.out⟩
end Sheet
end Go.Proofs.YtjmhlabgoegeoaaGreatDoor
