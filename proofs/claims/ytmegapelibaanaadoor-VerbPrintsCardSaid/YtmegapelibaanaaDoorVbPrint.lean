/- Package verb's Print; over the translated program. -/
import Derived.Test.YtmegapelibaanaaDoorVbWrite
import Derived.Test.YtmegapelibaanaaDoorVbCheck2
namespace Go.Proofs.YtmegapelibaanaaDoor
namespace Vb
open Go Go.RowKit Deci
set_option linter.unusedVariables false
/-- The text of the first k commands; the first one that has an error. -/
def pageT (L : List CM) : List UInt8 := L.flatMap cmdT
theorem pageT_take {L : List CM} {k : Nat} (hk : k < L.length) : pageT (L.take (k + 1)) = pageT (L.take k) ++ cmdT L[k] := by
  rw [List.take_succ_eq_append_getElem hk]; unfold pageT; rw [List.flatMap_append]; simp
theorem printE_take : ∀ (L : List CM) (k : Nat) (hk : k < L.length), printE (L.take k) = 0 → checkE L[k] ≠ 0 → printE L = checkE L[k]
  | [], k, hk, _, _ => absurd hk (by simp)
  | c :: L, 0, _, _, h => by simp only [List.getElem_cons_zero] at h ⊢; unfold printE; rw [if_pos h]
  | c :: L, k + 1, hk, h0, h => by
    simp only [List.take_succ_cons, List.getElem_cons_succ] at h0 h ⊢
    unfold printE at h0 ⊢
    by_cases hc : checkE c ≠ 0
    · rw [if_pos hc] at h0; exact absurd h0 hc
    · rw [if_neg hc] at h0 ⊢; exact printE_take L k (by simpa using hk) h0 h
theorem printE_next : ∀ (L : List CM) (k : Nat) (hk : k < L.length), printE (L.take k) = 0 → checkE L[k] = 0 → printE (L.take (k + 1)) = 0
  | [], k, hk, _, _ => absurd hk (by simp)
  | c :: L, 0, _, _, h => by simp only [List.getElem_cons_zero] at h; simp [printE, h]
  | c :: L, k + 1, hk, h0, h => by
    simp only [List.take_succ_cons, List.getElem_cons_succ] at h0 h ⊢
    unfold printE at h0 ⊢
    by_cases hc : checkE c ≠ 0
    · rw [if_pos hc] at h0; exact absurd h0 hc
    · rw [if_neg hc] at h0 ⊢; exact printE_next L k (by simpa using hk) h0 h
theorem check_rng {c : CM} (h : checkE c = 0) : ∀ x ∈ numL c, Rng x := by
  intro x hx
  have hb : (numL c).any (beyB (leastV c)) = false := by
    cases hh : (numL c).any (beyB (leastV c)) with
    | false => rfl
    | true =>
      unfold checkE at h
      rw [hh] at h
      split at h
      · cases h
      · simp at h
  have := (List.any_eq_false.1 hb) x hx
  unfold beyB at this
  simp only [Bool.or_eq_true, decide_eq_true_eq, not_or] at this
  have hl : -1099511627776 ≤ leastV c := by unfold leastV; split <;> omega
  exact ⟨by omega, by omega⟩
theorem cmd_len {c : CM} (h : checkE c = 0) (hd : c.draws.length ≤ 5000) (ht : c.text.size ≤ 3000) : (cmdT c).length ≤ 120000 := by
  have h1 := numsT_len (xs := numL c) fun x hx => (rng_row (check_rng h x hx)).2
  have h2 := numL_len c
  have h3 : (nameL c.kind.toNat).length ≤ 7 := by unfold nameL; split <;> simp
  have h4 : c.text.data.toList.length = c.text.size := by simp
  unfold cmdT lineT
  split
  all_goals
    simp only [List.length_append, List.length_cons, List.length_nil]
    omega
set_option maxHeartbeats 2000000 in
set_option maxRecDepth 100000 in
theorem print_any (v : Value) (L : List CM) (w : World) (hE : EnvAt w.heap.size w) (hI : IsCm w v L) (hn : L.length ≤ 3000) (hs : ∀ c ∈ L, c.draws.length ≤ 5000 ∧ c.text.size ≤ 3000) :
    Calls Tryd.prog 7 #[v] w fun e w' => e = .returned (.tuple #[.string (strOf (printT L)), .int .i64 (printE L)]) ∧ Below w.heap.size w w' := by
  obtain ⟨B, hB⟩ : ∃ B, B = w.heap.size := ⟨_, rfl⟩
  obtain ⟨W0, hW0⟩ : ∃ W0, W0 = w.alloc (.cells #[.pointer none, .slice none 0 0] 43) := ⟨_, rfl⟩
  have hp0 : IsPage B B [] W0 := by rw [hB, hW0]; exact page_new w
  have hb0 : Below B w W0 := by rw [hB, hW0]; exact (Below.refl _ _).alloc (Nat.le_refl _) _
  have hx0 : W0.heap[B]? = some (.cells #[.pointer none, .slice none 0 0] 43) := by rw [hW0, hB]; exact World.alloc_heap_new w _
  have hz0 : W0.heap.size = B + 1 := by rw [hW0, hB]; simp
  rw [← hB] at hE ⊢
  have hE0 := hE.below hb0
  obtain ⟨a, cap, rfl, hrow⟩ := hI
  have HB := Lib.hid hB; clear hB
  have HW0 := Lib.hid hW0; clear hW0
  have HP0 := Lib.hid hp0; clear hp0
  have HB0 := Lib.hid hb0; clear hb0
  clear hE0
  by_cases hL : L = []
  · subst hL
    clear hrow hE
    have hsn := string_nil B W0 hx0
    have HSN := Lib.hid hsn; clear hsn
    rw [show strOf (printT []) = ⟨#[]⟩ from rfl, show printE [] = 0 from rfl]
    go_enter Tryd.func7, Tryd.ntmps7
    go_wp2_with fail
    rw [← HB.out, ← HW0.out]
    go_loopw [10] (fun i wr => i = .int .i64 0 ∧ Hid (wr = W0)) (fun i _ => 0)
    case atStart => exact ⟨rfl, Lib.hid rfl⟩
    case round =>
      obtain ⟨rfl, HW⟩ := hrel
      obtain rfl := HW.out.symm
      clear HW
      go_wp2_with fail
      refine HSN.out.mono ?_
      rintro e w1 ⟨rfl, hb1⟩
      have HB1 := Lib.hid (HB0.out.trans (hb1.mono (by rw [hz0]; omega))); clear hb1
      go_wp2_with fail
      refine bodyPost_ret (v := .tuple #[.string ⟨#[]⟩, .int .i64 0]) (by simp [results, Tryd.results7, go_sem]) rfl ?_
      exact ⟨rfl, HB1.out⟩
  · obtain ⟨g, o, rfl, hg, hat⟩ := hrow.resolve_left hL
    have hlg : g < B := by rw [HB.out]; exact hg
    have hsv := fun b (l : List UInt8) W h => string_any B b l W h
    have hat' : ∀ k (hk : k < L.length) W, Below B w W → ∃ dv, CvAt W g (o + k * 6) L[k] dv ∧ (∀ W', Below B W W' → IsXs W' dv L[k].draws) := fun k hk W hb => by
      obtain ⟨dv, h1, h2⟩ := hat k hk
      exact ⟨dv, h1.below hb hlg, fun W' hW' => h2.below (by rw [← HB.out]; exact hb.trans hW')⟩
    have hall : pageT (L.take L.length) = pageT L := by rw [List.take_length]
    have hne : pageT L ≠ [] := by
      cases L with
      | nil => exact absurd rfl hL
      | cons c L => unfold pageT; simp [cmdT]
    have hck := fun W c dv (hW : Below B w W) (hd : IsXs W dv c.draws) (hc : c ∈ L) => check_any c dv W ((hE.below hW).mono (by have := hW.size; rw [HB.out]; exact this)) hd (by have := (hs c hc).1; omega) (by have := (hs c hc).2; unfold maxLen; omega)
    have hwr := fun t W c dv (hW : Below B w W) (hp : IsPage B B t W) (hd : ∀ W', Below B W W' → IsXs W' dv c.draws) (hc : c ∈ L) (h0 : checkE c = 0) (hl : t.length ≤ 800000000) => write_any B B t c dv W hp (hE.below hW) (by have := hW.size; rw [HB.out]; exact this) hd (check_rng h0) (hs c hc).1 (hs c hc).2 hl
    have hst := fun k (hk : k < L.length) => pageT_take (L := L) hk
    have hno := fun k (hk : k < L.length) h0 hc => printE_take L k hk h0 hc
    have hnx := fun k (hk : k < L.length) h0 hc => printE_next L k hk h0 hc
    have hcl := fun k (hk : k < L.length) (hc : checkE L[k] = 0) => cmd_len (c := L[k]) hc (hs _ (List.getElem_mem hk)).1 (hs _ (List.getElem_mem hk)).2
    have hp1 : Pg B B (pageT (L.take 0)) W0 W0 ∧ printE (L.take 0) = 0 ∧ (pageT (L.take 0)).length ≤ 0 * 120000 := ⟨Pg.refl HP0.out, by simp [printE], by simp [pageT]⟩
    have hT : ∀ k, k = L.length → printE (L.take k) = 0 → strOf (pageT (L.take k)) = strOf (printT L) ∧ printE L = 0 := fun k hk h0 => by
      rw [hk, List.take_length] at h0 ⊢
      unfold printT; rw [if_neg (by omega)]; exact ⟨rfl, h0⟩
    have hF : ∀ e, printE L = e → e ≠ 0 → strOf (printT L) = ⟨#[]⟩ := fun e h he => by unfold printT; rw [if_pos (by omega)]; rfl
    obtain ⟨m, hm⟩ : ∃ m, m = L.length := ⟨_, rfl⟩
    rw [← hm] at hn hall ⊢
    generalize strOf (printT L) = PT at *
    generalize printE L = PE at *
    have HM := Lib.hid hm; clear hm
    have HAT := Lib.hid hat'; clear hat' hat
    have HCK := Lib.hid hck; clear hck
    have HWR := Lib.hid hwr; clear hwr
    have HST := Lib.hid hst; clear hst
    have HNO := Lib.hid hno; clear hno
    have HNX := Lib.hid hnx; clear hnx
    have HCL := Lib.hid hcl; clear hcl
    have HT := Lib.hid hT; clear hT
    have HF := Lib.hid hF; clear hF
    have HNE := Lib.hid hne; clear hne
    have HALL := Lib.hid hall; clear hall
    have HSV := Lib.hid hsv; clear hsv
    have HP1 := Lib.hid hp1; clear hp1
    clear hs hrow hL hx0 hE
    go_enter Tryd.func7, Tryd.ntmps7
    go_wp2_with fail
    rw [← HB.out, ← HW0.out]
    go_loopw [10] (fun i wr => ∃ k : Nat, k ≤ m ∧ i = .int .i64 k ∧ Hid (Pg B B (pageT (L.take k)) W0 wr ∧ printE (L.take k) = 0 ∧ (pageT (L.take k)).length ≤ k * 120000)) (fun i _ => m - (intOf i).toNat)
    case atStart => exact ⟨0, Nat.zero_le _, rfl, HP1⟩
    case round =>
      obtain ⟨k, hk, rfl, HP⟩ := hrel
      have hBr : B ≤ wr.heap.size := by have := HP.out.1.2.1.size; omega
      by_cases hlt : k < m
      · have hkl : k < L.length := by rw [← HM.out]; exact hlt
        have hbw := HB0.out.trans HP.out.1.2.1
        obtain ⟨dv, ⟨c0, c1, c2, c3, c4, c5⟩, hdv⟩ := HAT.out k hkl wr hbw
        obtain ⟨da, dc, rfl⟩ := (hdv wr (Below.refl _ _)).form
        have hmem : L[k] ∈ L := List.getElem_mem hkl
        have hst := HST.out k hkl
        have hno := HNO.out k hkl HP.out.2.1
        have hnx := HNX.out k hkl HP.out.2.1
        have hcl := HCL.out k hkl
        obtain ⟨W1, hW1⟩ : ∃ W1, W1 = wr.alloc (.cells #[.int .i64 L[k].kind, .int .i64 L[k].n, .int .i64 L[k].steps, .int .i64 L[k].clock, .slice da L[k].draws.length dc, .string L[k].text] 37) := ⟨_, rfl⟩
        obtain ⟨Z, hZ⟩ : ∃ Z, Z = wr.heap.size := ⟨_, rfl⟩
        have hz1 : W1.heap[Z]? = some (.cells #[.int .i64 L[k].kind, .int .i64 L[k].n, .int .i64 L[k].steps, .int .i64 L[k].clock, .slice da L[k].draws.length dc, .string L[k].text] 37) := by rw [hW1, hZ]; exact World.alloc_heap_new wr _
        have hp1 : Pg B B (pageT (L.take k)) W0 W1 := by rw [hW1]; exact HP.out.1.alloc hBr _
        have hbr1 : Below B wr W1 := by rw [hW1]; exact (Below.refl _ _).alloc hBr _
        have hcc := HCK.out W1 L[k] (.slice da L[k].draws.length dc) (hbw.trans hbr1) (hdv W1 hbr1) hmem
        have hww := fun t W (hb : Below B W1 W) (hW : Below B w W) (hp : IsPage B B t W) (h0 : checkE L[k] = 0) (hl : t.length ≤ 800000000) => HWR.out t W L[k] (.slice da L[k].draws.length dc) hW hp (fun W' hW' => hdv W' (hbr1.trans (hb.trans hW'))) hmem h0 hl
        unfold CM.v at hcc hww
        generalize L[k] = c at *
        obtain ⟨kind, n, steps, clock, draws, text⟩ := c
        simp only at c0 c1 c2 c3 c4 c5 hz1 hcc hww
        have HC := Lib.hid hcc; clear hcc
        have HP1 := Lib.hid hp1; clear hp1
        have HW1 := Lib.hid hW1; clear hW1
        have HZ := Lib.hid hZ; clear hZ
        have HZ1 := Lib.hid hz1; clear hz1
        have HBW := Lib.hid (hbw.trans hbr1); clear hbw hbr1
        have HWW := Lib.hid hww; clear hww
        have HS := Lib.hid hst; clear hst
        clear hdv hmem
        have i0 : (k : Int) < (m : Int) := by omega
        go_wp2_with fail
        rw [← HW1.out]
        refine HC.out.mono ?_
        rintro e w2 ⟨rfl, hb2⟩
        have hb2' : Below B W1 w2 := hb2.mono (by have := HP1.out.2.1.size; have := HB0.out.size; have := HB.out; omega)
        have hp2 := HP1.out.below hb2 (by have := HP1.out.2.1.size; have := HB0.out.size; have := HB.out; omega)
        have hz2 := (hb2.block Z (own_lt HZ1.out)).trans HZ1.out
        clear c0 c1 c2 c3 c4 c5 HC hb2
        by_cases h0 : checkE ⟨kind, n, steps, clock, draws, text⟩ = 0
        · have hww := HWW.out (pageT (L.take k)) w2 hb2' (HBW.out.trans hb2') hp2.1 h0 (by have := HP.out.2.2; omega)
          rw [← HS.out] at hww
          have hnx' := hnx h0
          have hcl' := hcl h0
          have hlen : (pageT (L.take (k + 1))).length ≤ (k + 1) * 120000 := by rw [HS.out, List.length_append]; have := HP.out.2.2; omega
          have c0 : w2.cell? ⟨Z, 0, none⟩ = some (.int .i64 kind) := (own_cell hz2).trans rfl
          have c1 : w2.cell? ⟨Z, 1, none⟩ = some (.int .i64 n) := (own_cell hz2).trans rfl
          have c2 : w2.cell? ⟨Z, 2, none⟩ = some (.int .i64 steps) := (own_cell hz2).trans rfl
          have c3 : w2.cell? ⟨Z, 3, none⟩ = some (.int .i64 clock) := (own_cell hz2).trans rfl
          have c4 : w2.cell? ⟨Z, 4, none⟩ = some (.slice da draws.length dc) := (own_cell hz2).trans rfl
          have c5 : w2.cell? ⟨Z, 5, none⟩ = some (.string text) := (own_cell hz2).trans rfl
          rw [h0]
          clear hno hnx hcl hz2 hcl'
          have HX' := Lib.hid hww; clear hww
          have HN := Lib.hid hnx'; clear hnx'
          have HL := Lib.hid hlen; clear hlen
          have HP2 := Lib.hid hp2; clear hp2 hb2'
          rw [← HZ.out]
          go_wp2_with fail
          refine HX'.out.mono ?_
          rintro e w3 ⟨rfl, hp3⟩
          have HP3 := Lib.hid (HP2.out.trans hp3); clear hp3
          go_wp2_with fail
          go_roundw
          case rel => exact ⟨k + 1, by omega, by go_num, Lib.hid ⟨HP3.out, HN.out, HL.out⟩⟩
          case measure => simp [intOf]; omega
        · have hno' := hno h0
          have hf := HF.out _ hno' h0
          rw [← hno'] at h0 ⊢
          have HB2 := Lib.hid (HBW.out.trans hb2'); clear hb2' hp2 hz2
          clear hno hnx hcl hno'
          go_wp2_with fail
          refine bodyPost_ret (v := .tuple #[.string ⟨#[]⟩, .int .i64 PE]) (by simp [results, Tryd.results7, go_sem]) rfl ?_
          exact ⟨by rw [hf], HB2.out⟩
      · obtain rfl : k = m := by omega
        have ht := HT.out k HM.out HP.out.2.1
        have hsv := HSV.out B (pageT (L.take k)) wr HP.out.1.1 (by rw [show L.take k = L by rw [HM.out, List.take_length]]; exact HNE.out)
        rw [show (⟨(pageT (L.take k)).toArray⟩ : ByteArray) = PT from ht.1] at hsv
        have hpe := ht.2
        have HS := Lib.hid hsv; clear hsv
        have HPE := Lib.hid hpe; clear hpe ht
        go_wp2_with fail
        refine HS.out.mono ?_
        rintro e w2 ⟨rfl, hb2⟩
        have HB2 := Lib.hid ((HB0.out.trans HP.out.1.2.1).trans hb2); clear hb2
        go_wp2_with fail
        refine bodyPost_ret (v := .tuple #[.string PT, .int .i64 0]) (by simp [results, Tryd.results7, go_sem]) rfl ?_
        exact ⟨by rw [HPE.out], HB2.out⟩
end Vb
end Go.Proofs.YtmegapelibaanaaDoor
