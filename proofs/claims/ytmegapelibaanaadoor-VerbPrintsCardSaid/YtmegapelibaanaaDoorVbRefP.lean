/- jitneylaw27.few and jitneyref27.Print; over the translated program. -/
import Derived.Test.YtmegapelibaanaaDoorVbRef
import Derived.Test.YtmegapelibaanaaDoorVbPrint
import Derived.Test.YtmegapelibaanaaDoorFilItoa
import Derived.Deep.DeepCutAuto
import Derived.Deep.CutBlock
import Derived.Outline
namespace Go.Proofs.YtmegapelibaanaaDoor
namespace Vb
open Go Go.RowKit Deci
set_option linter.unusedVariables false
theorem itoa_rng {x : Int} (h : Rng x) : Lib.itoa x = writeV x 0 := by
  rw [(write_sgn h).1]
  unfold Lib.itoa
  split
  · rfl
  · rename_i h0
    rw [List.nil_append]
    congr 1
    omega
theorem itoa_any {x : Int} (h : Rng x) (w : World) (hE : Env w) :
    Calls Tryd.prog 18 #[.int .i64 x] w fun e w' => e = .returned (.string (strOf (writeV x 0))) ∧ Below w.heap.size w w' := by
  have hr := (rng_row h).1
  rw [← itoa_rng h]
  exact (Sh.strconv_Itoa x hr.1 hr.2 w hE.tab).mono fun e w' ⟨he, k, os, hw⟩ => ⟨he, by rw [hw]; exact Lib.below_grow w.heap.size w (Nat.le_refl _) k os⟩
theorem format_any {x : Int} (h : Rng x) (w : World) (hE : Env w) :
    Calls Tryd.prog 19 #[.int .i64 x, .int .i64 10] w fun e w' => e = .returned (.string (strOf (writeV x 0))) ∧ Below w.heap.size w w' := by
  have hr := (rng_row h).1
  rw [← itoa_rng h]
  exact (Sh.strconv_FormatInt_10 x hr.1 hr.2 w hE.tab).mono fun e w' ⟨he, k, os, hw⟩ => ⟨he, by rw [hw]; exact Lib.below_grow w.heap.size w (Nat.le_refl _) k os⟩
/-- More than the law asks. -/
def muchB (c : CM) : Bool := decide (300 < c.text.size) || decide (5000 < c.draws.length)
def fewB (L : List CM) : Bool := !(L.any muchB) && decide (L.length ≤ 20)
theorem fewB_iff {L : List CM} : fewB L = true ↔ (∀ c ∈ L, c.text.size ≤ 300 ∧ c.draws.length ≤ 5000) ∧ L.length ≤ 20 := by
  unfold fewB muchB
  simp only [Bool.and_eq_true, Bool.not_eq_true', List.any_eq_false, Bool.or_eq_true, decide_eq_true_eq, not_or, Nat.not_lt]
theorem much_take (L : List CM) (k : Nat) (hk : k < L.length) : (L.take (k + 1)).any muchB = ((L.take k).any muchB || muchB L[k]) := by
  rw [List.take_succ_eq_append_getElem hk, List.any_append]; simp
set_option maxHeartbeats 2000000 in
set_option maxRecDepth 100000 in
theorem few_any (v : Value) (L : List CM) (w : World) (hI : IsCm w v L) (hn : L.length ≤ maxLen) :
    Calls Tryd.prog 6 #[v] w fun e w' => e = .returned (.bool (fewB L)) ∧ Below w.heap.size w w' := by
  unfold maxLen at hn
  obtain ⟨a, cap, rfl, hrow⟩ := hI
  obtain ⟨B, hB⟩ : ∃ B, B = w.heap.size := ⟨_, rfl⟩
  have hat : ∀ k (hk : k < L.length) W, Below B w W → ∃ g o da dc, a = some ⟨g, o, none⟩ ∧ CvAt W g (o + k * 6) L[k] (.slice da L[k].draws.length dc) := fun k hk W hW => by
    obtain ⟨g, o, e, hg, hc⟩ := hrow.resolve_left (by intro e; rw [e] at hk; simp at hk)
    obtain ⟨dv, h1, h2⟩ := hc k hk
    obtain ⟨da, dc, rfl⟩ := h2.form
    exact ⟨g, o, da, dc, e, h1.below hW (by rw [hB]; exact hg)⟩
  have hmt := fun k (hk : k < L.length) => much_take L k hk
  have hmi : ∀ k (hk : k < L.length), muchB L[k] = true → fewB L = false := fun k hk h => by
    have : L.any muchB = true := List.any_eq_true.2 ⟨_, List.getElem_mem hk, h⟩
    unfold fewB; rw [this]; rfl
  have hfe : L.any muchB = false → fewB L = decide ((L.length : Int) ≤ 20) := fun h => by
    unfold fewB; rw [h, Bool.not_false, Bool.true_and]
    exact Bool.eq_iff_iff.2 (by simp; omega)
  have hmu := fun k (hk : k < L.length) => (show muchB L[k] = (decide (300 < L[k].text.size) || decide (5000 < L[k].draws.length)) from rfl)
  obtain ⟨n, hnn⟩ : ∃ n, n = L.length := ⟨_, rfl⟩
  rw [← hnn] at hn hfe ⊢
  rw [← hB]
  generalize fewB L = fb at *
  have HB := Lib.hid hB; clear hB
  have HAT := Lib.hid hat; clear hat hrow
  have HMT := Lib.hid hmt; clear hmt
  have HMI := Lib.hid hmi; clear hmi
  have HFE := Lib.hid hfe; clear hfe
  have HMU := Lib.hid hmu; clear hmu
  have HN := Lib.hid hnn; clear hnn
  go_enter Tryd.func6, Tryd.ntmps6
  go_wp2_with fail
  go_loopw [7] (fun i wr => ∃ k : Nat, k ≤ n ∧ i = .int .i64 k ∧ Hid (Below B w wr ∧ (L.take k).any muchB = false)) (fun i _ => n - (intOf i).toNat)
  case atStart => exact ⟨0, Nat.zero_le _, rfl, Lib.hid ⟨Below.refl _ _, rfl⟩⟩
  case round =>
    obtain ⟨k, hk, rfl, HW⟩ := hrel
    have hs : B ≤ wr.heap.size := by have := HW.out.1.size; have := HB.out; omega
    have HBA := Lib.hid fun (o : Obj) => HW.out.1.alloc hs o
    by_cases hlt : k < n
    · have hkl : k < L.length := by rw [← HN.out]; exact hlt
      obtain ⟨g, o, da, dc, rfl, ⟨c0, c1, c2, c3, c4, c5⟩⟩ := HAT.out k hkl wr HW.out.1
      have hmt := HMT.out k hkl
      rw [HW.out.2, Bool.false_or] at hmt
      have hmi := HMI.out k hkl
      have hmu := HMU.out k hkl
      generalize L[k] = c at *
      obtain ⟨q1, q2, q3, q4, q5, q6⟩ := c
      simp only at c0 c1 c2 c3 c4 c5 hmu
      generalize muchB ⟨q1, q2, q3, q4, q5, q6⟩ = mb at *
      have i0 : (k : Int) < (n : Int) := by omega
      by_cases h1 : 300 < q6.size
      · have hf := hmi (by rw [hmu]; simp [h1])
        subst hf
        have h1' : (300 : Int) < (q6.size : Int) := by omega
        clear hmt hmi hmu
        go_wp2_with fail
        go_ret
        exact ⟨rfl, HBA.out _⟩
      · have h1' : ¬ (300 : Int) < (q6.size : Int) := by omega
        by_cases h2 : 5000 < q5.length
        · have hf := hmi (by rw [hmu]; simp [h2])
          subst hf
          have h2' : (5000 : Int) < (q5.length : Int) := by omega
          clear hmt hmi hmu
          go_wp2_with fail
          go_ret
          exact ⟨rfl, HBA.out _⟩
        · have h2' : ¬ (5000 : Int) < (q5.length : Int) := by omega
          have hmb : mb = false := by rw [hmu]; simp [h1, h2]
          rw [hmb] at hmt
          have HT := Lib.hid hmt; clear hmt hmi hmu
          go_wp2_with fail
          go_roundw
          case rel => exact ⟨k + 1, by omega, by go_num, Lib.hid ⟨HBA.out _, HT.out⟩⟩
          case measure => simp [intOf]; omega
    · obtain rfl : k = n := by omega
      have hf := HFE.out (by have := HW.out.2; rwa [HN.out, List.take_length] at this)
      have HF := Lib.hid hf; clear hf
      go_wp2_with fail
      go_ret
      exact ⟨ret_bool HF.out.symm, HW.out.1⟩
theorem add2 (l u : List UInt8) : strOf l ++ strOf u = strOf (l ++ u) := strOf_append l u
theorem add3 (l u : List UInt8) : strOf l ++ ⟨#[32]⟩ ++ strOf u = strOf (l ++ 32 :: u) := by
  rw [show (⟨#[32]⟩ : ByteArray) = strOf [32] from rfl, strOf_append, strOf_append, List.append_assoc]; rfl
theorem add1 (l : List UInt8) : strOf l ++ ⟨#[10]⟩ = strOf (l ++ [10]) := by
  rw [show (⟨#[10]⟩ : ByteArray) = strOf [10] from rfl, strOf_append]
theorem sz (l : List UInt8) : (strOf l).size = l.length := rfl
theorem sz32 (l : List UInt8) : (strOf l ++ ⟨#[32]⟩).size = l.length + 1 := by
  rw [show (⟨#[32]⟩ : ByteArray) = strOf [32] from rfl, strOf_append, sz, List.length_append]; rfl
/-- What is known of the number that is written next. -/
structure Wr (B : Nat) (w : World) (x : Int) : Prop where
  itoa : ∀ W, Below B w W → Calls Tryd.prog 18 #[.int .i64 x] W fun e w' => e = .returned (.string (strOf (writeV x 0))) ∧ Below W.heap.size W w'
  len : (writeV x 0).length ≤ 20
theorem wr_of {B : Nat} {w : World} {x : Int} (h : Rng x) (hE : EnvAt B w) : Wr B w x := ⟨fun W hW => itoa_any h W (hE W hW).base, (rng_row h).2⟩
set_option maxHeartbeats 8000000 in
set_option maxRecDepth 100000 in
theorem refPrint_any (v : Value) (L : List CM) (w : World) (hE : EnvAt w.heap.size w) (hI : IsCm w v L) (hn : L.length ≤ 20) (hs : ∀ c ∈ L, c.text.size ≤ 300 ∧ c.draws.length ≤ 5000) :
    Calls Tryd.prog 8 #[v] w fun e w' => e = .returned (.tuple #[.string (strOf (printT L)), .int .i64 (printE L)]) ∧ Below w.heap.size w w' := by
  obtain ⟨a, cap, rfl, hrow⟩ := hI
  obtain ⟨B, hB⟩ : ∃ B, B = w.heap.size := ⟨_, rfl⟩
  rw [← hB] at hE ⊢
  have hat : ∀ k (hk : k < L.length) W, Below B w W → ∃ g o da dc, a = some ⟨g, o, none⟩ ∧ CvAt W g (o + k * 6) L[k] (.slice da L[k].draws.length dc) ∧ (∀ W', Below B w W' → IsXs W' (.slice da L[k].draws.length dc) L[k].draws) := fun k hk W hW => by
    obtain ⟨g, o, e, hg, hc⟩ := hrow.resolve_left (by intro e; rw [e] at hk; simp at hk)
    obtain ⟨dv, h1, h2⟩ := hc k hk
    obtain ⟨da, dc, rfl⟩ := h2.form
    exact ⟨g, o, da, dc, e, h1.below hW (by rw [hB]; exact hg), fun W' hW' => h2.below (by rw [← hB]; exact hW')⟩
  have hst := fun k (hk : k < L.length) => pageT_take (L := L) hk
  have hno := fun k (hk : k < L.length) h0 hc => printE_take L k hk h0 hc
  have hnx := fun k (hk : k < L.length) h0 hc => printE_next L k hk h0 hc
  have hcl := fun k (hk : k < L.length) (hc : checkE L[k] = 0) => cmd_len (c := L[k]) hc (hs _ (List.getElem_mem hk)).2 (by have := (hs _ (List.getElem_mem hk)).1; omega)
  have hsk := fun k (hk : k < L.length) => hs L[k] (List.getElem_mem hk)
  have hT : ∀ k, k = L.length → printE (L.take k) = 0 → strOf (pageT (L.take k)) = strOf (printT L) ∧ printE L = 0 := fun k hk h0 => by
    rw [hk, List.take_length] at h0 ⊢
    unfold printT; rw [if_neg (by omega)]; exact ⟨rfl, h0⟩
  have hF : ∀ e, printE L = e → e ≠ 0 → strOf (printT L) = ⟨#[]⟩ := fun e h he => by unfold printT; rw [if_pos (by omega)]; rfl
  obtain ⟨n, hnn⟩ : ∃ n, n = L.length := ⟨_, rfl⟩
  rw [← hnn] at hn ⊢
  generalize strOf (printT L) = PT at *
  generalize printE L = PE at *
  have HB := Lib.hid hB; clear hB
  have HN := Lib.hid hnn; clear hnn
  have HAT := Lib.hid hat; clear hat hrow
  have HST := Lib.hid hst; clear hst
  have HNO := Lib.hid hno; clear hno
  have HNX := Lib.hid hnx; clear hnx
  have HCL := Lib.hid hcl; clear hcl
  have HSK := Lib.hid hsk; clear hsk hs
  have HT := Lib.hid hT; clear hT
  have HF := Lib.hid hF; clear hF
  have HE := Lib.hid hE; clear hE
  go_enter Tryd.func8, Tryd.ntmps8
  go_wp2_with fail
  go_loopw [4, 5] (fun s4 i wr => ∃ k : Nat, k ≤ n ∧ i = .int .i64 k ∧ s4 = .string (strOf (pageT (L.take k))) ∧ Hid (Below B w wr ∧ printE (L.take k) = 0 ∧ (pageT (L.take k)).length ≤ k * 120000)) (fun _ i _ => n - (intOf i).toNat)
  case atStart => exact ⟨0, Nat.zero_le _, rfl, rfl, Lib.hid ⟨Below.refl _ _, by simp [printE], by simp [pageT]⟩⟩
  case round =>
    obtain ⟨k, hk, rfl, rfl, HW⟩ := hrel
    have hBs : B ≤ wr.heap.size := by have := HW.out.1.size; have := HB.out; omega
    by_cases hlt : k < n
    · have hkl : k < L.length := by rw [← HN.out]; exact hlt
      obtain ⟨g, o, da, dc, rfl, ⟨c0, c1, c2, c3, c4, c5⟩, hdv⟩ := HAT.out k hkl wr HW.out.1
      have hst := HST.out k hkl
      have hno := HNO.out k hkl HW.out.2.1
      have hnx := HNX.out k hkl HW.out.2.1
      have hcl := HCL.out k hkl
      have hsk := HSK.out k hkl
      generalize L[k] = c at *
      obtain ⟨X, hX⟩ : ∃ X, X = wr.heap.size := ⟨_, rfl⟩
      obtain ⟨W1, hW1⟩ : ∃ W1, W1 = wr.alloc (.cells #[.int .i64 c.kind, .int .i64 c.n, .int .i64 c.steps, .int .i64 c.clock, .slice da c.draws.length dc, .string c.text] 47) := ⟨_, rfl⟩
      have hb1 : Below wr.heap.size wr W1 := by rw [hW1]; exact (Below.refl _ _).alloc (Nat.le_refl _) _
      have hx1 : W1.heap[X]? = some (.cells #[.int .i64 c.kind, .int .i64 c.n, .int .i64 c.steps, .int .i64 c.clock, .slice da c.draws.length dc, .string c.text] 47) := by rw [hW1, hX]; exact World.alloc_heap_new wr _
      have hbw1 : Below B w W1 := HW.out.1.trans (hb1.mono hBs)
      have hcc := refCheck_any c (.slice da c.draws.length dc) W1 (hdv W1 hbw1) (by omega) (by omega)
      have hrg := fun h => check_rng (c := c) h
      have hcm : cmdT c = nameL c.kind.toNat ++ (numsT (numL c) ++ 10 :: (if c.kind = 1 then c.text.data.toList else [])) := by unfold cmdT lineT; simp
      have hnl : numL c = if 1 ≤ c.kind ∧ c.kind ≤ 3 then [c.n] else if c.kind = 4 then [c.clock] else if c.kind = 5 then c.n :: c.steps :: c.draws else [] := rfl
      have hkz : checkE c = 0 → 1 ≤ c.kind ∧ c.kind ≤ 7 := fun h => by
        unfold checkE at h
        by_cases hk : 1 ≤ c.kind ∧ c.kind ≤ 7
        · exact hk
        · rw [if_pos] at h
          · simp at h
          · rcases (show c.kind < 1 ∨ 8 ≤ c.kind by omega) with h' | h'
            · rw [show c.kind.toNat = 0 by omega]; rfl
            · obtain ⟨j, hj⟩ : ∃ j, c.kind.toNat = j + 8 := ⟨c.kind.toNat - 8, by omega⟩
              rw [hj]; rfl
      have hzz : ∀ W, Below W1.heap.size W1 W → W.cell? ⟨X, 0, none⟩ = some (.int .i64 c.kind) ∧ W.cell? ⟨X, 1, none⟩ = some (.int .i64 c.n) ∧ W.cell? ⟨X, 2, none⟩ = some (.int .i64 c.steps) ∧ W.cell? ⟨X, 3, none⟩ = some (.int .i64 c.clock) ∧ W.cell? ⟨X, 4, none⟩ = some (.slice da c.draws.length dc) ∧ W.cell? ⟨X, 5, none⟩ = some (.string c.text) := fun W hW => by
        have hx := (hW.block X (own_lt hx1)).trans hx1
        exact ⟨(own_cell hx).trans rfl, (own_cell hx).trans rfl, (own_cell hx).trans rfl, (own_cell hx).trans rfl, (own_cell hx).trans rfl, (own_cell hx).trans rfl⟩
      have hnm := fun W => refName_any c.kind W
      rw [show nameS c.kind.toNat = strOf (nameL c.kind.toNat) from rfl] at hnm
      have hnz : (nameL c.kind.toNat).length ≤ 7 := by unfold nameL; split <;> simp
      have hdz : ∀ W, Below B w W → ∀ j (hj : j < c.draws.length), ∃ g o, da = some ⟨g, o, none⟩ ∧ W.cell? ⟨g, o + j, none⟩ = some (.int .i64 c.draws[j]) := fun W hW j hj => by
        obtain ⟨a', c', e, -, -, hr⟩ := hdv W hW
        injection e with e1 e2 e3
        subst e1
        obtain ⟨g, o, e, hg, hc⟩ := hr.resolve_left (by intro e; rw [e] at hj; simp at hj)
        exact ⟨g, o, e, hc j hj⟩
      obtain ⟨l0, hl0⟩ : ∃ l0, l0 = pageT (L.take k) := ⟨_, rfl⟩
      have hpl := HW.out.2.2
      rw [← hl0] at hst hpl ⊢
      have hl0n : l0.length ≤ 2400000 := by omega
      obtain ⟨l9, hl9⟩ : ∃ l9, l9 = pageT (L.take (k + 1)) := ⟨_, rfl⟩
      rw [← hl9] at hst
      have hpn : checkE c = 0 → l9.length ≤ (k + 1) * 120000 := fun h => by rw [hst, List.length_append]; have := hcl h; omega
      rw [hcm] at hst
      have HL0 := Lib.hid hl0; clear hl0
      have HL9 := Lib.hid hl9; clear hl9
      generalize hckk : checkE c = ck at *
      obtain ⟨kind, nn, steps, clock, draws, text⟩ := c
      unfold CM.v at hcc
      simp only at hcc hst hnl hkz hzz hnm hnz hdz hsk hx1 hW1 c0 c1 c2 c3 c4 c5
      generalize hnums : numL ⟨kind, nn, steps, clock, draws, text⟩ = nums at *
      have HX := Lib.hid hX; clear hX
      have HW1 := Lib.hid hW1; clear hW1
      have HB1 := Lib.hid hbw1; clear hbw1 hb1
      have HCC := Lib.hid hcc; clear hcc
      have HZZ := Lib.hid hzz; clear hzz
      have HNM := Lib.hid hnm; clear hnm
      have HDZ := Lib.hid hdz; clear hdz hdv
      have HST := Lib.hid hst; clear hst
      have HRG := Lib.hid hrg; clear hrg
      have HPN := Lib.hid hpn; clear hpn
      have HNX := Lib.hid hnx; clear hnx
      have hX1 : X < W1.heap.size := own_lt hx1
      have hs1 : B ≤ W1.heap.size := by have := HB1.out.size; have := HB.out; omega
      clear hx1 hckk hnums hcl
      have i0 : (k : Int) < (n : Int) := by omega
      have i1 : (0 : Int) ≤ k := by omega
      go_wp2_with fail
      rw [← HX.out, ← HW1.out]
      refine HCC.out.mono ?_
      rintro e w2 ⟨rfl, hb2⟩
      clear c0 c1 c2 c3 c4 c5
      obtain ⟨z0, z1, z2, z3, z4, z5⟩ := HZZ.out w2 hb2
      have HB2 := Lib.hid hb2; clear hb2
      have HBW2 : Hid (Below B w w2) := Lib.hid (HB1.out.trans (HB2.out.mono hs1))
      by_cases hck : ck ≠ 0
      · have hno' := hno hck
        have hf := HF.out _ hno' hck
        have hck' : ¬ ck = 0 := hck
        have HNO' := Lib.hid hno'
        have HF' := Lib.hid hf
        clear hno hno' hf z0 z1 z2 z3 z4 z5
        go_wp2_with fail
        refine bodyPost_ret (v := .tuple #[.string ⟨#[]⟩, .int .i64 ck]) (by simp [results, Tryd.results8, go_sem]) rfl ?_
        exact ⟨by rw [HF'.out, HNO'.out], HBW2.out⟩
      obtain rfl : ck = 0 := by simpa using hck
      obtain ⟨hk1, hk7⟩ := hkz rfl
      have hwr := fun x hx => wr_of (HRG.out rfl x hx) HE.out
      have hfm := fun x hx W (hW : Below B w W) => format_any (HRG.out rfl x hx) W (HE.out W hW).base
      have hrest : Hid (printE (L.take (k + 1)) = 0 ∧ l9.length ≤ (k + 1) * 120000) := Lib.hid ⟨HNX.out rfl, HPN.out rfl⟩
      have HFM := Lib.hid hfm; clear hfm
      have HWR := Lib.hid hwr; clear hwr
      clear hno hck hkz HNO HNX HCL HSK HT HF HPN HRG HCC
      -- the name
      obtain ⟨l1, hl1⟩ : ∃ l1, l1 = l0 ++ nameL kind.toNat := ⟨_, rfl⟩
      have hz1 : l1.length ≤ 2400010 := by rw [hl1, List.length_append]; omega
      have h01 : strOf l0 ++ strOf (nameL kind.toNat) = strOf l1 := by rw [add2, hl1]
      have hst := HST.out
      rw [← List.append_assoc, ← hl1] at hst
      have HST1 := Lib.hid hst; clear hst hl1
      have H01 := Lib.hid h01; clear h01
      have m0 : ((strOf l0).size : Int) + ((strOf (nameL kind.toNat)).size : Int) ≤ 9223372036854775807 := by rw [sz, sz]; omega
      go_upto_region 9 with fail
      go_cut [4] (fun s4 wx => s4 = .string (strOf l1) ∧ Hid (Below W1.heap.size W1 wx))
      case first =>
        go_wp2_with fail
        refine (HNM.out _).mono ?_
        rintro e w3 ⟨rfl, hb3⟩
        have HB3 := Lib.hid (HB2.out.trans (hb3.mono HB2.out.size)); clear hb3
        go_wp2_with fail
        go_meet
        exact ⟨by rw [H01.out], HB3⟩
      case rest =>
        obtain ⟨rfl, HC1⟩ := hcut
        clear z0 z1 z2 z3 z4 z5 m0
        by_cases h67 : 6 ≤ kind
        · rw [if_neg (by omega), if_neg (by omega), if_neg (by omega)] at hnl
          subst hnl
          obtain ⟨l8, hl8⟩ : ∃ l8, l8 = l1 ++ [10] := ⟨_, rfl⟩
          have heq : strOf l8 = strOf l9 := by rw [hl8, HST1.out, if_neg (by omega)]; rfl
          have HEQ := Lib.hid heq; clear heq
          rcases (show kind = 6 ∨ kind = 7 by omega) with rfl | rfl
          all_goals
            clear hk1 hk7 h67
            have hq : strOf l1 ++ ⟨#[10]⟩ = strOf l8 := by rw [add1, hl8]
            have HQl8 := Lib.hid hq; clear hq
            have Hl8 := Lib.hid hl8; clear hl8
            have m1 : ((strOf l1).size : Int) + 1 ≤ 9223372036854775807 := by rw [sz]; omega
            obtain ⟨z0, z1, z2, z3, z4, z5⟩ := HZZ.out _ HC1.out
            go_upto_region 20 with fail
            go_cut [4] (fun s4 wx => s4 = .string (strOf l8) ∧ Hid (Below W1.heap.size W1 wx))
            case first =>
              go_wp2_with fail
              go_meet
              exact ⟨by rw [HQl8.out], HC1⟩
            case rest =>
              obtain ⟨rfl, HC2⟩ := hcut
              clear z0 z1 z2 z3 z4 z5 m1 HQl8
              obtain ⟨z0, z1, z2, z3, z4, z5⟩ := HZZ.out _ HC2.out
              have HBF : Hid (Below B w wc) := Lib.hid (HB1.out.trans (HC2.out.mono hs1))
              go_wp2_with fail
              go_roundw
              case rel => exact ⟨k + 1, by omega, by go_num, by rw [HEQ.out, HL9.out], Lib.hid ⟨HBF.out, hrest.out.1, by rw [← HL9.out]; exact hrest.out.2⟩⟩
              case measure => simp [intOf]; omega
        by_cases h4 : kind = 4
        · subst h4
          rw [if_neg (by omega), if_pos rfl] at hnl
          subst hnl
          clear hk1 hk7 h67
          obtain ⟨l2, hl2⟩ : ∃ l, l = l1 ++ 32 :: writeV clock 0 := ⟨_, rfl⟩
          have hzl2 : l2.length ≤ l1.length + 21 := by rw [hl2, List.length_append, List.length_cons]; have := (HWR.out clock (by simp)).len; omega
          have hq : strOf l1 ++ ⟨#[32]⟩ ++ strOf (writeV clock 0) = strOf l2 := by rw [add3, hl2]
          have HQl2 := Lib.hid hq; clear hq
          have Hl2 := Lib.hid hl2; clear hl2
          have m1 : ((strOf l1).size : Int) + 1 ≤ 9223372036854775807 := by rw [sz]; omega
          have m2 : ((strOf l1 ++ ⟨#[32]⟩).size : Int) + ((strOf (writeV clock 0)).size : Int) ≤ 9223372036854775807 := by rw [sz32, sz]; have := (HWR.out clock (by simp)).len; omega
          have m3 : ((strOf l1).size : Int) + 1 + ((strOf (writeV clock 0)).size : Int) ≤ 9223372036854775807 := by rw [sz, sz]; have := (HWR.out clock (by simp)).len; omega
          obtain ⟨z0, z1, z2, z3, z4, z5⟩ := HZZ.out _ HC1.out
          go_upto_region 13 with fail
          go_cut [4] (fun s4 wx => s4 = .string (strOf l2) ∧ Hid (Below W1.heap.size W1 wx))
          case first =>
            have hbw := HB1.out.trans (HC1.out.mono hs1)
            go_wp2_with fail
            refine (HFM.out clock (by simp) _ hbw).mono ?_
            rintro e w3 ⟨rfl, hb3⟩
            have HB3 := Lib.hid (HC1.out.trans (hb3.mono HC1.out.size)); clear hb3 hbw
            go_wp2_with fail
            go_meet
            exact ⟨by rw [HQl2.out], HB3⟩
          case rest =>
            obtain ⟨rfl, HC2⟩ := hcut
            clear z0 z1 z2 z3 z4 z5 m1 m2 m3 HQl2
            obtain ⟨l8, hl8⟩ : ∃ l8, l8 = l2 ++ [10] := ⟨_, rfl⟩
            have heq : strOf l8 = strOf l9 := by rw [hl8, HST1.out, Hl2.out]; simp [numsT]
            have HEQ := Lib.hid heq; clear heq
            have hq : strOf l2 ++ ⟨#[10]⟩ = strOf l8 := by rw [add1, hl8]
            have HQl8 := Lib.hid hq; clear hq
            have Hl8 := Lib.hid hl8; clear hl8
            have m1 : ((strOf l2).size : Int) + 1 ≤ 9223372036854775807 := by rw [sz]; omega
            obtain ⟨z0, z1, z2, z3, z4, z5⟩ := HZZ.out _ HC2.out
            go_upto_region 20 with fail
            go_cut [4] (fun s4 wx => s4 = .string (strOf l8) ∧ Hid (Below W1.heap.size W1 wx))
            case first =>
              go_wp2_with fail
              go_meet
              exact ⟨by rw [HQl8.out], HC2⟩
            case rest =>
              obtain ⟨rfl, HC3⟩ := hcut
              clear z0 z1 z2 z3 z4 z5 m1 HQl8
              obtain ⟨z0, z1, z2, z3, z4, z5⟩ := HZZ.out _ HC3.out
              have HBF : Hid (Below B w wc) := Lib.hid (HB1.out.trans (HC3.out.mono hs1))
              go_wp2_with fail
              go_roundw
              case rel => exact ⟨k + 1, by omega, by go_num, by rw [HEQ.out, HL9.out], Lib.hid ⟨HBF.out, hrest.out.1, by rw [← HL9.out]; exact hrest.out.2⟩⟩
              case measure => simp [intOf]; omega
        by_cases h5 : kind = 5
        · subst h5
          rw [if_neg (by omega), if_neg (by omega), if_pos rfl] at hnl
          subst hnl
          clear hk1 hk7 h67 h4
          obtain ⟨l2, hl2⟩ : ∃ l, l = l1 ++ 32 :: writeV nn 0 := ⟨_, rfl⟩
          have hzl2 : l2.length ≤ l1.length + 21 := by rw [hl2, List.length_append, List.length_cons]; have := (HWR.out nn (by simp)).len; omega
          have hq : strOf l1 ++ ⟨#[32]⟩ ++ strOf (writeV nn 0) = strOf l2 := by rw [add3, hl2]
          have HQl2 := Lib.hid hq; clear hq
          have Hl2 := Lib.hid hl2; clear hl2
          have m1 : ((strOf l1).size : Int) + 1 ≤ 9223372036854775807 := by rw [sz]; omega
          have m2 : ((strOf l1 ++ ⟨#[32]⟩).size : Int) + ((strOf (writeV nn 0)).size : Int) ≤ 9223372036854775807 := by rw [sz32, sz]; have := (HWR.out nn (by simp)).len; omega
          have m3 : ((strOf l1).size : Int) + 1 + ((strOf (writeV nn 0)).size : Int) ≤ 9223372036854775807 := by rw [sz, sz]; have := (HWR.out nn (by simp)).len; omega
          obtain ⟨z0, z1, z2, z3, z4, z5⟩ := HZZ.out _ HC1.out
          go_upto_region 11 with fail
          go_cut [4] (fun s4 wx => s4 = .string (strOf l2) ∧ Hid (Below W1.heap.size W1 wx))
          case first =>
            have hbw := HB1.out.trans (HC1.out.mono hs1)
            go_wp2_with fail
            refine ((HWR.out nn (by simp)).itoa _ hbw).mono ?_
            rintro e w3 ⟨rfl, hb3⟩
            have HB3 := Lib.hid (HC1.out.trans (hb3.mono HC1.out.size)); clear hb3 hbw
            go_wp2_with fail
            go_meet
            exact ⟨by rw [HQl2.out], HB3⟩
          case rest =>
            obtain ⟨rfl, HC2⟩ := hcut
            clear z0 z1 z2 z3 z4 z5 m1 m2 m3 HQl2
            obtain ⟨l3, hl3⟩ : ∃ l, l = l2 ++ 32 :: writeV steps 0 := ⟨_, rfl⟩
            have hzl3 : l3.length ≤ l2.length + 21 := by rw [hl3, List.length_append, List.length_cons]; have := (HWR.out steps (by simp)).len; omega
            have hq : strOf l2 ++ ⟨#[32]⟩ ++ strOf (writeV steps 0) = strOf l3 := by rw [add3, hl3]
            have HQl3 := Lib.hid hq; clear hq
            have Hl3 := Lib.hid hl3; clear hl3
            have m1 : ((strOf l2).size : Int) + 1 ≤ 9223372036854775807 := by rw [sz]; omega
            have m2 : ((strOf l2 ++ ⟨#[32]⟩).size : Int) + ((strOf (writeV steps 0)).size : Int) ≤ 9223372036854775807 := by rw [sz32, sz]; have := (HWR.out steps (by simp)).len; omega
            have m3 : ((strOf l2).size : Int) + 1 + ((strOf (writeV steps 0)).size : Int) ≤ 9223372036854775807 := by rw [sz, sz]; have := (HWR.out steps (by simp)).len; omega
            obtain ⟨z0, z1, z2, z3, z4, z5⟩ := HZZ.out _ HC2.out
            go_upto_region 15 with fail
            go_cut [4] (fun s4 wx => s4 = .string (strOf l3) ∧ Hid (Below W1.heap.size W1 wx))
            case first =>
              have hbw := HB1.out.trans (HC2.out.mono hs1)
              go_wp2_with fail
              refine ((HWR.out steps (by simp)).itoa _ hbw).mono ?_
              rintro e w3 ⟨rfl, hb3⟩
              have HB3 := Lib.hid (HC2.out.trans (hb3.mono HC2.out.size)); clear hb3 hbw
              go_wp2_with fail
              go_meet
              exact ⟨by rw [HQl3.out], HB3⟩
            case rest =>
              obtain ⟨rfl, HC3⟩ := hcut
              clear z0 z1 z2 z3 z4 z5 m1 m2 m3 HQl3
              obtain ⟨nd, hnd⟩ : ∃ nd, nd = draws.length := ⟨_, rfl⟩
              have hbl : ∀ j, (numsT (draws.take j)).length ≤ 105000 := fun j => by
                have := numsT_len (xs := draws.take j) fun x hx => (HWR.out x (by simp [List.mem_of_mem_take hx])).len
                rw [List.length_take] at this; omega
              have hds := fun j (hj : j < draws.length) => (show numsT (draws.take (j + 1)) = numsT (draws.take j) ++ 32 :: writeV draws[j] 0 by rw [List.take_succ_eq_append_getElem hj, numsT_snoc])
              have hwd := fun j (hj : j < draws.length) => HWR.out draws[j] (by simp [List.getElem_mem hj])
              have HND := Lib.hid hnd
              have HBL := Lib.hid hbl; clear hbl
              have HDS := Lib.hid hds; clear hds
              have HWD := Lib.hid hwd; clear hwd
              have hl3z : l3.length ≤ 2400060 := by omega
              have h33 : strOf l3 = strOf (l3 ++ numsT (draws.take 0)) := by simp [numsT]
              have H33 := Lib.hid h33; clear h33
              rw [← hnd] at HZZ
              clear hnd
              go_wp2_with fail
              go_loopw [4, 8] (fun s4 i wx => ∃ j : Nat, j ≤ nd ∧ i = .int .i64 j ∧ s4 = .string (strOf (l3 ++ numsT (draws.take j))) ∧ Hid (Below W1.heap.size W1 wx)) (fun _ i _ => nd - (intOf i).toNat)
              case atStart => exact ⟨0, Nat.zero_le _, (by first | rfl | trivial), by rw [← H33.out], HC3⟩
              case round =>
                obtain ⟨j, hj, rfl, rfl, HJ⟩ := hrel
                obtain ⟨z0, z1, z2, z3, z4, z5⟩ := HZZ.out _ HJ.out
                have hbl := HBL.out j
                obtain ⟨lj, hlj⟩ : ∃ lj, lj = l3 ++ numsT (draws.take j) := ⟨_, rfl⟩
                have hljz : lj.length ≤ 2600000 := by rw [hlj, List.length_append]; omega
                rw [← hlj]
                by_cases hjl : j < nd
                · have hjd : j < draws.length := by rw [← HND.out]; exact hjl
                  have hbw := HB1.out.trans (HJ.out.mono hs1)
                  obtain ⟨g', o', rfl, hc⟩ := HDZ.out _ hbw j hjd
                  have hds := HDS.out j hjd
                  have hw := HWD.out j hjd
                  have hq : strOf lj ++ ⟨#[32]⟩ ++ strOf (writeV draws[j] 0) = strOf (l3 ++ numsT (draws.take (j + 1))) := by rw [add3, hds, hlj]; simp
                  generalize draws[j] = y at *
                  have hyl := hw.len
                  have hit := hw.itoa _ hbw
                  have HQ := Lib.hid hq; clear hq
                  have HIT := Lib.hid hit; clear hit hw hds hlj
                  have m1 : ((strOf lj).size : Int) + 1 ≤ 9223372036854775807 := by rw [sz]; omega
                  have m2 : ((strOf lj ++ ⟨#[32]⟩).size : Int) + ((strOf (writeV y 0)).size : Int) ≤ 9223372036854775807 := by rw [sz32, sz]; omega
                  have m3 : ((strOf lj).size : Int) + 1 + ((strOf (writeV y 0)).size : Int) ≤ 9223372036854775807 := by rw [sz, sz]; omega
                  have j0 : (j : Int) < (nd : Int) := by omega
                  have j1 : (0 : Int) ≤ j := by omega
                  go_wp2_with fail
                  refine HIT.out.mono ?_
                  rintro e w3 ⟨rfl, hb3⟩
                  have HB3 := Lib.hid (HJ.out.trans (hb3.mono HJ.out.size)); clear hb3 hbw
                  go_wp2_with fail
                  go_roundw
                  case rel => exact ⟨j + 1, by omega, by go_num, by rw [HQ.out], HB3⟩
                  case measure => simp [intOf]; omega
                · obtain rfl : j = nd := by omega
                  have hdj : draws.take j = draws := by rw [HND.out, List.take_length]
                  rw [hdj] at hlj
                  obtain ⟨l8, hl8⟩ : ∃ l8, l8 = lj ++ [10] := ⟨_, rfl⟩
                  have heq : strOf l8 = strOf l9 := by rw [hl8, HST1.out, hlj, Hl3.out, Hl2.out, if_neg (by omega)]; simp [numsT]
                  have HEQ := Lib.hid heq; clear heq
                  have HLJ := Lib.hid hlj; clear hlj
                  clear z0 z1 z2 z3 z4 z5
                  have hq : strOf lj ++ ⟨#[10]⟩ = strOf l8 := by rw [add1, hl8]
                  have HQl8 := Lib.hid hq; clear hq
                  have Hl8 := Lib.hid hl8; clear hl8
                  have m1 : ((strOf lj).size : Int) + 1 ≤ 9223372036854775807 := by rw [sz]; omega
                  obtain ⟨z0, z1, z2, z3, z4, z5⟩ := HZZ.out _ HJ.out
                  go_upto_region 20 with fail
                  go_cut [4] (fun s4 wx => s4 = .string (strOf l8) ∧ Hid (Below W1.heap.size W1 wx))
                  case first =>
                    go_wp2_with fail
                    go_meet
                    exact ⟨by rw [HQl8.out], HJ⟩
                  case rest =>
                    obtain ⟨rfl, HC100⟩ := hcut
                    clear z0 z1 z2 z3 z4 z5 m1 HQl8
                    obtain ⟨z0, z1, z2, z3, z4, z5⟩ := HZZ.out _ HC100.out
                    have HBF : Hid (Below B w wc) := Lib.hid (HB1.out.trans (HC100.out.mono hs1))
                    go_wp2_with fail
                    go_roundw
                    case rel => exact ⟨k + 1, by omega, by go_num, by rw [HEQ.out, HL9.out], Lib.hid ⟨HBF.out, hrest.out.1, by rw [← HL9.out]; exact hrest.out.2⟩⟩
                    case measure => simp [intOf]; omega
        have h3 : 1 ≤ kind ∧ kind ≤ 3 := by omega
        rw [if_pos h3] at hnl
        subst hnl
        clear hk1 hk7 h67 h4 h5
        by_cases h1 : kind = 1
        · subst h1
          clear h3
          obtain ⟨l2, hl2⟩ : ∃ l, l = l1 ++ 32 :: writeV nn 0 := ⟨_, rfl⟩
          have hzl2 : l2.length ≤ l1.length + 21 := by rw [hl2, List.length_append, List.length_cons]; have := (HWR.out nn (by simp)).len; omega
          have hq : strOf l1 ++ ⟨#[32]⟩ ++ strOf (writeV nn 0) = strOf l2 := by rw [add3, hl2]
          have HQl2 := Lib.hid hq; clear hq
          have Hl2 := Lib.hid hl2; clear hl2
          have m1 : ((strOf l1).size : Int) + 1 ≤ 9223372036854775807 := by rw [sz]; omega
          have m2 : ((strOf l1 ++ ⟨#[32]⟩).size : Int) + ((strOf (writeV nn 0)).size : Int) ≤ 9223372036854775807 := by rw [sz32, sz]; have := (HWR.out nn (by simp)).len; omega
          have m3 : ((strOf l1).size : Int) + 1 + ((strOf (writeV nn 0)).size : Int) ≤ 9223372036854775807 := by rw [sz, sz]; have := (HWR.out nn (by simp)).len; omega
          obtain ⟨z0, z1, z2, z3, z4, z5⟩ := HZZ.out _ HC1.out
          go_upto_region 11 with fail
          go_cut [4] (fun s4 wx => s4 = .string (strOf l2) ∧ Hid (Below W1.heap.size W1 wx))
          case first =>
            have hbw := HB1.out.trans (HC1.out.mono hs1)
            go_wp2_with fail
            refine ((HWR.out nn (by simp)).itoa _ hbw).mono ?_
            rintro e w3 ⟨rfl, hb3⟩
            have HB3 := Lib.hid (HC1.out.trans (hb3.mono HC1.out.size)); clear hb3 hbw
            go_wp2_with fail
            go_meet
            exact ⟨by rw [HQl2.out], HB3⟩
          case rest =>
            obtain ⟨rfl, HC2⟩ := hcut
            clear z0 z1 z2 z3 z4 z5 m1 m2 m3 HQl2
            obtain ⟨l7, hl7⟩ : ∃ l7, l7 = l2 ++ [10] := ⟨_, rfl⟩
            obtain ⟨l8, hl8⟩ : ∃ l8, l8 = l7 ++ text.data.toList := ⟨_, rfl⟩
            have hz7 : l7.length ≤ l2.length + 1 := by rw [hl7]; simp
            have heq : strOf l8 = strOf l9 := by rw [hl8, hl7, HST1.out, Hl2.out, if_pos rfl]; simp [numsT]
            have HEQ := Lib.hid heq; clear heq
            have hq : strOf l2 ++ ⟨#[10]⟩ = strOf l7 := by rw [add1, hl7]
            have HQl7 := Lib.hid hq; clear hq
            have Hl7 := Lib.hid hl7; clear hl7
            have m1 : ((strOf l2).size : Int) + 1 ≤ 9223372036854775807 := by rw [sz]; omega
            obtain ⟨z0, z1, z2, z3, z4, z5⟩ := HZZ.out _ HC2.out
            go_upto_region 20 with fail
            go_cut [4] (fun s4 wx => s4 = .string (strOf l7) ∧ Hid (Below W1.heap.size W1 wx))
            case first =>
              go_wp2_with fail
              go_meet
              exact ⟨by rw [HQl7.out], HC2⟩
            case rest =>
              obtain ⟨rfl, HC3⟩ := hcut
              clear z0 z1 z2 z3 z4 z5 m1 HQl7
              have hq : strOf l7 ++ text = strOf l8 := by rw [← strOf_data text, add2, hl8]
              have HQl8 := Lib.hid hq; clear hq
              have Hl8 := Lib.hid hl8; clear hl8
              have m1 : ((strOf l7).size : Int) + (text.size : Int) ≤ 9223372036854775807 := by rw [sz]; omega
              obtain ⟨z0, z1, z2, z3, z4, z5⟩ := HZZ.out _ HC3.out
              have HBF : Hid (Below B w wc) := Lib.hid (HB1.out.trans (HC3.out.mono hs1))
              go_wp2_with fail
              go_roundw
              case rel => exact ⟨k + 1, by omega, by go_num, by rw [HQl8.out, HEQ.out, HL9.out], Lib.hid ⟨HBF.out, hrest.out.1, by rw [← HL9.out]; exact hrest.out.2⟩⟩
              case measure => simp [intOf]; omega
        · rcases (show kind = 2 ∨ kind = 3 by omega) with rfl | rfl
          all_goals
            clear h3 h1
            obtain ⟨l2, hl2⟩ : ∃ l, l = l1 ++ 32 :: writeV nn 0 := ⟨_, rfl⟩
            have hzl2 : l2.length ≤ l1.length + 21 := by rw [hl2, List.length_append, List.length_cons]; have := (HWR.out nn (by simp)).len; omega
            have hq : strOf l1 ++ ⟨#[32]⟩ ++ strOf (writeV nn 0) = strOf l2 := by rw [add3, hl2]
            have HQl2 := Lib.hid hq; clear hq
            have Hl2 := Lib.hid hl2; clear hl2
            have m1 : ((strOf l1).size : Int) + 1 ≤ 9223372036854775807 := by rw [sz]; omega
            have m2 : ((strOf l1 ++ ⟨#[32]⟩).size : Int) + ((strOf (writeV nn 0)).size : Int) ≤ 9223372036854775807 := by rw [sz32, sz]; have := (HWR.out nn (by simp)).len; omega
            have m3 : ((strOf l1).size : Int) + 1 + ((strOf (writeV nn 0)).size : Int) ≤ 9223372036854775807 := by rw [sz, sz]; have := (HWR.out nn (by simp)).len; omega
            obtain ⟨z0, z1, z2, z3, z4, z5⟩ := HZZ.out _ HC1.out
            go_upto_region 11 with fail
            go_cut [4] (fun s4 wx => s4 = .string (strOf l2) ∧ Hid (Below W1.heap.size W1 wx))
            case first =>
              have hbw := HB1.out.trans (HC1.out.mono hs1)
              go_wp2_with fail
              refine ((HWR.out nn (by simp)).itoa _ hbw).mono ?_
              rintro e w3 ⟨rfl, hb3⟩
              have HB3 := Lib.hid (HC1.out.trans (hb3.mono HC1.out.size)); clear hb3 hbw
              go_wp2_with fail
              go_meet
              exact ⟨by rw [HQl2.out], HB3⟩
            case rest =>
              obtain ⟨rfl, HC2⟩ := hcut
              clear z0 z1 z2 z3 z4 z5 m1 m2 m3 HQl2
              obtain ⟨l8, hl8⟩ : ∃ l8, l8 = l2 ++ [10] := ⟨_, rfl⟩
              have heq : strOf l8 = strOf l9 := by rw [hl8, HST1.out, Hl2.out, if_neg (by omega)]; simp [numsT]
              have HEQ := Lib.hid heq; clear heq
              have hq : strOf l2 ++ ⟨#[10]⟩ = strOf l8 := by rw [add1, hl8]
              have HQl8 := Lib.hid hq; clear hq
              have Hl8 := Lib.hid hl8; clear hl8
              have m1 : ((strOf l2).size : Int) + 1 ≤ 9223372036854775807 := by rw [sz]; omega
              obtain ⟨z0, z1, z2, z3, z4, z5⟩ := HZZ.out _ HC2.out
              go_upto_region 20 with fail
              go_cut [4] (fun s4 wx => s4 = .string (strOf l8) ∧ Hid (Below W1.heap.size W1 wx))
              case first =>
                go_wp2_with fail
                go_meet
                exact ⟨by rw [HQl8.out], HC2⟩
              case rest =>
                obtain ⟨rfl, HC3⟩ := hcut
                clear z0 z1 z2 z3 z4 z5 m1 HQl8
                obtain ⟨z0, z1, z2, z3, z4, z5⟩ := HZZ.out _ HC3.out
                have HBF : Hid (Below B w wc) := Lib.hid (HB1.out.trans (HC3.out.mono hs1))
                go_wp2_with fail
                go_roundw
                case rel => exact ⟨k + 1, by omega, by go_num, by rw [HEQ.out, HL9.out], Lib.hid ⟨HBF.out, hrest.out.1, by rw [← HL9.out]; exact hrest.out.2⟩⟩
                case measure => simp [intOf]; omega
    · obtain rfl : k = n := by omega
      have ht := HT.out k HN.out HW.out.2.1
      have HPE := Lib.hid ht; clear ht
      go_wp2_with fail
      refine bodyPost_ret (v := .tuple #[.string (strOf (pageT (L.take k))), .int .i64 0]) (by simp [results, Tryd.results8, go_sem]) rfl ?_
      exact ⟨by rw [HPE.out.1, HPE.out.2], HW.out.1⟩
end Vb
end Go.Proofs.YtmegapelibaanaaDoor
