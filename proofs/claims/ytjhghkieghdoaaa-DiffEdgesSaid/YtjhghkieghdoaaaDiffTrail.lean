/- The way back by the last edges (trail), over the translated program. -/
import Derived.Test.YtjhghkieghdoaaaDiffLook
import Derived.Test.YtjhghkieghdoaaaDiffRev
import Derived.Maps.AppendAt
import Derived.WalkMore
import Derived.ScopeJumps
namespace Go.Proofs.Ytjhghkieghdoaaa
open Go.RowKit Go.Lib
namespace Diff
set_option linter.unusedVariables false
theorem info_int : (Try.prog.info? 3).map (fun i => (i.zero, i.size, i.bytes)) = some (some (.int .i64 0), 1, 8) := by kernel_rfl
theorem info_parts {P : Program} {t : TypeId} {v : Value} {a b : Nat} (h : (P.info? t).map (fun i => (i.zero, i.size, i.bytes)) = some (some v, a, b)) : ∃ i, P.info? t = some i ∧ i.zero = some v ∧ i.size = a ∧ i.bytes = b := by
  cases hi : P.info? t with
  | none => rw [hi] at h; simp at h
  | some i => rw [hi] at h; simp at h; exact ⟨i, rfl, h.1, h.2.1, h.2.2⟩
/-- the places that were gone back by, as values -/
def backRow (S : Sys) (L : Nat → Int) (v j : Nat) : List Value := (List.range j).map fun i => .int .i64 (L (anc S L v i))
theorem backRow_succ (S : Sys) (L : Nat → Int) (v j : Nat) : backRow S L v (j + 1) = backRow S L v j ++ [.int .i64 (L (anc S L v j))] := by
  unfold backRow; rw [List.range_succ, List.map_append]; rfl
theorem backRow_get (S : Sys) (L : Nat → Int) (v j i : Nat) (h : i < j) : (backRow S L v j)[i]? = some (.int .i64 (L (anc S L v i))) := by
  unfold backRow; simp [h]
/-- what trail leaves -/
def TrailP (S : Sys) (L : Nat → Int) (v k : Nat) (w : World) (e : Ending) (w' : World) : Prop :=
  ∃ g c, e = .returned (.slice (some ⟨g, 0, none⟩) k c) ∧ w.heap.size ≤ g ∧ IsB w' g k (wayOf S L v k) ∧ Below w.heap.size w w'
def sliceLen : Value → Nat
  | .slice _ n _ => n
  | _ => 0
theorem isB_of_owns {w : World} {base n : Nat} {t : TypeId} {vv : Value} {f : Nat → Int} (h : w.ownsRow base t 1 vv n ((List.range n).map fun i => .int .i64 (f i))) (h0 : 1 ≤ n) :
    ∃ g c, vv = .slice (some ⟨g, 0, none⟩) n c ∧ base ≤ g ∧ g < w.heap.size ∧ IsB w g n f := by
  obtain ⟨h1, h2⟩ := h
  rcases h2 with ⟨_, h3⟩ | ⟨g, c, cur, h3, h4, h5, h6, h7, h8, h9⟩
  · omega
  · refine ⟨g, c, h3, h4, (Array.getElem?_eq_some_iff.1 h5).1, cur, t, h5, fun j hj => ?_⟩
    have hx : (cur.toList.take (n * 1))[j]? = some (.int .i64 (f j)) := by rw [h9]; simp [hj]
    rw [List.getElem?_take] at hx
    split at hx
    · simpa using hx
    · cases hx
/-- A scope in which the run jumps back to one label, the label's code walked once. -/
theorem scope_once {P : Program} {a : Act} {w : World} {Q : Exit → Act → World → Prop} {c rest : Code} (l : Nat) (J : Act → World → Prop) (μ : Act → World → Nat) (hf : findLabel c l = some (Code.skip.seq rest))
    (pass : ∀ a w, J a w → rest.wp P (Exit.jump l (fun a' w' => J a' w' ∧ μ a' w' < μ a w) Q) a w)
    (first : (∀ a w, J a w → rest.wp P (Exit.jump l J Q) a w) → c.wp P (Exit.jump l J Q) a w) : (Code.scope c).wp P Q a w :=
  wp_scope_jumps l J μ hf (first fun a w h => wp_mono (pass a w h) fun e a w hq => by
    cases e <;> first | exact hq | exact ⟨hq.1, hq.2.1⟩) fun a w h => wp_seq (wp_skip (pass a w h))
/-- at the label: j places were gone back by -/
def TrailJ (S : Sys) (A : At) (L : Nat → Int) (v t k Q : Nat) (W1 : World) (a' : Act) (w' : World) : Prop :=
  ∃ (j : Nat) (vv : Value) (FR : Value), j < k ∧ (∃ u9 u10 u11 u12 u13 u14 u15 u16 u17 u18 u19 u20 u21 u22 u23 u24 u25 u26 u27 u28 u29 u30 u31 : Value, a' = { tmps := #[FR, .int .i64 t, .int .i64 v, .pointer (some ⟨Q, 0, none⟩), undef, undef, .slice none 0 0, vv, .int .i64 (anc S L v j : Nat), u9, u10, u11, u12, u13, u14, u15, u16, u17, u18, u19, u20, u21, u22, u23, u24, u25, u26, u27, u28, u29, u30, u31], defers := [] }) ∧
    sliceLen vv = j ∧ Hid (w'.ownsRow (Q + 1) 3 1 vv j (backRow S L v j)) ∧ Hid (Below (Q + 1) W1 w')
set_option maxHeartbeats 2000000 in
set_option maxRecDepth 100000 in
theorem trail_any (S : Sys) (A : At) (K : Nat) (D L : Nat → Int) (v t k : Nat) (w : World) (ok : S.Ok) (hr : Rows S A D L w) (hv : Inv S K D L) (hvn : v < S.n) (hk : 1 ≤ k) (hkn : k ≤ S.n) (hd : Def S L v k) (ht : anc S L v k = t) (hmin : ∀ j, 1 ≤ j → j < k → anc S L v j ≠ t) :
    Calls Try.prog 25 #[.agg #[.slice A.a S.m A.c, .slice (some ⟨A.d, 0, none⟩) S.n S.n, .slice (some ⟨A.l, 0, none⟩) S.n S.n], .int .i64 t, .int .i64 v] w (TrailP S L v k w) := by
  have hn := ok.hn
  have hm := ok.hm
  have hld := hr.dist.lt
  have hll := hr.last.lt
  obtain ⟨i0, hi, hz0, hz1, hz2⟩ := info_parts info_int
  obtain ⟨Q, hQ⟩ : ∃ Q, Q = w.heap.size := ⟨_, rfl⟩
  have hba : Below w.heap.size w (w.alloc (.cells #[.slice A.a S.m A.c, .slice (some ⟨A.d, 0, none⟩) S.n S.n, .slice (some ⟨A.l, 0, none⟩) S.n S.n] 48)) := (Below.refl _ _).alloc (Nat.le_refl _) _
  obtain ⟨W1, hW1⟩ : ∃ W1, W1 = w.alloc (.cells #[.slice A.a S.m A.c, .slice (some ⟨A.d, 0, none⟩) S.n S.n, .slice (some ⟨A.l, 0, none⟩) S.n S.n] 48) := ⟨_, rfl⟩
  have q0 : W1.cell? ⟨Q, 0, none⟩ = some (.slice A.a S.m A.c) := by rw [hW1, hQ]; simp [go_sem]
  have q2 : W1.cell? ⟨Q, 2, none⟩ = some (.slice (some ⟨A.l, 0, none⟩) S.n S.n) := by rw [hW1, hQ]; simp [go_sem]
  have hsz : W1.heap.size = Q + 1 := by rw [hW1, hQ]; simp
  rw [← hW1] at hba
  have HR := Lib.hid (hr.below hba)
  have HBA := Lib.hid hba
  have HV := Lib.hid hv
  have HD := Lib.hid hd
  have HQ := Lib.hid hQ
  have HSZ := Lib.hid hsz
  have HQ0 := Lib.hid q0
  have HQ2 := Lib.hid q2
  have HT := Lib.hid ht
  have HMIN := Lib.hid hmin
  have HW1 := Lib.hid hW1
  rw [← hQ] at hld hll
  clear hba hv hd hQ hsz q0 q2 ht hmin hW1 hr
  go_enter Try.func25, Try.ntmps25
  go_wp2_with fail
  rw [← HW1.out, ← HQ.out]
  refine scope_once 0 (TrailJ S A L v t k Q W1) (fun a' _ => k - sliceLen (a'.tmps.getD 7 undef)) rfl ?pass ?first
  case pass =>
    rintro a' wr ⟨j, vv, FR, hjk, ⟨u9, u10, u11, u12, u13, u14, u15, u16, u17, u18, u19, u20, u21, u22, u23, u24, u25, u26, u27, u28, u29, u30, u31, rfl⟩, hsl, HOW, HBW⟩
    have haj := HV.out.anc_lt ok hvn (HD.out.le (show j ≤ k by omega))
    have hnl := HD.out j hjk
    obtain ⟨e, e1, e2, e3, e4, _⟩ := HV.out.step haj hnl
    have hanc : anc S L v (j + 1) = S.F e := by rw [anc, e3]
    have la := (HBW.out.cell (p := ⟨A.l, anc S L v j, none⟩) (by simp; omega)).trans (HR.out.last.at haj)
    rw [e2] at la
    have q0 := (HBW.out.cell (p := ⟨Q, 0, none⟩) (by simp)).trans HQ0.out
    have q2 := (HBW.out.cell (p := ⟨Q, 2, none⟩) (by simp)).trans HQ2.out
    rcases HR.out.es with h0 | ⟨b, off, hA, hb, hmx, hc⟩
    · omega
    have c0 := (hc e e1).1
    have hFe := ok.hF e e1
    rw [hA] at q0
    have hbs := backRow_succ S L v j
    rw [e2] at hbs
    have HBS := Lib.hid hbs
    have HA := Lib.hid hA
    have HC0 := Lib.hid c0
    have HQ00 := Lib.hid (HQ0.out.trans (by rw [hA]))
    have HE4 := Lib.hid e4
    have HANC := Lib.hid hanc
    have HSL := Lib.hid hsl
    have hszr := HBW.out.size
    have hsz1 := HSZ.out
    have hbq : b < Q + 1 := by omega
    clear hc hmx hnl e2 e3 e4 hbs hanc hsl c0 hb
    generalize hpj : anc S L v j = pj at *
    have HPJ := Lib.hid hpj
    clear hpj hA
    rw [hsz1] at hszr
    clear hsz1
    go_wp2_with ((at_builtin; refine wpList_append_own _ rfl _ _ 25 rfl (Q + 1) 3 i0 (.int .i64 0) 1 8 Try.underlying25 hi hz0 hz1 hz2 rfl (by decide) _ _ _ rfl (HOW.out.alloc _) ⟨wr.heap.size, 0, none⟩ 1 1 [.int .i64 (e : Int)] rfl rfl ?c1 ?c2 ?c3 ?c4 ?c5 ?_))
    case c2 => first | rfl | (intro u hu; simp at hu; subst hu; rfl)
    case c3 => unfold maxLen; omega
    case c4 => omega
    case c5 => first | omega | (simp; omega)
    intro v' w1 hown' hgrow _
    rw [← HBS.out] at hown'
    have hb1 : Below (Q + 1) W1 w1 := (HBW.out.alloc (by omega) _).grown hgrow (by simp; omega) (fun g hg => (HOW.out.lt g hg).1)
    obtain ⟨g, c, rfl, hg1, hg2, hB⟩ := isB_of_owns (f := fun i => L (anc S L v i)) hown' (by omega)
    have q0' := (hb1.cell (p := ⟨Q, 0, none⟩) (by simp)).trans HQ00.out
    have c0' := (hb1.cell (p := ⟨b, off + e * 3, none⟩) (by simpa using hbq)).trans HC0.out
    have HB1 := Lib.hid hb1
    have HOW1 := Lib.hid hown'
    have HBB := Lib.hid hB
    clear hb1 hown' hB hgrow la q0 q2
    by_cases hlast : j + 1 = k
    · have HL := Lib.hid hlast; clear hlast
      have hst : S.F e = t := by rw [← HANC.out, HL.out]; exact HT.out
      have hbn : ((t : Int) != (t : Int)) = false := by simp
      have hrev := rev_any (j + 1) g c (fun i => L (anc S L v i)) w1 HBB.out (by have := HL.out; omega) (by omega)
      rw [hst] at c0'
      have HREV := Lib.hid hrev
      have HST := Lib.hid hst
      clear hrev hst
      go_wp2_with fail
      refine HREV.out.mono ?_
      rintro e' w2 ⟨rfl, hT, hR⟩
      have HT2 := Lib.hid hT
      have HR2 := Lib.hid hR
      clear hT hR
      go_wp2_with fail
      simp only [Exit.jump]
      go_ret
      have hjk1 := HL.out
      subst hjk1
      have hbel : Below w.heap.size w w1 := HBA.out.trans (HB1.out.mono (by have := HQ.out; omega))
      refine ⟨g, c, rfl, by have := HQ.out; omega, HR2.out, hbel.trans (HT2.out.below hbel.size (fun x hx => by simp at hx; subst hx; have := HQ.out; omega))⟩
    · have HL := Lib.hid hlast; clear hlast
      have hne : S.F e ≠ t := by rw [← HANC.out]; exact HMIN.out (j + 1) (by omega) (by have := HL.out; omega)
      have hbn : ((S.F e : Int) != (t : Int)) = true := by simp; omega
      have HNE := Lib.hid hne
      clear hne
      go_wp2_with fail
      go_step3
      refine ⟨rfl, ⟨j + 1, _, FR, by have := HL.out; omega, ⟨_, _, _, _, _, _, _, _, _, _, _, _, _, _, _, _, _, _, _, _, _, _, _, by rw [← HANC.out]⟩, rfl, HOW1, HB1⟩, ?_⟩
      have h7 := HSL.out
      show k - (j + 1) < k - sliceLen vv
      omega
  case first =>
    intro hpass
    go_wp2_with fail
    go_step3
    refine ‹∀ (a : Act) (w : World), _ → _› _ _ (hpass _ _ ?_)
    exact ⟨0, .slice none 0 0, _, by omega, ⟨_, _, _, _, _, _, _, _, _, _, _, _, _, _, _, _, _, _, _, _, _, _, _, rfl⟩, rfl, Lib.hid (World.ownsRow_nil _ _ _ _), Lib.hid (Below.refl _ _)⟩
end Diff
end Go.Proofs.Ytjhghkieghdoaaa
