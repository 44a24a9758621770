/- The document's distances (jitneyref07.Solve). -/
import Derived.Test.YtjhghkieghdoaaaDiffStep
namespace Go.Proofs.Ytjhghkieghdoaaa
open Go.RowKit Go.Lib
namespace Diff
set_option linter.unusedVariables false
/-- what the document's Solve leaves -/
def RefP (S : Sys) (w : World) (e : Ending) (w' : World) : Prop :=
  Below w.heap.size w w' ∧ ((∃ g c k, e = .returned (.tuple #[.slice (some ⟨g, 0, none⟩) S.n c, .bool true]) ∧ k < S.n ∧ IsB w' g S.n (R S k) ∧ Shut S (R S k)) ∨
    (e = .returned (.tuple #[.slice none 0 0, .bool false]) ∧ ∀ k, k < S.n → ¬ Shut S (R S k)))
def farRow (k : Nat) : List Value := (List.range k).map fun _ => .int .i64 1152921504606846976
theorem farRow_succ (k : Nat) : farRow (k + 1) = farRow k ++ [.int .i64 1152921504606846976] := by
  unfold farRow; rw [List.range_succ, List.map_append]; rfl
set_option maxHeartbeats 4000000 in
set_option maxRecDepth 100000 in
theorem refSolve_any (S : Sys) (a : Option Addr) (c : Nat) (w : World) (ok : S.Ok) (he : IsEs w a S.m (fun i => S.F i) (fun i => S.T i) S.W) :
    Calls Try.prog 12 #[.int .i64 S.n, .slice a S.m c, .int .i64 S.s] w (RefP S w) := by
  have hn := ok.hn
  have hm := ok.hm
  have hs := ok.hs
  obtain ⟨i0, hi, hz0, hz1, hz2⟩ := info_parts info_i64'
  have HE := Lib.hid he; clear he
  have hown0 : (w.alloc (.cells #[] 2)).ownsRow w.heap.size 2 1 (.slice (some ⟨w.heap.size, 0, none⟩) 0 0) 0 (farRow 0) := World.ownsRow_made w #[] 0 (Nat.le_refl _) (by unfold maxLen; omega) rfl
  have HO := Lib.hid hown0
  have HBA := Lib.hid (show Below w.heap.size w (w.alloc (.cells #[] 2)) from (Below.refl _ _).alloc (Nat.le_refl _) _)
  clear hown0
  go_enter Try.func12, Try.ntmps12
  go_wp2_with fail
  go_loopg [8, 9] S.n (fun gg s8 s9 wr => ∃ k : Nat, k ≤ S.n ∧ S.n - k ≤ gg ∧ s9 = .int .i64 k ∧ Hid (wr.ownsRow w.heap.size 2 1 s8 k (farRow k)) ∧ Hid (Below w.heap.size w wr))
  case atStart => exact ⟨0, Nat.zero_le _, by omega, rfl, HO, HBA⟩
  case round =>
    obtain ⟨k, hk, hg, rfl, HOW, HBW⟩ := hrel
    have hsz := HBW.out.size
    by_cases hlt : k < S.n
    · go_wp2_with ((at_builtin; refine wpList_append_own _ rfl _ _ 24 rfl w.heap.size 2 i0 (.int .i64 0) 1 8 Try.underlying24 hi hz0 hz1 hz2 rfl (by decide) _ _ _ rfl (HOW.out.alloc _) ⟨wr.heap.size, 0, none⟩ 1 1 [.int .i64 1152921504606846976] rfl rfl ?c1 ?c2 ?c3 ?c4 ?c5 ?_))
      case c1 =>
        intro j u hj
        match j, hj with
        | 0, hj => simp at hj; subst hj; simp [Addr.add]
      case c2 => intro u hu; simp at hu; subst hu; rfl
      case c3 => unfold maxLen; omega
      case c4 => omega
      case c5 => simp; omega
      intro v' w1 hown' hgrow _
      rw [← farRow_succ] at hown'
      have hb1 : Below w.heap.size w w1 := (HBW.out.alloc hsz _).grown hgrow (by simp; omega) (fun g hg => (HOW.out.lt g hg).1)
      have HB1 := Lib.hid hb1
      have HO1 := Lib.hid hown'
      clear hb1 hown' hgrow
      go_wp2
      go_roundg (S.n - (k + 1))
      case measure => omega
      case rel => exact ⟨k + 1, by omega, by omega, by go_num, HO1, HB1⟩
    · obtain rfl : k = S.n := by omega
      obtain ⟨g, cc, rfl, hg1, hg2, hBg⟩ := isB_of_owns HOW.out (by omega)
      have cs := hBg.at hs
      have fs := hBg.fz S.s
      have HG0 := Lib.hid ((hBg.set S.s 0).congr (g := R S 0) fun v hv => by simp only [put, R, Far])
      have HB0 := Lib.hid (HBW.out.setCell (p := ⟨g, S.s, none⟩) hg1 (.int .i64 0))
      clear hBg hlt
      go_wp2_with fail
      go_loopg [8, 10, 11, 12] S.n (fun gg s8 s10 _ _ wx => ∃ (k g c : Nat), k ≤ S.n ∧ S.n - k ≤ gg ∧ s8 = .slice (some ⟨g, 0, none⟩) S.n c ∧ s10 = .int .i64 k ∧ Hid (IsB wx g S.n (R S k)) ∧ Hid (Below w.heap.size w wx) ∧ Hid (∀ j, j < k → ¬ Shut S (R S j)))
      case atStart => exact ⟨0, g, cc, by omega, by omega, rfl, rfl, HG0, HB0, Lib.hid (fun j hj => by omega)⟩
      case round =>
        obtain ⟨k, g1, c1, hk1, hgg, rfl, rfl, HG, HBX, HNO⟩ := hrel
        by_cases hlt : k < S.n
        · have hD : ∀ v, v < S.n → -1000000000000000000 ≤ R S k v ∧ R S k v ≤ Far := fun v hv => by
            have h1 := R_far ok (k := k) (by omega) hv
            rcases R_bnd ok k v hv with h2 | h2
            · unfold Far at h2; omega
            · omega
          have hstep := step_any S (R S k) a c g1 c1 _ ok (HE.out.below HBX.out) HG.out hD
          have HSTEP := Lib.hid hstep; clear hstep hD
          go_wp2_with fail
          refine HSTEP.out.mono ?_
          rintro e w3 ⟨g2, c2, b, rfl, h1, h2, h3, h4⟩
          have HG2 := Lib.hid h1; clear h1
          have HBX2 := Lib.hid (HBX.out.trans (h3.mono HBX.out.size))
          have hB3 := Lib.hid h3; clear h3
          have HFL := Lib.hid h4; clear h4
          cases b with
          | false =>
            obtain ⟨f1, f2⟩ := HFL.out.no rfl
            have HSH := Lib.hid (show Shut S (R S k) from f1)
            clear f1 f2
            go_wp2_with fail
            go_ret2
            exact ⟨HBX2.out, .inl ⟨g1, c1, k, rfl, hlt, HG.out.below hB3.out, HSH.out⟩⟩
          | true =>
            have hns := HFL.out.yes rfl
            have HNO2 : Hid (∀ j, j < k + 1 → ¬ Shut S (R S j)) := Lib.hid (fun j hj => by
              rcases Nat.lt_or_ge j k with h | h
              · exact HNO.out j h
              · obtain rfl : j = k := by omega
                exact hns)
            clear hns
            go_wp2_with fail
            go_roundg (S.n - (k + 1))
            case measure => omega
            case rel => exact ⟨k + 1, g2, c2, by omega, by omega, rfl, by go_num, HG2, HBX2, HNO2⟩
        · obtain rfl : k = S.n := by omega
          go_wp2_with fail
          go_ret2
          exact ⟨HBX.out, .inr ⟨rfl, HNO.out⟩⟩
end Diff
end Go.Proofs.Ytjhghkieghdoaaa
