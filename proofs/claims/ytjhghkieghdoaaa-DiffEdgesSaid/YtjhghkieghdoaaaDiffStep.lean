/- The document's step: the least sums of ways of one edge more (jitneyref07.step). -/
import Derived.Test.YtjhghkieghdoaaaDiffTrail
import Derived.Test.YtjhghkieghdoaaaDiffLook
import Derived.BigRegion
namespace Go.Proofs.Ytjhghkieghdoaaa
open Go.RowKit Go.Lib
namespace Diff
set_option linter.unusedVariables false
theorem info_i64' : (Try.prog.info? 2).map (fun i => (i.zero, i.size, i.bytes)) = some (some (.int .i64 0), 1, 8) := by kernel_rfl
def stepHit (S : Sys) (D : Nat → Int) (j : Nat) : Bool := decide (D (S.F j) ≠ Far) && decide (D (S.F j) + S.W j < jf S D j (S.T j))
theorem jf_hit {S : Sys} {D : Nat → Int} {j : Nat} (h : stepHit S D j = true) : ∀ v, put (jf S D j) (S.T j) (D (S.F j) + S.W j) v = jf S D (j + 1) v := by
  intro v
  unfold stepHit at h
  simp only [Bool.and_eq_true, decide_eq_true_eq] at h
  simp only [put, jf]
  by_cases e : v = S.T j
  · subst e; rw [if_pos rfl, if_pos ⟨rfl, h.1, h.2⟩]
  · rw [if_neg e, if_neg (fun hh => e hh.1.symm)]
theorem jf_miss {S : Sys} {D : Nat → Int} {j : Nat} (h : stepHit S D j = false) : ∀ v, jf S D (j + 1) v = jf S D j v := by
  intro v
  simp only [jf]
  refine if_neg fun hh => ?_
  unfold stepHit at h
  rw [hh.1] at h
  simp [hh.2.1, hh.2.2] at h
/-- what is known of the flag -/
structure Flag (S : Sys) (D : Nat → Int) (j : Nat) (b : Bool) : Prop where
  no : b = false → (∀ i, i < j → D (S.F i) ≠ Far → D (S.T i) ≤ D (S.F i) + S.W i) ∧ ∀ v, jf S D j v = D v
  yes : b = true → ¬ Shut S D
theorem Flag.hit {S : Sys} {D : Nat → Int} {j : Nat} {b : Bool} (hj : j < S.m) (h : stepHit S D j = true) : Flag S D (j + 1) true := by
  refine ⟨(by intro h; cases h), fun _ hs => ?_⟩
  unfold stepHit at h
  simp only [Bool.and_eq_true, decide_eq_true_eq] at h
  have h1 := hs j hj h.1
  have h2 := jf_le (S := S) D j (S.T j)
  omega
theorem Flag.miss {S : Sys} {D : Nat → Int} {j : Nat} {b : Bool} (hf : Flag S D j b) (h : stepHit S D j = false) : Flag S D (j + 1) b := by
  refine ⟨fun hb => ?_, hf.yes⟩
  obtain ⟨h1, h2⟩ := hf.no hb
  refine ⟨fun i hi hd => ?_, fun v => by rw [jf_miss h]; exact h2 v⟩
  rcases Nat.lt_or_ge i j with h' | h'
  · exact h1 i h' hd
  · obtain rfl : i = j := by omega
    unfold stepHit at h
    rw [h2] at h
    simp [hd] at h
    omega
/-- what step leaves -/
def StepP (S : Sys) (D : Nat → Int) (w : World) (e : Ending) (w' : World) : Prop :=
  ∃ g c b, e = .returned (.tuple #[.slice (some ⟨g, 0, none⟩) S.n c, .bool b]) ∧ IsB w' g S.n (jf S D S.m) ∧ w.heap.size ≤ g ∧ Below w.heap.size w w' ∧ Flag S D S.m b
set_option maxHeartbeats 4000000 in
set_option maxRecDepth 100000 in
theorem step_any (S : Sys) (D : Nat → Int) (a : Option Addr) (c d cd : Nat) (w : World) (ok : S.Ok) (he : IsEs w a S.m (fun i => S.F i) (fun i => S.T i) S.W) (hB : IsB w d S.n D) (hD : ∀ v, v < S.n → -1000000000000000000 ≤ D v ∧ D v ≤ Far) :
    Calls Try.prog 24 #[.slice a S.m c, .slice (some ⟨d, 0, none⟩) S.n cd] w (StepP S D w) := by
  have hn := ok.hn
  have hm := ok.hm
  have hs := ok.hs
  obtain ⟨i0, hi, hz0, hz1, hz2⟩ := info_parts info_i64'
  have hld := hB.lt
  have HB := Lib.hid hB; clear hB
  have HE := Lib.hid he; clear he
  have HD := Lib.hid hD; clear hD
  go_enter Try.func24, Try.ntmps24
  have hba : Below w.heap.size w (w.alloc (.cells #[] 2)) := (Below.refl _ _).alloc (Nat.le_refl _) _
  have hown0 : (w.alloc (.cells #[] 2)).ownsRow w.heap.size 2 1 (.slice (some ⟨w.heap.size, 0, none⟩) 0 0) 0 [] := World.ownsRow_made w #[] 0 (Nat.le_refl _) (by unfold maxLen; omega) rfl
  have HB1 := Lib.hid (HB.out.below hba)
  have HBA := Lib.hid hba
  have HO := Lib.hid hown0
  clear hba hown0
  go_wp2_with ((at_builtin; refine wpList_append_own _ rfl _ _ 24 rfl w.heap.size 2 i0 (.int .i64 0) 1 8 Try.underlying24 hi hz0 hz1 hz2 rfl (by decide) _ _ _ rfl HO.out ⟨d, 0, none⟩ S.n cd ((List.range S.n).map fun i => .int .i64 (D i)) rfl (by simp) ?c1 ?c2 ?c3 ?c4 ?c5 ?_))
  case c1 =>
    intro j u hj
    by_cases h : j < S.n
    · rw [List.getElem?_map, List.getElem?_range h] at hj
      simp only [Option.map_some, Option.some.injEq] at hj
      rw [← hj]
      rw [Go.WideShapes.add_plain]
      exact HB1.out.at0 h
    · rw [List.getElem?_eq_none (by simp; omega)] at hj; cases hj
  case c2 =>
    intro u hu
    obtain ⟨j, _, rfl⟩ := List.mem_map.1 hu
    rfl
  case c3 => unfold maxLen; omega
  case c4 => omega
  case c5 => simp
  intro v' w1 hown hgrow _
  have hb1 : Below w.heap.size w w1 := HBA.out.grown hgrow (by simp) (fun g hg => (HO.out.lt g hg).1)
  obtain ⟨g, cc, rfl, hg1, hg2, hBg⟩ := isB_of_owns hown (by omega)
  have HB2 := Lib.hid hb1
  have HG0 := Lib.hid (hBg.congr (g := jf S D 0) fun v _ => rfl)
  have HF0 : Hid (Flag S D 0 false) := Lib.hid ⟨fun _ => ⟨fun i hi => by omega, fun v => rfl⟩, by intro h; cases h⟩
  clear hb1 hown hgrow hBg
  go_wp2_with fail
  go_loopg [7, 8, 9] S.m (fun gg s7 s8 _ wr => ∃ (j : Nat) (b : Bool), j ≤ S.m ∧ S.m - j ≤ gg ∧ s7 = .bool b ∧ s8 = .int .i64 j ∧ Hid (IsB wr g S.n (jf S D j)) ∧ Hid (Below w.heap.size w wr) ∧ Hid (Flag S D j b))
  case atStart => exact ⟨0, false, by omega, by omega, rfl, rfl, HG0, HB2, HF0⟩
  case round =>
    obtain ⟨j, b, hj, hg, rfl, rfl, HG, HBW, HF⟩ := hrel
    by_cases hlt : j < S.m
    · rcases HE.out with h0 | ⟨b', off, rfl, hb, hmx, hc⟩
      · omega
      · obtain ⟨c0, c1, c2⟩ := hc j hlt
        have c0 := (HBW.out.cell hb).trans c0
        have c1 := (HBW.out.cell hb).trans c1
        have c2 := (HBW.out.cell hb).trans c2
        have hFj := ok.hF j hlt
        have hTj := ok.hT j hlt
        have hWj := ok.hW j hlt
        have dF := (HBW.out.cell (p := ⟨d, S.F j, none⟩) hld).trans (HB.out.at hFj)
        have gT := HG.out.at hTj
        have fT := HG.out.fz (S.T j)
        have bF := HD.out _ hFj
        have hsz := HBW.out.size
        have hlg := HG.out.lt
        have hne0 : b' ≠ wr.heap.size := by omega
        have hne1 : d ≠ wr.heap.size := by omega
        have hne2 : g ≠ wr.heap.size := by omega
        have hne3 : d ≠ g := by omega
        have hl1 : d < wr.heap.size := by omega
        have hl2 : b' < wr.heap.size := by omega
        clear hc hmx
        have hal := HBW.out.alloc (B := w.heap.size) hsz (.cells #[.int .i64 (S.F j), .int .i64 (S.T j), .int .i64 (S.W j)] 42)
        have HAL := Lib.hid hal; clear hal
        have hra : Below wr.heap.size wr (wr.alloc (.cells #[.int .i64 (S.F j), .int .i64 (S.T j), .int .i64 (S.W j)] 42)) := (Below.refl _ _).alloc (Nat.le_refl _) _
        have HRA := Lib.hid hra; clear hra
        by_cases h1 : D (S.F j) = Far
        · have hmiss : stepHit S D j = false := by unfold stepHit; simp [h1]
          have HN := Lib.hid (HF.out.miss hmiss)
          have HG2 := Lib.hid ((HG.out.below HRA.out).congr (g := jf S D (j + 1)) fun v _ => (jf_miss hmiss v).symm)
          rw [h1] at dF
          unfold Far at dF
          clear h1 hmiss
          generalize jf S D j (S.T j) = y at *
          go_wp2_with fail
          go_quiet (fail)
          go_wp2_with fail
          go_roundg (S.m - (j + 1))
          case measure => omega
          case rel => exact ⟨j + 1, b, by omega, by omega, rfl, by go_num, Lib.hid (HG2.out.kept (by rfl)), Lib.hid (below_drewN HAL.out _), HN⟩
        · unfold Far at h1
          have hx1 : (D (S.F j) == 1152921504606846976) = false := by simp [h1]
          have hx2 : (D (S.F j) != 1152921504606846976) = true := by simp [h1]
          unfold Far at bF
          by_cases h2 : D (S.F j) + S.W j < jf S D j (S.T j)
          · have hhit : stepHit S D j = true := by unfold stepHit Far; simp [h1, h2]
            have HN := Lib.hid (Flag.hit (b := b) hlt hhit)
            have HG2 := Lib.hid (((HG.out.below HRA.out).set (S.T j) (D (S.F j) + S.W j)).congr (g := jf S D (j + 1)) fun v _ => jf_hit hhit v)
            clear hhit
            generalize jf S D j (S.T j) = y at *
            generalize D (S.F j) = x at *
            generalize S.W j = z at *
            have hwr : IntKind.i64.wrap (x + z) = x + z := IntWalk.i64_in _ (by omega)
            go_wp2_with fail
            go_quiet (fail)
            go_wp2_with fail
            go_region
            all_goals
              go_wp2_with fail
              go_roundg (S.m - (j + 1))
              case measure => omega
              case rel => exact ⟨j + 1, true, by omega, by omega, rfl, by go_num, Lib.hid (HG2.out.kept (by rfl)), Lib.hid ((below_drewN HAL.out _).setCell (p := ⟨g, S.T j, none⟩) hg1 _), HN⟩
          · have hmiss : stepHit S D j = false := by unfold stepHit Far; simp [h1, h2]
            have HN := Lib.hid (HF.out.miss hmiss)
            have HG2 := Lib.hid ((HG.out.below HRA.out).congr (g := jf S D (j + 1)) fun v _ => (jf_miss hmiss v).symm)
            clear hmiss
            generalize jf S D j (S.T j) = y at *
            generalize D (S.F j) = x at *
            generalize S.W j = z at *
            have hwr : IntKind.i64.wrap (x + z) = x + z := IntWalk.i64_in _ (by omega)
            go_wp2_with fail
            go_quiet (fail)
            go_wp2_with fail
            go_roundg (S.m - (j + 1))
            case measure => omega
            case rel => exact ⟨j + 1, b, by omega, by omega, rfl, by go_num, Lib.hid (HG2.out.kept (by rfl)), Lib.hid (below_drewN HAL.out _), HN⟩
    · obtain rfl : j = S.m := by omega
      go_wp2_with fail
      go_ret2
      exact ⟨g, cc, b, rfl, HG.out, hg1, HBW.out, HF.out⟩
end Diff
end Go.Proofs.Ytjhghkieghdoaaa
