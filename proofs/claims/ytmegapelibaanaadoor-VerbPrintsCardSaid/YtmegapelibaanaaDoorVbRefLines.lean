/- jitneyref03.Lines: the document's answer, byte by byte; over the translated program. -/
import Derived.Test.YtmegapelibaanaaDoorDeciLines
import Derived.Test.YtmegapelibaanaaDoorFilParts
import Derived.Test.YtmegapelibaanaaDoorVbA
import Derived.Laws.AppendOwn
namespace Go.Proofs.YtmegapelibaanaaDoor
namespace Deci
open Go Go.RowKit
open Vb (info_parts)
theorem drop_cons (s : ByteArray) (k : Nat) (h : k < s.size) : s.data.toList.drop k = s[k] :: s.data.toList.drop (k + 1) := by
  rw [List.drop_eq_getElem_cons (by simpa using h)]; rfl
theorem piece_snoc (s : ByteArray) (f k : Nat) (h : k < s.size) (hf : f ≤ k) : (s.data.toList.take (k + 1)).drop f = (s.data.toList.take k).drop f ++ [s[k]] := by
  rw [take_snoc s k h, List.drop_append_of_le_length (by simp; omega)]
theorem piece_extract (s : ByteArray) (f k : Nat) : s.extract f k = strOf ((s.data.toList.take k).drop f) := by
  rw [← strOf_data (s.extract f k), extract_data', List.drop_take]
theorem below_append {w wr w1 : World} {B : Nat} {e : TypeId} {v : Value} {k : Nat} {xs : List Value} {tmp : Obj} (hB : Below B w wr) (hs : B ≤ wr.heap.size) (hrow : wr.ownsRow B e 1 v k xs) (hgrow : (wr.alloc tmp).grownBy w1 v.ownBlock) : Below B w w1 := by
  refine (hB.alloc hs tmp).grown hgrow (by simp; omega) fun j ej => ?_
  rcases Nat.lt_or_ge j B with h | h
  · exact absurd ej.symm (row_ne hrow h)
  · exact h
/-- What lines have been cut, and where the next one begins. -/
def LI (l : List UInt8) (f k : Nat) (out : List (List UInt8)) : Prop := f ≤ k ∧ k ≤ l.length ∧ pcs 10 [] l = out ++ pcs 10 ((l.take k).drop f) (l.drop k)
theorem LI.start (l : List UInt8) : LI l 0 0 [] := ⟨Nat.le_refl _, Nat.zero_le _, by simp⟩
set_option maxRecDepth 100000 in
set_option maxHeartbeats 2000000 in
theorem refLines_any (s : ByteArray) (w : World) (hs : s.size ≤ maxLen) :
    Calls Tryd.prog 31 #[.string s] w (Told w (linesP s.data.toList) (linesE s.data.toList)) := by
  unfold maxLen at hs
  have hsz : s.data.toList.length = s.size := by simp
  by_cases hlong : 1048576 < s.size
  · obtain ⟨h1, h2⟩ := lines_long (l := s.data.toList) (by omega)
    rw [h1, h2]
    clear h1 h2 hsz
    go_enter Tryd.func31, Tryd.ntmps31
    go_wp2
    go_ret2
    exact ⟨_, rfl, World.ownsRow_nil _ _ _ _, Below.refl _ _⟩
  · have hll : ¬ 1048576 < s.data.toList.length := by omega
    have hi := infoStr
    obtain ⟨i0, hi, hz0, hz1, hz2⟩ := info_parts hi
    obtain ⟨l, hl⟩ : ∃ l, l = s.data.toList := ⟨_, rfl⟩
    have hdc := fun k h => drop_cons s k h
    have hps := fun f k h hf => piece_snoc s f k h hf
    have hpe := fun f k => piece_extract s f k
    rw [← hl] at hsz hll hdc hps hpe
    rw [← hl]
    have hP : linesP l = if (pcs 10 [] l).getLast? = some [] then (pcs 10 [] l).dropLast.map strOf else [] := by unfold linesP; rw [if_neg hll]
    have hE : linesE l = if (pcs 10 [] l).getLast? = some [] then 0 else 20 := by unfold linesE; rw [if_neg hll]
    have HDC := Lib.hid hdc; clear hdc
    have HPS := Lib.hid hps; clear hps
    have HPE := Lib.hid hpe; clear hpe
    have HSZ := Lib.hid hsz; clear hsz
    have HP := Lib.hid hP; clear hP
    have HE := Lib.hid hE; clear hE hll hl
    have r0 : (w.alloc (.cells #[] 9)).ownsRow w.heap.size 9 1 (.slice (some ⟨w.heap.size, 0, none⟩) 0 0) 0 [] := row_new w [] (Nat.zero_le _)
    have b0 : Below w.heap.size w (w.alloc (.cells #[] 9)) := (Below.refl _ _).alloc (Nat.le_refl _) _
    have R0 := Lib.hid r0; clear r0
    have B0 := Lib.hid b0; clear b0
    go_enter Tryd.func31, Tryd.ntmps31
    go_wp2
    go_loopw [4, 5, 6] (fun o f i wr => ∃ (fr k : Nat) (out : List (List UInt8)), True ∧ f = .int .i64 fr ∧ i = .int .i64 k ∧ LI l fr k out ∧ wr.ownsRow w.heap.size 9 1 o out.length (out.map fun x => Value.string (strOf x)) ∧ out.length ≤ k ∧ Below w.heap.size w wr) (fun _ _ i _ => s.size - (intOf i).toNat)
    case atStart => exact ⟨0, 0, [], trivial, rfl, rfl, LI.start l, R0.out, Nat.le_refl _, B0.out⟩
    case round =>
      obtain ⟨fr, k, out, -, rfl, rfl, hLI, hrow, hok, hB⟩ := hrel
      obtain ⟨hf1, hf2, hf3⟩ := hLI
      have hks : k ≤ s.size := by rw [← HSZ.out]; exact hf2
      clear hf2
      have HF := Lib.hid hf3; clear hf3
      obtain ⟨va, vcap, rfl⟩ := row_slice hrow
      by_cases hlt : k < s.size
      · have hdc := HDC.out k hlt
        have hps := HPS.out fr k hlt hf1
        by_cases h10 : s[k] = 10
        · have hx : (s[k].toNat : Int) = 10 := by rw [h10]; rfl
          have hnew : pcs 10 [] l = (out ++ [(l.take k).drop fr]) ++ pcs 10 ((l.take (k + 1)).drop (k + 1)) (l.drop (k + 1)) := by
            rw [HF.out, hdc, h10, pcs_eq, List.drop_eq_nil_of_le (by rw [List.length_take]; omega : (l.take (k + 1)).length ≤ k + 1)]; simp
          have HN := Lib.hid hnew; clear hnew hdc hps h10
          have hcut := HPE.out fr k
          have HCUT := Lib.hid hcut; clear hcut
          have f1 : (fr : Int) ≤ (k : Int) := by omega
          have f2 : (k : Int) ≤ (s.size : Int) := by omega
          have hBs := hB.size
          have hoL : (out.map fun x => Value.string (strOf x)).length = out.length := by simp
          go_wp2_with (at_builtin; refine wpList_append_own _ rfl _ _ 51 rfl w.heap.size 9 i0 (.string ⟨#[]⟩) 1 16 Tryd.underlying51 hi hz0 hz1 hz2 rfl (by decide) _ _ _ rfl (hrow.alloc _) ⟨wr.heap.size, 0, none⟩ 1 1 [.string (s.extract fr k)] rfl rfl (cell_one_new _ _ _) (by simp [Value.oneCell']) (by unfold maxLen; omega) (by omega) (by simp; omega) ?_; intro v' w1 hown' hgrow _; obtain ⟨g', cap', rfl⟩ := ownsRow_succ hown')
          change (wr.alloc (.cells #[.string (s.extract fr k)] 9)).grownBy w1 (Value.slice va out.length vcap).ownBlock at hgrow
          have hB1 := below_append hB hBs hrow hgrow
          rw [HCUT.out] at hown'
          refine ⟨⟨k + 1, k + 1, out ++ [(l.take k).drop fr], trivial, by go_num, by go_num, ⟨Nat.le_refl _, by rw [HSZ.out]; omega, HN.out⟩, by simpa using hown', by simp; omega, hB1⟩, ?_⟩
          simp [intOf]; omega
        · have hx : ¬ (s[k].toNat : Int) = 10 := by
            intro e; apply h10; apply UInt8.toNat_inj.1
            have : s[k].toNat = 10 := by omega
            rw [this]; rfl
          have hnew : pcs 10 [] l = out ++ pcs 10 ((l.take (k + 1)).drop fr) (l.drop (k + 1)) := by
            rw [HF.out, hdc, pcs_ne h10, ← hps]
          have HN := Lib.hid hnew; clear hnew hdc hps h10
          go_wp2
          go_roundw
          case rel => exact ⟨fr, k + 1, out, trivial, rfl, by go_num, ⟨by omega, by rw [HSZ.out]; omega, HN.out⟩, hrow, by omega, hB⟩
          case measure => simp [intOf]; omega
      · obtain rfl : k = s.size := by omega
        have hend := HF.out
        rw [← HSZ.out, List.take_length, List.drop_length, pcs_nil] at hend
        have hP := HP.out
        have hE := HE.out
        rw [hend] at hP hE
        by_cases hfr : fr < s.size
        · have hne : l.drop fr ≠ [] := by
            intro h
            have := congrArg List.length h
            rw [List.length_drop, HSZ.out] at this
            simp at this; omega
          rw [if_neg (by simp [hne])] at hP hE
          have H1 := Lib.hid hP; clear hP
          have H2 := Lib.hid hE; clear hE hne hend
          go_wp2
          go_ret2
          rw [H1.out, H2.out]
          exact ⟨_, rfl, World.ownsRow_nil _ _ _ _, hB⟩
        · have hnil : l.drop fr = [] := List.drop_eq_nil_of_le (by rw [HSZ.out]; omega)
          rw [hnil] at hP hE
          rw [if_pos (by simp)] at hP hE
          rw [List.dropLast_concat] at hP
          have H1 := Lib.hid hP; clear hP
          have H2 := Lib.hid hE; clear hE hnil hend
          go_wp2
          go_ret2
          rw [H1.out, H2.out]
          exact ⟨_, rfl, by rw [List.map_map, List.length_map]; exact hrow, hB⟩


end Deci
end Go.Proofs.YtmegapelibaanaaDoor
