/- strings.SplitSeq at a separator of one byte: the iterator gives the pieces, in their order. -/
import Derived.RangeFuncNested
import Derived.RangeFuncBound
import Derived.RangeFuncCalls
import Derived.RangeFuncLeaves
import Derived.Shelf.Abstract
import Derived.Shelf.RegionOpen
import Derived.WalkKit
import Derived.OwnWalkIn
import Derived.TacticsInMore
import Derived.LoopNIn
import Derived.LoopIn
import Derived.Lib.Hide
import Derived.Lib.IndexLaws
import Derived.IntWalk
import Derived.Test.YtmegapelibaanaaDoorDeciPlain
import Derived.Test.YtmegapelibaanaaDoorDeciShelf
import Derived.Test.YtmegapelibaanaaDoorDeciSeqLaw
import Derived.Test.YtmegapelibaanaaDoorChecked
namespace Go.Proofs.YtmegapelibaanaaDoor
namespace Deci
open Go Go.RowKit Go.Shelf
attribute [local go_sem] Oper.semAt_some
/-- bytes as a string -/
def strOf (l : List UInt8) : ByteArray := ⟨l.toArray⟩
theorem strOf_data (s : ByteArray) : strOf s.data.toList = s := by obtain ⟨⟨l⟩⟩ := s; rfl
theorem data_strOf (l : List UInt8) : (strOf l).data.toList = l := rfl
theorem extract_data' (s : ByteArray) (a b : Nat) : (s.extract a b).data.toList = (s.data.toList.drop a).take (b - a) := by
  rw [← Lib.toList_data]; exact Lib.extract_toList s a b
theorem extract_front (s : ByteArray) (i : Nat) : s.extract 0 i = strOf (s.data.toList.take i) := by
  rw [← strOf_data (s.extract 0 i), extract_data']; simp
theorem extract_back (s : ByteArray) (i : Nat) : s.extract i s.size = strOf (s.data.toList.drop i) := by
  rw [← strOf_data (s.extract i s.size), extract_data', List.take_of_length_le (by simp)]
theorem index_cases (l : List UInt8) (c : UInt8) : Lib.indexByte l c = -1 ∨ ∃ i : Nat, Lib.indexByte l c = i ∧ i < l.length := by
  have hge := Lib.indexByte_ge l c
  by_cases h : Lib.indexByte l c = -1
  · exact .inl h
  · refine .inr ⟨(Lib.indexByte l c).toNat, by omega, ?_⟩
    have := (Lib.indexByte_some (l := l) (c := c) (o := (Lib.indexByte l c).toNat) (by omega)).1
    exact (List.getElem?_eq_some_iff.1 this).1
/-- How many bytes the box still holds. -/
def leftIn (b : Nat) (W : World) : Nat := match W.cell? ⟨b, 0, none⟩ with | some (.string r) => r.size | _ => 0
theorem leftIn_eq {b : Nat} {W : World} {t : TypeId} {r : ByteArray} (h : Boxed W b t (.string r)) : leftIn b W = r.size := by unfold leftIn; rw [h.cell]
theorem Boxed.keep {W W' : World} {B : Nat} {t : TypeId} {v : Value} (h : Boxed W B t v) (e : W'.heap[B]? = W.heap[B]?) : Boxed W' B t v := e.trans h
theorem Boxed.other {W : World} {B D : Nat} {t : TypeId} {v u : Value} (h : Boxed W B t v) (hne : B ≠ D) : Boxed (W.setCell ⟨D, 0, none⟩ u) B t v := (Below.heap_setCell _ _ _ _ hne).trans h

set_option maxRecDepth 100000 in
set_option maxHeartbeats 2000000 in
theorem split1_gives (n : Nat) (hn : 2 ≤ n) (b : Nat) (s : ByteArray) (c : UInt8) (w : World)
    (h0 : Boxed w b 9 (.string s)) (h1 : Boxed w (b + 1) 9 (.string ⟨#[c]⟩)) (h2 : Boxed w (b + 2) 3 (.int .i64 0)) (hs : s.size ≤ 9223372036854775000) :
    Gives Fence.wide n Tryd.prog 98 #[.pointer (some ⟨b + 1, 0, none⟩), .pointer (some ⟨b, 0, none⟩), .pointer (some ⟨b + 2, 0, none⟩)] (fun x : ByteArray => #[Value.string x]) b ((pcs c [] s.data.toList).map strOf) w := by
  have hn1 : 1 ≤ n := by omega
  intro l J Jx W hW hJb hY hJ0
  have b0 : Boxed W b 9 (.string s) := (hW.block b h0.lt).trans h0
  have b1 : Boxed W (b + 1) 9 (.string ⟨#[c]⟩) := (hW.block _ h1.lt).trans h1
  have b2 : Boxed W (b + 2) 3 (.int .i64 0) := (hW.block _ h2.lt).trans h2
  clear h0 h1 h2 hW
  have HJB := Lib.hid hJb; clear hJb
  have HY := Lib.hid hY; clear hY
  have q0 := b0.cell
  have q1 := b1.cell
  have q2 := b2.cell
  obtain ⟨S, hS⟩ : ∃ S, S = (pcs c [] s.data.toList).map strOf := ⟨_, rfl⟩
  rw [← hS] at HY ⊢
  have HS := Lib.hid hS; clear hS
  refine callsIn_of_wp Tryd.func98 rfl trivial ?_ rfl
  simp only [Tryd.ntmps98, List.size_toArray, List.length_cons, List.length_nil, Nat.reduceAdd, Nat.reduceSub, Array.replicate_succ, Array.replicate_zero, List.push_toArray, List.append_toArray, List.nil_append, List.cons_append]
  gi_wp2
  clear q0 q1 q2
  gi_loopw [7] (fun _ wr => ∃ (pre : List ByteArray) (r : ByteArray), Boxed wr b 9 (.string r) ∧ Boxed wr (b + 1) 9 (.string ⟨#[c]⟩) ∧ Boxed wr (b + 2) 3 (.int .i64 0) ∧ r.size ≤ 9223372036854775000 ∧ S = pre ++ (pcs c [] r.data.toList).map strOf ∧ J pre wr)
    (fun _ wr => leftIn b wr)
  case atStart => exact ⟨[], s, b0, b1, b2, hs, HS.out, hJ0⟩
  case round =>
    clear hJ0 b0 b1 b2 hs
    obtain ⟨pre, r, b0, b1, b2, hs, hSr, hJ⟩ := hrel
    have q0 := b0.cell
    have q1 := b1.cell
    have q2 := b2.cell
    have HSR := Lib.hid hSr; clear hSr
    have B0 := Lib.hid b0; clear b0
    have B1 := Lib.hid b1; clear b1
    have B2 := Lib.hid b2; clear b2
    rcases index_cases r.data.toList c with hix | ⟨i, hix, hlt⟩
    · have hp := pcs_miss c r.data.toList [] hix
      rw [List.nil_append] at hp
      have hpre : S = pre ++ [r] := by rw [HSR.out, hp]; simp [strOf_data]
      obtain ⟨fn, tmps, assign, body, hy, hR⟩ := HY.out pre r _ hJ (by rw [hpre]; simp)
      have HPRE := Lib.hid hpre; clear hpre
      have HIX := Lib.hid hix; clear hix hp
      have HR := Lib.hid hR; clear hR
      have HJ := Lib.hid hJ; clear hJ
      gi_wp2_with (refine ⟨trivial, ?_⟩; gi_at_call 69; refine (callsIn_wide.2 (Sh.strings_Index_one r c _)).mono ?_; rintro e w' ⟨rfl, rfl⟩; rw [HIX.out])
      refine HR.out.mono ?_
      rintro e W3 (⟨rfl, hJ3, hk3⟩ | ⟨rfl, hJx3⟩)
      · gi_wp2
        go_end0
        exact ⟨⟨_, rfl⟩, .inl (by rw [HPRE.out]; exact hJ3)⟩
      · gi_wp2
        go_end0
        exact ⟨⟨_, rfl⟩, .inr ⟨_, by rw [HPRE.out]; exact List.prefix_refl _, hJx3⟩⟩
    · have hlt' : i < r.size := by simpa using hlt
      have hp := pcs_hit c r.data.toList [] i hix
      rw [List.nil_append] at hp
      have hpre : S = (pre ++ [r.extract 0 i]) ++ (pcs c [] (r.extract (i + 1) r.size).data.toList).map strOf := by
        rw [HSR.out, hp, extract_front, extract_back, data_strOf]; simp
      obtain ⟨fn, tmps, assign, body, hy, hR⟩ := HY.out pre (r.extract 0 i) _ hJ (by rw [hpre]; exact List.prefix_append _ _)
      have HPRE := Lib.hid hpre; clear hpre
      have HIX := Lib.hid hix; clear hix hp hlt
      have HR := Lib.hid hR; clear hR
      have HJ := Lib.hid hJ; clear hJ
      gi_wp2_with (refine ⟨trivial, ?_⟩; gi_at_call 69; refine (callsIn_wide.2 (Sh.strings_Index_one r c _)).mono ?_; rintro e w' ⟨rfl, rfl⟩; rw [HIX.out])
      refine HR.out.mono ?_
      rintro e W3 (⟨rfl, hJ3, hk3⟩ | ⟨rfl, hJx3⟩)
      · have c0 : Boxed W3 b 9 (.string r) := hk3.1.trans B0.out
        have c1 : Boxed W3 (b + 1) 9 (.string ⟨#[c]⟩) := hk3.2.1.trans B1.out
        have c2 : Boxed W3 (b + 2) 3 (.int .i64 0) := hk3.2.2.trans B2.out
        clear q0 q1 q2
        have q0 := c0.cell
        have q1 := c1.cell
        have q2 := c2.cell
        have f0 := c0.frozen
        have C0 := Lib.hid c0; clear c0
        have C1 := Lib.hid c1; clear c1
        have C2 := Lib.hid c2; clear c2
        gi_wp2
        go_roundw
        case rel =>
          refine ⟨pre ++ [r.extract 0 i], r.extract (i + 1) r.size, C0.out.set _, Boxed.other C1.out (by omega), Boxed.other C2.out (by omega), ?_, HPRE.out, HJB.out _ _ _ hJ3⟩
          rw [ByteArray.size_extract]; omega
        case measure =>
          rw [leftIn_eq (C0.out.set _), leftIn_eq B0.out, ByteArray.size_extract]; omega
      · gi_wp2
        refine bodyPost_ret (results_none rfl _ _ _) rfl ?_
        exact ⟨⟨_, rfl⟩, .inr ⟨_, by rw [HPRE.out]; exact List.prefix_append _ _, hJx3⟩⟩
end Deci
end Go.Proofs.YtmegapelibaanaaDoor
