/- deci.Lines: the lines of a text, or the error; what the world must hold for the library's tables; over the translated program. -/
import Derived.Test.YtmegapelibaanaaDoorDeciWords
import Derived.Test.YtmegapelibaanaaDoorDeciShelf
import Derived.Lib.SmallJoins
namespace Go.Proofs.YtmegapelibaanaaDoor
namespace Deci
open Go Go.RowKit
/-- WHAT THE WORLD HOLDS: some number in internal/bytealg.MaxLen, and the powers of ten. -/
structure Env (w : World) : Prop where
  mlen : ∃ m, w.cell? ⟨5, 0, none⟩ = some (.int .i64 m)
  tab : Lib.TabIs Tryd.prog w "internal/strconv.uint64pow10" .u64 Lib.pow10Tab
theorem gPow : Tryd.prog.globalNamed "internal/strconv.uint64pow10" = some 1 := by kernel_rfl
theorem Env.below {w w' : World} (h : Env w) (hb : Below w.heap.size w w') : Env w' := by
  obtain ⟨⟨m, hm⟩, ht⟩ := h
  have hlt : 5 < w.heap.size := World.block_lt_of_cell? _ _ hm
  exact ⟨⟨m, (hb.cell (p := ⟨5, 0, none⟩) hlt).trans hm⟩, Joins.tab_stays gPow ht hb (Nat.le_refl _)⟩
theorem split_one (s : ByteArray) (c : UInt8) : Lib.splitB ⟨#[c]⟩ 0 (Lib.countB s ⟨#[c]⟩) s = (pcs c [] s.data.toList).map strOf := by
  have h := Lib.splitB_data ⟨#[c]⟩ 0 (Lib.countB s ⟨#[c]⟩) s
  have h2 : Lib.splitK [c] 0 (Lib.countB s ⟨#[c]⟩) s.data.toList = pcs c [] s.data.toList := splitK_pcs c _ _ rfl
  rw [show (⟨#[c]⟩ : ByteArray).data.toList = [c] from rfl, h2] at h
  rw [← h, List.map_map]
  have : (strOf ∘ fun x : ByteArray => x.data.toList) = id := by funext x; exact strOf_data x
  rw [this, List.map_id]
/-- The lines of a text; the error's number. -/
def linesP (l : List UInt8) : List ByteArray := if 1048576 < l.length then [] else if (pcs 10 [] l).getLast? = some [] then (pcs 10 [] l).dropLast.map strOf else []
def linesE (l : List UInt8) : Int := if 1048576 < l.length then 2 else if (pcs 10 [] l).getLast? = some [] then 0 else 20
theorem lines_long {l : List UInt8} (h : 1048576 < l.length) : linesP l = [] ∧ linesE l = 2 := by unfold linesP linesE; rw [if_pos h, if_pos h]; exact ⟨rfl, rfl⟩
theorem lines_nil : linesP [] = [] ∧ linesE [] = 0 := by
  unfold linesP linesE; simp [pcs]
theorem lines_nl (a : List UInt8) (h : a.length + 1 ≤ 1048576) : linesP (a ++ [10]) = (pcs 10 [] a).map strOf ∧ linesE (a ++ [10]) = 0 := by
  have h' : ¬ 1048576 < (a ++ [10]).length := by simp; omega
  unfold linesP linesE
  rw [if_neg h', if_neg h', pcs_last]
  simp
theorem lines_ne (a : List UInt8) (b : UInt8) (hb : b ≠ 10) (h : a.length + 1 ≤ 1048576) : linesP (a ++ [b]) = [] ∧ linesE (a ++ [b]) = 20 := by
  have h' : ¬ 1048576 < (a ++ [b]).length := by simp; omega
  obtain ⟨p, q, h1, h2⟩ := pcs_last_ne hb a []
  have h3 : ¬ (pcs 10 [] (a ++ [b])).getLast? = some [] := by rw [h1]; simp [h2]
  unfold linesP linesE
  rw [if_neg h', if_neg h', if_neg h3, if_neg h3]
  exact ⟨rfl, rfl⟩
/-- A new block that holds these texts is a slice's own row. -/
theorem row_new (w : World) (ps : List ByteArray) (hl : ps.length ≤ maxLen) : (w.alloc (.cells (ps.map Value.string).toArray 9)).ownsRow w.heap.size 9 1 (.slice (some ⟨w.heap.size, 0, none⟩) ps.length ps.length) ps.length (ps.map Value.string) := by
  refine ⟨by simp, .inr ⟨_, _, _, rfl, Nat.le_refl _, World.alloc_heap_new w _, Nat.le_refl _, hl, by simp, ?_⟩⟩
  simp only [Nat.mul_one]
  exact List.take_of_length_le (by simp)
theorem split_any (s : ByteArray) (w : World) (hE : Env w) (hs : s.size ≤ 4294967000) :
    Calls Tryd.prog 36 #[.string s, .string ⟨#[10]⟩] w fun e w' => e = .returned (.slice (some ⟨w.heap.size, 0, none⟩) ((pcs 10 [] s.data.toList).map strOf).length ((pcs 10 [] s.data.toList).map strOf).length) ∧ w' = w.alloc (.cells (((pcs 10 [] s.data.toList).map strOf).map Value.string).toArray 9) := by
  obtain ⟨m, hm⟩ := hE.mlen
  refine (Sh.strings_Split s ⟨#[10]⟩ m w (by omega) hm (Nat.le_refl _)).mono ?_
  rintro e w' ⟨rfl, rfl⟩
  have h := split_one s 10
  have hl := Lib.splitB_all ⟨#[10]⟩ (Nat.le_refl _) 0 _ s rfl
  rw [h] at hl
  rw [h, hl]
  exact ⟨rfl, rfl⟩
theorem snoc_cases (l : List UInt8) : l = [] ∨ ∃ a b, l = a ++ [b] := by
  rcases List.eq_nil_or_concat l with h | ⟨a, b, h⟩
  · exact .inl h
  · exact .inr ⟨a, b, by simpa using h⟩
theorem suffix_yes (a : List UInt8) : Lib.hasSuffix (a ++ [10]) [10] = true ∧ Lib.trimSuffix (a ++ [10]) [10] = a := by
  have h : Lib.hasSuffix (a ++ [10]) [10] = true := by unfold Lib.hasSuffix; rw [List.isSuffixOf_iff_suffix]; exact List.suffix_append _ _
  refine ⟨h, ?_⟩
  unfold Lib.trimSuffix
  rw [if_pos h]; simp
theorem suffix_no (a : List UInt8) (b : UInt8) (hb : b ≠ 10) : Lib.hasSuffix (a ++ [b]) [10] = false ∧ Lib.trimSuffix (a ++ [b]) [10] = a ++ [b] := by
  have h : Lib.hasSuffix (a ++ [b]) [10] = false := by
    unfold Lib.hasSuffix
    rw [Bool.eq_false_iff]
    intro hc
    rw [List.isSuffixOf_iff_suffix] at hc
    obtain ⟨t, ht⟩ := hc
    have := congrArg List.getLast? ht
    simp at this
    exact hb this.symm
  refine ⟨h, ?_⟩
  unfold Lib.trimSuffix
  rw [h]; simp
set_option maxHeartbeats 1000000 in
theorem lines_any (s : ByteArray) (w : World) (hE : Env w) (hs : s.size ≤ maxLen) :
    Calls Tryd.prog 20 #[.string s] w (Told w (linesP s.data.toList) (linesE s.data.toList)) := by
  unfold maxLen at hs
  have hsz : s.data.toList.length = s.size := by simp
  have HE := Lib.hid hE; clear hE
  by_cases hlong : 1048576 < s.size
  · obtain ⟨h1, h2⟩ := lines_long (l := s.data.toList) (by omega)
    rw [h1, h2]
    clear h1 h2 hsz
    go_enter Tryd.func20, Tryd.ntmps20
    go_wp2
    go_ret2
    exact ⟨_, rfl, World.ownsRow_nil _ _ _ _, Below.refl _ _⟩
  · rcases snoc_cases s.data.toList with hnil | ⟨a, b, hab⟩
    · have e : s = ⟨#[]⟩ := by rw [← strOf_data s, hnil]; rfl
      subst e
      rw [hnil, lines_nil.1, lines_nil.2]
      clear hnil hsz hlong hs
      go_enter Tryd.func20, Tryd.ntmps20
      go_wp2
      go_ret2
      exact ⟨_, rfl, World.ownsRow_nil _ _ _ _, Below.refl _ _⟩
    · have hne' : s.toList.isEmpty = false := by rw [Lib.toList_data, hab]; simp
      have hne2 : ¬ s.toList = [] := by simpa using hne'
      have hla : a.length + 1 = s.size := by rw [← hsz, hab]; simp
      by_cases hb : b = 10
      · subst hb
        obtain ⟨h1, h2⟩ := lines_nl a (by omega)
        obtain ⟨h3, h4⟩ := suffix_yes a
        have hcs := fun w => Sh.strings_CutSuffix s ⟨#[10]⟩ w (by omega)
        have hc : (⟨#[10]⟩ : ByteArray).data.toList = [10] := rfl
        rw [hab, hc, h3, h4] at hcs
        rw [hab, h1, h2]
        have HCS := Lib.hid hcs; clear hcs
        have hcl := fun w => clone_any s w (by omega)
        have HCL := Lib.hid hcl; clear hcl
        have hsp := fun w h => split_any ⟨a.toArray⟩ w h (by show a.length ≤ _; omega)
        have hpl : ((pcs 10 [] a).map strOf).length ≤ maxLen := by have := pcs_length 10 a []; unfold maxLen; simp; omega
        change ∀ w h, Calls Tryd.prog 36 #[.string ⟨a.toArray⟩, .string ⟨#[10]⟩] w fun e w' => e = .returned (.slice (some ⟨w.heap.size, 0, none⟩) ((pcs 10 [] a).map strOf).length ((pcs 10 [] a).map strOf).length) ∧ w' = w.alloc (.cells (((pcs 10 [] a).map strOf).map Value.string).toArray 9) at hsp
        generalize (pcs 10 [] a).map strOf = ps at *
        have HSP := Lib.hid hsp; clear hsp
        have HPL := Lib.hid hpl; clear hpl
        clear h1 h2 h3 h4 hab hc hla hsz
        go_enter Tryd.func20, Tryd.ntmps20
        go_wp2_with (first
          | (go_at_call 35; refine (HCL.out _).mono ?_; rintro e W1 ⟨rfl, hb⟩; have HB := Lib.hid hb; clear hb)
          | (go_at_call 34; refine (HCS.out _).mono ?_; rintro e w' ⟨rfl, rfl⟩)
          | (go_at_call 36; refine (HSP.out _ (HE.out.below HB.out)).mono ?_; rintro e w' ⟨rfl, rfl⟩))
        go_ret2
        exact ⟨_, rfl, row_lower (row_new _ _ HPL.out) HB.out.size, HB.out.alloc HB.out.size _⟩
      · obtain ⟨h1, h2⟩ := lines_ne a b hb (by omega)
        obtain ⟨h3, h4⟩ := suffix_no a b hb
        have hcs := fun w => Sh.strings_CutSuffix s ⟨#[10]⟩ w (by omega)
        have hc : (⟨#[10]⟩ : ByteArray).data.toList = [10] := rfl
        rw [hab, hc, h3, h4] at hcs
        rw [hab, h1, h2]
        have HCS := Lib.hid hcs; clear hcs
        have hcl := fun w => clone_any s w (by omega)
        have HCL := Lib.hid hcl; clear hcl
        clear h1 h2 h3 h4 hab hc hla hsz hb
        go_enter Tryd.func20, Tryd.ntmps20
        go_wp2_with (first
          | (go_at_call 35; refine (HCL.out _).mono ?_; rintro e W1 ⟨rfl, hb⟩; have HB := Lib.hid hb; clear hb)
          | (go_at_call 34; refine (HCS.out _).mono ?_; rintro e w' ⟨rfl, rfl⟩))
        go_ret2
        exact ⟨_, rfl, World.ownsRow_nil _ _ _ _, HB.out⟩
theorem words_any (s : ByteArray) (w : World) (hs : s.size ≤ 4294967000) :
    Calls Tryd.prog 51 #[.string s] w (Told w (wordsP s.data.toList) (wordsE s.data.toList)) := by
  by_cases h : s.data.toList = []
  · have e : s = ⟨#[]⟩ := by rw [← strOf_data s, h]; rfl
    subst e
    exact words_nil w
  · exact words_some s w hs h
end Deci
end Go.Proofs.YtmegapelibaanaaDoor
