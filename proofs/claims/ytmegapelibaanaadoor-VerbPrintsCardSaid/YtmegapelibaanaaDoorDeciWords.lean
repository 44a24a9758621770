/- deci.Words: the words of a line, or the error; over the translated program. -/
import Derived.RangeFuncNested
import Derived.RangeFuncBound
import Derived.RangeFuncCalls
import Derived.RangeFuncLeaves
import Derived.Shelf.Abstract
import Derived.Shelf.RegionOpen
import Derived.WalkKit
import Derived.OwnWalkIn
import Derived.TacticsInMore
import Derived.LoopNIn
import Derived.LoopIn
import Derived.Maps.AppendAt
import Derived.Test.YtmegapelibaanaaDoorDeciSeq
import Derived.Test.YtmegapelibaanaaDoorDeciBase
namespace Go.Proofs.YtmegapelibaanaaDoor
namespace Deci
open Go Go.RowKit Go.Shelf
/-- strings.SplitSeq: what it was handed is boxed; the function value captures the boxes. -/
theorem splitSeq_any (s sep : ByteArray) (w : World) :
    Calls Tryd.prog 70 #[.string s, .string sep] w fun e w' => e = .returned (.func (.func 98) #[] #[.pointer (some ⟨w.heap.size + 1, 0, none⟩), .pointer (some ⟨w.heap.size, 0, none⟩), .pointer (some ⟨w.heap.size + 2, 0, none⟩)]) ∧
      w' = ((w.alloc (.cells #[.string s] 9)).alloc (.cells #[.string sep] 9)).alloc (.cells #[.int .i64 0] 3) := by
  have inner : Calls Tryd.prog 85 #[.string s, .string sep, .int .i64 0] w fun e w' => e = .returned (.func (.func 98) #[] #[.pointer (some ⟨w.heap.size + 1, 0, none⟩), .pointer (some ⟨w.heap.size, 0, none⟩), .pointer (some ⟨w.heap.size + 2, 0, none⟩)]) ∧
      w' = ((w.alloc (.cells #[.string s] 9)).alloc (.cells #[.string sep] 9)).alloc (.cells #[.int .i64 0] 3) := by
    go_enter Tryd.func85, Tryd.ntmps85
    go_wp2
    go_ret
    exact ⟨rfl, rfl⟩
  go_enter Tryd.func70, Tryd.ntmps70
  go_wp2_with (go_at_call 85; refine inner.mono ?_; rintro e w' ⟨rfl, rfl⟩)
  go_ret
  exact ⟨rfl, rfl⟩
/-- strings.Clone: the same bytes. -/
theorem clone_any (s : ByteArray) (w : World) (hs : s.size ≤ 281474976710656) :
    Calls Tryd.prog 35 #[.string s] w fun e w' => e = .returned (.string s) ∧ Below w.heap.size w w' := by
  go_enter Tryd.func35, Tryd.ntmps35
  go_wp2_with (go_at_call 49; refine (Sh.stringslite_Clone s _ hs).mono ?_; rintro e w' ⟨rfl, hb⟩)
  go_ret
  exact ⟨rfl, hb⟩
/-- WHAT A CALL THAT TELLS A LIST OF TEXTS AND AN ERROR LEAVES: a slice of its own that holds them; what was there is as it was. -/
def Told (w : World) (ps : List ByteArray) (er : Int) (e : Ending) (w' : World) : Prop :=
  ∃ v, e = .returned (.tuple #[v, .int .i64 er]) ∧ w'.ownsRow w.heap.size 9 1 v ps.length (ps.map Value.string) ∧ Below w.heap.size w w'
/-- The words of a line; none, where it has others than words. -/
def wordsOk (l : List UInt8) : Bool := l.isEmpty || (pcs 32 [] l).all wordB
def wordsP (l : List UInt8) : List ByteArray := if l = [] then [] else if (pcs 32 [] l).all wordB then (pcs 32 [] l).map strOf else []
def wordsE (l : List UInt8) : Int := if l = [] then 0 else if (pcs 32 [] l).all wordB then 0 else 21

set_option maxHeartbeats 1000000 in
theorem words_nil (w : World) :
    Calls Tryd.prog 51 #[.string ⟨#[]⟩] w (Told w [] 0) := by
  go_enter Tryd.func51, Tryd.ntmps51
  go_wp2
  refine bodyPost_ret (v := .tuple #[.slice none 0 0, .int .i64 0]) (by simp [results, Tryd.results51, go_sem]) rfl ?_
  exact ⟨_, rfl, World.ownsRow_nil _ _ _ _, ((Below.refl _ _).alloc (Nat.le_refl _) _).alloc (by simp) _⟩

attribute [local go_sem] Oper.semAt_some
theorem infoStr : (Tryd.prog.info? 9).map (fun i => (i.zero, i.size, i.bytes)) = some (some (.string ⟨#[]⟩), 1, 16) := by kernel_rfl


theorem row_lower {w : World} {base b : Nat} {e : TypeId} {size : Nat} {v : Value} {n : Nat} {xs : List Value} (h : w.ownsRow base e size v n xs) (hb : b ≤ base) : w.ownsRow b e size v n xs := by
  obtain ⟨h1, h2⟩ := h
  refine ⟨h1, h2.imp id ?_⟩
  rintro ⟨g, cap, cur, a, c, d⟩
  exact ⟨g, cap, cur, a, Nat.le_trans hb c, d⟩
theorem row_ne {w : World} {base : Nat} {e : TypeId} {size : Nat} {v : Value} {n : Nat} {xs : List Value} (h : w.ownsRow base e size v n xs) {k : Nat} (hk : k < base) : some k ≠ v.ownBlock := by
  rcases h.2 with ⟨rfl, _⟩ | ⟨g, cap, cur, rfl, hg, _⟩
  · simp [Value.ownBlock]
  · intro e'
    have : k = g := by simpa [Value.ownBlock] using e'
    omega
theorem row_slice {w : World} {base : Nat} {e : TypeId} {size : Nat} {v : Value} {n : Nat} {xs : List Value} (h : w.ownsRow base e size v n xs) : ∃ a cap, v = .slice a n cap := by
  rcases h.2 with ⟨rfl, rfl⟩ | ⟨g, cap, cur, rfl, _⟩
  · exact ⟨_, _, rfl⟩
  · exact ⟨_, _, rfl⟩
theorem all_strOf (ps : List (List UInt8)) : ((ps.map strOf).all fun x => wordB x.data.toList) = ps.all wordB := by rw [List.all_map]; rfl
theorem all_prefix {f : ByteArray → Bool} {pre S : List ByteArray} (h : pre <+: S) (hf : pre.all f = false) : S.all f = false := by
  obtain ⟨r, rfl⟩ := h
  rw [List.all_append, hf]; rfl
/-- AN APPEND IN A ROUND: the box B holds the slice; the boxes from b on are the iterator's; the slice's own row lies behind those. -/
theorem appended3 {W w1 : World} {A B b : Nat} {t e : TypeId} {v v' : Value} {k m : Nat} {xs ys : List Value} {tmp : Obj}
    (hv : Boxed W B t v) (hte : t ≠ e) (hrow : W.ownsRow (b + 3) e 1 v k xs) (hAB : A ≤ B) (hBb : B < b) (hb3 : b + 3 ≤ W.heap.size)
    (hown' : w1.ownsRow (b + 3) e 1 v' m ys) (hgrow : (W.alloc tmp).grownBy w1 v.ownBlock) :
    Boxed w1 B t v ∧ Boxed (w1.setCell ⟨B, 0, none⟩ v') B t v' ∧ (w1.setCell ⟨B, 0, none⟩ v').ownsRow (b + 3) e 1 v' m ys ∧ KeepsOthers W (w1.setCell ⟨B, 0, none⟩ v') ∧ Below A W (w1.setCell ⟨B, 0, none⟩ v') ∧
      ∀ j, j < b + 3 → j ≠ B → (w1.setCell ⟨B, 0, none⟩ v').heap[j]? = W.heap[j]? := by
  obtain ⟨r1, r2, r3, r4, r5⟩ := hv.appended hte (row_lower hrow (b := A) (by omega)) (by omega) hAB (row_lower hown' (by omega)) hgrow
  refine ⟨r1, r2, hown'.kept (grownBy_setCell' w1 B v') (.inr (row_ne hown' (by omega)).symm), r4, r5, fun j hj hne => ?_⟩
  rw [Below.heap_setCell _ _ _ _ hne, hgrow.block j (by simp; omega) (row_ne hrow hj)]
  exact Below.heap_alloc _ _ _ (by omega)
/-- WHAT HOLDS BETWEEN TWO ROUNDS. -/
def WI (w : World) (A b : Nat) (pre : List ByteArray) (W : World) : Prop :=
  (∃ v, Boxed W (A + 2) 51 v ∧ W.ownsRow (b + 3) 9 1 v pre.length (pre.map Value.string)) ∧ Boxed W A 51 (.slice none 0 0) ∧ Boxed W (A + 1) 25 (.int .i64 0) ∧
    (pre.all fun x => wordB x.data.toList) = true ∧ Below A w W ∧ b + 3 ≤ W.heap.size
/-- What holds behind a round that has found something else than a word. -/
def WX (w : World) (A : Nat) (pre : List ByteArray) (W : World) : Prop :=
  Boxed W A 51 (.slice none 0 0) ∧ Boxed W (A + 1) 25 (.int .i64 21) ∧ (pre.all fun x => wordB x.data.toList) = false ∧ Below A w W
theorem boxed_grown {W W' : World} {row : Option Nat} {B D : Nat} {t : TypeId} {v : Value} (h : Boxed W B t v) (hg : W.grownBy W' row) (hBD : B < D) (hr : ∀ r, row = some r → D ≤ r ∧ ∃ o : Obj, W.heap[r]? = some o ∧ o.isCells = false) : Boxed W' B t v :=
  h.kept hg (fun e => by have := (hr B e.symm).1; omega)
theorem WI_own {w : World} {A b D : Nat} (h1 : A + 2 < D) : OwnFrom D (WI w A b) := by
  rintro pre W W' row ⟨⟨v, hv, hrow⟩, ha, he, hall, hB, hsz⟩ hg hr
  refine ⟨⟨v, boxed_grown hv hg (by omega) hr, hrow.kept hg ?_⟩, boxed_grown ha hg (by omega) hr, boxed_grown he hg (by omega) hr, hall, hB.grown hg (by have := ha.lt; omega) (fun k e => by have := (hr k e).1; omega), Nat.le_trans hsz hg.size⟩
  rcases hrow.2 with ⟨rfl, _⟩ | ⟨g, cap, cur, rfl, _, hgb, _⟩
  · exact .inl rfl
  · refine .inr fun e' => ?_
    obtain ⟨_, o, ho, hc⟩ := hr g (by simpa [Value.ownBlock] using e'.symm)
    rw [hgb] at ho; cases ho; cases hc
theorem WX_own {w : World} {A D : Nat} (h1 : A + 2 < D) : OwnFrom D (WX w A) := by
  rintro pre W W' row ⟨ha, he, hall, hB⟩ hg hr
  exact ⟨boxed_grown ha hg (by omega) hr, boxed_grown he hg (by omega) hr, hall, hB.grown hg (by have := ha.lt; omega) (fun k e => by have := (hr k e).1; omega)⟩
theorem WI_set {w : World} {A b : Nat} (h1 : A + 3 ≤ b) (pre : List ByteArray) (W : World) (u : Value) (h : WI w A b pre W) : WI w A b pre (W.setCell ⟨b, 0, none⟩ u) := by
  obtain ⟨⟨v, hv, hrow⟩, ha, he, hall, hB, hsz⟩ := h
  refine ⟨⟨v, Boxed.other hv (by omega), hrow.kept (grownBy_setCell' W b u) (.inr (row_ne hrow (by omega)).symm)⟩, Boxed.other ha (by omega), Boxed.other he (by omega), hall, hB.setCell (p := ⟨b, 0, none⟩) (by show A ≤ b; omega) _, ?_⟩
  rw [World.size_setCell]; exact hsz

set_option maxRecDepth 100000 in
set_option maxHeartbeats 2000000 in
theorem words_some (s : ByteArray) (w : World) (hs : s.size ≤ 4294967000) (hne : s.data.toList ≠ []) :
    Calls Tryd.prog 51 #[.string s] w (Told w (wordsP s.data.toList) (wordsE s.data.toList)) := by
  refine (callsIn_wide (n := 9)).1 ?_
  refine callsIn_of_wp_marks Tryd.func51 rfl trivial ?_ rfl
  simp only [Tryd.ntmps51, List.size_toArray, List.length_cons, List.length_nil, Nat.reduceAdd, Nat.reduceSub, Array.replicate_succ, Array.replicate_zero, List.push_toArray, List.append_toArray, List.nil_append, List.cons_append]
  have hne' : s.toList.isEmpty = false := by rw [Lib.toList_data]; simpa using hne
  have hne2 : ¬ s.toList = [] := by simpa using hne'
  gi_wp2_with (first
    | (refine ⟨trivial, ?_⟩; gi_at_call 35; refine (callsIn_wide.2 (clone_any s _ (by omega))).mono ?_; rintro e W1 ⟨rfl, hb⟩)
    | (refine ⟨trivial, ?_⟩; gi_at_call 70; refine (callsIn_wide.2 (splitSeq_any s _ _)).mono ?_; rintro e w' ⟨rfl, rfl⟩))
  simp only [World.size_alloc] at hb
  obtain ⟨A, hA⟩ : ∃ A, A = w.heap.size := ⟨_, rfl⟩
  obtain ⟨b, hbb⟩ : ∃ b, b = W1.heap.size := ⟨_, rfl⟩
  have hsz : A + 3 ≤ b := by have := hb.size; simp at this; omega
  have B0 : Below A w W1 := by
    rw [hA]; exact ((((Below.refl _ _).alloc (Nat.le_refl _) _).alloc (by simp) _).alloc (by simp; omega) _).trans (hb.mono (by omega))
  have a0 : Boxed W1 A 51 (.slice none 0 0) := by
    rw [hA]; exact (hb.block _ (by omega)).trans (((Boxed.new w _ _).alloc _).alloc _)
  have a1 : Boxed W1 (A + 1) 25 (.int .i64 0) := by
    rw [hA]; refine (hb.block _ (by omega)).trans (Boxed.alloc ?_ _)
    have := Boxed.new (w.alloc (.cells #[.slice none 0 0] 51)) 25 (.int .i64 0)
    rwa [World.size_alloc] at this
  have a2 : Boxed W1 (A + 2) 51 (.slice none 0 0) := by
    rw [hA]; refine (hb.block _ (by omega)).trans ?_
    have := Boxed.new ((w.alloc (.cells #[.slice none 0 0] 51)).alloc (.cells #[.int .i64 0] 25)) 51 (.slice none 0 0)
    simp only [World.size_alloc] at this
    exact this
  have x0 := Boxed.new W1 9 (.string s)
  have x1 := Boxed.new (W1.alloc (.cells #[.string s] 9)) 9 (.string ⟨#[32]⟩)
  have x2 := Boxed.new ((W1.alloc (.cells #[.string s] 9)).alloc (.cells #[.string ⟨#[32]⟩] 9)) 3 (.int .i64 0)
  simp only [World.size_alloc] at x1 x2
  obtain ⟨l, hl⟩ : ∃ l, l = s.data.toList := ⟨_, rfl⟩
  have hll : l.length = s.size := by rw [hl]; simp
  have hS : ∀ pre x, pre ++ [x] <+: (pcs 32 [] l).map strOf → pre.length ≤ s.size ∧ x.size ≤ s.size := by
    intro pre x hp
    have h1 := hp.length_le
    have h2 := pcs_length 32 l []
    have h3 : x ∈ (pcs 32 [] l).map strOf := hp.subset (by simp)
    obtain ⟨y, hy, rfl⟩ := List.mem_map.1 h3
    have h4 := pcs_mem 32 l [] y hy
    simp at h1 h4
    exact ⟨by omega, by show y.length ≤ _; omega⟩
  rw [← hA, ← hbb, ← hl]
  rw [← hbb] at x0 x1 x2
  have HS := Lib.hid hS; clear hS
  have HA := Lib.hid hA; clear hA
  have HBB := Lib.hid hbb; clear hbb
  have HL := Lib.hid hl; clear hl hll hne' hne2 hb
  have HNE := Lib.hid hne; clear hne
  have hi := infoStr
  obtain ⟨i0, hi, hz0, hz1, hz2⟩ := info_parts hi
  have hs' : s.size ≤ 9223372036854775000 := by omega
  refine range_gives rfl (by omega) (gf := 98) (lb := #[.pointer (some ⟨b + 1, 0, none⟩), .pointer (some ⟨b, 0, none⟩), .pointer (some ⟨b + 2, 0, none⟩)]) rfl trivial (enters_of Tryd.func98 (by kernel_rfl) rfl)
    (split1_gives (9 - 1) (by omega) b s 32 _ ((x0.alloc _).alloc _) (x1.alloc _) x2 hs') (Below.refl _ _) (by have := HBB.out; simp; omega) (fun _ => rfl)
    (WI w A b) (WX w A) (WI_own (by have := HBB.out; simp; omega)) (WX_own (by have := HBB.out; simp; omega)) (WI_set hsz) ?start
    (fun x => { tmps := #[.string s, undef, .pointer (some ⟨A, 0, none⟩), .pointer (some ⟨A + 1, 0, none⟩), .pointer (some ⟨A + 1 + 1, 0, none⟩), .string x, .string s, .bool false, .string s, .string s,
      .func (.func 98) #[] #[.pointer (some ⟨b + 1, 0, none⟩), .pointer (some ⟨b, 0, none⟩), .pointer (some ⟨b + 2, 0, none⟩)], .string x, undef, undef, undef, undef, undef, undef, undef, undef], defers := [] }) ?assign ?body ?done ?stop
  case start =>
    exact ⟨⟨_, ((a2.alloc _).alloc _).alloc _, World.ownsRow_nil _ _ _ _⟩, ((a0.alloc _).alloc _).alloc _, ((a1.alloc _).alloc _).alloc _, rfl, ((B0.alloc (by have := HBB.out; omega) _).alloc (by have := HBB.out; simp; omega) _).alloc (by have := HBB.out; simp; omega) _, by have := HBB.out; simp; omega⟩
  case assign =>
    intro l x W K hK
    gi_wp2
    exact hK
  case body =>
    rintro lr pre x W ⟨⟨v, hv, hrow⟩, ha, he, hall, hB, hsz3⟩ hpre
    obtain ⟨k1, k2⟩ := HS.out pre x (by rw [HL.out]; exact hpre)
    have hw := fun W => word_any x W (by unfold maxLen; omega)
    have hd : 1 ≤ 9 - 1 - 1 := by omega
    have HALL := Lib.hid hall; clear hall
    have q0 := ha.cell
    have q1 := he.cell
    have q2 := hv.cell
    have f0 := ha.frozen
    have f1 := he.frozen
    have f2 := hv.frozen
    cases hword : wordB x.data.toList with
    | false =>
      rw [hword] at hw
      have HW := Lib.hid hw; clear hw
      have HWO := Lib.hid hword; clear hword
      gi_wp2_with (refine ⟨trivial, ?_⟩; gi_at_call 71; refine (CallsIn.inRound lr (callsIn_wide.2 (HW.out _))).mono ?_; rintro e w' ⟨rfl, rfl⟩)
      exact ⟨(KeepsOthers.setCell _ _ _).trans (KeepsOthers.setCell _ _ _), Boxed.other (ha.set _) (by omega), (Boxed.other he (by omega)).set _, by rw [List.all_append]; simp [HWO.out], (hB.setCell (p := ⟨A, 0, none⟩) (Nat.le_refl _) _).setCell (p := ⟨A + 1, 0, none⟩) (by show A ≤ A + 1; omega) _⟩
    | true =>
      rw [hword] at hw
      have HW := Lib.hid hw; clear hw
      have HWO := Lib.hid hword; clear hword
      gi_wp2_with (first
        | (refine ⟨trivial, ?_⟩; gi_at_call 71; refine (CallsIn.inRound lr (callsIn_wide.2 (HW.out _))).mono ?_; rintro e w' ⟨rfl, rfl⟩)
        | (gi_at_builtin; refine wpListIn_append_own _ rfl _ _ 51 rfl (b + 3) 9 i0 (.string ⟨#[]⟩) 1 16 Tryd.underlying51 hi hz0 hz1 hz2 rfl (by decide) _ _ _ rfl (hrow.alloc _) ⟨W.heap.size, 0, none⟩ 1 1 [.string x] rfl rfl (cell_one_new _ _ _) (by simp [Value.oneCell']) (by unfold maxLen; omega) (by omega) (by simp; omega) ?_; intro v' w1 hown' hgrow _; obtain ⟨g', cap', rfl⟩ := ownsRow_succ hown'; obtain ⟨r1, r2, r3, r4, r5, r6⟩ := appended3 (A := A) hv (by decide) hrow (by omega) (by omega) hsz3 hown' hgrow; have hc1 := r1.cell; have hf1 := r1.frozen))
      exact ⟨r4, ⟨r6 _ (by omega) (by omega), r6 _ (by omega) (by omega), r6 _ (by omega) (by omega)⟩, ⟨_, r2, by simpa using r3⟩, (r6 _ (by omega) (by omega)).trans ha, (r6 _ (by omega) (by omega)).trans he, by rw [List.all_append]; simp [HALL.out, HWO.out], hB.trans r5, Nat.le_trans hsz3 r5.size⟩
  case done =>
    rintro D W hD ⟨⟨v, hv, hrow⟩, ha, he, hall, hB, hsz3⟩ hK
    have HALL := Lib.hid hall; clear hall
    have hDb : b + 3 ≤ D := by have := HBB.out; simp at hD; omega
    clear hD
    obtain ⟨va, vcap, rfl⟩ := row_slice hrow
    simp only [List.length_map] at hv hrow
    have q0 := ha.cell
    have q1 := he.cell
    have q2 := hv.cell
    have f0 := ha.frozen
    have f1 := he.frozen
    have f2 := hv.frozen
    gi_wp2
    have hK' := ((KeepsOthers.setCell W ⟨A, 0, none⟩ (.slice va (pcs 32 [] s.data.toList).length vcap)).trans (KeepsOthers.setCell _ ⟨A + 1, 0, none⟩ (.int .i64 0))).same D _ hK rfl
    have c0 := cell_kept (Boxed.other (u := .int .i64 0) (D := A + 1) (ha.set (.slice va (pcs 32 [] s.data.toList).length vcap)) (by omega)).cell (grownBy_putObj' _ D (.deferred none)) (fun r e => by cases e; exact ⟨_, hK', rfl⟩)
    have c1 := cell_kept ((Boxed.other (u := .slice va (pcs 32 [] s.data.toList).length vcap) (D := A) he (by omega)).set (.int .i64 0)).cell (grownBy_putObj' _ D (.deferred none)) (fun r e => by cases e; exact ⟨_, hK', rfl⟩)
    have hrow' := ownsRow_putObj (((hrow.kept (grownBy_setCell' W A (.slice va (pcs 32 [] s.data.toList).length vcap)) (.inr (row_ne hrow (by omega)).symm))).kept (grownBy_setCell' _ (A + 1) (.int .i64 0)) (.inr (row_ne hrow (by omega)).symm)) (.deferred none) hK' rfl
    have hall := HALL.out
    rw [all_strOf] at hall
    have hnn : ¬ s.data.toList = [] := HNE.out
    have hP : wordsP s.data.toList = (pcs 32 [] s.data.toList).map strOf := by unfold wordsP; rw [if_neg hnn, if_pos hall]
    have hE : wordsE s.data.toList = 0 := by unfold wordsE; rw [if_neg hnn, if_pos hall]
    refine ⟨by simp, .inl ⟨_, _, rfl, run_takeDeferred hK', ?_⟩⟩
    refine ⟨.tuple #[.slice va (pcs 32 [] s.data.toList).length vcap, .int .i64 0], by simp [results, Tryd.f51, go_sem, c0, c1], ?_⟩
    rw [hP, hE]
    refine ⟨_, rfl, ?_, ?_⟩
    · simp only [List.length_map]
      exact row_lower hrow' (by have := HA.out; omega)
    · rw [← HA.out]
      exact ((hB.setCell (p := ⟨A, 0, none⟩) (Nat.le_refl _) _).setCell (p := ⟨A + 1, 0, none⟩) (by show A ≤ A + 1; omega) _).trans (belowK_b (n₀ := A) (w := w) (by have := HA.out; omega) _ D _ _ (by have := HA.out; omega) hK' rfl rfl)
  case stop =>
    rintro D pre W hD hpre ⟨ha, he, hall, hB⟩ hK
    have HALL := Lib.hid hall; clear hall
    have hDb : b + 3 ≤ D := by have := HBB.out; simp at hD; omega
    clear hD
    gi_wp2
    have c0 := cell_kept ha.cell (grownBy_putObj' _ D (.deferred none)) (fun r e => by cases e; exact ⟨_, hK, rfl⟩)
    have c1 := cell_kept he.cell (grownBy_putObj' _ D (.deferred none)) (fun r e => by cases e; exact ⟨_, hK, rfl⟩)
    have hall := all_prefix hpre HALL.out
    rw [all_strOf] at hall
    have hnn : ¬ s.data.toList = [] := HNE.out
    have hP : wordsP s.data.toList = [] := by unfold wordsP; rw [if_neg hnn, if_neg (by simp [hall])]
    have hE : wordsE s.data.toList = 21 := by unfold wordsE; rw [if_neg hnn, if_neg (by simp [hall])]
    refine ⟨by simp, .inl ⟨_, _, rfl, run_takeDeferred hK, ?_⟩⟩
    refine ⟨.tuple #[.slice none 0 0, .int .i64 21], by simp [results, Tryd.f51, go_sem, c0, c1], ?_⟩
    rw [HL.out, hP, hE]
    refine ⟨_, rfl, World.ownsRow_nil _ _ _ _, ?_⟩
    rw [← HA.out]
    exact hB.trans (belowK_b (n₀ := A) (w := w) (by have := HA.out; omega) W D _ _ (by have := HA.out; omega) hK rfl rfl)
end Deci
end Go.Proofs.YtmegapelibaanaaDoor
