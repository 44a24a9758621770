/- jitneyref03.Words, Lines, Whole, Same: the document's answers, byte by byte; over the translated program. -/
import Derived.Test.YtkggahoadeeajaaGreatDoorDeciRefRead
import Derived.Test.YtkggahoadeeajaaGreatDoorDeciWhole
namespace Go.Proofs.YtkggahoadeeajaaGreatDoor
namespace Deci
open Go Go.RowKit
theorem byte_is (b k : UInt8) : (k == b) = decide ((b.toNat : Int) = (k.toNat : Int)) := by
  rw [Bool.eq_iff_iff]
  simp only [beq_iff_eq, decide_eq_true_eq]
  exact ⟨fun h => by rw [h], fun h => UInt8.toNat_inj.1 (by omega)⟩
set_option maxHeartbeats 1000000 in
theorem refWhole_any (s : ByteArray) (w : World) (hs : s.size ≤ 4294967000) :
    Calls Tryz.prog 20 #[.string s] w fun e w' => e = .returned (.tuple #[.int .i64 (wholeV s.data.toList), .int .i64 (wholeE s.data.toList)]) ∧ w = w' := by
  have h3 := fun w => refRead_any s 0 w hs
  have hv : wholeV s.data.toList = if wholeBad s.data.toList then 0 else readV s.data.toList 0 := rfl
  have he : wholeE s.data.toList = if wholeBad s.data.toList then 21 else readE s.data.toList 0 := rfl
  have hsz : s.data.toList.length = s.size := by simp
  by_cases hz : s.size = 0
  · have e : s = ⟨#[]⟩ := by rw [← strOf_data s, List.eq_nil_of_length_eq_zero (by omega : s.data.toList.length = 0)]; rfl
    subst e
    have e1 : wholeV (ByteArray.mk #[]).data.toList = 0 := by decide +kernel
    have e2 : wholeE (ByteArray.mk #[]).data.toList = 21 := by decide +kernel
    rw [e1, e2]
    clear h3 hv he hsz e1 e2 hz
    go_enter Tryz.func20, Tryz.ntmps20
    go_wp2
    go_ret2
    exact ⟨rfl, rfl⟩
  · have hpos : 0 < s.size := by omega
    obtain ⟨b, t, hbt⟩ : ∃ b t, s.data.toList = b :: t := by
      cases h : s.data.toList with
      | nil => rw [h] at hsz; simp at hsz; omega
      | cons b t => exact ⟨b, t, rfl⟩
    have hb : s[0] = b := by
      have h1 : s.data.toList[0]? = some b := by rw [hbt]; rfl
      rw [List.getElem?_eq_getElem (by simpa using hpos)] at h1
      have h2 : s.data[0] = b := by simpa using h1
      exact h2
    have hne : s.toList.isEmpty = false := by rw [Lib.toList_data, hbt]; rfl
    have hne2 : ¬ s.toList = [] := by simpa using hne
    have hbad : wholeBad s.data.toList = (decide ((s[0].toNat : Int) = 45) || (decide (1 < s.size) && decide ((s[0].toNat : Int) = 48))) := by
      have hl : t.length + 1 = s.size := by rw [← hsz, hbt]; simp
      have q1 : (45 == b) = decide ((b.toNat : Int) = 45) := byte_is b 45
      have q2 : (48 == b) = decide ((b.toNat : Int) = 48) := byte_is b 48
      rw [hb, ← q1, ← q2, hbt]
      unfold wholeBad Lib.hasPrefix
      simp only [List.isPrefixOf, Bool.and_true]
      by_cases h48 : b = 48
      · subst h48
        have : ((48 : UInt8) :: t == [48]) = decide (t = []) := by
          rw [Bool.eq_iff_iff]; simp
        rw [this]
        have : (!decide (t = [])) = decide (1 < s.size) := by
          rw [← hl]; cases t <;> simp
        rw [this]; simp
      · have : (48 == b) = false := by simpa using fun e => h48 e.symm
        rw [this]; simp
    generalize wholeV s.data.toList = V at *
    generalize wholeE s.data.toList = E at *
    generalize wholeBad s.data.toList = B at *
    generalize readV s.data.toList 0 = RV at *
    generalize readE s.data.toList 0 = RE at *
    have H3 := Lib.hid h3; clear h3
    clear hbt hb hsz
    by_cases h45 : (s[0].toNat : Int) = 45
    · obtain rfl : B = true := by rw [hbad]; simp [h45]
      simp only [if_true] at hv he
      subst hv he
      clear hbad
      go_enter Tryz.func20, Tryz.ntmps20
      go_wp2_with (go_at_call 38; (with_reducible refine (H3.out _).mono ?_); rintro e w' ⟨rfl, rfl⟩)
      go_ret2
      exact ⟨rfl, rfl⟩
    · have hx1 : ((s[0].toNat : Int) == 45) = false := by simpa using h45
      by_cases h1 : 1 < s.size
      · by_cases h48 : (s[0].toNat : Int) = 48
        · obtain rfl : B = true := by rw [hbad]; simp [h48, h1]
          simp only [if_true] at hv he
          subst hv he
          clear hbad
          go_enter Tryz.func20, Tryz.ntmps20
          go_wp2_with (go_at_call 38; (with_reducible refine (H3.out _).mono ?_); rintro e w' ⟨rfl, rfl⟩)
          go_ret2
          exact ⟨rfl, rfl⟩
        · have hx2 : ((s[0].toNat : Int) == 48) = false := by simpa using h48
          obtain rfl : B = false := by rw [hbad]; simp [h48, h45]
          simp only [Bool.false_eq_true, if_false] at hv he
          subst hv he
          clear hbad
          go_enter Tryz.func20, Tryz.ntmps20
          go_wp2_with (go_at_call 38; (with_reducible refine (H3.out _).mono ?_); rintro e w' ⟨rfl, rfl⟩)
          go_ret2
          exact ⟨rfl, rfl⟩
      · obtain rfl : B = false := by rw [hbad]; simp [h45, h1]
        simp only [Bool.false_eq_true, if_false] at hv he
        subst hv he
        clear hbad
        go_enter Tryz.func20, Tryz.ntmps20
        go_wp2_with (go_at_call 38; (with_reducible refine (H3.out _).mono ?_); rintro e w' ⟨rfl, rfl⟩)
        go_ret2
        exact ⟨rfl, rfl⟩

theorem drop_cons (s : ByteArray) (k : Nat) (h : k < s.size) : s.data.toList.drop k = s[k] :: s.data.toList.drop (k + 1) := by
  rw [List.drop_eq_getElem_cons (by simpa using h)]; rfl
theorem piece_snoc (s : ByteArray) (f k : Nat) (h : k < s.size) (hf : f ≤ k) : (s.data.toList.take (k + 1)).drop f = (s.data.toList.take k).drop f ++ [s[k]] := by
  rw [take_snoc s k h, List.drop_append_of_le_length (by simp; omega)]
theorem piece_extract (s : ByteArray) (f k : Nat) : s.extract f k = strOf ((s.data.toList.take k).drop f) := by
  rw [← strOf_data (s.extract f k), extract_data', List.drop_take]
theorem below_append {w wr w1 : World} {B : Nat} {e : TypeId} {v : Value} {k : Nat} {xs : List Value} {tmp : Obj} (hB : Below B w wr) (hs : B ≤ wr.heap.size) (hrow : wr.ownsRow B e 1 v k xs) (hgrow : (wr.alloc tmp).grownBy w1 v.ownBlock) : Below B w w1 := by
  refine (hB.alloc hs tmp).grown hgrow (by simp; omega) fun j ej => ?_
  rcases Nat.lt_or_ge j B with h | h
  · exact absurd ej.symm (row_ne hrow h)
  · exact h
/-- What lines have been cut, and where the next one begins. -/
def LI (l : List UInt8) (f k : Nat) (out : List (List UInt8)) : Prop := f ≤ k ∧ k ≤ l.length ∧ pcs 10 [] l = out ++ pcs 10 ((l.take k).drop f) (l.drop k)
theorem LI.start (l : List UInt8) : LI l 0 0 [] := ⟨Nat.le_refl _, Nat.zero_le _, by simp⟩
set_option maxRecDepth 100000 in
set_option maxHeartbeats 2000000 in
theorem refLines_any (s : ByteArray) (w : World) (hs : s.size ≤ maxLen) :
    Calls Tryz.prog 18 #[.string s] w (Told w (linesP s.data.toList) (linesE s.data.toList)) := by
  unfold maxLen at hs
  have hsz : s.data.toList.length = s.size := by simp
  by_cases hlong : 1048576 < s.size
  · obtain ⟨h1, h2⟩ := lines_long (l := s.data.toList) (by omega)
    rw [h1, h2]
    clear h1 h2 hsz
    go_enter Tryz.func18, Tryz.ntmps18
    go_wp2
    go_ret2
    exact ⟨_, rfl, World.ownsRow_nil _ _ _ _, Below.refl _ _⟩
  · have hll : ¬ 1048576 < s.data.toList.length := by omega
    have hi := infoStr
    obtain ⟨i0, hi, hz0, hz1, hz2⟩ := info_parts hi
    obtain ⟨l, hl⟩ : ∃ l, l = s.data.toList := ⟨_, rfl⟩
    have hdc := fun k h => drop_cons s k h
    have hps := fun f k h hf => piece_snoc s f k h hf
    have hpe := fun f k => piece_extract s f k
    rw [← hl] at hsz hll hdc hps hpe
    rw [← hl]
    have hP : linesP l = if (pcs 10 [] l).getLast? = some [] then (pcs 10 [] l).dropLast.map strOf else [] := by unfold linesP; rw [if_neg hll]
    have hE : linesE l = if (pcs 10 [] l).getLast? = some [] then 0 else 20 := by unfold linesE; rw [if_neg hll]
    have HDC := Lib.hid hdc; clear hdc
    have HPS := Lib.hid hps; clear hps
    have HPE := Lib.hid hpe; clear hpe
    have HSZ := Lib.hid hsz; clear hsz
    have HP := Lib.hid hP; clear hP
    have HE := Lib.hid hE; clear hE hll hl
    have r0 : (w.alloc (.cells #[] 9)).ownsRow w.heap.size 9 1 (.slice (some ⟨w.heap.size, 0, none⟩) 0 0) 0 [] := row_new w [] (Nat.zero_le _)
    have b0 : Below w.heap.size w (w.alloc (.cells #[] 9)) := (Below.refl _ _).alloc (Nat.le_refl _) _
    have R0 := Lib.hid r0; clear r0
    have B0 := Lib.hid b0; clear b0
    go_enter Tryz.func18, Tryz.ntmps18
    go_wp2
    go_loopw [4, 5, 6] (fun o f i wr => ∃ (fr k : Nat) (out : List (List UInt8)), True ∧ f = .int .i64 fr ∧ i = .int .i64 k ∧ LI l fr k out ∧ wr.ownsRow w.heap.size 9 1 o out.length (out.map fun x => Value.string (strOf x)) ∧ out.length ≤ k ∧ Below w.heap.size w wr) (fun _ _ i _ => s.size - (intOf i).toNat)
    case atStart => exact ⟨0, 0, [], trivial, rfl, rfl, LI.start l, R0.out, Nat.le_refl _, B0.out⟩
    case round =>
      obtain ⟨fr, k, out, -, rfl, rfl, hLI, hrow, hok, hB⟩ := hrel
      obtain ⟨hf1, hf2, hf3⟩ := hLI
      have hks : k ≤ s.size := by rw [← HSZ.out]; exact hf2
      clear hf2
      have HF := Lib.hid hf3; clear hf3
      obtain ⟨va, vcap, rfl⟩ := row_slice hrow
      by_cases hlt : k < s.size
      · have hdc := HDC.out k hlt
        have hps := HPS.out fr k hlt hf1
        by_cases h10 : s[k] = 10
        · have hx : (s[k].toNat : Int) = 10 := by rw [h10]; rfl
          have hnew : pcs 10 [] l = (out ++ [(l.take k).drop fr]) ++ pcs 10 ((l.take (k + 1)).drop (k + 1)) (l.drop (k + 1)) := by
            rw [HF.out, hdc, h10, pcs_eq, List.drop_eq_nil_of_le (by rw [List.length_take]; omega : (l.take (k + 1)).length ≤ k + 1)]; simp
          have HN := Lib.hid hnew; clear hnew hdc hps h10
          have hcut := HPE.out fr k
          have HCUT := Lib.hid hcut; clear hcut
          have f1 : (fr : Int) ≤ (k : Int) := by omega
          have f2 : (k : Int) ≤ (s.size : Int) := by omega
          have hBs := hB.size
          have hoL : (out.map fun x => Value.string (strOf x)).length = out.length := by simp
          go_wp2_with (at_builtin; refine wpList_append_own _ rfl _ _ 49 rfl w.heap.size 9 i0 (.string ⟨#[]⟩) 1 16 Tryz.underlying49 hi hz0 hz1 hz2 rfl (by decide) _ _ _ rfl (hrow.alloc _) ⟨wr.heap.size, 0, none⟩ 1 1 [.string (s.extract fr k)] rfl rfl (cell_one_new _ _ _) (by simp [Value.oneCell']) (by unfold maxLen; omega) (by omega) (by simp; omega) ?_; intro v' w1 hown' hgrow _; obtain ⟨g', cap', rfl⟩ := ownsRow_succ hown')
          change (wr.alloc (.cells #[.string (s.extract fr k)] 9)).grownBy w1 (Value.slice va out.length vcap).ownBlock at hgrow
          have hB1 := below_append hB hBs hrow hgrow
          rw [HCUT.out] at hown'
          refine ⟨⟨k + 1, k + 1, out ++ [(l.take k).drop fr], trivial, by go_num, by go_num, ⟨Nat.le_refl _, by rw [HSZ.out]; omega, HN.out⟩, by simpa using hown', by simp; omega, hB1⟩, ?_⟩
          simp [intOf]; omega
        · have hx : ¬ (s[k].toNat : Int) = 10 := by
            intro e; apply h10; apply UInt8.toNat_inj.1
            have : s[k].toNat = 10 := by omega
            rw [this]; rfl
          have hnew : pcs 10 [] l = out ++ pcs 10 ((l.take (k + 1)).drop fr) (l.drop (k + 1)) := by
            rw [HF.out, hdc, pcs_ne h10, ← hps]
          have HN := Lib.hid hnew; clear hnew hdc hps h10
          go_wp2
          go_roundw
          case rel => exact ⟨fr, k + 1, out, trivial, rfl, by go_num, ⟨by omega, by rw [HSZ.out]; omega, HN.out⟩, hrow, by omega, hB⟩
          case measure => simp [intOf]; omega
      · obtain rfl : k = s.size := by omega
        have hend := HF.out
        rw [← HSZ.out, List.take_length, List.drop_length, pcs_nil] at hend
        have hP := HP.out
        have hE := HE.out
        rw [hend] at hP hE
        by_cases hfr : fr < s.size
        · have hne : l.drop fr ≠ [] := by
            intro h
            have := congrArg List.length h
            rw [List.length_drop, HSZ.out] at this
            simp at this; omega
          rw [if_neg (by simp [hne])] at hP hE
          have H1 := Lib.hid hP; clear hP
          have H2 := Lib.hid hE; clear hE hne hend
          go_wp2
          go_ret2
          rw [H1.out, H2.out]
          exact ⟨_, rfl, World.ownsRow_nil _ _ _ _, hB⟩
        · have hnil : l.drop fr = [] := List.drop_eq_nil_of_le (by rw [HSZ.out]; omega)
          rw [hnil] at hP hE
          rw [if_pos (by simp)] at hP hE
          rw [List.dropLast_concat] at hP
          have H1 := Lib.hid hP; clear hP
          have H2 := Lib.hid hE; clear hE hnil hend
          go_wp2
          go_ret2
          rw [H1.out, H2.out]
          exact ⟨_, rfl, by rw [List.map_map, List.length_map]; exact hrow, hB⟩

/-- What words have been cut, and where the next one begins. -/
structure WL (l : List UInt8) (f k : Nat) (out : List (List UInt8)) : Prop where
  fk : f ≤ k
  kl : k ≤ l.length
  cut : pcs 32 [] l = out ++ pcs 32 ((l.take k).drop f) (l.drop k)
  ok : out.all wordB = true
  cur : inB 33 126 ((l.take k).drop f) = true
theorem WL.start (l : List UInt8) : WL l 0 0 [] := ⟨Nat.le_refl _, Nat.zero_le _, by simp, rfl, rfl⟩
theorem pcs_bad : ∀ (l cur : List UInt8), inB 33 126 cur = false → (pcs 32 cur l).all wordB = false
  | [], cur, h => by simp [pcs, wordB, h]
  | b :: l, cur, h => by
    unfold pcs
    split
    · simp [wordB, h]
    · exact pcs_bad l (cur ++ [b]) (by rw [inB_append, h]; rfl)
theorem word_of {p : List UInt8} (h1 : p ≠ []) (h2 : inB 33 126 p = true) : wordB p = true := by
  unfold wordB; rw [h2]; cases p <;> simp_all
set_option maxRecDepth 100000 in
set_option maxHeartbeats 4000000 in
theorem refWords_any (s : ByteArray) (w : World) (hs : s.size ≤ 4294967000) :
    Calls Tryz.prog 37 #[.string s] w (Told w (wordsP s.data.toList) (wordsE s.data.toList)) := by
  have hsz : s.data.toList.length = s.size := by simp
  have r0 : (w.alloc (.cells #[] 9)).ownsRow w.heap.size 9 1 (.slice (some ⟨w.heap.size, 0, none⟩) 0 0) 0 [] := row_new w [] (Nat.zero_le _)
  have b0 : Below w.heap.size w (w.alloc (.cells #[] 9)) := (Below.refl _ _).alloc (Nat.le_refl _) _
  have R0 := Lib.hid r0; clear r0
  have B0 := Lib.hid b0; clear b0
  by_cases hz : s.size = 0
  · have e : s = ⟨#[]⟩ := by rw [← strOf_data s, List.eq_nil_of_length_eq_zero (by omega : s.data.toList.length = 0)]; rfl
    subst e
    clear hz hsz hs
    go_enter Tryz.func37, Tryz.ntmps37
    go_wp2
    go_ret2
    exact ⟨_, rfl, R0.out, B0.out⟩
  · have hnn : s.data.toList ≠ [] := by
      intro h
      rw [h] at hsz; simp at hsz; omega
    have hne : s.toList.isEmpty = false := by rw [Lib.toList_data]; simpa using hnn
    have hne2 : ¬ s.toList = [] := by simpa using hne
    have hi := infoStr
    obtain ⟨i0, hi, hz0, hz1, hz2⟩ := info_parts hi
    obtain ⟨l, hl⟩ : ∃ l, l = s.data.toList := ⟨_, rfl⟩
    have hdc := fun k h => drop_cons s k h
    have hps := fun f k h hf => piece_snoc s f k h hf
    have hpe := fun f k => piece_extract s f k
    rw [← hl] at hsz hnn hdc hps hpe
    rw [← hl]
    have hP : wordsP l = if (pcs 32 [] l).all wordB then (pcs 32 [] l).map strOf else [] := by unfold wordsP; rw [if_neg hnn]
    have hE : wordsE l = if (pcs 32 [] l).all wordB then 0 else 21 := by unfold wordsE; rw [if_neg hnn]
    have HDC := Lib.hid hdc; clear hdc
    have HPS := Lib.hid hps; clear hps
    have HPE := Lib.hid hpe; clear hpe
    have HSZ := Lib.hid hsz; clear hsz
    have HP := Lib.hid hP; clear hP
    have HE := Lib.hid hE; clear hE hl hnn hz
    go_enter Tryz.func37, Tryz.ntmps37
    go_wp2
    clear hne hne2
    go_loopw [4, 5, 6] (fun o f i wr => ∃ (fr k : Nat) (out : List (List UInt8)), (k ≤ s.size ∧ WL l fr k out ∨ k = s.size + 1 ∧ pcs 32 [] l = out ∧ out.all wordB = true) ∧ f = .int .i64 fr ∧ i = .int .i64 k ∧ wr.ownsRow w.heap.size 9 1 o out.length (out.map fun x => Value.string (strOf x)) ∧ out.length ≤ k ∧ Below w.heap.size w wr) (fun _ _ i _ => s.size + 1 - (intOf i).toNat)
    case atStart => exact ⟨0, 0, [], .inl ⟨Nat.zero_le _, WL.start l⟩, rfl, rfl, R0.out, Nat.le_refl _, B0.out⟩
    case round =>
      obtain ⟨fr, k, out, hWL, rfl, rfl, hrow, hok, hB⟩ := hrel
      obtain ⟨va, vcap, rfl⟩ := row_slice hrow
      rcases hWL with ⟨hks, hWL⟩ | ⟨rfl, hcut, hall⟩
      · have HW := Lib.hid hWL; clear hWL
        have hfk := HW.out.fk
        have hbad : inB 33 126 ((l.take (k + 1)).drop fr) = false → pcs 32 [] l = out ++ pcs 32 ((l.take (k + 1)).drop fr) (l.drop (k + 1)) → wordsP l = [] ∧ wordsE l = 21 := fun h1 h2 => by
          have h3 : (pcs 32 [] l).all wordB = false := by rw [h2, List.all_append, pcs_bad _ _ h1]; simp
          exact ⟨by rw [HP.out, if_neg (by simp [h3])], by rw [HE.out, if_neg (by simp [h3])]⟩
        have HBAD := Lib.hid hbad; clear hbad
        have hempty : fr = k → (∀ r, pcs 32 [] l ≠ out ++ [] :: r) ∨ (wordsP l = [] ∧ wordsE l = 21) := fun _ => by
          by_cases h : ∃ r, pcs 32 [] l = out ++ [] :: r
          · obtain ⟨r, hr⟩ := h
            have h3 : (pcs 32 [] l).all wordB = false := by rw [hr, List.all_append]; simp [wordB]
            exact .inr ⟨by rw [HP.out, if_neg (by simp [h3])], by rw [HE.out, if_neg (by simp [h3])]⟩
          · exact .inl fun r hr => h ⟨r, hr⟩
        have HEMP := Lib.hid hempty; clear hempty
        by_cases hlt : k < s.size
        · have hdc := HDC.out k hlt
          have hps := HPS.out fr k hlt hfk
          have x0 : (0 : Int) ≤ (s[k].toNat : Int) := by omega
          by_cases h32 : s[k] = 32
          · have hx : (s[k].toNat : Int) = 32 := by rw [h32]; rfl
            have hnew : pcs 32 [] l = out ++ ((l.take k).drop fr) :: pcs 32 [] (l.drop (k + 1)) := by
              rw [HW.out.cut, hdc, h32, pcs_eq]
            by_cases hfe : fr = k
            · have hnil : (l.take k).drop fr = [] := List.drop_eq_nil_of_le (by rw [List.length_take]; omega)
              rw [hnil] at hnew
              have hee : wordsP l = [] ∧ wordsE l = 21 := (HEMP.out hfe).resolve_left fun h => h _ hnew
              have HEE := Lib.hid hee; clear hee hnew hnil hdc hps h32
              have hfe' : (k : Int) = (fr : Int) := by omega
              go_wp2
              go_ret2
              rw [HEE.out.1, HEE.out.2]
              exact ⟨_, rfl, World.ownsRow_nil _ _ _ _, hB⟩
            · have hpn : (l.take k).drop fr ≠ [] := by
                intro h
                have := congrArg List.length h
                rw [List.length_drop, List.length_take, HSZ.out] at this
                simp at this; omega
              have hw1 : wordB ((l.take k).drop fr) = true := word_of hpn HW.out.cur
              have hcur0 : (l.take (k + 1)).drop (k + 1) = [] := List.drop_eq_nil_of_le (by rw [List.length_take]; omega)
              have hWn : WL l (k + 1) (k + 1) (out ++ [(l.take k).drop fr]) := ⟨Nat.le_refl _, by rw [HSZ.out]; omega, by rw [hcur0, hnew]; simp, by rw [List.all_append, HW.out.ok]; simp [hw1], by rw [hcur0]; rfl⟩
              have HWN := Lib.hid hWn; clear hWn hcur0 hw1 hpn hnew hdc hps h32
              have hfe' : ¬ (k : Int) = (fr : Int) := by omega
              have hfe2 : ((k : Int) == (fr : Int)) = false := by simpa using hfe'
              have HCUT := Lib.hid (HPE.out fr k)
              have f1 : (fr : Int) ≤ (k : Int) := by omega
              have f2 : (k : Int) ≤ (s.size : Int) := by omega
              have hBs := hB.size
              go_wp2_with (at_builtin; refine wpList_append_own _ rfl _ _ 49 rfl w.heap.size 9 i0 (.string ⟨#[]⟩) 1 16 Tryz.underlying49 hi hz0 hz1 hz2 rfl (by decide) _ _ _ rfl (hrow.alloc _) ⟨wr.heap.size, 0, none⟩ 1 1 [.string (s.extract fr k)] rfl rfl (cell_one_new _ _ _) (by simp [Value.oneCell']) (by unfold maxLen; omega) (by omega) (by simp; omega) ?_; intro v' w1 hown' hgrow _; obtain ⟨g', cap', rfl⟩ := ownsRow_succ hown')
              change (wr.alloc (.cells #[.string (s.extract fr k)] 9)).grownBy w1 (Value.slice va out.length vcap).ownBlock at hgrow
              have hB1 := below_append hB hBs hrow hgrow
              rw [HCUT.out] at hown'
              refine ⟨⟨k + 1, k + 1, out ++ [(l.take k).drop fr], .inl ⟨by omega, HWN.out⟩, by go_num, by go_num, by simpa using hown', by simp; omega, hB1⟩, ?_⟩
              simp [intOf]; omega
          · have hx : ¬ (s[k].toNat : Int) = 32 := by
              intro e; apply h32; apply UInt8.toNat_inj.1
              have : s[k].toNat = 32 := by omega
              rw [this]; rfl
            have hx2 : ((s[k].toNat : Int) == 32) = false := by simpa using hx
            have hnew : pcs 32 [] l = out ++ pcs 32 ((l.take (k + 1)).drop fr) (l.drop (k + 1)) := by
              rw [HW.out.cut, hdc, pcs_ne h32, ← hps]
            by_cases hd : (s[k].toNat : Int) < 33 ∨ 126 < (s[k].toNat : Int)
            · have hb : inB 33 126 ((l.take (k + 1)).drop fr) = false := by
                rw [hps]; exact inB_cons_bad _ [] hd
              have hee := HBAD.out hb hnew
              have HEE := Lib.hid hee; clear hee hnew hb hdc hps h32
              rcases hd with hd | hd
              · go_wp2
                go_ret2
                rw [HEE.out.1, HEE.out.2]
                exact ⟨_, rfl, World.ownsRow_nil _ _ _ _, hB⟩
              · have hd' : ¬ (s[k].toNat : Int) < 33 := by omega
                go_wp2
                go_ret2
                rw [HEE.out.1, HEE.out.2]
                exact ⟨_, rfl, World.ownsRow_nil _ _ _ _, hB⟩
            · have hd1 : ¬ (s[k].toNat : Int) < 33 := by omega
              have hd2 : ¬ 126 < (s[k].toNat : Int) := by omega
              have hWn : WL l fr (k + 1) out := ⟨by omega, by rw [HSZ.out]; omega, hnew, HW.out.ok, by rw [hps, inB_snoc, HW.out.cur]; simp; omega⟩
              have HWN := Lib.hid hWn; clear hWn hnew hdc hps h32 hd
              go_wp2
              go_roundw
              case rel => exact ⟨fr, k + 1, out, .inl ⟨by omega, HWN.out⟩, rfl, by go_num, hrow, by omega, hB⟩
              case measure => simp [intOf]; omega
        · obtain rfl : k = s.size := by omega
          have hend : pcs 32 [] l = out ++ [(l.take s.size).drop fr] := by
            rw [HW.out.cut, List.drop_eq_nil_of_le (by rw [HSZ.out]; exact Nat.le_refl _ : l.length ≤ s.size), pcs_nil]
          by_cases hfe : fr = s.size
          · have hnil : (l.take s.size).drop fr = [] := List.drop_eq_nil_of_le (by rw [List.length_take]; omega)
            rw [hnil] at hend
            have hee : wordsP l = [] ∧ wordsE l = 21 := (HEMP.out hfe).resolve_left fun h => h [] hend
            have HEE := Lib.hid hee; clear hee hend hnil
            have hfe' : (s.size : Int) = (fr : Int) := by omega
            go_wp2
            go_ret2
            rw [HEE.out.1, HEE.out.2]
            exact ⟨_, rfl, World.ownsRow_nil _ _ _ _, hB⟩
          · have hpn : (l.take s.size).drop fr ≠ [] := by
              intro h
              have := congrArg List.length h
              rw [List.length_drop, List.length_take, HSZ.out] at this
              simp at this; omega
            have hw1 : wordB ((l.take s.size).drop fr) = true := word_of hpn HW.out.cur
            have hall : (out ++ [(l.take s.size).drop fr]).all wordB = true := by rw [List.all_append, HW.out.ok]; simp [hw1]
            have HALL := Lib.hid hall; clear hall hw1 hpn
            have HEND := Lib.hid hend; clear hend
            have hfe' : ¬ (s.size : Int) = (fr : Int) := by omega
            have hfe2 : ((s.size : Int) == (fr : Int)) = false := by simpa using hfe'
            have HCUT := Lib.hid (HPE.out fr s.size)
            have f1 : (fr : Int) ≤ (s.size : Int) := by omega
            have f2 : (s.size : Int) ≤ (s.size : Int) := by omega
            have hBs := hB.size
            go_wp2_with (at_builtin; refine wpList_append_own _ rfl _ _ 49 rfl w.heap.size 9 i0 (.string ⟨#[]⟩) 1 16 Tryz.underlying49 hi hz0 hz1 hz2 rfl (by decide) _ _ _ rfl (hrow.alloc _) ⟨wr.heap.size, 0, none⟩ 1 1 [.string (s.extract fr s.size)] rfl rfl (cell_one_new _ _ _) (by simp [Value.oneCell']) (by unfold maxLen; omega) (by omega) (by simp; omega) ?_; intro v' w1 hown' hgrow _; obtain ⟨g', cap', rfl⟩ := ownsRow_succ hown')
            change (wr.alloc (.cells #[.string (s.extract fr s.size)] 9)).grownBy w1 (Value.slice va out.length vcap).ownBlock at hgrow
            have hB1 := below_append hB hBs hrow hgrow
            rw [HCUT.out] at hown'
            refine ⟨⟨s.size + 1, s.size + 1, out ++ [(l.take s.size).drop fr], .inr ⟨rfl, HEND.out, HALL.out⟩, by go_num, by go_num, by simpa using hown', by simp; omega, hB1⟩, ?_⟩
            simp [intOf]
      · have hee : wordsP l = out.map strOf ∧ wordsE l = 0 := ⟨by rw [HP.out, hcut, if_pos hall], by rw [HE.out, hcut, if_pos hall]⟩
        have HEE := Lib.hid hee; clear hee hcut hall
        have hgt : ¬ (((s.size + 1 : Nat) : Int) ≤ (s.size : Int)) := by omega
        go_wp2
        go_ret2
        rw [HEE.out.1, HEE.out.2]
        exact ⟨_, rfl, by rw [List.map_map, List.length_map]; exact hrow, hB⟩
end Deci
end Go.Proofs.YtkggahoadeeajaaGreatDoor
