/- Package file's writeLine, write, Print; over the translated program. -/
import Derived.Test.YtkggahoadeeajaaGreatDoorFilBld
import Derived.Test.YtkggahoadeeajaaGreatDoorFilCheck
namespace Go.Proofs.YtkggahoadeeajaaGreatDoor
namespace Fil
open Go Go.RowKit Deci
set_option linter.unusedVariables false
/-- A blank and a number each; a line. -/
def numsT (xs : List Int) : List UInt8 := xs.flatMap fun x => 32 :: writeV x 0
def lineT (name : ByteArray) (xs : List Int) : List UInt8 := name.data.toList ++ (numsT xs ++ [10])
theorem numsT_len {xs : List Int} (h : ∀ x ∈ xs, (writeV x 0).length ≤ 100) : (numsT xs).length ≤ xs.length * 101 := by
  unfold numsT
  induction xs with
  | nil => simp
  | cons x xs ih =>
    have h1 := ih fun y hy => h y (List.mem_cons_of_mem _ hy)
    have h2 := h x (List.mem_cons_self ..)
    simp only [List.flatMap_cons, List.length_append, List.length_cons] at *
    omega
theorem numsT_snoc (xs : List Int) (x : Int) : numsT (xs ++ [x]) = numsT xs ++ 32 :: writeV x 0 := by unfold numsT; simp
theorem Pg.refl {B b : Nat} {l : List UInt8} {w : World} (h : IsPage B b l w) : Pg B b l w w := ⟨h, Below.refl _ _, Lib.OthersKept.refl _ _ _⟩
theorem kept_below {b : Nat} {w w' : World} (h : Below w.heap.size w w') : Lib.OthersKept 5 (some b) w w' := fun k _ hk _ _ => (h.block k (Array.getElem?_eq_some_iff.1 hk).1).trans hk
theorem Pg.below {B b : Nat} {l : List UInt8} {w w1 w2 : World} (h : Pg B b l w w1) (hb : Below w1.heap.size w1 w2) (hB : B ≤ w1.heap.size) : Pg B b l w w2 :=
  ⟨h.1.below hb, h.2.1.trans (hb.mono hB), h.2.2.trans (kept_below hb)⟩
set_option maxHeartbeats 2000000 in
set_option maxRecDepth 100000 in
theorem writeLine_int (B b : Nat) (l : List UInt8) (name : ByteArray) (u : Value) (xs : List Int) (w : World) (h : IsPage B b l w) (hE : EnvAt B w) (hBw : B ≤ w.heap.size)
    (hr : ∀ w', Below B w w' → Lib.OthersKept 5 (some b) w w' → IsRow w' u xs) (hx : ∀ x ∈ xs, (-9223372036854775808 ≤ x ∧ x ≤ 9223372036854775807) ∧ (writeV x 0).length ≤ 100) (hn : xs.length ≤ 10000) (hname : name.size ≤ 10) (hlen : l.length ≤ 800000000) :
    Calls Tryz.prog 47 #[.pointer (some ⟨b, 0, none⟩), .string name, u] w fun e w' => e = .returned (.tuple #[]) ∧ Pg B b (l ++ lineT name xs) w w' := by
  have hc0 := writeString_any B b l name w h (by omega) hBw
  obtain ⟨ua, uc, rfl, hat0⟩ := row_at (hr w (Below.refl _ _) (Lib.OthersKept.refl _ _ _))
  have hat : ∀ w', Below B w w' → Lib.OthersKept 5 (some b) w w' → ∀ k, k < xs.length → ∃ g o, ua = some ⟨g, o, none⟩ ∧ w'.cell? ⟨g, o + k, none⟩ = some (.int .i64 (xs.getD k 0)) := fun w' h1 h2 k hk => by
    obtain ⟨ua', uc', he, hat⟩ := row_at (hr w' h1 h2)
    obtain ⟨rfl, -, rfl⟩ : ua = ua' ∧ True ∧ uc = uc' := by simpa using he
    obtain ⟨g, o, e1, e2, e3⟩ := hat k hk
    exact ⟨g, o, e1, e3⟩
  have hst : ∀ k, k < xs.length → l ++ name.data.toList ++ numsT (xs.take (k + 1)) = l ++ name.data.toList ++ numsT (xs.take k) ++ 32 :: writeV (xs.getD k 0) 0 := fun k hk => by
    rw [List.take_succ_eq_append_getElem hk, numsT_snoc, show xs.getD k 0 = xs[k] by simp [hk]]
    simp only [List.append_assoc]
  have hxk : ∀ k, k < xs.length → (-9223372036854775808 ≤ xs.getD k 0 ∧ xs.getD k 0 ≤ 9223372036854775807) ∧ (writeV (xs.getD k 0) 0).length ≤ 100 := fun k hk => list_at hx hk
  have hln : ∀ k, k ≤ xs.length → (numsT (xs.take k)).length ≤ 1010000 := fun k hk => by
    have := numsT_len (xs := xs.take k) (fun x hm => (hx x (List.mem_of_mem_take hm)).2)
    rw [List.length_take] at this; omega
  have hns : (name.data.toList).length = name.size := by simp
  have hfin : l ++ name.data.toList ++ numsT (xs.take xs.length) ++ [10] = l ++ lineT name xs := by unfold lineT; rw [List.take_length]; simp only [List.append_assoc]
  have hstart : l ++ name.data.toList = l ++ name.data.toList ++ numsT (xs.take 0) := by simp [numsT]
  unfold lineT at *
  obtain ⟨m, hm⟩ : ∃ m, m = xs.length := ⟨_, rfl⟩
  rw [← hm] at hat hst hxk hln hfin hn ⊢
  rw [hstart] at hc0
  generalize hF : l ++ (name.data.toList ++ (numsT xs ++ [10])) = F at *
  clear hF
  have HN := Lib.hid hns; clear hns
  have H0 := Lib.hid hc0; clear hc0
  have HAT := Lib.hid hat; clear hat hat0
  have HST := Lib.hid hst; clear hst
  have HXK := Lib.hid hxk; clear hxk
  have HLN := Lib.hid hln; clear hln
  have HFIN := Lib.hid hfin; clear hfin
  have HEV := Lib.hid hE; clear hE
  have HPL : Hid (∀ k, k ≤ m → (l ++ name.data.toList ++ numsT (xs.take k)).length ≤ 810000000) := Lib.hid fun k hk => by
    have := HLN.out k hk
    simp only [List.length_append]
    rw [HN.out]; omega
  generalize hpre : l ++ name.data.toList = pre at *
  clear hr hx hm h hstart hpre
  go_enter Tryz.func47, Tryz.ntmps47
  go_wp2_with fail
  refine H0.out.mono ?_
  rintro e w1 ⟨rfl, hp1⟩
  have HP1 := Lib.hid hp1; clear hp1
  go_wp2_with fail
  go_loopw [13] (fun i wr => ∃ k : Nat, k ≤ m ∧ i = .int .i64 k ∧ Hid (Pg B b (pre ++ numsT (xs.take k)) w wr)) (fun i _ => m - (intOf i).toNat)
  case atStart => exact ⟨0, Nat.zero_le _, rfl, HP1⟩
  case round =>
    obtain ⟨k, hk, rfl, HP⟩ := hrel
    have hBr : B ≤ wr.heap.size := by have := HP.out.2.1.size; omega
    by_cases hlt : k < m
    · obtain ⟨g, o, rfl, hcell⟩ := HAT.out wr HP.out.2.1 HP.out.2.2 k hlt
      obtain ⟨⟨m1, m2⟩, ht⟩ := HXK.out k hlt
      have hpl := HPL.out k hk
      have hst := HST.out k hlt
      have hw := fun W (hW : Below B w W) => write_any (xs.getD k 0) 0 W (HEV.out.below hW).env m1 m2
      have hz : (strOf (writeV (xs.getD k 0) 0)).size ≤ 100 := ht
      have hcc := writeByte_any B b (pre ++ numsT (xs.take k)) 32 wr HP.out.1 (by omega) hBr
      rw [show writeV (xs.getD k 0) 0 = (strOf (writeV (xs.getD k 0) 0)).data.toList from rfl] at hst
      generalize strOf (writeV (xs.getD k 0) 0) = t at *
      generalize xs.getD k 0 = z at *
      have HW := Lib.hid hw; clear hw
      have HCC := Lib.hid hcc; clear hcc
      have HS := Lib.hid hst; clear hst
      have i0 : (k : Int) < (m : Int) := by omega
      clear ht
      go_wp2_with fail
      refine HCC.out.mono ?_
      rintro e w2 ⟨rfl, hp2⟩
      have HP2 := Lib.hid (HP.out.trans hp2); clear hp2 hcell HCC
      go_wp2_with fail
      refine (HW.out _ HP2.out.2.1).mono ?_
      rintro e w3 ⟨rfl, hb3⟩
      have hp3 := HP2.out.below hb3 (by have := HP2.out.2.1.size; omega)
      have hc3 := writeString_any B b _ t w3 hp3.1 (by rw [List.length_append, show ([32] : List UInt8).length = 1 from rfl]; omega) (by have := hp3.2.1.size; omega)
      rw [List.append_assoc, List.singleton_append, ← HS.out] at hc3
      have HC3 := Lib.hid hc3; clear hc3 hb3
      have HP3 := Lib.hid hp3; clear hp3
      go_wp2_with fail
      refine HC3.out.mono ?_
      rintro e w4 ⟨rfl, hp4⟩
      have HP4 := Lib.hid (HP3.out.trans hp4); clear hp4
      go_wp2_with fail
      go_roundw
      case rel => exact ⟨k + 1, by omega, by go_num, HP4⟩
      case measure => simp [intOf]; omega
    · obtain rfl : k = m := by omega
      have hcc := writeByte_any B b (pre ++ numsT (xs.take k)) 10 wr HP.out.1 (by have := HPL.out k hk; omega) hBr
      rw [HFIN.out] at hcc
      have HCC := Lib.hid hcc; clear hcc
      go_wp2_with fail
      refine HCC.out.mono ?_
      rintro e w2 ⟨rfl, hp2⟩
      have HP2 := Lib.hid (HP.out.trans hp2); clear hp2
      go_wp2_with fail
      go_end0
      exact ⟨rfl, HP2.out⟩
set_option maxHeartbeats 2000000 in
set_option maxRecDepth 100000 in
theorem writeLine_long (B b : Nat) (l : List UInt8) (name : ByteArray) (u : Value) (xs : List Int) (w : World) (h : IsPage B b l w) (hE : EnvAt B w) (hBw : B ≤ w.heap.size)
    (hr : ∀ w', Below B w w' → Lib.OthersKept 5 (some b) w w' → IsRow w' u xs) (hx : ∀ x ∈ xs, (-9223372036854775808 ≤ x ∧ x ≤ 9223372036854775807) ∧ (writeV x 0).length ≤ 100) (hn : xs.length ≤ 10000) (hname : name.size ≤ 10) (hlen : l.length ≤ 800000000) :
    Calls Tryz.prog 46 #[.pointer (some ⟨b, 0, none⟩), .string name, u] w fun e w' => e = .returned (.tuple #[]) ∧ Pg B b (l ++ lineT name xs) w w' := by
  have hc0 := writeString_any B b l name w h (by omega) hBw
  obtain ⟨ua, uc, rfl, hat0⟩ := row_at (hr w (Below.refl _ _) (Lib.OthersKept.refl _ _ _))
  have hat : ∀ w', Below B w w' → Lib.OthersKept 5 (some b) w w' → ∀ k, k < xs.length → ∃ g o, ua = some ⟨g, o, none⟩ ∧ w'.cell? ⟨g, o + k, none⟩ = some (.int .i64 (xs.getD k 0)) := fun w' h1 h2 k hk => by
    obtain ⟨ua', uc', he, hat⟩ := row_at (hr w' h1 h2)
    obtain ⟨rfl, -, rfl⟩ : ua = ua' ∧ True ∧ uc = uc' := by simpa using he
    obtain ⟨g, o, e1, e2, e3⟩ := hat k hk
    exact ⟨g, o, e1, e3⟩
  have hst : ∀ k, k < xs.length → l ++ name.data.toList ++ numsT (xs.take (k + 1)) = l ++ name.data.toList ++ numsT (xs.take k) ++ 32 :: writeV (xs.getD k 0) 0 := fun k hk => by
    rw [List.take_succ_eq_append_getElem hk, numsT_snoc, show xs.getD k 0 = xs[k] by simp [hk]]
    simp only [List.append_assoc]
  have hxk : ∀ k, k < xs.length → (-9223372036854775808 ≤ xs.getD k 0 ∧ xs.getD k 0 ≤ 9223372036854775807) ∧ (writeV (xs.getD k 0) 0).length ≤ 100 := fun k hk => list_at hx hk
  have hln : ∀ k, k ≤ xs.length → (numsT (xs.take k)).length ≤ 1010000 := fun k hk => by
    have := numsT_len (xs := xs.take k) (fun x hm => (hx x (List.mem_of_mem_take hm)).2)
    rw [List.length_take] at this; omega
  have hns : (name.data.toList).length = name.size := by simp
  have hfin : l ++ name.data.toList ++ numsT (xs.take xs.length) ++ [10] = l ++ lineT name xs := by unfold lineT; rw [List.take_length]; simp only [List.append_assoc]
  have hstart : l ++ name.data.toList = l ++ name.data.toList ++ numsT (xs.take 0) := by simp [numsT]
  unfold lineT at *
  obtain ⟨m, hm⟩ : ∃ m, m = xs.length := ⟨_, rfl⟩
  rw [← hm] at hat hst hxk hln hfin hn ⊢
  rw [hstart] at hc0
  generalize hF : l ++ (name.data.toList ++ (numsT xs ++ [10])) = F at *
  clear hF
  have HN := Lib.hid hns; clear hns
  have H0 := Lib.hid hc0; clear hc0
  have HAT := Lib.hid hat; clear hat hat0
  have HST := Lib.hid hst; clear hst
  have HXK := Lib.hid hxk; clear hxk
  have HLN := Lib.hid hln; clear hln
  have HFIN := Lib.hid hfin; clear hfin
  have HEV := Lib.hid hE; clear hE
  have HPL : Hid (∀ k, k ≤ m → (l ++ name.data.toList ++ numsT (xs.take k)).length ≤ 810000000) := Lib.hid fun k hk => by
    have := HLN.out k hk
    simp only [List.length_append]
    rw [HN.out]; omega
  generalize hpre : l ++ name.data.toList = pre at *
  clear hr hx hm h hstart hpre
  go_enter Tryz.func46, Tryz.ntmps46
  go_wp2_with fail
  refine H0.out.mono ?_
  rintro e w1 ⟨rfl, hp1⟩
  have HP1 := Lib.hid hp1; clear hp1
  go_wp2_with fail
  go_loopw [13] (fun i wr => ∃ k : Nat, k ≤ m ∧ i = .int .i64 k ∧ Hid (Pg B b (pre ++ numsT (xs.take k)) w wr)) (fun i _ => m - (intOf i).toNat)
  case atStart => exact ⟨0, Nat.zero_le _, rfl, HP1⟩
  case round =>
    obtain ⟨k, hk, rfl, HP⟩ := hrel
    have hBr : B ≤ wr.heap.size := by have := HP.out.2.1.size; omega
    by_cases hlt : k < m
    · obtain ⟨g, o, rfl, hcell⟩ := HAT.out wr HP.out.2.1 HP.out.2.2 k hlt
      obtain ⟨⟨m1, m2⟩, ht⟩ := HXK.out k hlt
      have hpl := HPL.out k hk
      have hst := HST.out k hlt
      have hw := fun W (hW : Below B w W) => write_any (xs.getD k 0) 0 W (HEV.out.below hW).env m1 m2
      have hz : (strOf (writeV (xs.getD k 0) 0)).size ≤ 100 := ht
      have hcc := writeByte_any B b (pre ++ numsT (xs.take k)) 32 wr HP.out.1 (by omega) hBr
      rw [show writeV (xs.getD k 0) 0 = (strOf (writeV (xs.getD k 0) 0)).data.toList from rfl] at hst
      generalize strOf (writeV (xs.getD k 0) 0) = t at *
      generalize xs.getD k 0 = z at *
      have HW := Lib.hid hw; clear hw
      have HCC := Lib.hid hcc; clear hcc
      have HS := Lib.hid hst; clear hst
      have i0 : (k : Int) < (m : Int) := by omega
      clear ht
      go_wp2_with fail
      refine HCC.out.mono ?_
      rintro e w2 ⟨rfl, hp2⟩
      have HP2 := Lib.hid (HP.out.trans hp2); clear hp2 hcell HCC
      go_wp2_with fail
      refine (HW.out _ HP2.out.2.1).mono ?_
      rintro e w3 ⟨rfl, hb3⟩
      have hp3 := HP2.out.below hb3 (by have := HP2.out.2.1.size; omega)
      have hc3 := writeString_any B b _ t w3 hp3.1 (by rw [List.length_append, show ([32] : List UInt8).length = 1 from rfl]; omega) (by have := hp3.2.1.size; omega)
      rw [List.append_assoc, List.singleton_append, ← HS.out] at hc3
      have HC3 := Lib.hid hc3; clear hc3 hb3
      have HP3 := Lib.hid hp3; clear hp3
      go_wp2_with fail
      refine HC3.out.mono ?_
      rintro e w4 ⟨rfl, hp4⟩
      have HP4 := Lib.hid (HP3.out.trans hp4); clear hp4
      go_wp2_with fail
      go_roundw
      case rel => exact ⟨k + 1, by omega, by go_num, HP4⟩
      case measure => simp [intOf]; omega
    · obtain rfl : k = m := by omega
      have hcc := writeByte_any B b (pre ++ numsT (xs.take k)) 10 wr HP.out.1 (by have := HPL.out k hk; omega) hBr
      rw [HFIN.out] at hcc
      have HCC := Lib.hid hcc; clear hcc
      go_wp2_with fail
      refine HCC.out.mono ?_
      rintro e w2 ⟨rfl, hp2⟩
      have HP2 := Lib.hid (HP.out.trans hp2); clear hp2
      go_wp2_with fail
      go_end0
      exact ⟨rfl, HP2.out⟩
end Fil
end Go.Proofs.YtkggahoadeeajaaGreatDoor
