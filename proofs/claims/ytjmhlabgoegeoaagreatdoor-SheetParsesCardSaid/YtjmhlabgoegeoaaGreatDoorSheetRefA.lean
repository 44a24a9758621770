/- jitneyref06's small functions: words, small, spotOf: the same answers; over the translated program. -/
import Derived.Test.YtjmhlabgoegeoaaGreatDoorSheetOpen
import Derived.Test.YtjmhlabgoegeoaaGreatDoorDeciRefWords
namespace Go.Proofs.YtjmhlabgoegeoaaGreatDoor
namespace Sheet
open Go Go.RowKit Deci
set_option maxHeartbeats 1000000 in
theorem refSmall_any (s : ByteArray) (most : Int) (w : World) (hs : s.size ≤ 4294967000) (hm : 0 ≤ most) (hm2 : most ≤ 1000000000) :
    Calls Tryz.prog 58 #[.string s, .int .i64 most] w fun e w' => e = .returned (.tuple #[.int .i64 (smallV s.data.toList most), .int .i64 (smallE s.data.toList most)]) ∧ w = w' := by
  have h1 := fun w => refRead_any s 0 w hs
  have h0 := read_out s.data.toList 0
  have hv : (readE s.data.toList 0 ≠ 0 → smallV s.data.toList most = 0 ∧ smallE s.data.toList most = readE s.data.toList 0) ∧
      (readE s.data.toList 0 = 0 → (readV s.data.toList 0 < -most ∨ most < readV s.data.toList 0) → smallV s.data.toList most = 0 ∧ smallE s.data.toList most = 23) ∧
      (readE s.data.toList 0 = 0 → ¬ (readV s.data.toList 0 < -most ∨ most < readV s.data.toList 0) → smallV s.data.toList most = readV s.data.toList 0 ∧ smallE s.data.toList most = 0) := by
    unfold smallV smallE
    refine ⟨fun h => ⟨if_neg h, if_neg h⟩, fun h g => ⟨(if_pos h).trans (if_pos g), (if_pos h).trans (if_pos g)⟩, fun h g => ⟨(if_pos h).trans (if_neg g), (if_pos h).trans (if_neg g)⟩⟩
  generalize smallV s.data.toList most = sv at *
  generalize smallE s.data.toList most = se at *
  generalize readE s.data.toList 0 = er at *
  generalize readV s.data.toList 0 = v at *
  have H1 := Lib.hid h1; clear h1
  have HV := Lib.hid hv; clear hv
  have H0 := Lib.hid h0; clear h0
  by_cases he : er = 0
  · subst he
    by_cases hlo : v < -most
    · obtain ⟨rfl, rfl⟩ := HV.out.2.1 rfl (.inl hlo)
      clear HV H0
      go_enter Tryz.func58, Tryz.ntmps58
      go_wp2_with (go_at_call 57; refine (H1.out _).mono ?_; rintro e w' ⟨rfl, rfl⟩)
      go_ret2
      exact ⟨rfl, rfl⟩
    · by_cases hhi : most < v
      · obtain ⟨rfl, rfl⟩ := HV.out.2.1 rfl (.inr hhi)
        clear HV H0
        go_enter Tryz.func58, Tryz.ntmps58
        go_wp2_with (go_at_call 57; refine (H1.out _).mono ?_; rintro e w' ⟨rfl, rfl⟩)
        go_ret2
        exact ⟨rfl, rfl⟩
      · obtain ⟨rfl, rfl⟩ := HV.out.2.2 rfl (by omega)
        clear HV H0
        go_enter Tryz.func58, Tryz.ntmps58
        go_wp2_with (go_at_call 57; refine (H1.out _).mono ?_; rintro e w' ⟨rfl, rfl⟩)
        go_ret2
        exact ⟨rfl, rfl⟩
  · obtain ⟨rfl, rfl⟩ := HV.out.1 he
    have hv0 := H0.out he
    subst hv0
    clear HV H0
    go_enter Tryz.func58, Tryz.ntmps58
    go_wp2_with (go_at_call 57; refine (H1.out _).mono ?_; rintro e w' ⟨rfl, rfl⟩)
    go_ret2
    exact ⟨rfl, rfl⟩
theorem refSpot_any (x y : Int) (w : World) :
    Calls Tryz.prog 23 #[.int .i64 x, .int .i64 y] w fun e w' => e = .returned (.complex .f64 (Spot.wd x) (Spot.wd y)) ∧ w = w' := by
  unfold Spot.wd
  go_enter Tryz.func23, Tryz.ntmps23
  go_wp2
  go_ret
  exact ⟨rfl, rfl⟩
/-- What words leaves: the texts behind the first one, in blocks of the call's own. -/
def Tail (w : World) (ps : List ByteArray) (er : Int) (e : Ending) (w' : World) : Prop :=
  ∃ v, e = .returned (.tuple #[v, .int .i64 er]) ∧ Below w.heap.size w w' ∧ (er = 0 → Strs w' (fun k => k < w.heap.size) v ps)
set_option maxHeartbeats 1000000 in
theorem refTail_any (s name : ByteArray) (cnt : Nat) (w : World) (hs : s.size ≤ 4294967000) (hc : cnt ≤ 1000000) :
    Calls Tryz.prog 20 #[.string s, .string name, .int .i64 (cnt + 1)] w (Tail w (wordsP s.data.toList).tail (lineE s name cnt)) := by
  have h1 := fun w => refWords_any s w hs
  have hle : (wordsE s.data.toList = 0 ∧ (wordsP s.data.toList).length = cnt + 1 ∧ (wordsP s.data.toList).head? = some name → lineE s name cnt = 0) ∧ (¬ (wordsE s.data.toList = 0 ∧ (wordsP s.data.toList).length = cnt + 1 ∧ (wordsP s.data.toList).head? = some name) → lineE s name cnt = 21) := by
    unfold lineE; exact ⟨fun h => if_pos h, fun h => if_neg h⟩
  generalize lineE s name cnt = le at *
  generalize wordsP s.data.toList = ws at *
  generalize wordsE s.data.toList = er at *
  have HLE := Lib.hid hle; clear hle
  have H1 := Lib.hid h1; clear h1
  go_enter Tryz.func20, Tryz.ntmps20
  go_wp2_with fail
  refine (H1.out _).mono ?_
  rintro e w1 ⟨v, rfl, hrow, hb⟩
  have hk := told_strs hrow
  have HB := Lib.hid hb; clear hb hrow
  by_cases he : er = 0
  · subst he
    by_cases hlen : ws.length = cnt + 1
    · rcases hk with ⟨rfl, rfl⟩ | ⟨g, cap, rfl, hcap, hg0, hg1, hcs⟩
      · simp at hlen
      · obtain ⟨p, rest, rfl⟩ : ∃ p rest, ws = p :: rest := by
          cases ws with
          | nil => simp at hlen
          | cons p rest => exact ⟨p, rest, rfl⟩
        have q0 := hcs 0 (by simp)
        simp only [List.getElem_cons_zero] at q0
        have HCS := Lib.hid hcs; clear hcs
        by_cases hp : p = name
        · have hl0 : le = 0 := HLE.out.1 ⟨rfl, hlen, by rw [hp]; rfl⟩
          subst hl0
          have K : ∀ u, (∃ a', u = .slice a' rest.length (cap - 1) ∧ (rest = [] ∨ a' = some ⟨g, 1, none⟩)) → Strs w1 (fun k => k < w.heap.size) u rest := by
            rintro u ⟨a', rfl, hu⟩
            simp only [List.length_cons] at hcap
            refine ⟨a', cap - 1, rfl, by omega, hu.imp id ?_⟩
            rintro rfl
            refine ⟨g, 1, rfl, by omega, hg1, fun j hj => ?_⟩
            have := HCS.out (j + 1) (by simp; omega)
            rw [show 1 + j = j + 1 by omega]
            simpa using this
          have HK := Lib.hid K; clear K
          have hz : rest.length = 0 → rest = [] := List.eq_nil_of_length_eq_zero
          have HZ := Lib.hid hz; clear hz
          clear HCS HLE H1
          subst hp
          simp only [List.length_cons, Nat.add_right_cancel_iff] at hlen hcap
          subst hlen
          simp only [List.length_cons]
          generalize rest.length = rl at *
          go_wp2_with fail
          all_goals go_ret2
          · exact ⟨_, rfl, HB.out, fun _ => HK.out _ ⟨_, by first | rfl | (subst_vars; rfl), .inl (HZ.out (by omega))⟩⟩
          · exact ⟨_, rfl, HB.out, fun _ => HK.out _ ⟨_, rfl, .inr rfl⟩⟩
        · have hl21 : le = 21 := HLE.out.2 (by rintro ⟨-, -, h⟩; simp at h; exact hp h)
          subst hl21
          have hpn : (p.toList == name.toList) = false := ne_list hp
          simp only [List.length_cons] at *
          clear HCS HLE H1
          go_wp2_with fail
          go_ret2
          exact ⟨_, rfl, HB.out, fun h => absurd h (by decide)⟩
    · have hl21 : le = 21 := HLE.out.2 (by rintro ⟨-, h, -⟩; exact hlen h)
      subst hl21
      rcases hk with ⟨rfl, rfl⟩ | ⟨g, cap, rfl, hcap, hg0, hg1, hcs⟩
      · clear H1 HLE
        go_wp2_with fail
        go_ret2
        exact ⟨_, rfl, HB.out, fun h => absurd h (by decide)⟩
      · clear H1 hcs HLE
        generalize ws.length = wl at *
        go_wp2_with fail
        go_ret2
        exact ⟨_, rfl, HB.out, fun h => absurd h (by decide)⟩
  · have hl21 : le = 21 := HLE.out.2 (by rintro ⟨h, -, -⟩; exact he h)
    subst hl21
    clear H1 HLE hk
    go_wp2_with fail
    go_ret2
    exact ⟨_, rfl, HB.out, fun h => absurd h (by decide)⟩
end Sheet
end Go.Proofs.YtjmhlabgoegeoaaGreatDoor
