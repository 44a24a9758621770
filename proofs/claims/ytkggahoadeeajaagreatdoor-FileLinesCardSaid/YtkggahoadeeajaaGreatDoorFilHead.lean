/- Package file's reader: route, times, head; over the translated program. -/
import Derived.Test.YtkggahoadeeajaaGreatDoorFilNum
namespace Go.Proofs.YtkggahoadeeajaaGreatDoor
namespace Fil
open Go Go.RowKit Deci
set_option linter.unusedVariables false
/-- What a call that reads a line of numbers leaves. -/
def ResV (N B M : Nat) (L : List ByteArray) (n : Nat) (T : TypeId) (xs : List Int) (w : World) (er : Int) (e : Ending) (w' : World) : Prop :=
  w.grownBy w' (some B) ∧ ((er = 0 ∧ ∃ v wv, e = .returned v ∧ Deep w.heap.size T xs v w' ∧ St N B M L (n + 1 : Nat) wv w') ∨ (er ≠ 0 ∧ Gave (n + 1 : Nat) er e))
section
variable {N B M n : Nat} {L : List ByteArray} {T : TypeId} {xs : List Int} {w w' : World} {er : Int} {e : Ending}
theorem resV_yes (h : ResV N B M L n T xs w 0 e w') : w.grownBy w' (some B) ∧ ∃ v wv, e = .returned v ∧ Deep w.heap.size T xs v w' ∧ St N B M L (n + 1 : Nat) wv w' := by
  obtain ⟨h1, h2 | h2⟩ := h
  · exact ⟨h1, h2.2⟩
  · exact absurd rfl h2.1
theorem resV_no (h : ResV N B M L n T xs w er e w') (he : er ≠ 0) : Gave (n + 1 : Nat) er e ∧ w.grownBy w' (some B) := by
  obtain ⟨h1, h2 | h2⟩ := h
  · exact absurd h2.1 he
  · exact ⟨h2.2, h1⟩
/-- What the numbers of a line leave, behind the line's call. -/
theorem resV_of {w1 : World} {wv : Value} (hg : w.grownBy w1 (some B)) (hs : St N B M L (n + 1 : Nat) wv w1) (h : Below w1.heap.size w1 w' ∧ ((er = 0 ∧ ∃ v, e = .returned v ∧ Deep w1.heap.size T xs v w') ∨ (er ≠ 0 ∧ Gave (n + 1 : Nat) er e))) : ResV N B M L n T xs w er e w' := by
  obtain ⟨h1, h2⟩ := h
  refine ⟨hg.trans (grown_of h1 _), h2.imp ?_ id⟩
  rintro ⟨h3, v, h4, h5⟩
  exact ⟨h3, v, wv, h4, h5.mono hg.size, hs.below h1⟩
end
theorem Deep.form {base : Nat} {T : TypeId} {xs : List Int} {v : Value} {W : World} (h : Deep base T xs v W) : ∃ a c, v = .slice a xs.length c := by obtain ⟨a, c, h, -⟩ := h; exact ⟨a, c, h⟩
set_option maxHeartbeats 2000000 in
set_option maxRecDepth 100000 in
theorem route_any (N B M : Nat) (L : List ByteArray) (n : Nat) (wv : Value) (w : World) (hn : n ≤ 2000000) (hl : ∀ s ∈ L, s.size ≤ 1000000) (hn2 : L.length ≤ 1000001) (h : St N B M L n wv w) :
    Calls Tryz.prog 54 #[.pointer (some ⟨B, 0, none⟩)] w (ResV N B M L n 3 (numsV false (nextW L n)) w (routeE L n)) := by
  have h0 := list_any N B M L n wv wRoute w hn hl hn2 h
  have hm := nextW_many (n := n) hl
  have hsz := nextW_size (n := n) hl
  unfold routeE
  unfold wRoute at *
  clear h hl
  by_cases he : listE L n ⟨#[114, 111, 117, 116, 101]⟩ = 0
  · rw [he] at h0
    rw [he, twoE_ok]
    have H0 := Lib.hid (h0.mono fun _ _ h => resN_yes h); clear h0
    by_cases hbad : nextW L n = []
    · rw [if_pos hbad]
      have hz : (nextW L n).length = 0 := by rw [hbad]; rfl
      unfold ResV
      generalize numsV false (nextW L n) = xs at *
      go_enter Tryz.func54, Tryz.ntmps54
      go_wp2_with fail
      refine H0.out.mono ?_
      rintro e w1 ⟨rfl, hg, wv1, hs, a, cap, rfl, -, -⟩
      have c2 := hs.c2
      have HS := Lib.hid hs; clear hs
      have HG := Lib.hid hg; clear hg
      clear he hsz H0
      generalize (nextW L n).length = m at *
      go_wp2_with (go_at_call 76; refine (giveUp_any B (n + 1 : Nat) 21 _ HS.out.c1).mono ?_; rintro e w' ⟨rfl, rfl⟩)
      exact ⟨rfl, HG.out, .inr ⟨by decide, rfl⟩⟩
    · rw [if_neg hbad]
      have hpos : (nextW L n).length ≠ 0 := fun h => hbad (List.eq_nil_of_length_eq_zero h)
      clear hbad
      generalize nextW L n = ws at *
      have hnum := fun (w1 : World) (wv1 : Value) (hg : w.grownBy w1 (some B)) (hs : St N B M L (n + 1 : Nat) wv1 w1) (hw : Strs w1 wv1 ws) =>
        (numbers_int N B M L (n + 1 : Nat) wv1 ws w1 hm hsz hs hw).mono fun _ _ h => resV_of (w := w) hg hs h
      generalize numsE false ws = er at *
      generalize numsV false ws = xs at *
      have HN := Lib.hid hnum; clear hnum
      clear hsz
      go_enter Tryz.func54, Tryz.ntmps54
      go_wp2_with fail
      refine H0.out.mono ?_
      rintro e w1 ⟨rfl, hg, wv1, hs, hw⟩
      have hcall := HN.out w1 wv1 hg hs hw
      have HC := Lib.hid hcall; clear hcall
      obtain ⟨a, cap, rfl, -, -⟩ := hw
      have c2 := hs.c2
      clear hs hg he
      generalize ws.length = m at *
      go_wp2_with fail
      refine HC.out.mono ?_
      rintro e w' ⟨hg, ⟨he, v, wv', rfl, hd, hs⟩ | ⟨he, rfl⟩⟩
      · obtain ⟨a', c', rfl⟩ := hd.form
        have HG := Lib.hid hg; clear hg
        have HD := Lib.hid hd; clear hd
        have HS := Lib.hid hs; clear hs
        generalize hxl : xs.length = xl at *
        have HXL := Lib.hid hxl; clear hxl
        go_wp2_with fail
        go_ret
        exact ⟨HG.out, .inl ⟨he, _, _, rfl, HD.out, HS.out⟩⟩
      · go_wp2_with fail
        exact ⟨rfl, hg, .inr ⟨he, rfl⟩⟩

  · rw [twoE_no _ he]
    have H0 := Lib.hid (h0.mono fun _ _ h => resN_no h he); clear h0
    unfold ResV
    generalize listE L n ⟨#[114, 111, 117, 116, 101]⟩ = er at *
    go_enter Tryz.func54, Tryz.ntmps54
    go_wp2_with fail
    refine H0.out.mono ?_
    rintro e w1 ⟨rfl, hg1⟩
    go_wp2_with fail
    exact ⟨rfl, hg1, .inr ⟨he, rfl⟩⟩
set_option maxHeartbeats 2000000 in
set_option maxRecDepth 100000 in
theorem times_any (N B M : Nat) (L : List ByteArray) (n k : Nat) (wv : Value) (w : World) (hn : n ≤ 2000000) (hk : k ≤ 2000000) (hl : ∀ s ∈ L, s.size ≤ 1000000) (hn2 : L.length ≤ 1000001) (h : St N B M L n wv w) :
    Calls Tryz.prog 55 #[.pointer (some ⟨B, 0, none⟩), .int .i64 k] w (ResV N B M L n 2 (numsV true (nextW L n)) w (timesE L n k)) := by
  have h0 := list_any N B M L n wv wTimes w hn hl hn2 h
  have hm := nextW_many (n := n) hl
  have hsz := nextW_size (n := n) hl
  unfold timesE
  unfold wTimes at *
  clear h hl
  by_cases he : listE L n ⟨#[116, 105, 109, 101, 115]⟩ = 0
  · rw [he] at h0
    rw [he, twoE_ok]
    have H0 := Lib.hid (h0.mono fun _ _ h => resN_yes h); clear h0
    by_cases hbad : (nextW L n).length ≠ 0 ∧ (nextW L n).length ≠ k
    · rw [if_pos hbad]
      obtain ⟨hz1, hz2⟩ := hbad
      unfold ResV
      generalize numsV true (nextW L n) = xs at *
      go_enter Tryz.func55, Tryz.ntmps55
      go_wp2_with fail
      refine H0.out.mono ?_
      rintro e w1 ⟨rfl, hg, wv1, hs, a, cap, rfl, -, -⟩
      have c2 := hs.c2
      have HS := Lib.hid hs; clear hs
      have HG := Lib.hid hg; clear hg
      clear he hsz H0
      generalize (nextW L n).length = m at *
      have q1 : ((m : Int) != 0) = true := by simp; omega
      have q2 : ((m : Int) != (k : Int)) = true := by simp; omega
      go_wp2_with (go_at_call 76; refine (giveUp_any B (n + 1 : Nat) 1 _ HS.out.c1).mono ?_; rintro e w' ⟨rfl, rfl⟩)
      exact ⟨rfl, HG.out, .inr ⟨by decide, rfl⟩⟩
    · rw [if_neg hbad]

      generalize nextW L n = ws at *
      have hnum := fun (w1 : World) (wv1 : Value) (hg : w.grownBy w1 (some B)) (hs : St N B M L (n + 1 : Nat) wv1 w1) (hw : Strs w1 wv1 ws) =>
        (numbers_long N B M L (n + 1 : Nat) wv1 ws w1 hm hsz hs hw).mono fun _ _ h => resV_of (w := w) hg hs h
      generalize numsE true ws = er at *
      generalize numsV true ws = xs at *
      have HN := Lib.hid hnum; clear hnum
      clear hsz
      go_enter Tryz.func55, Tryz.ntmps55
      go_wp2_with fail
      refine H0.out.mono ?_
      rintro e w1 ⟨rfl, hg, wv1, hs, hw⟩
      have hcall := HN.out w1 wv1 hg hs hw
      have HC := Lib.hid hcall; clear hcall
      obtain ⟨a, cap, rfl, -, -⟩ := hw
      have c2 := hs.c2
      clear hs hg he
      generalize ws.length = m at *
      by_cases hz : m = 0
      · have hz0 : (m : Int) = 0 := by omega
        clear hbad
        go_wp2_with fail
        refine HC.out.mono ?_
        rintro e w' ⟨hg, ⟨he, v, wv', rfl, hd, hs⟩ | ⟨he, rfl⟩⟩
        · obtain ⟨a', c', rfl⟩ := hd.form
          have HG := Lib.hid hg; clear hg
          have HD := Lib.hid hd; clear hd
          have HS := Lib.hid hs; clear hs
          generalize hxl : xs.length = xl at *
          have HXL := Lib.hid hxl; clear hxl
          go_wp2_with fail
          go_ret
          exact ⟨HG.out, .inl ⟨he, _, _, rfl, HD.out, HS.out⟩⟩
        · go_wp2_with fail
          exact ⟨rfl, hg, .inr ⟨he, rfl⟩⟩
      · have hz0 : m = k := Decidable.byContradiction fun h => hbad ⟨hz, h⟩
        subst hz0
        clear hbad
        go_wp2_with fail
        refine HC.out.mono ?_
        rintro e w' ⟨hg, ⟨he, v, wv', rfl, hd, hs⟩ | ⟨he, rfl⟩⟩
        · obtain ⟨a', c', rfl⟩ := hd.form
          have HG := Lib.hid hg; clear hg
          have HD := Lib.hid hd; clear hd
          have HS := Lib.hid hs; clear hs
          generalize hxl : xs.length = xl at *
          have HXL := Lib.hid hxl; clear hxl
          go_wp2_with fail
          go_ret
          exact ⟨HG.out, .inl ⟨he, _, _, rfl, HD.out, HS.out⟩⟩
        · go_wp2_with fail
          exact ⟨rfl, hg, .inr ⟨he, rfl⟩⟩

  · rw [twoE_no _ he]
    have H0 := Lib.hid (h0.mono fun _ _ h => resN_no h he); clear h0
    unfold ResV
    generalize listE L n ⟨#[116, 105, 109, 101, 115]⟩ = er at *
    go_enter Tryz.func55, Tryz.ntmps55
    go_wp2_with fail
    refine H0.out.mono ?_
    rintro e w1 ⟨rfl, hg1⟩
    go_wp2_with fail
    exact ⟨rfl, hg1, .inr ⟨he, rfl⟩⟩
/-- What head leaves. -/
def ResH (N B M : Nat) (L : List ByteArray) (w : World) (er : Int) (e : Ending) (w' : World) : Prop :=
  w.grownBy w' (some B) ∧ ((er = 0 ∧ e = .returned (.tuple #[.int .i64 (rowsN L), .int .i64 (costV L)]) ∧ ∃ wv, St N B M L (1 : Nat) wv w') ∨ (er ≠ 0 ∧ Gave (1 : Nat) er e))
theorem len2 {ws : List ByteArray} (h : ws.length = 2) : ∃ a b, ws = [a, b] := by
  match ws, h with
  | [a, b], _ => exact ⟨a, b, rfl⟩
set_option maxHeartbeats 4000000 in
set_option maxRecDepth 100000 in
theorem head_any (N B M : Nat) (L : List ByteArray) (wv : Value) (w : World) (hl : ∀ s ∈ L, s.size ≤ 1000000) (hn2 : L.length ≤ 1000001) (h : St N B M L (0 : Nat) wv w) :
    Calls Tryz.prog 53 #[.pointer (some ⟨B, 0, none⟩)] w (ResH N B M L w (headE L)) := by
  have h0 := next_any N B M L 0 wv wPlan w (by omega) hl hn2 h
  have hm := nextW_many (n := 0) hl
  have hsz := nextW_size (n := 0) hl
  unfold ResH headE rowsN costV wAt
  unfold wPlan at *
  clear h hl
  by_cases he : nextE L 0 ⟨#[112, 108, 97, 110]⟩ = 0
  · rw [he] at h0
    rw [he, twoE_ok]
    have H0 := Lib.hid (h0.mono fun _ _ h => resN_yes h); clear h0
    by_cases hlen : (nextW L 0).length = 2
    · rw [if_pos hlen]
      obtain ⟨p, q, hpq⟩ := len2 hlen
      rw [hpq] at H0 hsz ⊢
      have g0 : [p, q].getD 0 ⟨#[]⟩ = p := rfl
      have g1 : [p, q].getD 1 ⟨#[]⟩ = q := rfl
      rw [g0, g1]; clear g0 g1
      have h1 := fun (w1 : World) (hE : EnvAt N w1) => Deci.whole_any p w1 hE.env (by have := hsz p (by simp); omega)
      have h2 := fun (w1 : World) (hE : EnvAt N w1) => time_any q w1 hE.env (by have := hsz q (by simp); omega)
      clear hsz hlen hpq he hm
      generalize wholeE p.data.toList = e1 at *
      generalize wholeV p.data.toList = v1 at *
      generalize timeE q.data.toList = e2 at *
      generalize timeV q.data.toList = v2 at *
      obtain ⟨z, hz⟩ : ∃ z : Int, z = if 64 < v1 then 3 else 0 := ⟨_, rfl⟩
      rw [← hz]
      have HZ := Lib.hid hz; clear hz
      have H1 := Lib.hid h1; clear h1
      have H2 := Lib.hid h2; clear h2
      go_enter Tryz.func53, Tryz.ntmps53
      go_wp2_with fail
      refine H0.out.mono ?_
      rintro e w1 ⟨rfl, hg, wv1, hs, a, cap, rfl, -, hw⟩
      rcases hw with hw | ⟨g, o, rfl, hgl, hc⟩
      · cases hw
      have q0 : w1.cell? ⟨g, o, none⟩ = some (.string p) := hc 0 (by simp)
      have q1 : w1.cell? ⟨g, o + 1, none⟩ = some (.string q) := hc 1 (by simp)
      have c2 := hs.c2
      have HS := Lib.hid hs; clear hs
      have HG := Lib.hid hg; clear hg
      clear hc
      simp only [List.length_cons, List.length_nil, Nat.zero_add, Nat.reduceAdd] at *
      go_wp2_with fail
      refine (H1.out _ HS.out.env).mono ?_
      rintro e w2 ⟨rfl, hb⟩
      have q2 : w2.cell? ⟨g, o + 1, none⟩ = some (.string q) := (hb.cell (p := ⟨g, o + 1, none⟩) hgl).trans q1
      have HS2 := Lib.hid (HS.out.below hb)
      have HG2 := Lib.hid (HG.out.trans (grown_of hb _))
      have c2' := HS2.out.c2
      clear q0 q1 c2 hb HS HG H0
      by_cases he1 : e1 = 0
      · subst he1
        go_wp2_with (go_at_call 52; refine (must_ok B _).mono ?_; rintro e w' ⟨rfl, rfl⟩)
        refine (H2.out _ HS2.out.env).mono ?_
        rintro e w3 ⟨rfl, hb⟩
        have HS3 := Lib.hid (HS2.out.below hb)
        have HG3 := Lib.hid (HG2.out.trans (grown_of hb _))
        clear q2 c2' hb HS2 HG2
        by_cases he2 : e2 = 0
        · subst he2
          by_cases hbig : 64 < v1
          · go_wp2_with (first | (go_at_call 52; refine (must_ok B _).mono ?_; rintro e w' ⟨rfl, rfl⟩) | (go_at_call 76; refine (giveUp_any B (1 : Nat) 3 _ HS3.out.c1).mono ?_; rintro e w' ⟨rfl, rfl⟩))
            exact ⟨rfl, HG3.out, .inr (by rw [twoE_ok, twoE_ok, HZ.out, if_pos hbig]; exact ⟨by decide, rfl⟩)⟩
          · go_wp2_with (first | (go_at_call 52; refine (must_ok B _).mono ?_; rintro e w' ⟨rfl, rfl⟩))
            go_ret2
            exact ⟨HG3.out, .inl ⟨by rw [twoE_ok, twoE_ok, HZ.out]; exact if_neg (by omega), rfl, _, HS3.out⟩⟩
        · go_wp2_with (go_at_call 52; refine (must_gave B (1 : Nat) e2 _ HS3.out.c1 he2).mono ?_; rintro e w' ⟨rfl, rfl⟩)
          exact ⟨rfl, HG3.out, .inr (by rw [twoE_ok, twoE_no _ he2]; exact ⟨he2, rfl⟩)⟩
      · go_wp2_with (go_at_call 52; refine (must_gave B (1 : Nat) e1 _ HS2.out.c1 he1).mono ?_; rintro e w' ⟨rfl, rfl⟩)
        exact ⟨rfl, HG2.out, .inr (by rw [twoE_no _ he1]; exact ⟨he1, rfl⟩)⟩
    · rw [if_neg hlen]
      generalize wholeV _ = v1
      generalize timeV _ = v2
      go_enter Tryz.func53, Tryz.ntmps53
      go_wp2_with fail
      refine H0.out.mono ?_
      rintro e w1 ⟨rfl, hg, wv1, hs, a, cap, rfl, -, -⟩
      have c2 := hs.c2
      have HS := Lib.hid hs; clear hs
      have HG := Lib.hid hg; clear hg
      clear he hsz H0
      generalize (nextW L 0).length = m at *
      have q1 : ((m : Int) != 2) = true := by simp; omega
      go_wp2_with (go_at_call 76; refine (giveUp_any B (0 + 1 : Nat) 21 _ HS.out.c1).mono ?_; rintro e w' ⟨rfl, rfl⟩)
      exact ⟨rfl, HG.out, .inr ⟨by decide, rfl⟩⟩
  · rw [twoE_no _ he]
    have H0 := Lib.hid (h0.mono fun _ _ h => resN_no h he); clear h0
    generalize nextE L 0 ⟨#[112, 108, 97, 110]⟩ = er at *
    generalize wholeV _ = v1
    generalize timeV _ = v2
    go_enter Tryz.func53, Tryz.ntmps53
    go_wp2_with fail
    refine H0.out.mono ?_
    rintro e w1 ⟨rfl, hg1⟩
    go_wp2_with fail
    exact ⟨rfl, hg1, .inr ⟨he, rfl⟩⟩
end Fil
end Go.Proofs.YtkggahoadeeajaaGreatDoor
