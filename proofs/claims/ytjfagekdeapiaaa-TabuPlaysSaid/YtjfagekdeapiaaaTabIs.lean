/- What the table answers: Is, over the translated program; and the document's Is. -/
import Derived.Test.YtjfagekdeapiaaaTabAt
namespace Go.Proofs.Ytjfagekdeapiaaa
open Go.RowKit Go.Lib
namespace Tab
open Go.Maps (Keyed)
set_option linter.unusedVariables false
set_option maxHeartbeats 1000000 in
theorem is_any (T : Nat) (B : Option Nat) (l : List E) (r t now : Int) (w : World) (h : At w T B l) (hr : Wf r) (ht : Wf t) :
    Calls Try.prog 13 #[.pointer (some ⟨T, 0, none⟩), .int .i64 r, .int .i64 t, .int .i64 now] w fun e w' => e = .returned (.bool (isB l r t now)) ∧ w = w' := by
  have c0 := h.cell
  have hkey := key_of hr ht
  cases hB : B with
  | none =>
    have hl := h.nil hB
    subst hl hB
    have hv : isB [] r t now = false := rfl
    rw [hv]
    have hrun := Maps.look_nil (w := w) true law Try.underlying24 (zeroInt _) hkey
    clear h hkey
    go_enter Try.func13, Try.ntmps13
    go_wp2
    go_ret
    exact ⟨rfl, rfl⟩
  | some b =>
    obtain ⟨D, hown, hrep⟩ := h.map b hB
    subst hB
    have hhas := hrep.has r t hr ht
    have HREP := Lib.hid hrep
    clear h hrep
    cases ha : l.any (sm r t) with
    | false =>
      rw [ha] at hhas
      have hv : isB l r t now = false := by
        rw [← Bool.not_eq_true, isB_iff]
        rintro ⟨e, he, h1, _⟩
        rw [List.any_eq_false] at ha
        exact ha e he h1
      rw [hv]
      clear ha hv
      go_enter Try.func13, Try.ntmps13
      go_wp2_with (first
        | (at_lookup; refine wpList_lookup_own_ok_int _ rfl _ _ 24 rfl 51 3 .i64 law Try.underlying24 Try.underlying3 (zeroInt _) b _ D rfl hown _ _ rfl hkey ?_; intro c hat hwc; rw [hhas])
        | fail)
      go_ret
      exact ⟨rfl, rfl⟩
    | true =>
      rw [ha] at hhas
      obtain ⟨e, he, hs⟩ := List.any_eq_true.1 ha
      obtain ⟨e1, e2⟩ := sm_iff.1 hs
      have hat0 := HREP.out.elem e he (D64 0)
      have hv : isB l r t now = decide (now < e.u) := by
        rw [Bool.eq_iff_iff, isB_iff, decide_eq_true_iff]
        constructor
        · rintro ⟨x, hx, h1, h2⟩
          obtain ⟨a1, a2⟩ := sm_iff.1 h1
          have h3 := HREP.out.elem x hx (D64 0)
          rw [a1, a2, ← e1, ← e2, hat0] at h3
          simp only [DataW.lit.injEq, Lit.int.injEq, true_and] at h3
          omega
        · intro h1; exact ⟨e, he, hs, h1⟩
      rw [e1, e2] at hat0
      rw [hv]
      clear ha hv
      obtain ⟨u, hu⟩ : ∃ u, u = e.u := ⟨_, rfl⟩
      rw [← hu] at hat0 ⊢
      clear hu e1 e2 hs he
      go_enter Try.func13, Try.ntmps13
      go_wp2_with (first
        | (at_lookup; refine wpList_lookup_own_ok_int _ rfl _ _ 24 rfl 51 3 .i64 law Try.underlying24 Try.underlying3 (zeroInt _) b _ D rfl hown _ _ rfl hkey ?_; intro c hat hwc; rw [hhas]; obtain rfl : u = c := by rw [hat0] at hat; simpa using hat)
        | fail)
      go_ret
      exact ⟨rfl, rfl⟩
set_option maxHeartbeats 1000000 in
/-- the document's -/
theorem refIs_any (a : Option Addr) (c : Nat) (l : List E) (r t now : Int) (w : World) (he : IsL w a l) (hm : l.length ≤ 1000) :
    Calls Try.prog 14 #[.slice a l.length c, .int .i64 r, .int .i64 t, .int .i64 now] w fun e w' => e = .returned (.bool (isB l r t now)) ∧ w = w' := by
  have HE := Lib.hid he; clear he
  obtain ⟨m, hml⟩ : ∃ m, m = l.length := ⟨_, rfl⟩
  rw [← hml] at hm ⊢
  have HML := Lib.hid hml; clear hml
  obtain ⟨z, hz⟩ : ∃ z, z = isB l r t now := ⟨_, rfl⟩
  rw [← hz]
  have HZ := Lib.hid hz; clear hz
  go_enter Try.func14, Try.ntmps14
  go_wp2_with fail
  go_loopg [9] m (fun gg s9 wr => ∃ k : Nat, k ≤ m ∧ m - k ≤ gg ∧ s9 = .int .i64 k ∧ Hid (w = wr) ∧ Hid (isB (l.take k) r t now = false))
  case atStart => exact ⟨0, Nat.zero_le _, by omega, rfl, Lib.hid rfl, Lib.hid rfl⟩
  case round =>
    obtain ⟨k, hk, hg, rfl, HW, HN⟩ := hrel
    have hww := HW.out
    subst hww
    by_cases hlt : k < m
    · have hkl : k < l.length := by have := HML.out; omega
      rcases HE.out with h0 | ⟨b, off, rfl, hb, hmx, hc⟩
      · rw [h0] at hkl; simp at hkl
      obtain ⟨d0, d1, d2⟩ := hc k hkl
      have hstep : isB (l.take (k + 1)) r t now = (sm r t l[k] && decide (now < l[k].u)) := by
        have := HN.out
        unfold isB at this ⊢
        rw [List.take_succ_eq_append_getElem hkl, List.any_append, this]
        simp
      have hall : isB (l.take (k + 1)) r t now = true → z = true := by
        rw [HZ.out, isB_iff, isB_iff]
        rintro ⟨x, hx, h1⟩
        exact ⟨x, List.mem_of_mem_take hx, h1⟩
      obtain ⟨x, hx⟩ : ∃ x, x = l[k].r := ⟨_, rfl⟩
      obtain ⟨y, hy⟩ : ∃ y, y = l[k].t := ⟨_, rfl⟩
      obtain ⟨u, hu⟩ : ∃ u, u = l[k].u := ⟨_, rfl⟩
      have hsm : sm r t l[k] = (decide (x = r) && decide (y = t)) := by rw [hx, hy]; rfl
      rw [hsm, ← hu] at hstep
      rw [← hx] at d0
      rw [← hy] at d1
      rw [← hu] at d2
      clear hc hmx hx hy hu hsm
      have HALL := Lib.hid hall; clear hall
      by_cases e1 : x = r
      · by_cases e2 : y = t
        · by_cases e3 : now < u
          · have hst : isB (l.take (k + 1)) r t now = true := by rw [hstep]; simp [e1, e2, e3]
            have hzt := HALL.out hst
            subst hzt e1 e2
            clear hst hstep
            go_wp2_with fail
            go_ret
            exact ⟨rfl, rfl⟩
          · have HST := Lib.hid (show isB (l.take (k + 1)) r t now = false by rw [hstep]; simp [e3])
            subst e1 e2
            clear hstep
            go_wp2_with fail
            go_roundg (m - (k + 1))
            case measure => omega
            case rel => exact ⟨k + 1, by omega, by omega, by go_num, Lib.hid rfl, HST⟩
        · have HST := Lib.hid (show isB (l.take (k + 1)) r t now = false by rw [hstep]; simp [e2])
          have q2 : (y == t) = false := by simpa using e2
          subst e1
          clear hstep
          go_wp2_with fail
          go_roundg (m - (k + 1))
          case measure => omega
          case rel => exact ⟨k + 1, by omega, by omega, by go_num, Lib.hid rfl, HST⟩
      · have HST := Lib.hid (show isB (l.take (k + 1)) r t now = false by rw [hstep]; simp [e1])
        have q1 : (x == r) = false := by simpa using e1
        clear hstep
        go_wp2_with fail
        go_roundg (m - (k + 1))
        case measure => omega
        case rel => exact ⟨k + 1, by omega, by omega, by go_num, Lib.hid rfl, HST⟩
    · have hkm : k = m := by omega
      have hz0 : z = false := by
        have h1 := HN.out
        rw [hkm, HML.out, List.take_length] at h1
        rw [HZ.out]; exact h1
      subst hz0 hkm
      go_wp2_with fail
      go_ret
      exact ⟨rfl, rfl⟩
end Tab
end Go.Proofs.Ytjfagekdeapiaaa
