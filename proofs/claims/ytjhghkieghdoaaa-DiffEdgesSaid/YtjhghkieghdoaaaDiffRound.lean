/- Where the last edges go round (round), over the translated program. -/
import Derived.Test.YtjhghkieghdoaaaDiffLook
import Derived.Test.YtjhghkieghdoaaaDiffMark
namespace Go.Proofs.Ytjhghkieghdoaaa
open Go.RowKit Go.Lib
namespace Diff
set_option linter.unusedVariables false
theorem zero_int (w : World) : (zeroValue 3).run Try.prog w = .ok (.int .i64 0) w := by kernel_rfl
theorem isB_cleared {B n : Nat} : ∀ (m k : Nat) (w : World) (f : Nat → Int), IsB w B n f → ∃ g, IsB (w.setCells B k (List.replicate m (.int .i64 0))) B n g ∧ (∀ j, k ≤ j → j < k + m → g j = 0) ∧ ∀ j, j < k → g j = f j := by
  intro m
  induction m with
  | zero => intro k w f h; exact ⟨f, h, fun j h1 h2 => by omega, fun _ _ => rfl⟩
  | succ m ih =>
    intro k w f h
    obtain ⟨g, h1, h2, h3⟩ := ih (k + 1) _ _ (h.set k 0)
    refine ⟨g, h1, fun j h4 h5 => ?_, fun j h4 => ?_⟩
    · rcases Nat.lt_or_ge k j with h6 | h6
      · exact h2 j (by omega) (by omega)
      · obtain rfl : j = k := by omega
        rw [h3 j (by omega), put_at]
    · rw [h3 j (by omega), put_ne _ _ (by omega)]
theorem turned_cells {B : Nat} : ∀ (vs : List Value) (k : Nat) (w : World), Turned [B] w (w.setCells B k vs) := by
  intro vs
  induction vs with
  | nil => intro k w; exact Turned.refl _ _
  | cons v vs ih => intro k w; exact ((Turned.refl _ w).set (a := ⟨B, k, none⟩) (.inl (by simp)) v).trans (ih (k + 1) _)
/-- what round leaves -/
def RoundP (S : Sys) (L : Nat → Int) (B : Nat) (w : World) (e : Ending) (w' : World) : Prop :=
  Turned [B] w w' ∧ (∃ M, IsB w' B S.n M) ∧ ((∃ a k, e = .returned (.tuple #[.int .i64 (a : Nat), .bool true]) ∧ a < S.n ∧ 1 ≤ k ∧ Def S L a k ∧ anc S L a k = a) ∨ (e = .returned (.tuple #[.int .i64 0, .bool false]) ∧ Acyc S L))
set_option maxHeartbeats 2000000 in
theorem round_any (S : Sys) (A : At) (K : Nat) (D L M : Nat → Int) (B : Nat) (w : World) (ok : S.Ok) (hr : Rows S A D L w) (hv : Inv S K D L) (hB : IsB w B S.n M) (n1 : B ≠ A.d) (n2 : B ≠ A.l) (n3 : 0 < S.m → ∀ x, A.a = some x → x.block ≠ B) :
    Calls Try.prog 31 #[.agg #[.slice A.a S.m A.c, .slice (some ⟨A.d, 0, none⟩) S.n S.n, .slice (some ⟨A.l, 0, none⟩) S.n S.n], .slice (some ⟨B, 0, none⟩) S.n S.n] w (RoundP S L B w) := by
  have hn := ok.hn
  have hm := ok.hm
  have hs := ok.hs
  have hld := hr.dist.lt
  have hll := hr.last.lt
  have hlB := hB.lt
  obtain ⟨Q, hQ⟩ : ∃ Q, Q = w.heap.size := ⟨_, rfl⟩
  have hba : Below w.heap.size w (w.alloc (.cells #[.slice A.a S.m A.c, .slice (some ⟨A.d, 0, none⟩) S.n S.n, .slice (some ⟨A.l, 0, none⟩) S.n S.n] 48)) := (Below.refl _ _).alloc (Nat.le_refl _) _
  obtain ⟨W1, hW1⟩ : ∃ W1, W1 = w.alloc (.cells #[.slice A.a S.m A.c, .slice (some ⟨A.d, 0, none⟩) S.n S.n, .slice (some ⟨A.l, 0, none⟩) S.n S.n] 48) := ⟨_, rfl⟩
  have q0 : W1.cell? ⟨Q, 0, none⟩ = some (.slice A.a S.m A.c) := by rw [hW1, hQ]; simp [go_sem]
  have q2 : W1.cell? ⟨Q, 2, none⟩ = some (.slice (some ⟨A.l, 0, none⟩) S.n S.n) := by rw [hW1, hQ]; simp [go_sem]
  have hsz : W1.heap.size = Q + 1 := by rw [hW1, hQ]; simp
  rw [← hW1] at hba
  have r1 := hr.below hba
  have b1 := hB.below hba
  have hcl : ∀ ty, (Builtin.clear_ #[25] ty #[.slice (some ⟨B, 0, none⟩) S.n S.n]).run Try.prog W1 = .ok (.tuple #[]) (W1.setCells B 0 (List.replicate S.n (.int .i64 0))) :=
    fun ty => Lib.run_clear_slice W1 25 3 ty (.int .i64 0) Try.underlying25 zero_int rfl rfl B 0 S.n S.n (by omega) (fun j hj => by rw [b1.at0 hj]; rfl) (fun j hj => by rw [Nat.zero_add]; exact b1.fz j)
  obtain ⟨M0, m1, m2, _⟩ := isB_cleared S.n 0 W1 M b1
  have t1 := turned_cells (B := B) (List.replicate S.n (.int .i64 0)) 0 W1
  obtain ⟨W2, hW2⟩ : ∃ W2, W2 = W1.setCells B 0 (List.replicate S.n (.int .i64 0)) := ⟨_, rfl⟩
  rw [← hW2] at hcl m1 t1
  rw [hW1] at hcl
  have HR1 := Lib.hid r1
  have HBA := Lib.hid hba
  have HT1 := Lib.hid t1
  have HM1 := Lib.hid m1
  have HI0 := Lib.hid (MarkI.start (S := S) (L := L) (M := M0) fun v hv => m2 v (by omega) (by omega))
  have HV := Lib.hid hv
  have HQ := Lib.hid hQ
  have HSZ := Lib.hid hsz
  have HQ0 := Lib.hid q0
  have HQ2 := Lib.hid q2
  have N3 := Lib.hid n3
  clear r1 hba t1 m1 m2 hv hQ hsz q0 q2 n3 hW1 hW2 hr hB b1
  go_enter Try.func31, Try.ntmps31
  go_wp2_with (simp only [hcl])
  rw [← HQ.out]
  clear hcl
  go_loopg [4, 5, 6, 7, 8, 12] S.n (fun gg _ _ _ _ _ s12 wr => ∃ (i : Nat) (M : Nat → Int), i ≤ S.n ∧ S.n - i ≤ gg ∧ s12 = .int .i64 i ∧ Hid (IsB wr B S.n M) ∧ Hid (MarkI S L i M) ∧ Hid (Turned [B] W1 wr))
  case atStart => exact ⟨0, M0, Nat.zero_le _, by omega, rfl, HM1, HI0, HT1⟩
  case round =>
    obtain ⟨i, M1, hi, hg, rfl, HB, HI, HT⟩ := hrel
    by_cases hlt : i < S.n
    · have HJ0 := Lib.hid (MarkJ.start HI.out)
      go_wp2_with fail
      go_loopg [7] (zc M1 S.n) (fun g2 s7 wx => ∃ (j a : Nat) (M2 : Nat → Int), s7 = .int .i64 a ∧ zc M2 S.n ≤ g2 ∧ Hid (IsB wx B S.n M2) ∧ Hid (MarkJ S L i M1 M2 j a) ∧ Hid (Turned [B] W1 wx))
      case atStart => exact ⟨0, i, M1, rfl, Nat.le_refl _, HB, HJ0, HT⟩
      case round =>
        obtain ⟨j, a, M2, rfl, hz, HB2, HJ, HT2⟩ := hrel
        have ha := HJ.out.lt HV.out ok hlt
        have ca := HB2.out.at ha
        have fa := HB2.out.fz a
        have hR := HR1.out.turned HT2.out (by simpa using Ne.symm n1) (by simpa using Ne.symm n2) (fun h0 x hx => by have := N3.out h0 x hx; simpa using this)
        have hQB : Q < W1.heap.size := by have := HSZ.out; omega
        have hQB2 : Q ≠ B := by have := HQ.out; omega
        have q0 := (HT2.out.cell (a := ⟨Q, 0, none⟩) hQB (by simpa using hQB2)).trans HQ0.out
        have q2 := (HT2.out.cell (a := ⟨Q, 2, none⟩) hQB (by simpa using hQB2)).trans HQ2.out
        have la := hR.last.at ha
        have hlw := HB2.out.lt
        by_cases h1 : M2 a = 0
        · by_cases h2 : L a = -1
          · have hmk : M2 a ≠ i + 1 := by omega
            have HD := Lib.hid (HJ.out.done HI.out ha hlt (.inr h2) hmk)
            rw [h1] at ca
            rw [h2] at la
            clear hR hmk h1 h2
            have hi1 : ((0 : Int) == (i : Int) + 1) = false := by simp; omega
            go_wp2_with fail
            go_roundg (S.n - (i + 1))
            case measure => omega
            case rel => exact ⟨i + 1, M2, by omega, by omega, by go_num, HB2, HD, HT2⟩
          · obtain ⟨e, e1, e2, e3, e4, _⟩ := HV.out.step ha h2
            have hnx := HJ.out.next h2
            rw [e3] at hnx
            have HNX := Lib.hid hnx; clear hnx
            have hzp := zc_put (x := (i : Int) + 1) ha h1 (by omega)
            rw [h1] at ca
            rw [e2] at la
            rcases hR.es with h0 | ⟨b, off, hA, hb, hmx, hc⟩
            · omega
            have c0 := (hc e e1).1
            have hbB := N3.out (by omega) _ hA
            rw [hA] at q0
            have hFe := ok.hF e e1
            have hx1 : ((e : Int) == -1) = false := by simp
            have hx2 : ((e : Int) != -1) = true := by simp
            simp only at hbB
            clear hc hmx hR h1 h2 hA e2 e3 e4
            have HB3 := Lib.hid (HB2.out.set a ((i : Int) + 1))
            have HT3 := Lib.hid (HT2.out.set (a := ⟨B, a, none⟩) (.inl (by simp)) (.int .i64 ((i : Int) + 1)))
            have hBQ : B ≠ Q := Ne.symm hQB2
            have hbB' : B ≠ b := Ne.symm hbB
            go_wp2_with fail
            go_quiet (fail)
            go_wp2_with fail
            go_roundg (zc (put M2 a ((i : Int) + 1)) S.n)
            case measure => omega
            case rel => exact ⟨j + 1, _, _, rfl, Nat.le_refl _, Lib.hid (HB3.out.kept (by rfl)), HNX, Lib.hid (HT3.out.drewN _)⟩
        · have hx0 : (M2 a == 0) = false := by simp [h1]
          by_cases hmk : M2 a = i + 1
          · obtain ⟨k, k1, k2, k3⟩ := HJ.out.found ha hmk
            have HK2 := Lib.hid k2
            have HK3 := Lib.hid k3
            have HK1 := Lib.hid k1
            rw [hmk] at ca hx0
            clear hR hmk h1 k1 k2 k3
            go_wp2_with fail
            go_ret2
            have ht : Turned [B] w wr := ⟨HT2.out.os.trans HBA.out.os, HT2.out.tape.trans HBA.out.tape, HT2.out.output.trans HBA.out.output, Nat.le_trans HBA.out.size HT2.out.size, fun x hx hn => (HT2.out.block x (Nat.lt_of_lt_of_le hx HBA.out.size) hn).trans (HBA.out.block x hx)⟩
            exact ⟨ht, ⟨_, HB2.out⟩, .inl ⟨a, k, rfl, ha, HK1.out, HK2.out, HK3.out⟩⟩
          · have HD := Lib.hid (HJ.out.done HI.out ha hlt (.inl h1) hmk)
            have hx1 : (M2 a == (i : Int) + 1) = false := by simp [hmk]
            clear hR hmk h1
            generalize M2 a = ma at *
            go_wp2_with fail
            go_roundg (S.n - (i + 1))
            case measure => omega
            case rel => exact ⟨i + 1, M2, by omega, by omega, by go_num, HB2, HD, HT2⟩
    · obtain rfl : i = S.n := by omega
      have hac := HI.out.acyc ok HV.out
      have HAC := Lib.hid hac; clear hac
      go_wp2_with fail
      go_ret2
      have ht : Turned [B] w wr := ⟨HT.out.os.trans HBA.out.os, HT.out.tape.trans HBA.out.tape, HT.out.output.trans HBA.out.output, Nat.le_trans HBA.out.size HT.out.size, fun x hx hn => (HT.out.block x (Nat.lt_of_lt_of_le hx HBA.out.size) hn).trans (HBA.out.block x hx)⟩
      exact ⟨ht, ⟨_, HB.out⟩, .inr ⟨rfl, HAC.out⟩⟩
end Diff
end Go.Proofs.Ytjhghkieghdoaaa
