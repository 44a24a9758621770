/- The search (reachAll), over the translated program. -/
import Derived.Test.YtjhghkieghdoaaaDiffNew
import Derived.Test.YtjhghkieghdoaaaDiffNear
import Derived.Test.YtjhghkieghdoaaaDiffRound
import Derived.Deep.RegionWith
namespace Go.Proofs.Ytjhghkieghdoaaa
open Go.RowKit Go.Lib
namespace Diff
set_option linter.unusedVariables false
theorem st0 {S : Sys} (ok : S.Ok) : St S 0 (D00 S.s) L00 := by
  refine ⟨by rw [Nat.zero_mul]; exact inv0 ok (fun v _ => rfl) (fun v _ => rfl), ⟨fun _ => 0, fun v _ i h => ?_⟩, fun v _ => ?_⟩
  · unfold L00 at h; omega
  · unfold D00 R; exact Int.le_refl _
theorem turned_three {w : World} {Z : Nat} (x y z : Value) : Turned [Z] w (((w.setCell ⟨Z, 0, none⟩ x).setCell ⟨Z, 1, none⟩ y).setCell ⟨Z, 2, none⟩ z) :=
  (((Turned.refl _ w).set (a := ⟨Z, 0, none⟩) (.inl (by simp)) x).set (a := ⟨Z, 1, none⟩) (.inl (by simp)) y).set (a := ⟨Z, 2, none⟩) (.inl (by simp)) z
/-- what the search leaves -/
def ReachP (S : Sys) (a : Option Addr) (c : Nat) (w : World) (e : Ending) (w' : World) : Prop :=
  Below w.heap.size w w' ∧ ∃ d l,
    ((∃ D L k, e = .returned (.tuple #[.agg #[.slice a S.m c, .slice (some ⟨d, 0, none⟩) S.n S.n, .slice (some ⟨l, 0, none⟩) S.n S.n], .slice none 0 0]) ∧ k < S.n ∧ St S k D L ∧ Shut S D ∧ Rows S ⟨a, c, d, l⟩ D L w' ∧ w.heap.size ≤ d ∧ w.heap.size ≤ l) ∨
     (∃ g cc k x q, e = .returned (.tuple #[.agg #[.slice a S.m c, .slice (some ⟨d, 0, none⟩) S.n S.n, .slice (some ⟨l, 0, none⟩) S.n S.n], .slice (some ⟨g, 0, none⟩) k cc]) ∧ IsB w' g k q ∧ 1 ≤ k ∧ k ≤ S.n ∧ w.heap.size ≤ g ∧ x < S.n ∧ IsWay S q k x x ∧ wsum S q k < 0 ∧ ∀ fin X, ¬ Closed S fin X))
/-- between two rounds of the search: Z, R and M are blocks of its own (what it hands back, its variable, the marks) -/
structure ReachR (S : Sys) (A : At) (Z R M : Nat) (w : World) (k : Nat) (wr : World) : Prop where
  st : ∃ D L, St S k D L ∧ Rows S A D L wr
  lt : k < S.n
  marks : ∃ f, IsB wr M S.n f
  box : wr.heap[R]? = some (.cells #[.slice A.a S.m A.c, .slice (some ⟨A.d, 0, none⟩) S.n S.n, .slice (some ⟨A.l, 0, none⟩) S.n S.n] 48)
  out : wr.heap[Z]? = some (.cells #[.slice none 0 0, .slice none 0 0, .slice none 0 0] 48)
  below : Below w.heap.size w wr
  ne : Z = w.heap.size ∧ Z < A.d ∧ Z < A.l ∧ A.d < R ∧ A.l < R ∧ M = R + 1
set_option maxHeartbeats 4000000 in
set_option maxRecDepth 100000 in
theorem reach_any (S : Sys) (a : Option Addr) (c : Nat) (w : World) (ok : S.Ok) (he : IsEs w a S.m (fun i => S.F i) (fun i => S.T i) S.W) :
    Calls Try.prog 21 #[.int .i64 S.n, .slice a S.m c, .int .i64 S.s] w (ReachP S a c w) := by
  have hn := ok.hn
  have hm := ok.hm
  have hs := ok.hs
  have mk2 := make_int S.n (by omega)
  have MK := Lib.hid mk2; clear mk2
  obtain ⟨Z, hZ⟩ : ∃ Z, Z = w.heap.size := ⟨_, rfl⟩
  obtain ⟨W1, hW1⟩ : ∃ W1, W1 = w.alloc (.cells #[.slice none 0 0, .slice none 0 0, .slice none 0 0] 48) := ⟨_, rfl⟩
  have hsz : W1.heap.size = Z + 1 := by rw [hW1, hZ]; simp
  have hz1 : W1.heap[Z]? = some (.cells #[.slice none 0 0, .slice none 0 0, .slice none 0 0] 48) := by rw [hW1, hZ]; exact heap_alloc_new _ _
  have hba : Below w.heap.size w W1 := by rw [hW1]; exact (Below.refl _ _).alloc (Nat.le_refl _) _
  have hnew := new_any a S.m c S.n S.s W1 hn hs
  have HNEW := Lib.hid hnew; clear hnew
  have HZ := Lib.hid hZ; clear hZ
  have HW1 := Lib.hid hW1; clear hW1
  have HSZ := Lib.hid hsz; clear hsz
  have HZ1 := Lib.hid hz1; clear hz1
  have HBA := Lib.hid hba; clear hba
  have HM0 := Lib.hid he.lt
  have HE := Lib.hid he; clear he
  go_enter Try.func21, Try.ntmps21
  go_wp2_with fail
  rw [← HW1.out, ← HZ.out]
  refine HNEW.out.mono ?_
  rintro e w2 ⟨d, l, rfl, h1, h2, h3, h4, h5, h6⟩
  have H1 := Lib.hid h1; clear h1
  have H2 := Lib.hid h2; clear h2
  have H6 := Lib.hid h6; clear h6
  have mk2 := MK.out
  go_wp2_with fail
  clear mk2
  obtain ⟨R, hR⟩ : ∃ R, R = w2.heap.size := ⟨_, rfl⟩
  have hdl := H1.out.lt
  have hll := H2.out.lt
  have hszz := HSZ.out
  have hb3 : Below w2.heap.size w2 ((w2.alloc (.cells #[.slice a S.m c, .slice (some ⟨d, 0, none⟩) S.n S.n, .slice (some ⟨l, 0, none⟩) S.n S.n] 48)).alloc (.cells (Zs S.n) 3)) := ((Below.refl _ _).alloc (Nat.le_refl _) _).alloc (by simp) _
  have hstart : ReachR S ⟨a, c, d, l⟩ Z R (R + 1) w 0 ((w2.alloc (.cells #[.slice a S.m c, .slice (some ⟨d, 0, none⟩) S.n S.n, .slice (some ⟨l, 0, none⟩) S.n S.n] 48)).alloc (.cells (Zs S.n) 3)) := by
    subst hR
    have hW2 := H6.out.size
    have hbb : Below w.heap.size w w2 := HBA.out.trans (H6.out.mono HBA.out.size)
    refine ⟨⟨D00 S.s, L00, st0 ok, ((HE.out.below hbb).below hb3), H1.out.below hb3, H2.out.below hb3, h3, fun h0 x hx => ?_⟩, by omega, ⟨_, isB_zs (t := 3) ?_⟩, ?_, ?_, hbb.trans (hb3.mono (by have := HBA.out.size; omega)), ?_⟩
    · have := HM0.out h0 x hx
      have := HZ.out
      simp only
      omega
    · have := heap_alloc_new (w2.alloc (.cells #[.slice a S.m c, .slice (some ⟨d, 0, none⟩) S.n S.n, .slice (some ⟨l, 0, none⟩) S.n S.n] 48)) (.cells (Zs S.n) 3)
      rw [World.size_alloc] at this
      exact this
    · rw [Below.heap_alloc _ _ _ (by simp)]; exact heap_alloc_new _ _
    · rw [hb3.block Z (by omega), H6.out.block Z (by omega)]; exact HZ1.out
    · have := HZ.out
      exact ⟨this, by show Z < d; omega, by show Z < l; omega, hdl, hll, rfl⟩
  rw [← hR]
  have HST := Lib.hid hstart; clear hstart hb3
  have HR := Lib.hid hR; clear hR hszz hdl hll
  go_loopg [10, 11, 12] S.n (fun gg s10 _ _ wr => ∃ (k : Nat) (bk : Bool), k < S.n ∧ S.n - k ≤ gg ∧ s10 = .bool bk ∧ Hid (ReachR S ⟨a, c, d, l⟩ Z R (R + 1) w k wr))
  case atStart => exact ⟨0, false, by omega, by omega, rfl, HST⟩
  case round =>
    obtain ⟨k, bk, hkn, hg, rfl, HRR⟩ := hrel
    obtain ⟨⟨D, L, hst, hrows⟩, _, ⟨mf, hmarks⟩, hbox, hout, hbel, n0, n1, n2, n3, n4, _⟩ := HRR.out
    simp only at n1 n2 n3 n4 hbox
    have r0 : wr.cell? ⟨R, 0, none⟩ = some (.slice a S.m c) := by simp [World.cell?, hbox]
    have r1 : wr.cell? ⟨R, 1, none⟩ = some (.slice (some ⟨d, 0, none⟩) S.n S.n) := by simp [World.cell?, hbox]
    have r2 : wr.cell? ⟨R, 2, none⟩ = some (.slice (some ⟨l, 0, none⟩) S.n S.n) := by simp [World.cell?, hbox]
    have hlk := looks (k := k + 1) ok (by omega)
    rw [Nat.succ_mul] at hlk
    have hnear := near_any S ⟨a, c, d, l⟩ (k * S.m) D L bk wr ok hrows hst.inv (by omega)
    have HNEAR := Lib.hid hnear; clear hnear
    have HBOX := Lib.hid hbox; clear hbox
    have HOUT := Lib.hid hout; clear hout
    have HBEL := Lib.hid hbel; clear hbel
    have HMK := Lib.hid hmarks; clear hmarks
    have HSTT := Lib.hid hst; clear hst hrows
    have hlR : R < wr.heap.size := (Array.getElem?_eq_some_iff.1 HBOX.out).1
    have hlZ : Z < wr.heap.size := (Array.getElem?_eq_some_iff.1 HOUT.out).1
    have HLK := Lib.hid hlk; clear hlk
    have HN0 := Lib.hid n0; clear n0
    go_wp2_with fail
    refine HNEAR.out.mono ?_
    rintro e w3 ⟨D1, L1, fd, rfl, t3, rw3, mid⟩
    have hblk3 : ∀ x, x < wr.heap.size → x ≠ d → x ≠ l → w3.heap[x]? = wr.heap[x]? := fun x h1 h2 h3 => t3.block x h1 (by simp [h2, h3])
    have box3 := (hblk3 R hlR (by omega) (by omega)).trans HBOX.out
    have out3 := (hblk3 Z hlZ (by omega) (by omega)).trans HOUT.out
    have mk3 := HMK.out.kept (hblk3 (R + 1) HMK.out.lt (by omega) (by omega))
    have bel3 : Below w.heap.size w w3 := HBEL.out.trans (t3.below HBEL.out.size (fun x hx => by have := HN0.out; simp at hx; omega))
    have r30 : w3.cell? ⟨R, 0, none⟩ = some (.slice a S.m c) := by simp [World.cell?, box3]
    have r31 : w3.cell? ⟨R, 1, none⟩ = some (.slice (some ⟨d, 0, none⟩) S.n S.n) := by simp [World.cell?, box3]
    have r32 : w3.cell? ⟨R, 2, none⟩ = some (.slice (some ⟨l, 0, none⟩) S.n S.n) := by simp [World.cell?, box3]
    have z30 : w3.cell? ⟨Z, 0, none⟩ = some (.slice none 0 0) := by simp [World.cell?, out3]
    have z31 : w3.cell? ⟨Z, 1, none⟩ = some (.slice none 0 0) := by simp [World.cell?, out3]
    have z32 : w3.cell? ⟨Z, 2, none⟩ = some (.slice none 0 0) := by simp [World.cell?, out3]
    have zf0 : w3.frozen? ⟨Z, 0, none⟩ = false := by simp [World.frozen?, out3]
    have zf1 : w3.frozen? ⟨Z, 1, none⟩ = false := by simp [World.frozen?, out3]
    have zf2 : w3.frozen? ⟨Z, 2, none⟩ = false := by simp [World.frozen?, out3]
    have hlR3 : R < w3.heap.size := (Array.getElem?_eq_some_iff.1 box3).1
    have hlZ3 : Z < w3.heap.size := (Array.getElem?_eq_some_iff.1 out3).1
    have nZR : Z ≠ R := by omega
    have T3 := Lib.hid t3; clear t3
    have RW3 := Lib.hid rw3; clear rw3
    have MID := Lib.hid mid; clear mid
    have BOX3 := Lib.hid box3; clear box3
    have OUT3 := Lib.hid out3; clear out3
    have MK3 := Lib.hid mk3; clear mk3
    have BEL3 := Lib.hid bel3; clear bel3 hblk3 r0 r1 r2
    cases fd with
    | false =>
      obtain ⟨m1, m2, m3⟩ := MID.out.shut
      subst m1 m2
      have M3 := Lib.hid m3; clear m3
      go_wp2_with fail
      refine bodyPost_ret (v := .tuple #[.agg #[.slice a S.m c, .slice (some ⟨d, 0, none⟩) S.n S.n, .slice (some ⟨l, 0, none⟩) S.n S.n], .slice none 0 0]) (by simp [results, Try.results21, go_sem, z30, z31, z32]) rfl ?_
      have tz := turned_three (w := w3) (Z := Z) (.slice a S.m c) (.slice (some ⟨d, 0, none⟩) S.n S.n) (.slice (some ⟨l, 0, none⟩) S.n S.n)
      have hzz := HN0.out
      refine ⟨BEL3.out.trans (tz.below BEL3.out.size (fun x hx => by simp at hx; omega)), d, l, .inl ⟨D1, L1, k, rfl, hkn, HSTT.out, M3.out, RW3.out.turned tz (by simp; omega) (by simp; omega) (fun h0 x hx => by have := HM0.out h0 x hx; simp; omega), by omega, by omega⟩⟩
    | true =>
      have hround := round_any S ⟨a, c, d, l⟩ (k * S.m + S.m) D1 L1 mf (R + 1) w3 ok RW3.out MID.out.inv MK3.out (by show R + 1 ≠ d; omega) (by show R + 1 ≠ l; omega) (fun h0 x hx => by have := HM0.out h0 x hx; have := HN0.out; omega)
      have HROUND := Lib.hid hround; clear hround
      go_wp2_with fail
      refine HROUND.out.mono ?_
      rintro e w4 ⟨t4, ⟨mf4, mk4⟩, hor⟩
      have hblk4 : ∀ x, x < w3.heap.size → x ≠ R + 1 → w4.heap[x]? = w3.heap[x]? := fun x h1 h2 => t4.block x h1 (by simp [h2])
      have box4 := (hblk4 R hlR3 (by omega)).trans BOX3.out
      have out4 := (hblk4 Z hlZ3 (by omega)).trans OUT3.out
      have hmk3 := MK3.out.lt
      have bel4 : Below w.heap.size w w4 := BEL3.out.trans (t4.below BEL3.out.size (fun x hx => by have := HN0.out; simp at hx; omega))
      have rw4 := RW3.out.turned t4 (by simp; omega) (by simp; omega) (fun h0 x hx => by have := HM0.out h0 x hx; have := HN0.out; simp; omega)
      have r40 : w4.cell? ⟨R, 0, none⟩ = some (.slice a S.m c) := by simp [World.cell?, box4]
      have r41 : w4.cell? ⟨R, 1, none⟩ = some (.slice (some ⟨d, 0, none⟩) S.n S.n) := by simp [World.cell?, box4]
      have r42 : w4.cell? ⟨R, 2, none⟩ = some (.slice (some ⟨l, 0, none⟩) S.n S.n) := by simp [World.cell?, box4]
      have z40 : w4.cell? ⟨Z, 0, none⟩ = some (.slice none 0 0) := by simp [World.cell?, out4]
      have z41 : w4.cell? ⟨Z, 1, none⟩ = some (.slice none 0 0) := by simp [World.cell?, out4]
      have z42 : w4.cell? ⟨Z, 2, none⟩ = some (.slice none 0 0) := by simp [World.cell?, out4]
      have yf0 : w4.frozen? ⟨Z, 0, none⟩ = false := by simp [World.frozen?, out4]
      have yf1 : w4.frozen? ⟨Z, 1, none⟩ = false := by simp [World.frozen?, out4]
      have yf2 : w4.frozen? ⟨Z, 2, none⟩ = false := by simp [World.frozen?, out4]
      have hlR4 : R < w4.heap.size := (Array.getElem?_eq_some_iff.1 box4).1
      have hlZ4 : Z < w4.heap.size := (Array.getElem?_eq_some_iff.1 out4).1
      have BOX4 := Lib.hid box4; clear box4
      have OUT4 := Lib.hid out4; clear out4
      have MK4 := Lib.hid mk4; clear mk4
      have BEL4 := Lib.hid bel4; clear bel4 hblk4
      have RW4 := Lib.hid rw4; clear rw4
      have T4 := Lib.hid t4; clear t4
      clear r30 r31 r32 z30 z31 z32 zf0 zf1 zf2 hmk3
      rcases hor with ⟨x, kk, rfl, hx, hk1, hd1, hc1⟩ | ⟨rfl, hac⟩
      · obtain ⟨kq, q1, q2, q3, q4⟩ := least_back ⟨kk, hk1, hd1, hc1⟩
        have q5 := least_len MID.out.inv ok hx q2 q3 q4
        have htr := fun W (hW : Turned [Z] w4 W) => trail_any S ⟨a, c, d, l⟩ (k * S.m + S.m) D1 L1 x x kq W ok (RW4.out.turned hW (by simp; omega) (by simp; omega) (fun h0 y hy => by have := HM0.out h0 y hy; have := HN0.out; simp; omega)) MID.out.inv hx q1 q5 q2 q3 q4
        have HTR := Lib.hid htr; clear htr
        have Q2 := Lib.hid q2; clear q2
        have Q3 := Lib.hid q3; clear q3
        have Q4 := Lib.hid q4; clear q4 hd1 hc1 hk1
        go_wp2_with fail
        go_region_with (go_at_call 25; (refine (HTR.out _ (by first | exact Turned.refl _ _ | exact (Turned.refl _ _).drew | exact turned_three _ _ _)).mono ?_); rintro e w5 ⟨g, cc, rfl, hg, hB5, hb5⟩; (obtain ⟨hc5, hf5⟩ := bcell hb5); have r50 := (hc5 R 0 hlR4).trans r40; have r51 := (hc5 R 1 hlR4).trans r41; have r52 := (hc5 R 2 hlR4).trans r42; have z50 := (hc5 Z 0 hlZ4).trans z40; have z51 := (hc5 Z 1 hlZ4).trans z41; have z52 := (hc5 Z 2 hlZ4).trans z42; have y50 := (hf5 Z 0 hlZ4).trans yf0; have y51 := (hf5 Z 1 hlZ4).trans yf1; have y52 := (hf5 Z 2 hlZ4).trans yf2; clear hc5 hf5; have HB5 := Lib.hid hB5; clear hB5; have HBB5 := Lib.hid hb5; clear hb5; have HG5 := Lib.hid hg; clear hg)
        all_goals
          go_wp2_with fail
          refine bodyPost_ret (v := .tuple #[.agg #[.slice a S.m c, .slice (some ⟨d, 0, none⟩) S.n S.n, .slice (some ⟨l, 0, none⟩) S.n S.n], .slice (some ⟨g, 0, none⟩) kq cc]) (by simp [results, Try.results21, go_sem, z50, z51, z52]) rfl ?_
          have tz := turned_three (w := w5) (Z := Z) (.slice a S.m c) (.slice (some ⟨d, 0, none⟩) S.n S.n) (.slice (some ⟨l, 0, none⟩) S.n S.n)
          have hzz := HN0.out
          have b5 : Below w4.heap.size w4 w5 := (Below.refl w4.heap.size w4).drew.trans HBB5.out
          have b5' := BEL4.out.trans (b5.mono BEL4.out.size)
          have hgg : w4.heap.size ≤ g := HG5.out
          have hway := MID.out.inv.way ok hx Q2.out
          rw [Q3.out] at hway
          exact ⟨b5'.trans (tz.below b5'.size (fun x hx => by simp at hx; omega)), d, l, .inr ⟨g, cc, kq, x, _, rfl, tz.isB HB5.out (by simp; omega), q1, q5, by omega, hx, hway.1, by rw [hway.2]; exact MID.out.inv.neg ok hx q1 Q2.out Q3.out, MID.out.inv.none ok hx q1 Q2.out Q3.out⟩⟩
      · have hnx := HSTT.out.next ok (by omega) (by have := MID.out.inv; rw [← Nat.succ_mul] at this; exact this) hac MID.out.le MID.out.all (MID.out.yes rfl)
        obtain ⟨hk1, hst1⟩ := hnx
        have HS1 := Lib.hid hst1; clear hst1
        have hrr : ReachR S ⟨a, c, d, l⟩ Z R (R + 1) w (k + 1) w4 := ⟨⟨D1, L1, HS1.out, RW4.out⟩, hk1, ⟨_, MK4.out⟩, BOX4.out, OUT4.out, BEL4.out, HN0.out, n1, n2, n3, n4, rfl⟩
        have HRN := Lib.hid hrr; clear hrr hac
        go_wp2_with fail
        go_roundg (S.n - (k + 1))
        case measure => omega
        case rel => exact ⟨k + 1, !bk, hk1, by omega, rfl, HRN⟩
end Diff
end Go.Proofs.Ytjhghkieghdoaaa
