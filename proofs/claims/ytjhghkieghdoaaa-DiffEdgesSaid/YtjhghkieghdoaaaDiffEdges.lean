/- DiffEdges: whatever the input, the law returns true, and each argument reads as it read before. No conditions but the row's own. -/
import Derived.Test.YtjhghkieghdoaaaRows
import Derived.WalkKit
import Derived.ProofKit
import Derived.ShutString
import Derived.ChangeOld
import Derived.Below
import Derived.OpenShut
import Derived.Lib.SmallJoins
import Derived.Test.YtjhghkieghdoaaaDiffMore
import Derived.Deep.DeepCutAuto
import Derived.Outline
import Derived.Deep.RegionHeld3
import Derived.Test.YtjhghkieghdoaaaDiffCall
import Derived.Test.YtjhghkieghdoaaaDiffAlive
import Derived.Test.YtjhghkieghdoaaaDiffSame
namespace Go.Proofs.Ytjhghkieghdoaaa.diffEdges
open Go.ChangeShapes Go.WideShapes Go.ChangeAt Go.RowKit Go.Joins
open Go.ChangeMaps (open_string shut_string)
set_option linter.unusedVariables false

theorem own : ownKnob Try.prog.godebug = none := by kernel_rfl
theorem laidOut : laidOutB Try.prog = true := by kernel_rfl
open Diff Go.Lib
set_option maxHeartbeats 40000000 in
set_option maxRecDepth 100000 in
theorem walk (w : World) (a0 : Int) (w0 : (Lit.int .i64 a0).wf = true) (b1 : Option Addr) (len1 cap1 : Nat) (f1 t1 g1 : Nat → Int) (w1 : IsEs w b1 len1 f1 t1 g1) (x1 : len1 ≤ maxLen) (n1 : b1 = none → len1 = 0 ∧ cap1 = 0) (a2 : Int) (w2 : (Lit.int .i64 a2).wf = true) (f3 t3 g3 : Int) :
    Calls Try.prog 6 #[.int .i64 a0, .slice b1 len1 cap1, .int .i64 a2, .agg #[.int .i64 f3, .int .i64 t3, .int .i64 g3]] w fun e w' => e = .returned (.bool true) ∧ Below w.heap.size w w' := by
  have r0 := i64_range w0
  unfold maxLen at x1
  have W1 := Lib.hid w1; clear w1
  obtain ⟨i0, hi, hz0, hz1, hz2⟩ := info_parts info_edge
  obtain ⟨Q, hQ⟩ : ∃ Q, Q = w.heap.size := ⟨_, rfl⟩
  obtain ⟨Wa, hWa⟩ : ∃ Wa, Wa = w.alloc (.cells #[.int .i64 f3, .int .i64 t3, .int .i64 g3] 42) := ⟨_, rfl⟩
  have hbox : Wa.heap[Q]? = some (.cells #[.int .i64 f3, .int .i64 t3, .int .i64 g3] 42) := by rw [hWa, hQ]; exact heap_alloc_new _ _
  have hba : Below w.heap.size w Wa := by rw [hWa]; exact (Below.refl _ _).alloc (Nat.le_refl _) _
  have hW1a := W1.out.below hba
  have hsza : Wa.heap.size = Q + 1 := by rw [hWa, hQ]; simp
  have HBOX := Lib.hid hbox; clear hbox
  have HBA := Lib.hid hba; clear hba
  have WA := Lib.hid hW1a; clear hW1a
  have HSZA := Lib.hid hsza; clear hsza
  have HWA := Lib.hid hWa; clear hWa
  have HQ := Lib.hid hQ; clear hQ
  by_cases hn : a0 ≤ 60
  · by_cases hm : len1 ≤ 200
    · go_enter Try.func6, Try.ntmps6
      go_wp2_with fail
      rw [← HWA.out, ← HQ.out]
      refine (alive_any _).mono ?_
      rintro e w1 ⟨rfl, hb⟩
      have HB1 := Lib.hid hb; clear hb
      go_wp2_with fail
      refine (solve_all a0 a2 b1 len1 cap1 f1 t1 g1 w1 (WA.out.below HB1.out) (by omega) hn r0.1).mono ?_
      rintro e w2 ⟨v9, v10, ef, rfl, hb, hs1⟩
      have HB2 := Lib.hid (HB1.out.trans (hb.mono HB1.out.size)); clear hb
      have HS1 := Lib.hid hs1; clear hs1
      obtain ⟨N, hN⟩ : ∃ N, N = w2.heap.size := ⟨_, rfl⟩
      have hbx := (HB2.out.block Q (by have := HSZA.out; omega)).trans HBOX.out
      have q0 : w2.cell? ⟨Q, 0, none⟩ = some (.int .i64 f3) := by simp [World.cell?, hbx]
      have q1 : w2.cell? ⟨Q, 1, none⟩ = some (.int .i64 t3) := by simp [World.cell?, hbx]
      have q2 : w2.cell? ⟨Q, 2, none⟩ = some (.int .i64 g3) := by simp [World.cell?, hbx]
      have hQN : Q < w2.heap.size := (Array.getElem?_eq_some_iff.1 hbx).1
      have HBX := Lib.hid hbx; clear hbx
      have HN := Lib.hid hN; clear hN
      go_upto_region 6 with fail
      go_cut [12, 38, 39, 40, 41, 42, 43] (fun s12 s38 s39 s40 s41 s42 s43 wx => MoreQ w2 w2.heap.size len1 f1 t1 g1 f3 t3 g3 s12 wx)
      case first =>
        have WB := Lib.hid (WA.out.below HB2.out)
        rcases b1 with _ | ad
        · obtain ⟨rfl, rfl⟩ := n1 rfl
          go_region_law (first | (refine step_owned_none rfl (.tmp 38) (.tmp 39) 22 rfl w2.heap.size 42 i0 3 Try.underlying22 hi (.slice (some ⟨_, 0, none⟩) 0 0) 0 [] rfl (by repeat (first | (with_reducible refine own_new ?_ ?_) | (with_reducible refine owns_drew ?_) | (with_reducible refine owns_alloc ?_ _) | (with_reducible rfl) | (focus (simp; done)))) rfl ?_) | (refine step_owned rfl (.tmp 40) (.tmp 42) 22 rfl w2.heap.size 42 i0 (.agg #[.int .i64 0, .int .i64 0, .int .i64 0]) 3 24 Try.underlying22 hi hz0 hz1 hz2 rfl (by decide) (.slice (some ⟨_, 0, none⟩) 0 0) 0 [] rfl (by repeat (first | (with_reducible refine own_new ?_ ?_) | (with_reducible refine owns_drew ?_) | (with_reducible refine owns_alloc ?_ _) | (with_reducible rfl) | (focus (simp; done)))) _ 1 1 [.int .i64 f3, .int .i64 t3, .int .i64 g3] rfl rfl (by repeat (first | (with_reducible exact cells_first) | (with_reducible exact cells_second) | (with_reducible refine cells_drew ?_))) one_three (by unfold maxLen; omega) (by omega) (Reg.top (by repeat (first | (with_reducible exact Reg.refl _) | (with_reducible refine Reg.drew ?_) | (with_reducible refine Reg.alloc ?_ _)))) ?_; intro v2 w5 ho2 hg2; have hM := moreQ0 (f := f1) (t := t1) (g := g1) (by repeat (first | (with_reducible exact Reg.refl _) | (with_reducible refine Reg.drew ?_) | (with_reducible refine Reg.alloc ?_ _))) (by repeat (first | (with_reducible refine own_new ?_ ?_) | (with_reducible refine owns_drew ?_) | (with_reducible refine owns_alloc ?_ _) | (with_reducible rfl) | (focus (simp; done)))) ho2 hg2; clear ho2 hg2))
          all_goals
            go_wp2_with fail
            go_meet
            exact hM
        · go_region_law (first | (refine step_owned rfl (.tmp 38) (.tmp 39) 22 rfl w2.heap.size 42 i0 (.agg #[.int .i64 0, .int .i64 0, .int .i64 0]) 3 24 Try.underlying22 hi hz0 hz1 hz2 rfl (by decide) (.slice (some ⟨_, 0, none⟩) 0 0) 0 [] rfl (by repeat (first | (with_reducible refine own_new ?_ ?_) | (with_reducible refine owns_drew ?_) | (with_reducible refine owns_alloc ?_ _) | (with_reducible rfl) | (focus (simp; done)))) ad len1 cap1 (eRow f1 t1 g1 len1) rfl (eRow_len _ _ _ _) (eRow_cells (IsEs.below WB.out (Reg.below (by repeat (first | (with_reducible exact Reg.refl _) | (with_reducible exact hA.reg) | (with_reducible refine Reg.drew ?_) | (with_reducible refine Reg.alloc ?_ _)))))) (eRow_one _ _ _ _) (by unfold maxLen; omega) (by omega) (Reg.top (by repeat (first | (with_reducible exact Reg.refl _) | (with_reducible exact hA.reg) | (with_reducible refine Reg.drew ?_) | (with_reducible refine Reg.alloc ?_ _)))) ?_; intro v1 w4 ho hg; have hA := app1 (by repeat (first | (with_reducible exact Reg.refl _) | (with_reducible exact hA.reg) | (with_reducible refine Reg.drew ?_) | (with_reducible refine Reg.alloc ?_ _))) (by first | exact Nat.le_refl _ | (simp; done)) ho hg; clear ho hg; have p0 := (hA.reg.below.cell (p := ⟨Q, 0, none⟩) hQN).trans q0; have p1 := (hA.reg.below.cell (p := ⟨Q, 1, none⟩) hQN).trans q1; have p2 := (hA.reg.below.cell (p := ⟨Q, 2, none⟩) hQN).trans q2; (try (with_reducible have hE0 := hE_first hA (by first | (simp; done) | (simp; omega)))); (try (with_reducible have hE1 := hE_second hA (by first | (simp; done) | (simp; omega))))) | (refine step_owned rfl (.tmp 40) (.tmp 42) 22 rfl w2.heap.size 42 i0 (.agg #[.int .i64 0, .int .i64 0, .int .i64 0]) 3 24 Try.underlying22 hi hz0 hz1 hz2 rfl (by decide) v1 len1 (eRow f1 t1 g1 len1) rfl (by repeat (first | (with_reducible exact hA.own) | (with_reducible refine owns_drew ?_) | (with_reducible refine owns_alloc ?_ _))) _ 1 1 [.int .i64 f3, .int .i64 t3, .int .i64 g3] rfl rfl (by repeat (first | (with_reducible exact hE0) | (with_reducible exact hE1) | (with_reducible exact cells_new) | (with_reducible refine cells_drew ?_))) one_three (by unfold maxLen; omega) (by omega) (Reg.top (by repeat (first | (with_reducible exact Reg.refl _) | (with_reducible exact hA.reg) | (with_reducible refine Reg.drew ?_) | (with_reducible refine Reg.alloc ?_ _)))) ?_; intro v2 w5 ho2 hg2; have hM := moreQ (by repeat (first | (with_reducible exact Reg.refl _) | (with_reducible exact hA.reg) | (with_reducible refine Reg.drew ?_) | (with_reducible refine Reg.alloc ?_ _))) (by repeat (first | (with_reducible exact hA.own) | (with_reducible refine owns_drew ?_) | (with_reducible refine owns_alloc ?_ _))) ho2 hg2; clear ho2 hg2))
          all_goals
            go_wp2_with fail
            go_meet
            exact hM
      case rest =>
        obtain ⟨gb, cb, rfl, HEM, HBM⟩ := hcut
        have HB3 := Lib.hid (HB2.out.trans (HBM.out.mono HB2.out.size))
        clear q0 q1 q2
        go_wp2_with fail
        refine (solve_all a0 a2 (some ⟨gb, 0, none⟩) (len1 + 1) cb (ext f1 len1 f3) (ext t1 len1 t3) (ext g1 len1 g3) wc HEM.out (by omega) hn r0.1).mono ?_
        rintro e w6 ⟨u9, u10, eg, rfl, hb, hs2⟩
        have HB6 := Lib.hid (HB3.out.trans (hb.mono HB3.out.size))
        have HB26 := Lib.hid (HBM.out.trans (hb.mono HBM.out.size)); clear hb
        have HS2 := Lib.hid hs2; clear hs2
        rcases HS1.out with ⟨hc1, rfl, rfl, rfl⟩ | ⟨hc1, rfl, hd1⟩
        · have hc2 : (rightB a0 (len1 + 1) (ext f1 len1 f3) (ext t1 len1 t3) (ext g1 len1 g3) && inB a2 a0) = false := by
            rw [Bool.and_eq_false_iff] at hc1 ⊢
            rcases hc1 with h | h
            · left; rw [right_ext, h]; rfl
            · exact .inr h
          rcases HS2.out with ⟨_, rfl, rfl, rfl⟩ | ⟨h, _⟩
          · clear hc1 hc2
            go_wp2_with fail
            go_ret
            exact ⟨rfl, HBA.out.trans (HB6.out.mono HBA.out.size)⟩
          · rw [hc2] at h; cases h
        · rcases HS2.out with ⟨_, rfl, rfl, rfl⟩ | ⟨hc2, rfl, hd2⟩
          · clear hc1 hd1
            go_wp2_with fail
            go_ret
            exact ⟨rfl, HBA.out.trans (HB6.out.mono HBA.out.size)⟩
          · have hbad : badE a0 f3 t3 g3 = false := by
              rw [Bool.and_eq_true, right_ext, Bool.and_eq_true] at hc2
              simpa using hc2.1.2
            obtain ⟨⟨bf1, bf2⟩, ⟨bt1, bt2⟩, bg⟩ := badE_false.1 hbad
            obtain ⟨F, rfl⟩ := Int.eq_ofNat_of_zero_le bf1
            obtain ⟨T, rfl⟩ := Int.eq_ofNat_of_zero_le bt1
            rw [sys_ext, Int.toNat_natCast, Int.toNat_natCast] at hd2
            have hc1' := hc1
            rw [Bool.and_eq_true] at hc1'
            obtain ⟨S, hS⟩ : ∃ S, S = sysOf a0 len1 f1 t1 g1 a2 := ⟨_, rfl⟩
            have ok : S.Ok := by rw [hS]; exact sys_ok hc1'.1 hc1'.2 hn (by omega)
            have hSn : ((S.n : Nat) : Int) = a0 := by rw [hS]; exact sys_n hc1'.1
            have hSm : S.m = len1 := by rw [hS]; rfl
            rw [← hS] at hd1 hd2
            have HSS := Lib.hid hS; clear hS
            have HRI := Lib.hid hc1; clear hc1 hc1' hc2 hbad
            have hFn : F < S.n := by omega
            have hTn : T < S.n := by omega
            have hSm2 : S.m ≤ 200 := by omega
            have HSN := Lib.hid hSn; clear hSn
            have HSM := Lib.hid hSm; clear hSm
            have hsn60 := ok.hn
            rcases hd1 with ⟨hdist1, rfl⟩ | ⟨hcirc1, rfl⟩
            · obtain ⟨dd, D, rfl, hBD, hgD, _, _⟩ := hdist1
              rcases hd2 with ⟨hdist2, rfl⟩ | ⟨hcirc2, rfl⟩
              · obtain ⟨dy, Y, rfl, hBY, hgY, _, _⟩ := hdist2
                have HD := Lib.hid (hBD.below HB26.out)
                have HY := Lib.hid (show IsB w6 dy S.n Y from hBY)
                have HGD := Lib.hid hgD
                have HGY := Lib.hid hgY
                clear hBD hBY hgD hgY
                simp only [Sys.plus]
                go_wp2_with fail
                go_loopg [16, 75] S.n (fun gg _ s75 wr => ∃ i : Nat, i ≤ S.n ∧ S.n - i ≤ gg ∧ s75 = .int .i64 i ∧ Hid (Below w6.heap.size w6 wr))
                case atStart => exact ⟨0, Nat.zero_le _, by omega, rfl, Lib.hid (Below.refl _ _)⟩
                case round =>
                  obtain ⟨i, hi', hg, rfl, HBW⟩ := hrel
                  by_cases hlt : i < S.n
                  · have ci := (HD.out.below HBW.out).at hlt
                    have cy := (HY.out.below HBW.out).at hlt
                    have hle := more_le ok hSm2 hFn hTn bg HGD.out HGY.out hlt
                    have hx4 : decide (D i < Y i) = false := by simp; omega
                    clear hle
                    generalize D i = di at *
                    generalize Y i = yi at *
                    go_wp2_with fail
                    go_quiet (fail)
                    go_wp2_with fail
                    go_roundg (S.n - (i + 1))
                    case measure => omega
                    case rel => exact ⟨i + 1, by omega, by omega, by go_num, Lib.hid (below_drewN HBW.out _)⟩
                  · obtain rfl : i = S.n := by omega
                    clear hlt hg
                    have HB7 := Lib.hid (HB6.out.trans (HBW.out.mono HB6.out.size))
                    have HD7 := Lib.hid (HD.out.below HBW.out)
                    have hbx := (HB7.out.block Q (by have := HSZA.out; omega)).trans HBOX.out
                    have q0 : wr.cell? ⟨Q, 0, none⟩ = some (.int .i64 F) := by simp [World.cell?, hbx]
                    have q1 : wr.cell? ⟨Q, 1, none⟩ = some (.int .i64 T) := by simp [World.cell?, hbx]
                    have cF := HD7.out.at hFn
                    have cT := HD7.out.at hTn
                    clear hbx
                    by_cases h1 : D F = Far
                    · rw [h1] at cF
                      unfold Far at cF
                      clear h1
                      go_wp2_with fail
                      go_ret
                      exact ⟨rfl, HBA.out.trans (HB7.out.mono HBA.out.size)⟩
                    · have hx1 : (D F == 1152921504606846976) = false := by unfold Far at h1; simp [h1]
                      by_cases h2 : D T = Far
                      · rw [h2] at cT
                        unfold Far at cT
                        clear h1 h2
                        generalize D F = df at *
                        go_wp2_with fail
                        go_ret
                        exact ⟨rfl, HBA.out.trans (HB7.out.mono HBA.out.size)⟩
                      · have hx2 : (D T == 1152921504606846976) = false := by unfold Far at h2; simp [h2]
                        have bdF := HGD.out.bnd _ hFn
                        have bdT := HGD.out.bnd _ hTn
                        unfold Far at bdF bdT
                        have hF' : D F ≠ 1152921504606846976 := h1
                        have hT' : D T ≠ 1152921504606846976 := h2
                        have H1 := Lib.hid h1
                        have H2 := Lib.hid h2
                        obtain ⟨wv, hwv⟩ : ∃ wv : Int, wv = max (D T - D F) 0 := ⟨_, rfl⟩
                        have hw0 : 0 ≤ wv ∧ D T - D F ≤ wv := by rw [hwv]; omega
                        have hwr : IntKind.i64.wrap (D T - D F) = D T - D F := IntWalk.i64_in _ (by omega)
                        have HWV := Lib.hid hwv
                        have HW0 := Lib.hid hw0
                        clear h1 h2 hwv hw0 bdF bdT hF' hT'
                        go_wp2_with fail
                        go_region
                        rw [← HWV.out]
                        clear hx1 hx2 hwr cF cT
                        obtain ⟨Wx, hWx⟩ : ∃ Wx, Wx = wr.drew := ⟨_, rfl⟩
                        have hbWx : Below wr.heap.size wr Wx := by rw [hWx]; exact (Below.refl _ _).drew
                        have HB9 := Lib.hid (HB7.out.trans (hbWx.mono HB7.out.size))
                        have HD9 := Lib.hid (HD7.out.below hbWx)
                        have q0 : Wx.cell? ⟨Q, 0, none⟩ = some (.int .i64 F) := by rw [hWx]; exact q0
                        have q1 : Wx.cell? ⟨Q, 1, none⟩ = some (.int .i64 T) := by rw [hWx]; exact q1
                        have hQX : Q < Wx.heap.size := World.block_lt_of_cell? _ _ q0
                        rw [← hWx]
                        have WX := Lib.hid (WA.out.below HB9.out)
                        clear hWx hbWx
                        obtain ⟨hw1, hw2⟩ := HW0.out
                        have HW2 := Lib.hid hw2; clear hw2
                        by_cases hbig : 2199023255552 < wv
                        · go_wp2_with fail
                          go_ret
                          exact ⟨rfl, HBA.out.trans (HB9.out.mono HBA.out.size)⟩
                        · have hzw : decide (2199023255552 < wv) = false := by simp; omega
                          go_upto_region 25 with fail
                          go_cut [18, 19, 20, 116, 117, 118, 119, 120, 121, 122, 123, 124, 125, 126, 127, 128, 129, 130, 131, 132, 133] (fun s18 s19 s20 s116 s117 s118 s119 s120 s121 s122 s123 s124 s125 s126 s127 s128 s129 s130 s131 s132 s133 wx => Sol3 a0 (len1 + 1) (ext f1 len1 (F : Nat)) (ext t1 len1 (T : Nat)) (ext g1 len1 wv) a2 Wx s18 wx)
                          case first =>
                            (try clear HBOX)
                            (try clear HBA)
                            (try clear WA)
                            (try clear HSZA)
                            (try clear HWA)
                            (try clear HB1)
                            (try clear HB2)
                            (try clear HS1)
                            (try clear HN)
                            (try clear HBX)
                            (try clear HB3)
                            (try clear HB6)
                            (try clear HB26)
                            (try clear HS2)
                            (try clear HRI)
                            (try clear HSS)
                            (try clear HSN)
                            (try clear HSM)
                            (try clear HGD)
                            (try clear HGY)
                            (try clear HY)
                            (try clear HD)
                            (try clear HB7)
                            (try clear HD7)
                            (try clear HWV)
                            (try clear HW0)
                            (try clear H1)
                            (try clear H2)
                            (try clear HB9)
                            (try clear HD9)
                            (try clear HW2)
                            (try clear HEM)
                            (try clear HBM)
                            (try clear HBW)
                            (try clear ok)
                            (try clear bg)
                            (try clear bf1)
                            (try clear bf2)
                            (try clear bt1)
                            (try clear bt2)
                            (try clear hFn)
                            (try clear hTn)
                            (try clear hSm2)
                            (try clear hsn60)
                            (try clear hbig)
                            (try clear hzw)
                            (try clear hw1)
                            (try clear W1)
                            (try clear w0)
                            rcases b1 with _ | ad
                            · obtain ⟨rfl, rfl⟩ := n1 rfl
                              go_region_held3 (fun w' => w'.cell? ⟨Q, 0, none⟩ = some (.int .i64 (F : Nat)) ∧ w'.cell? ⟨Q, 1, none⟩ = some (.int .i64 (T : Nat))) (first | go_keep | exact ⟨p0, p1⟩ | exact ⟨k8, k8'⟩ | exact ⟨c8.trans k8, c8'.trans k8'⟩ | exact ⟨(c8.trans k8 :), (c8'.trans k8' :)⟩) (first | (go_at_call 9; (refine (solve_all a0 a2 (some ⟨gb2, 0, none⟩) (0 + 1) cb2 (ext f1 0 (F : Nat)) (ext t1 0 (T : Nat)) (ext g1 0 wv) _ HEM2.out (by omega) hn r0.1).mono ?_); rintro e w8 ⟨s18, s19, es, rfl, hb8, hs8⟩; have HB8 := Lib.hid (HBM2.out.trans (hb8.mono HBM2.out.size)); have HS8 := Lib.hid hs8; have c8 := (hb8.cell (p := ⟨Q, 0, none⟩) (by have := HBM2.out.size; show Q < _; omega)); have c8' := (hb8.cell (p := ⟨Q, 1, none⟩) (by have := HBM2.out.size; show Q < _; omega)); clear hb8 hs8) | (refine step_owned_none rfl (.tmp 118) (.tmp 119) 22 rfl Wx.heap.size 42 i0 3 Try.underlying22 hi (.slice (some ⟨_, 0, none⟩) 0 0) 0 [] rfl (by repeat (first | (with_reducible refine own_new ?_ ?_) | (with_reducible refine owns_drew ?_) | (with_reducible refine owns_alloc ?_ _) | (with_reducible rfl) | (focus (simp; done)))) rfl ?_) | (refine step_owned rfl (.tmp 120) (.tmp 127) 22 rfl Wx.heap.size 42 i0 (.agg #[.int .i64 0, .int .i64 0, .int .i64 0]) 3 24 Try.underlying22 hi hz0 hz1 hz2 rfl (by decide) (.slice (some ⟨_, 0, none⟩) 0 0) 0 [] rfl (by repeat (first | (with_reducible refine own_new ?_ ?_) | (with_reducible refine owns_drew ?_) | (with_reducible refine owns_alloc ?_ _) | (with_reducible rfl) | (focus (simp; done)))) _ 1 1 [.int .i64 (F : Nat), .int .i64 (T : Nat), .int .i64 wv] rfl rfl (by repeat (first | (with_reducible exact cells_first) | (with_reducible exact cells_second) | (with_reducible refine cells_drew ?_))) one_three (by unfold maxLen; omega) (by omega) (Reg.top (by repeat (first | (with_reducible exact Reg.refl _) | (with_reducible refine Reg.drew ?_) | (with_reducible refine Reg.alloc ?_ _)))) ?_; intro v4 wz ho2 hg2; have hM := moreQ0 (f := f1) (t := t1) (g := g1) (by repeat (first | (with_reducible exact Reg.refl _) | (with_reducible refine Reg.drew ?_) | (with_reducible refine Reg.alloc ?_ _))) (by repeat (first | (with_reducible refine own_new ?_ ?_) | (with_reducible refine owns_drew ?_) | (with_reducible refine owns_alloc ?_ _) | (with_reducible rfl) | (focus (simp; done)))) ho2 hg2; clear ho2 hg2; obtain ⟨gb2, cb2, rfl, HEM2, HBM2⟩ := hM; have k8 := (HBM2.out.cell (p := ⟨Q, 0, none⟩) hQX).trans q0; have k8' := (HBM2.out.cell (p := ⟨Q, 1, none⟩) hQX).trans q1))
                              all_goals
                                go_wp2_with fail
                                go_meet
                                exact ⟨_, _, _, HB8, HS8⟩
                            · go_region_held3 (fun w' => w'.cell? ⟨Q, 0, none⟩ = some (.int .i64 (F : Nat)) ∧ w'.cell? ⟨Q, 1, none⟩ = some (.int .i64 (T : Nat))) (first | go_keep | exact ⟨p0, p1⟩ | exact ⟨k8, k8'⟩ | exact ⟨c8.trans k8, c8'.trans k8'⟩ | exact ⟨(c8.trans k8 :), (c8'.trans k8' :)⟩) (first | (go_at_call 9; (refine (solve_all a0 a2 (some ⟨gb2, 0, none⟩) (len1 + 1) cb2 (ext f1 len1 (F : Nat)) (ext t1 len1 (T : Nat)) (ext g1 len1 wv) _ HEM2.out (by omega) hn r0.1).mono ?_); rintro e w8 ⟨s18, s19, es, rfl, hb8, hs8⟩; have HB8 := Lib.hid (HBM2.out.trans (hb8.mono HBM2.out.size)); have HS8 := Lib.hid hs8; have c8 := (hb8.cell (p := ⟨Q, 0, none⟩) (by have := HBM2.out.size; show Q < _; omega)); have c8' := (hb8.cell (p := ⟨Q, 1, none⟩) (by have := HBM2.out.size; show Q < _; omega)); clear hb8 hs8) | (refine step_owned rfl (.tmp 118) (.tmp 119) 22 rfl Wx.heap.size 42 i0 (.agg #[.int .i64 0, .int .i64 0, .int .i64 0]) 3 24 Try.underlying22 hi hz0 hz1 hz2 rfl (by decide) (.slice (some ⟨_, 0, none⟩) 0 0) 0 [] rfl (by repeat (first | (with_reducible refine own_new ?_ ?_) | (with_reducible refine owns_drew ?_) | (with_reducible refine owns_alloc ?_ _) | (with_reducible rfl) | (focus (simp; done)))) ad len1 cap1 (eRow f1 t1 g1 len1) rfl (eRow_len _ _ _ _) (eRow_cells (IsEs.below WX.out (Reg.below (by repeat (first | (with_reducible exact Reg.refl _) | (with_reducible exact hA.reg) | (with_reducible refine Reg.drew ?_) | (with_reducible refine Reg.alloc ?_ _)))))) (eRow_one _ _ _ _) (by unfold maxLen; omega) (by omega) (Reg.top (by repeat (first | (with_reducible exact Reg.refl _) | (with_reducible exact hA.reg) | (with_reducible refine Reg.drew ?_) | (with_reducible refine Reg.alloc ?_ _)))) ?_; intro v3 wy ho hg; have hA := app1 (by repeat (first | (with_reducible exact Reg.refl _) | (with_reducible exact hA.reg) | (with_reducible refine Reg.drew ?_) | (with_reducible refine Reg.alloc ?_ _))) (by first | exact Nat.le_refl _ | (simp; done)) ho hg; clear ho hg; have p0 := (hA.reg.below.cell (p := ⟨Q, 0, none⟩) hQX).trans q0; have p1 := (hA.reg.below.cell (p := ⟨Q, 1, none⟩) hQX).trans q1; (try (with_reducible have hE0 := hE_first hA (by first | (simp; done) | (simp; omega)))); (try (with_reducible have hE1 := hE_second hA (by first | (simp; done) | (simp; omega))))) | (refine step_owned rfl (.tmp 120) (.tmp 127) 22 rfl Wx.heap.size 42 i0 (.agg #[.int .i64 0, .int .i64 0, .int .i64 0]) 3 24 Try.underlying22 hi hz0 hz1 hz2 rfl (by decide) v3 len1 (eRow f1 t1 g1 len1) rfl (by repeat (first | (with_reducible exact hA.own) | (with_reducible refine owns_drew ?_) | (with_reducible refine owns_alloc ?_ _))) _ 1 1 [.int .i64 (F : Nat), .int .i64 (T : Nat), .int .i64 wv] rfl rfl (by repeat (first | (with_reducible exact hE0) | (with_reducible exact hE1) | (with_reducible exact cells_new) | (with_reducible refine cells_drew ?_))) one_three (by unfold maxLen; omega) (by omega) (Reg.top (by repeat (first | (with_reducible exact Reg.refl _) | (with_reducible exact hA.reg) | (with_reducible refine Reg.drew ?_) | (with_reducible refine Reg.alloc ?_ _)))) ?_; intro v4 wz ho2 hg2; have hM := moreQ (by repeat (first | (with_reducible exact Reg.refl _) | (with_reducible exact hA.reg) | (with_reducible refine Reg.drew ?_) | (with_reducible refine Reg.alloc ?_ _))) (by repeat (first | (with_reducible exact hA.own) | (with_reducible refine owns_drew ?_) | (with_reducible refine owns_alloc ?_ _))) ho2 hg2; clear ho2 hg2; obtain ⟨gb2, cb2, rfl, HEM2, HBM2⟩ := hM; have k8 := (HBM2.out.cell (p := ⟨Q, 0, none⟩) hQX).trans q0; have k8' := (HBM2.out.cell (p := ⟨Q, 1, none⟩) hQX).trans q1))
                              all_goals
                                go_wp2_with fail
                                go_meet
                                exact ⟨_, _, _, HB8, HS8⟩
                          case rest =>
                            obtain ⟨W', u, ef, HBY, HSY⟩ := hcut
                            have hz : -2199023255552 ≤ wv ∧ wv ≤ 2199023255552 := by omega
                            have hcl := more_same ok hSm2 hFn hTn hz HGD.out H2.out HW2.out
                            rcases HSY.out with ⟨hc, _⟩ | ⟨_, rfl, ⟨hdist3, rfl⟩ | ⟨hcirc3, rfl⟩⟩
                            · rw [Bool.and_eq_false_iff, right_ext, Bool.and_eq_false_iff] at hc
                              have hri := HRI.out
                              rw [Bool.and_eq_true] at hri
                              have hbd : badE a0 (F : Nat) (T : Nat) wv = false := badE_false.2 ⟨⟨by omega, by omega⟩, ⟨by omega, by omega⟩, hz⟩
                              rcases hc with (h | h) | h
                              · rw [hri.1] at h; cases h
                              · rw [hbd] at h; cases h
                              · rw [hri.2] at h; cases h
                            · rw [sys_ext, Int.toNat_natCast, Int.toNat_natCast, ← HSS.out] at hdist3
                              obtain ⟨dS, D3, rfl, hB3, hg3, _, _⟩ := hdist3
                              have hB3' : IsB wc dS S.n D3 := hB3
                              have HSAME := Lib.hid (same_any dS S.n dd S.n S.n D3 D wc (by omega) hB3' (HD9.out.below HBY.out) (fun j hj => hcl.2 D3 hg3 j hj))
                              clear hB3 hB3' hg3 hcl
                              simp only [Sys.plus]
                              go_wp2_with fail
                              refine HSAME.out.mono ?_
                              rintro e w9 ⟨rfl, hb⟩
                              have HBZ := Lib.hid (HBA.out.trans (((HB9.out.trans (HBY.out.mono HB9.out.size)).trans (hb.mono (HB9.out.trans (HBY.out.mono HB9.out.size)).size)).mono HBA.out.size)); clear hb
                              go_wp2_with fail
                              go_ret
                              exact ⟨rfl, HBZ.out⟩
                            · rw [sys_ext, Int.toNat_natCast, Int.toNat_natCast, ← HSS.out] at hcirc3
                              obtain ⟨g, cc, k, x, q, _, _, _, _, _, _, _, _, hno⟩ := hcirc3
                              exact (hno _ _ hcl.1).elim
              · obtain ⟨g, cc, k, x, q, rfl, _, k1, _⟩ := hcirc2
                clear hgD hBD
                have hk0 : decide (0 < k) = true := by simp; omega
                have hk3 : decide ((0 : Int) < (k : Int)) = true := by simp; omega
                go_wp2_with fail
                go_ret
                exact ⟨rfl, HBA.out.trans (HB6.out.mono HBA.out.size)⟩
            · obtain ⟨g, cc, k, x, q, rfl, _, k1, _, _, _, _, _, hno⟩ := hcirc1
              rcases hd2 with ⟨hdist2, rfl⟩ | ⟨hcirc2, rfl⟩
              · obtain ⟨dy, Y, rfl, hBY, hgY, _, _⟩ := hdist2
                exact (hno _ _ (hgY.closed (ok.plus hSm2 hFn hTn bg)).less).elim
              · obtain ⟨g', cc', k', x', q', rfl, _, k1', _⟩ := hcirc2
                clear hno
                have hk0 : decide (0 < k) = true := by simp; omega
                have hk3 : decide ((0 : Int) < (k : Int)) = true := by simp; omega
                have hk0' : decide (0 < k') = true := by simp; omega
                have hk3' : decide ((0 : Int) < (k' : Int)) = true := by simp; omega
                go_wp2_with fail
                go_ret
                exact ⟨rfl, HBA.out.trans (HB6.out.mono HBA.out.size)⟩
    · go_enter Try.func6, Try.ntmps6
      go_wp2_with fail
      rw [← HWA.out, ← HQ.out]
      refine (alive_any _).mono ?_
      rintro e w1 ⟨rfl, hb⟩
      have HB1 := Lib.hid hb; clear hb
      go_wp2_with fail
      go_ret
      exact ⟨rfl, HBA.out.trans (HB1.out.mono HBA.out.size)⟩
  · go_enter Try.func6, Try.ntmps6
    go_wp2_with fail
    rw [← HWA.out, ← HQ.out]
    refine (alive_any _).mono ?_
    rintro e w1 ⟨rfl, hb⟩
    have HB1 := Lib.hid hb; clear hb
    go_wp2_with fail
    go_ret
    exact ⟨rfl, HBA.out.trans (HB1.out.mono HBA.out.size)⟩

set_option maxRecDepth 100000 in
theorem lifted (os : Os) (started : os.Started) (H : Type) (enc : TypeId × Value → H) :
    ReturnsInHanded {} Try.checked os 6 .any (Rows.diffEdgesSpec.pre6 enc Try.prog Try.f6 Rows.diffEdgesRow.domain false) (Rows.diffEdgesSpec.post enc Try.prog Try.f6 false true false false) := by
  refine returnsInHanded_of_change (C := Try.checked) own started (by kernel_rfl) Try.func6
    (ChangeSpec.witness6 (enc := enc) (C := Try.checked) false ⟨#[], #[.int .i64 0, .slice none 0 0, .int .i64 0, .agg #[.int .i64 0, .int .i64 0, .int .i64 0]], []⟩ 8 (by kernel_rfl) (by kernel_rfl) (by kernel_rfl) (by kernel_rfl)) ?_
  intro W base args ds gs before hval0 hW hcnd _
  have hval : ∀ (j : Nat) t v, Try.f6.params[j]? = some t → args[j]? = some v → Value.okWide Try.prog W .any base t v := hval0
  have hW' := hW
  obtain ⟨p, q, hA0, hV, rfl, hfz, hnd⟩ := hW
  have hA : DataW.TrodAll enc Try.prog W 0 (fun _ => true) true Try.f6.params.toList args.toList ds p := hA0
  rw [Try.params6] at hA hval
  obtain ⟨v0, vs0, d0, ds0, p0, q0, hargs, rfl, rfl, h0, r0⟩ := trodAll_cons hA
  obtain ⟨v1, vs1, d1, ds1, p1, q1, rfl, rfl, rfl, h1, r1⟩ := trodAll_cons r0
  obtain ⟨v2, vs2, d2, ds2, p2, q2, rfl, rfl, rfl, h2, r2⟩ := trodAll_cons r1
  obtain ⟨v3, vs3, d3, ds3, p3, q3, rfl, rfl, rfl, h3, r3⟩ := trodAll_cons r2
  obtain ⟨rfl, rfl, rfl⟩ := trodAll_nil r3
  obtain rfl : args = #[v0, v1, v2, v3] := by cases args; simp_all
  obtain ⟨rfl, rfl⟩ := trodVars_none hV
  obtain ⟨a0, rfl, rfl, rfl, w0⟩ := open_int Try.underlying3 (hval 0 3 v0 rfl rfl) h0
  have k1 := h1
  have lt1 : ∀ x ∈ p1, x.block < W.heap.size := by obtain ⟨m, hm⟩ := k1; exact DataW.trod_lt m _ _ _ hm
  obtain ⟨b1, len1, cap1, rfl⟩ := okWide_slice Try.underlying22 (hval 1 22 v1 rfl rfl)
  have n1 := slice_none Try.underlying22 h1
  obtain ⟨f1, t1, g1, w1⟩ := isEs_of Try.underlying22 Try.underlying42 cellsEdge Try.underlying3 cellsInt Try.underlying2 cellsLong h1
  have x1 : len1 ≤ maxLen := by
    rcases w1 with h | ⟨_, _, _, _, h, _⟩
    · rw [h]; exact Nat.zero_le _
    · exact h
  obtain ⟨a2, rfl, rfl, rfl, w2⟩ := open_int Try.underlying3 (hval 2 3 v2 rfl rfl) h2
  have k3 := h3
  have lt3 : ∀ x ∈ p3, x.block < W.heap.size := by obtain ⟨m, hm⟩ := k3; exact DataW.trod_lt m _ _ _ hm
  obtain ⟨c3, e3, z3, y3, y3', y3'', m3, rfl, hd3, hp3, hy3, hy3', hy3''⟩ := open_agg3 Try.underlying42 (by kernel_rfl) cellsEdge (hval 3 42 v3 rfl rfl) h3
  obtain ⟨f3, hc3, _, _⟩ := DataW.trod_int Try.underlying3 hy3
  obtain ⟨t3, he3, _, _⟩ := DataW.trod_int Try.underlying3 hy3'
  obtain ⟨g3, hz3, _, _⟩ := DataW.trod_int Try.underlying2 hy3''
  simp only [List.cons.injEq, and_true] at hc3 he3 hz3
  subst hc3 he3 hz3
  clear hA0 hval0
  refine (walk W a0 w0 b1 len1 cap1 f1 t1 g1 w1 x1 n1 a2 w2 f3 t3 g3).mono fun e W' ⟨he, bel⟩ => ?_
  subst he
  exact ⟨_, rfl, _, _, _, [], _, [], hW', trodAll_mk1 (shut_bool Try.underlying4 _), (trodAll_cons_mk (shut_int Try.underlying3 w0) (trodAll_cons_mk (Below.trod laidOut (by kernel_rfl) (of_decide_eq_true (by kernel_rfl)) k1 bel lt1) (trodAll_cons_mk (shut_int Try.underlying3 w2) (trodAll_cons_mk (Below.trod laidOut (by kernel_rfl) (of_decide_eq_true (by kernel_rfl)) k3 bel lt3) trodAll_mk0)))), rfl, bel.frame _, fun h => by cases h⟩

theorem over : Rows.diffEdgesRow.holds Try.pinned (OpenSpec.ofChange Rows.diffEdgesSpec) :=
  OpenClaim.holds_of_wide 6 Try.f6 rfl rfl rfl rfl rfl rfl rfl ⟨rfl, rfl, rfl, rfl, rfl⟩ rfl rfl rfl rfl rfl (by kernel_rfl) Try.func6 (by kernel_rfl)
    (of_decide_eq_true (by kernel_rfl)) (by unfold Func.isWrapper; first | (rw [if_pos (by decide +kernel)]; kernel_rfl) | (rw [if_neg (by decide +kernel)]; exact ⟨rfl, rfl⟩))
    (fun os started H enc _ => lifted os started H enc)

/-- THE STATEMENT -/
theorem proved : Rows.DiffEdgesSaid := over
#print axioms proved
end Go.Proofs.Ytjhghkieghdoaaa.diffEdges
