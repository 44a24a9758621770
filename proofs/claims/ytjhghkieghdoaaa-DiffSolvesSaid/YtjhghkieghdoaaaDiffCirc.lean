/- Whether a told cycle is one (circles). -/
import Derived.Test.YtjhghkieghdoaaaDiffSum
namespace Go.Proofs.Ytjhghkieghdoaaa
open Go.RowKit Go.Lib
namespace Diff
set_option linter.unusedVariables false
set_option maxHeartbeats 1000000 in
theorem circ_any (S : Sys) (a : Option Addr) (c g cc k x : Nat) (q : Nat → Int) (w : World) (ok : S.Ok) (he : IsEs w a S.m (fun i => S.F i) (fun i => S.T i) S.W) (hB : IsB w g k q) (hk : k ≤ 60) (hk1 : 1 ≤ k) (hq : IsWay S q k x x) (hs : wsum S q k < 0) :
    Calls Try.prog 14 #[.slice a S.m c, .slice (some ⟨g, 0, none⟩) k cc] w fun e w' => e = .returned (.bool true) ∧ Below w.heap.size w w' := by
  have hm := ok.hm
  have hsum := sum_any S a c g cc k x x q w ok he hB hk hq
  obtain ⟨P, hp0, hpk, hp⟩ := hq
  obtain ⟨e, e1, e2, e3, e4⟩ := hp 0 (by omega)
  have cq := hB.at (j := 0) (by omega)
  rw [e2] at cq
  rcases he with h0 | ⟨b, off, rfl, hb, hmx, hc⟩
  · omega
  obtain ⟨c0, c1, c2⟩ := hc e e1
  simp only at c0 c1
  rw [e3, hp0] at c0
  have HSUM := Lib.hid hsum
  have hx1 : ((k : Int) == 0) = false := by simp; omega
  have hx2 : decide (0 < k) = true := by simp; omega
  clear hsum hc hmx c1 c2 hp hp0 hpk e2 e3 e4 hB
  generalize wsum S q k = sm at *
  go_enter Try.func14, Try.ntmps14
  go_wp2_with fail
  refine HSUM.out.mono ?_
  rintro e' w' ⟨rfl, hb'⟩
  have HB := Lib.hid hb'; clear hb'
  go_wp2_with fail
  go_ret
  exact ⟨rfl, HB.out⟩
end Diff
end Go.Proofs.Ytjhghkieghdoaaa
