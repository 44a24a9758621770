/- The sum of a way (jitneyref07.Sum), and whether a cycle is one (circles). -/
import Derived.Test.YtjhghkieghdoaaaDiffBase
namespace Go.Proofs.Ytjhghkieghdoaaa
open Go.RowKit Go.Lib
namespace Diff
set_option linter.unusedVariables false
theorem sum_nil (a : Option Addr) (m c : Nat) (a1 : Option Addr) (c1 : Nat) (x y : Int) (w : World) :
    Calls Try.prog 16 #[.slice a m c, .slice a1 0 c1, .int .i64 x, .int .i64 y] w fun e w' => e = .returned (.tuple #[.int .i64 0, .bool (x == y)]) ∧ Below w.heap.size w w' := by
  go_enter Try.func16, Try.ntmps16
  go_wp2_with fail
  go_loopg [10, 11, 12] 0 (fun _ s10 s11 s12 wr => s10 = .int .i64 0 ∧ s11 = .int .i64 x ∧ s12 = .int .i64 0 ∧ wr = w)
  case atStart => exact ⟨rfl, rfl, rfl, rfl⟩
  case round =>
    obtain ⟨rfl, rfl, rfl, rfl⟩ := hrel
    go_wp2_with fail
    go_ret2
    exact ⟨rfl, Below.refl _ _⟩
set_option maxHeartbeats 4000000 in
set_option maxRecDepth 100000 in
theorem sum_any (S : Sys) (a : Option Addr) (c g cc k x y : Nat) (q : Nat → Int) (w : World) (ok : S.Ok) (he : IsEs w a S.m (fun i => S.F i) (fun i => S.T i) S.W) (hB : IsB w g k q) (hk : k ≤ 60) (hq : IsWay S q k x y) :
    Calls Try.prog 16 #[.slice a S.m c, .slice (some ⟨g, 0, none⟩) k cc, .int .i64 x, .int .i64 y] w fun e w' => e = .returned (.tuple #[.int .i64 (wsum S q k), .bool true]) ∧ Below w.heap.size w w' := by
  have hm := ok.hm
  obtain ⟨P, hp0, hpk, hp⟩ := hq
  have HP := Lib.hid hp; clear hp
  have HP0 := Lib.hid hp0; clear hp0
  have HPK := Lib.hid hpk; clear hpk
  have HB := Lib.hid hB; clear hB
  have HE := Lib.hid he; clear he
  go_enter Try.func16, Try.ntmps16
  go_wp2_with fail
  go_loopg [10, 11, 12] k (fun gg s10 s11 s12 wr => ∃ i : Nat, i ≤ k ∧ k - i ≤ gg ∧ s10 = .int .i64 (wsum S q i) ∧ s11 = .int .i64 (P i : Nat) ∧ s12 = .int .i64 i ∧ wr = w)
  case atStart => exact ⟨0, Nat.zero_le _, by omega, rfl, by rw [HP0.out], rfl, rfl⟩
  case round =>
    obtain ⟨i, hi, hg, rfl, rfl, rfl, rfl⟩ := hrel
    by_cases hlt : i < k
    · obtain ⟨e, e1, e2, e3, e4⟩ := HP.out i hlt
      rcases HE.out with h0 | ⟨b, off, rfl, hb, hmx, hc⟩
      · omega
      · obtain ⟨c0, c1, c2⟩ := hc e e1
        have cq := HB.out.at hlt
        rw [e2] at cq
        have hWe := ok.hW e e1
        have hsum : wsum S q (i + 1) = wsum S q i + S.W e := by unfold wsum; simp only [sumUp]; rw [e2, Int.toNat_natCast]
        have hbd := sumUp_bnd (g := fun i => S.W (q i).toNat) i (fun j hj => by
          obtain ⟨e', f1, f2, _, _⟩ := HP.out j (by omega)
          show -2199023255552 ≤ S.W (q j).toNat ∧ S.W (q j).toNat ≤ 2199023255552
          rw [f2, Int.toNat_natCast]; exact ok.hW e' f1)
        have hbs : -((i : Int) * 2199023255552) ≤ wsum S q i ∧ wsum S q i ≤ (i : Int) * 2199023255552 := hbd
        simp only at c0 c1
        rw [e3] at c0
        have HSUM := Lib.hid hsum
        have hx1 : ((P i : Int) != (P i : Int)) = false := by simp
        have HE4 := Lib.hid e4
        clear hc hmx hbd hsum e2 e3 e4
        rw [HE4.out] at c1
        generalize wsum S q i = si at *
        generalize S.W e = we at *
        generalize P i = pi at *
        generalize hpn : P (i + 1) = pn at c1
        have HPN := Lib.hid hpn; clear hpn
        go_wp2_with fail
        go_roundg (k - (i + 1))
        case measure => omega
        case rel => exact ⟨i + 1, by omega, by omega, by rw [HSUM.out], by rw [HPN.out], by go_num, rfl⟩
    · obtain rfl : i = k := by omega
      have hpk := HPK.out
      go_wp2_with fail
      go_ret2
      exact ⟨rfl, Below.refl _ _⟩
end Diff
end Go.Proofs.Ytjhghkieghdoaaa
