/- Rows that rise: the library's sort leaves them, slices.Compact takes out what stands twice. -/
import Derived.Test.YtelblgnleaffoaaSwRow
namespace Go.Proofs.Ytelblgnleaffoaa
open Go.RowKit
namespace Sw
open Go.Lib
theorem less_any (x y : Int) (w : World) : Calls Try.prog 51 #[.int .i64 x, .int .i64 y] w fun e w' => e = .returned (.bool (decide (x < y))) ∧ w = w' := by
  have hn : ∀ (a : Int) (w : World), Calls Try.prog 42 #[.int .i64 a] w fun e w' => e = .returned (.bool false) ∧ w = w' := fun a w => Spot.nanI_any a w
  have HN := Lib.hid hn; clear hn
  go_enter Try.func51, Try.ntmps51
  go_wp2_with fail
  refine (HN.out _ _).mono ?_
  rintro e w' ⟨rfl, rfl⟩
  go_wp2_with fail
  go_ret
  exact ⟨rfl, rfl⟩
set_option maxHeartbeats 2000000 in
set_option maxRecDepth 100000 in
theorem ins_any (g n cap : Nat) (z : List Int) (w : World) (hn : n = z.length) (hn1 : n ≤ 12) (hn0 : 1 ≤ n) (hz : Row w g z) (hs : ∀ j, j + 1 < n → ¬ z.getD (j + 1) 0 < z.getD j 0) :
    Calls Try.prog 45 #[.slice (some ⟨g, 0, none⟩) n cap, .int .i64 0, .int .i64 (n : Int)] w fun e w' => e = .returned (.tuple #[]) ∧ ∃ q, w' = w.drewN q := by
  have HZ := Lib.hid hz; clear hz
  have HS := Lib.hid hs; clear hs
  have HN := Lib.hid hn; clear hn
  go_enter Try.func45, Try.ntmps45
  go_wp2_with fail
  go_loopg [6, 7] n (fun gg s6 _ wr => ∃ k : Nat, 1 ≤ k ∧ k ≤ n ∧ n - k ≤ gg ∧ s6 = .int .i64 k ∧ Hid (∃ q, wr = w.drewN q))
  case atStart => exact ⟨1, by omega, by omega, by omega, rfl, Lib.hid ⟨0, rfl⟩⟩
  case round =>
    obtain ⟨k, hk1, hk, hg, rfl, HQ⟩ := hrel
    by_cases hlt : k < n
    · obtain ⟨k', hkk⟩ : ∃ k', k = k' + 1 := ⟨k - 1, by omega⟩
      have c1 : wr.cell? ⟨g, k, none⟩ = some (.int .i64 (z.getD k 0)) := by obtain ⟨q, rfl⟩ := HQ.out; exact (HZ.out.2 k (by rw [← HN.out]; exact hlt)).1
      have c0 : wr.cell? ⟨g, k', none⟩ = some (.int .i64 (z.getD k' 0)) := by obtain ⟨q, rfl⟩ := HQ.out; exact (HZ.out.2 k' (by rw [← HN.out]; omega)).1
      have hcmp := HS.out k' (by omega)
      rw [← hkk] at hcmp
      generalize z.getD k 0 = x at *
      generalize z.getD k' 0 = y at *
      have hd : decide (x < y) = false := by simpa using hcmp
      have hl := fun w => less_any x y w
      rw [hd] at hl
      have HL := Lib.hid hl; clear hl hd hcmp
      have hpos : decide ((0 : Int) < (k : Int)) = true := by simp; omega
      have hpos' : decide (0 < k) = true := by simp; omega
      have hi0 : (0 : Int) ≤ (k : Int) := by omega
      have hi1 : (k : Int) < (n : Int) := by omega
      have hsub : (k : Int) - 1 = (k' : Int) := by omega
      have hwr : IntKind.i64.wrap ((k' : Int)) = (k' : Int) := IntWalk.i64_in _ (by omega)
      have hj1 : (k' : Int) < (n : Int) := by omega
      have hj0 : (0 : Int) ≤ (k' : Int) := by omega
      have HK' := Lib.hid hkk; clear hkk
      go_wp2_with fail
      go_loopg [7] 1 (fun gg s7 wx => s7 = .int .i64 k ∧ wx = wr)
      case atStart => exact ⟨rfl, rfl⟩
      case round =>
        obtain ⟨rfl, rfl⟩ := hrel
        go_wp2_with fail
        go_region_held3 (fun w' => w'.cell? ⟨g, k, none⟩ = some (.int .i64 x) ∧ w'.cell? ⟨g, k', none⟩ = some (.int .i64 y)) (go_keep)
          (first | (go_at_call 51; refine (HL.out _).mono ?_; rintro e w' ⟨rfl, rfl⟩))
        go_wp2
        go_roundg (n - (k + 1))
        case measure => omega
        case rel => exact ⟨k + 1, by omega, by omega, by omega, by go_num, Lib.hid (by obtain ⟨q, rfl⟩ := HQ.out; exact ⟨q + 1, rfl⟩)⟩
    · obtain rfl : k = n := by omega
      go_wp2_with fail
      go_end0
      exact ⟨rfl, HQ.out⟩
set_option maxRecDepth 100000 in
theorem len_any (n : Nat) (hn : n ≤ 12) (w : World) : Calls Try.prog 35 #[.int .u64 (n : Int)] w fun e w' => (∃ v : Int, e = .returned (.int .i64 v)) ∧ w = w' := by
  have h : ∀ w, Calls Try.prog 55 #[.int .u64 (n : Int)] w fun e w' => (∃ v : Int, e = .returned (.int .i64 v)) ∧ w = w' := fun w => by
    have h1 : decide ((4294967296 : Int) ≤ (n : Int)) = false := by simp; omega
    have h2 : decide ((65536 : Int) ≤ (n : Int)) = false := by simp; omega
    have h3 : decide ((256 : Int) ≤ (n : Int)) = false := by simp; omega
    have h4 : n < len8tab.size := by have : len8tab.size = 256 := by decide +kernel
                                     omega
    go_enter Try.func55, Try.ntmps55
    go_wp2
    go_ret
    exact ⟨⟨_, rfl⟩, rfl⟩
  go_enter Try.func35, Try.ntmps35
  go_wp2_with fail
  refine (h _).mono ?_
  rintro e w' ⟨⟨v, rfl⟩, rfl⟩
  go_wp2_with fail
  go_ret
  exact ⟨⟨_, rfl⟩, rfl⟩
set_option maxHeartbeats 2000000 in
set_option maxRecDepth 100000 in
theorem pdq_any (g n cap : Nat) (z : List Int) (v : Int) (w : World) (hn : n = z.length) (hn1 : n ≤ 12) (hn0 : 1 ≤ n) (hz : Row w g z) (hs : ∀ j, j + 1 < n → ¬ z.getD (j + 1) 0 < z.getD j 0) :
    Calls Try.prog 34 #[.slice (some ⟨g, 0, none⟩) n cap, .int .i64 0, .int .i64 (n : Int), .int .i64 v] w fun e w' => e = .returned (.tuple #[]) ∧ ∃ q, w' = w.drewN q := by
  have h1 := ins_any g n cap z w hn hn1 hn0 hz hs
  have H1 := Lib.hid h1; clear h1 hn hz hs
  have h12 : ((n : Int) ≤ 12) := by omega
  have hwr : IntKind.i64.wrap (n : Int) = (n : Int) := IntWalk.i64_in _ (by omega)
  go_enter Try.func34, Try.ntmps34
  go_wp2_with fail
  go_loopg [1, 2] 1 (fun gg s1 s2 wr => s1 = .int .i64 0 ∧ s2 = .int .i64 (n : Int) ∧ wr = w)
  case atStart => exact ⟨rfl, rfl, rfl⟩
  case round =>
    obtain ⟨rfl, rfl, rfl⟩ := hrel
    go_wp2_with fail
    refine H1.out.mono ?_
    rintro e w1 ⟨rfl, hq⟩
    go_wp2_with fail
    refine bodyPost_ret (results_none rfl _ _ _) rfl ?_
    exact ⟨rfl, hq⟩
set_option maxHeartbeats 2000000 in
theorem sort_any (g n cap : Nat) (z : List Int) (w : World) (hn : n = z.length) (hn1 : n ≤ 12) (hn0 : 1 ≤ n) (hz : Row w g z) (hs : ∀ j, j + 1 < n → ¬ z.getD (j + 1) 0 < z.getD j 0) :
    Calls Try.prog 22 #[.slice (some ⟨g, 0, none⟩) n cap] w fun e w' => e = .returned (.tuple #[]) ∧ ∃ q, w' = w.drewN q := by
  have h1 := fun v => pdq_any g n cap z v w hn hn1 hn0 hz hs
  have H1 := Lib.hid h1; clear h1 hn hz hs
  have h12 : ((n : Int) ≤ 12) := by omega
  go_enter Try.func22, Try.ntmps22
  go_wp2_with fail
  refine (len_any n hn1 _).mono ?_
  rintro e w1 ⟨⟨v, rfl⟩, rfl⟩
  go_wp2_with fail
  refine (H1.out v).mono ?_
  rintro e w1 ⟨rfl, hq⟩
  go_wp2_with fail
  go_end0
  exact ⟨rfl, hq⟩
open Go.Sort in
theorem Row.holds {w : World} {g : Nat} {z : List Int} (h : Row w g z) : Holds (Value.int .i64) w g 0 z.toArray := fun j hj => by
  have hj' : j < z.length := by simpa using hj
  have := h.2 j hj'
  rw [Nat.zero_add]
  rw [show z.toArray[j]! = z.getD j 0 by simp [List.getD, getElem!_pos, hj']]
  exact this
open Go.Sort in
theorem row_of_holds {w : World} {g : Nat} {d : Array Int} {z : List Int} (hg : g < w.heap.size) (h : Holds (Value.int .i64) w g 0 d) (hp : ∀ j, j < z.length → d[j]! = z.getD j 0) (hl : z.length ≤ d.size) : Row w g z := ⟨hg, fun j hj => by
  have := h j (by omega)
  rw [Nat.zero_add, hp j hj] at this
  exact this⟩
/-- slices.Compact's answer. -/
def compL (z : List Int) : List Int := Go.Lib.compactUpTo z.toArray z.toArray.size
open Go.Sort in
theorem compact_any (g n cap : Nat) (z : List Int) (w : World) (hn : n = z.length) (hn1 : n ≤ 12) (hcap : n ≤ cap) (hz : Row w g z) (hl : (compL z).length ≤ n) :
    Calls Try.prog 23 #[.slice (some ⟨g, 0, none⟩) n cap] w fun e w' => e = .returned (.slice (some ⟨g, 0, none⟩) (compL z).length cap) ∧ Row w' g (compL z) ∧ Below g w w' := by
  subst hn
  have hs : z.toArray.size = z.length := by simp
  have h := AnyE.slices_Compact compLaid (Value.int .i64) (fun _ => rfl) (EqlAt.intD _ _ _) (NeqAt.intD _ _ _) 0 Try.zeroValue3 g 0 cap z.toArray w hz.holds (by omega) (by omega)
  rw [hs] at h
  refine h.mono ?_
  rintro e w' ⟨he, q, hw⟩
  rw [← hs] at he hw
  refine ⟨he, ?_, ?_⟩
  · have hsz : (compL z ++ List.replicate (z.toArray.size - (compL z).length) 0).toArray.size = z.toArray.size := by simp; omega
    have hh := holds_putRow (Value.int .i64) (Sort.ahead w q) g 0 z.toArray (compL z ++ List.replicate (z.toArray.size - (compL z).length) 0).toArray (holds_ahead _ w q g 0 z.toArray hz.holds) hsz
    rw [hw]
    refine row_of_holds ?_ hh (fun j hj => ?_) (by simp)
    · have := hz.1
      simpa [putRow, mapBlock, Sort.ahead] using this
    · have hj2 : j < (compL z ++ List.replicate (z.toArray.size - (compL z).length) (0 : Int)).length := by simp; omega
      simp [List.getD, hj]
      rw [List.getElem?_append_left (by exact hj), List.getElem?_eq_getElem hj]; rfl
  · rw [hw]
    exact below_putRow (Below.refl _ _) (Nat.le_refl _)
theorem info_int : (Try.prog.info? 3).map (fun i => (i.zero, i.size, i.bytes)) = some (some (.int .i64 0), 1, 8) := by kernel_rfl
set_option maxRecDepth 100000 in
theorem clone_any (b o n c : Nat) (z : List Int) (w : World) (hn : n = z.length) (hn1 : n ≤ 1000) (hc : ∀ j, j < n → w.cell? ⟨b, o + j, none⟩ = some (.int .i64 (z.getD j 0))) :
    Calls Try.prog 13 #[.slice (some ⟨b, o, none⟩) n c] w fun e w' => ∃ v, e = .returned v ∧ w'.ownsRow w.heap.size 3 1 v n (z.map (Value.int .i64)) ∧ v ≠ .slice none 0 0 ∧ Below w.heap.size w w' := by
  obtain ⟨i0, hi, hz0, hz1, hz2⟩ := info_parts info_int
  refine AnyE.slices_Clone cloneLaid i0 (.int .i64 0) 1 8 hi hz0 hz1 hz2 rfl (by decide) Try.sizeOf3 b o n c (z.map (Value.int .i64)) w (by simp [hn]) (by unfold maxLen; omega) (by omega) (fun j u hu => ?_) (fun u hu => ?_)
  · rw [List.getElem?_map] at hu
    cases hz : z[j]? with
    | none => rw [hz] at hu; cases hu
    | some x =>
      rw [hz] at hu
      injection hu with hu
      have hj : j < n := by rw [hn]; exact (List.getElem?_eq_some_iff.1 hz).1
      rw [hc j hj, ← hu]
      simp [List.getD, hz]
  · obtain ⟨x, _, rfl⟩ := List.mem_map.1 hu
    rfl
/-- What slices.DeleteFunc leaves: all, or all but the last one. -/
theorem del_any (c s r B g n cap : Nat) (z kept : List Int) (w : World) (hx : Box w B c s r) (hn : n = z.length) (hn1 : n ≤ 13) (hcap : n ≤ cap) (hz : Row w g z) (hk : ∀ j, j < kept.length → (pickV (kept.getD j 0) == 0) = false)
    (hkk : z = kept ∨ ∃ y, z = kept ++ [y] ∧ (pickV y == 0) = true) :
    Calls Try.prog 20 #[.slice (some ⟨g, 0, none⟩) n cap, .func (.func 21) #[] #[.pointer (some ⟨B, 0, none⟩)]] w fun e w' => e = .returned (.slice (some ⟨g, 0, none⟩) kept.length cap) ∧ Row w' g kept ∧ Below g w w' := by
  rcases hkk with rfl | ⟨y, hy, hyk⟩
  · refine (del_none c s r B g n cap z w hx hn (by omega) hz (by rw [hn]; exact hk)).mono ?_
    rintro e w' ⟨rfl, hb⟩
    exact ⟨by rw [hn], hz.below hb hz.1, hb.mono (Nat.le_of_lt hz.1)⟩
  · have hl : kept.length + 1 = z.length := by rw [hy]; simp
    rw [hn, ← hl]
    have e : z.take kept.length = kept := by rw [hy]; simp
    have h := del_last c s r B g kept.length cap z w hx hl (by omega) (by omega) hz (fun j hj => by rw [hy, show (kept ++ [y]).getD j 0 = kept.getD j 0 by simp [List.getD, List.getElem?_append_left hj]]; exact hk j hj) (by rw [hy]; simpa [List.getD] using hyk)
    rw [e] at h
    exact h
end Sw
end Go.Proofs.Ytelblgnleaffoaa
