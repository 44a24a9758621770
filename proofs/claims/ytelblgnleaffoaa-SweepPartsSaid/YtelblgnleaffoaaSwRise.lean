/- sweep.rising at the example's instance: requests, each once, rising. -/
import Derived.Test.YtelblgnleaffoaaSwSort
namespace Go.Proofs.Ytelblgnleaffoaa
open Go.RowKit
namespace Sw
open Go.Lib
set_option maxHeartbeats 2000000 in
set_option maxRecDepth 100000 in
theorem rising_any (c s r b o n cap : Nat) (z kept : List Int) (w : World) (hb0 : b < w.heap.size) (hn : n = z.length) (hn1 : n ≤ 13) (hk1 : 1 ≤ kept.length) (hk2 : kept.length ≤ 12)
    (hc : ∀ j, j < n → w.cell? ⟨b, o + j, none⟩ = some (.int .i64 (z.getD j 0))) (hk : ∀ j, j < kept.length → (pickV (kept.getD j 0) == 0) = false)
    (hkk : z = kept ∨ ∃ y, z = kept ++ [y] ∧ (pickV y == 0) = true) (hs : ∀ j, j + 1 < kept.length → ¬ kept.getD (j + 1) 0 < kept.getD j 0) (hl : (compL kept).length ≤ kept.length) :
    Calls Try.prog 14 #[smpV c s r, .slice (some ⟨b, o, none⟩) n cap] w fun e w' => ∃ g c', e = .returned (.slice (some ⟨g, 0, none⟩) (compL kept).length c') ∧ (compL kept).length ≤ c' ∧ w.heap.size < g ∧ Row w' g (compL kept) ∧ Below w.heap.size w w' := by
  have hmf : ∀ (fn : Fn) (first cap : Array Value) (w : World), (Instr.makeFunc fn first cap).run Try.prog w = .ok (.func fn first cap) w := fun _ _ _ _ => rfl
  have bx := box_new w c s r
  have b0 : Below w.heap.size w (w.alloc (boxO c s r)) := (Below.refl _ _).alloc (Nat.le_refl _) _
  have z0 : (w.alloc (boxO c s r)).heap.size = w.heap.size + 1 := by simp
  have hcl := clone_any b o n cap z (w.alloc (boxO c s r)) hn (by omega) (fun j hj => (b0.cell (by exact hb0)).trans (hc j hj))
  unfold smpV
  have HK := Lib.hid hk; clear hk hc
  have HKK := Lib.hid hkk; clear hkk
  have HS := Lib.hid hs; clear hs
  have HL := Lib.hid hl; clear hl
  have HN := Lib.hid hn; clear hn
  have HK1 := Lib.hid (And.intro hk1 hk2); clear hk1 hk2
  go_enter Try.func14, Try.ntmps14
  go_wp2_with fail
  generalize hW : w.alloc (Obj.cells #[.slice (some ⟨c, 0, none⟩) 2 2, .slice (some ⟨s, 0, none⟩) 10 10, .slice (some ⟨r, 0, none⟩) 4 4, .slice none 0 0] 34) = W
  rw [show w.alloc (boxO c s r) = W from hW] at *
  clear hW
  have Z0 := Lib.hid z0; clear z0
  have BX := Lib.hid bx; clear bx
  have B0 := Lib.hid b0; clear b0
  refine hcl.mono ?_
  rintro e w1 ⟨v, rfl, hown, hv, hb1⟩
  clear hcl
  obtain ⟨g, c1, rfl, hg1, hg2, hg3, hg4, hg5, hH⟩ := holds_of_ownsRow hown hv
  have hrow : Row w1 g z := row_of_holds hg2 hH (fun j hj => by simp [List.getD, hj]) (by simp)
  have HB1 := Lib.hid hb1
  clear hown hv hH hg5
  have hdel := del_any c s r w.heap.size g n c1 z kept w1 (BX.out.below hb1 (by rw [Z0.out]; omega)) HN.out hn1 hg3 hrow HK.out HKK.out
  clear hrow hb1
  have HD := Lib.hid hdel; clear hdel
  go_wp2_with fail
  refine HD.out.mono ?_
  rintro e w2 ⟨rfl, hrow, hb⟩
  have hb2 : Below g w1 w2 := hb
  have hso := sort_any g kept.length c1 kept w2 rfl HK1.out.2 HK1.out.1 hrow (fun j hj => Int.not_lt.2 (HS.out j hj))
  have HR := Lib.hid hrow; clear hrow
  have HSO := Lib.hid hso; clear hso
  have HB2 := Lib.hid hb2; clear hb2 hb
  have HG := Lib.hid (And.intro hg1 (And.intro hg2 hg3)); clear hg1 hg2 hg3 hg4
  go_wp2_with fail
  refine HSO.out.mono ?_
  rintro e w3 ⟨rfl, q, hq⟩
  have hb3 : Below w2.heap.size w2 w3 := by rw [hq]; exact ⟨rfl, rfl, rfl, Nat.le_refl _, fun _ _ => rfl⟩
  clear hq
  have hkz : kept.length ≤ c1 := by
    have h1 := HN.out
    have h2 := HG.out.2.2
    rcases HKK.out with h | ⟨y, h, _⟩
    · rw [h] at h1; omega
    · rw [h, List.length_append] at h1; omega
  have hco := compact_any g kept.length c1 kept w3 rfl HK1.out.2 hkz (HR.out.below hb3 HR.out.1) HL.out
  have HB3 := Lib.hid hb3; clear hb3
  have HCO := Lib.hid hco; clear hco
  go_wp2_with fail
  refine HCO.out.mono ?_
  rintro e w4 ⟨rfl, hrow, hb4⟩
  have HF := Lib.hid (And.intro hrow hb4); clear hrow hb4
  go_wp2_with fail
  go_ret
  have h1 := HG.out.1
  rw [Z0.out] at h1
  refine ⟨g, c1, rfl, Nat.le_trans HL.out hkz, by omega, HF.out.1, ?_⟩
  have k1 := HR.out.1
  exact B0.out.trans ((HB1.out.mono (by rw [Z0.out]; omega)).trans ((HB2.out.mono (by omega)).trans ((HB3.out.mono (by omega)).trans (HF.out.2.mono (by omega)))))
end Sw
end Go.Proofs.Ytelblgnleaffoaa
