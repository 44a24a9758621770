/- The library's sort does of the places of a list of spots what SortSaid says: its contract (the shelf's), paid by the closure's. -/
import Derived.Test.YtelblgnleaffoaaSwFacts
import Derived.Test.YtelblgnleaffoaaSortLaid
import Derived.Test.YtelblgnleaffoaaRows
namespace Go.Proofs.Ytelblgnleaffoaa
namespace Spot
open Go.Sort Go.Lib Go.RowKit
theorem sortSaid : SortSaid := by
  intro m X Y ox oy P Q o1 o2 lb lo cap B1 B2 blk c2 w hblk hlb hB1 hB2 ne1 ne2 ne3 hm hH h1 h2 hc hs hn hso hno
  have eg : ∀ args w, (callFunc 27 args).run Try.prog w = .ok (.enter 27 args) w := enters_of Try.func27 (by kernel_rfl) rfl
  have hsz : (List.finRange (m + 1)).toArray.size = m + 1 := by simp
  have hcmp : CmpLays1 Try.prog 27 #[.pointer (some ⟨B1, 0, none⟩), .pointer (some ⟨B2, 0, none⟩)] (encP (m := m)) (cfP X Y ox oy) blk 0 (List.finRange (m + 1)).toArray.size w := by
    intro q os dk _ x y
    have other : ∀ b o, b < w.heap.size → b ≠ blk → (Proofs.sortWorld (encP (m := m)) w blk 0 q dk os).cell? ⟨b, o, none⟩ = w.cell? ⟨b, o, none⟩ := fun b o hb hne => by
      unfold Proofs.sortWorld
      rw [cell?_grow _ _ _ (by simpa [putRow, mapBlock, Sort.ahead] using hb), cell?_putRow_other _ _ _ _ _ _ (Or.inl hne)]
      rfl
    have h := lit_any lb lo (m + 1) cap B1 B2 P Q X Y o1 o2 ox oy x.val y.val (Proofs.sortWorld (encP (m := m)) w blk 0 q dk os) x.isLt y.isLt (by omega)
      ((other B1 0 hB1 ne2).trans h1) ((other B2 0 hB2 ne3).trans h2) ((other lb _ hlb ne1).trans (hc x.val x.isLt)) ((other lb _ hlb ne1).trans (hc y.val y.isLt)) hs hn hso hno
    exact h
  have h := Any.slices_SortFunc sortLaid (encP (m := m)) (fun _ => rfl) (cfP X Y ox oy) (swo X Y ox oy) 27 _ blk 0 c2 (List.finRange (m + 1)).toArray w eg hcmp hH hblk (by rw [hsz]; omega)
  rw [hsz] at h
  refine h.mono ?_
  rintro e w' ⟨he, d', n, os, hp, hso', hw⟩
  refine ⟨he, n, os, ?_⟩
  have hu := sorted_unique_holds (swo X Y ox oy) (tot X Y ox oy) (List.finRange (m + 1)).toArray d' (by rw [hsz]; exact hp) (by rw [hsz]; exact hso')
  have hl : d'.toList = sweepP m X Y ox oy := hu
  have hd : d' = (sweepP m X Y ox oy).toArray := by rw [← hl]
  rw [hw, hd]
end Spot
end Go.Proofs.Ytelblgnleaffoaa
