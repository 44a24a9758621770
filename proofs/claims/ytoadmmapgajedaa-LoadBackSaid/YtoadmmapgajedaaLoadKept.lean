/- Cells that are kept: what some cells hold, and that nothing of what was there has turned. -/
import Derived.Test.YtoadmmapgajedaaLoadBase
namespace Go.Proofs.Ytoadmmapgajedaa
open Go.RowKit
namespace Load
/-- what some cells hold, and that nothing of what was there has turned -/
def KA (w0 : World) (L : List (Addr × Value)) (W : World) : Prop := (∀ p ∈ L, W.cell? p.1 = some p.2) ∧ Below w0.heap.size w0 W
theorem KA.below {w0 W W' : World} {L : List (Addr × Value)} (h : KA w0 L W) (hb : Below W.heap.size W W') : KA w0 L W' :=
  ⟨fun p hp => (hb.cell (World.block_lt_of_cell? _ _ (h.1 p hp))).trans (h.1 p hp), h.2.trans (hb.mono h.2.size)⟩
theorem KA.alloc {w0 W : World} {L : List (Addr × Value)} (h : KA w0 L W) (o : Obj) : KA w0 L (W.alloc o) := h.below ((Below.refl _ _).alloc (Nat.le_refl _) o)
theorem KA.drew {w0 W : World} {L : List (Addr × Value)} (h : KA w0 L W) : KA w0 L W.drew := h.below (Below.refl _ _).drew
theorem KA.put {w0 W : World} {L : List (Addr × Value)} (h : KA w0 L W) {a : Addr} {v : Value} (hv : W.cell? a = some v) : KA w0 ((a, v) :: L) W :=
  ⟨fun p hp => by rcases List.mem_cons.1 hp with rfl | hp; exact hv; exact h.1 p hp, h.2⟩
theorem KA.at {w0 W : World} {L : List (Addr × Value)} (h : KA w0 L W) {a : Addr} {v : Value} (hm : (a, v) ∈ L) : W.cell? a = some v := h.1 (a, v) hm
theorem KA.lt {w0 W : World} {L : List (Addr × Value)} (h : KA w0 L W) {a : Addr} {v : Value} (hm : (a, v) ∈ L) : a.block < W.heap.size := World.block_lt_of_cell? _ _ (h.1 (a, v) hm)
theorem KA.nil (w : World) : KA w [] w := ⟨fun p hp => by simp at hp, Below.refl _ _⟩
theorem KA.box {w0 W : World} {L : List (Addr × Value)} (h : KA w0 L W) (a b : Value) (T : Nat) : KA w0 ((⟨W.heap.size, 1, none⟩, b) :: (⟨W.heap.size, 0, none⟩, a) :: L) (W.alloc (.cells #[a, b] T)) :=
  ((h.alloc _).put (by simp [go_sem])).put (by simp [go_sem])
theorem KA.sub {w0 W : World} {L L' : List (Addr × Value)} (h : KA w0 L W) (hs : ∀ p ∈ L', p ∈ L) : KA w0 L' W := ⟨fun p hp => h.1 p (hs p hp), h.2⟩
theorem KA.tail {w0 W : World} {L : List (Addr × Value)} {p : Addr × Value} (h : KA w0 (p :: L) W) : KA w0 L W := h.sub fun _ hq => List.mem_cons_of_mem _ hq
theorem KA.hd {w0 W : World} {L : List (Addr × Value)} {a : Addr} {v : Value} (h : KA w0 ((a, v) :: L) W) : W.cell? a = some v := h.1 (a, v) List.mem_cons_self
end Load
end Go.Proofs.Ytoadmmapgajedaa
