/- The document's examples of layer 6, plain: what each text reads as. sheet.write: the text of the document's example; over the translated program. The document's examples of layer 6: each call answers as said; over the translated program. -/
import Derived.Test.YtjmhlabgoegeoaaGreatDoorSheetChk3
import Derived.Test.YtjmhlabgoegeoaaGreatDoorSheetParse
import Derived.Test.YtjmhlabgoegeoaaGreatDoorSheetPage4
namespace Go.Proofs.YtjmhlabgoegeoaaGreatDoor
namespace Sheet
open Go Go.RowKit Deci
def exA : ByteArray := ⟨#[106, 105, 116, 110, 101, 121, 32, 48, 32, 49, 32, 48, 32, 115, 112, 111, 116, 115, 10, 99, 97, 114, 32, 49, 32, 48, 32, 57, 10, 115, 116, 111, 112, 32, 48, 32, 48, 32, 48, 32, 48, 32, 48, 32, 48, 32, 57, 10, 115, 116, 111, 112, 32, 48, 32, 48, 32, 48, 32, 48, 32, 48, 32, 48, 32, 57, 10]⟩
def exB : ByteArray := ⟨#[106, 105, 116, 110, 101, 121, 32, 48, 32, 49, 32, 48, 32, 115, 112, 111, 116, 115, 10, 99, 97, 114, 32, 49, 32, 48, 10]⟩
def exC : ByteArray := ⟨#[106, 105, 116, 110, 101, 121, 32, 48, 32, 49, 32, 48, 32, 115, 112, 111, 116, 115, 10]⟩
def exL : List ByteArray := linesP exA.data.toList
theorem ex_chk : (parOf exL).chk = 0 := by decide +kernel
theorem ex_a : readF exA 0 = (0, 0) := by decide +kernel
theorem ex_b (ck : Int) : readF exB ck = (2, 21) := by
  have h1 : openE exB.data.toList = 0 := by decide +kernel
  have h2 : headE (linesP exB.data.toList) = 0 := by decide +kernel
  have h3 : bad (parOf (linesP exB.data.toList)).err 1 (parOf (linesP exB.data.toList)).all = some 1 := by decide +kernel
  have h4 : (parOf (linesP exB.data.toList)).err 1 = 21 := by decide +kernel
  unfold readF
  rw [h1, h2, if_neg (by simp), if_neg (by simp)]
  unfold IP.fault
  rw [h3]
  simp only
  rw [h4]
theorem ex_c (ck : Int) : readF exC ck = (2, 20) := by
  have h1 : openE exC.data.toList = 0 := by decide +kernel
  have h2 : headE (linesP exC.data.toList) = 0 := by decide +kernel
  have h3 : bad (parOf (linesP exC.data.toList)).err 1 (parOf (linesP exC.data.toList)).all = some 1 := by decide +kernel
  have h4 : (parOf (linesP exC.data.toList)).err 1 = 20 := by decide +kernel
  unfold readF
  rw [h1, h2, if_neg (by simp), if_neg (by simp)]
  unfold IP.fault
  rw [h3]
  simp only
  rw [h4]
theorem ex_n : (parOf exL).C = 1 ∧ (parOf exL).R = 0 ∧ (parOf exL).T = false ∧ headS exL = 0 ∧ headE exL = 0 := by decide +kernel
theorem ex_car : (parOf exL).ca 0 = 1 ∧ (parOf exL).cb 0 = 0 ∧ (parOf exL).cm 0 = 9 := by decide +kernel
theorem ex_stop : ∀ j, j < 2 → (parOf exL).sa j = 0 ∧ (parOf exL).sb j = 0 ∧ (parOf exL).sv j = 0 ∧ (parOf exL).se j = 0 ∧ (parOf exL).sl j = 9 := by decide +kernel
theorem ex_spot : ∀ j, j < 2 → stopS (parOf exL).L (1 + (parOf exL).C + j) 0 16777216 = 0 ∧ stopS (parOf exL).L (1 + (parOf exL).C + j) 1 16777216 = 0 := by decide +kernel
theorem ex_xy : ∀ j, j < 2 → (parOf exL).px j = Spot.wd 0 ∧ (parOf exL).py j = Spot.wd 0 := by
  intro j hj
  obtain ⟨h1, h2⟩ := ex_spot j hj
  have ht := ex_n.2.2.1
  unfold IP.px IP.py
  rw [h1, h2, ht]
  exact ⟨rfl, rfl⟩
theorem checks_any (L : List ByteArray) : Checks (parOf L).chk L := fun h base v W hi => check_any (parOf L) (parOf_ok h).1 base v W hi
end Sheet
end Go.Proofs.YtjmhlabgoegeoaaGreatDoor
namespace Go.Proofs.YtjmhlabgoegeoaaGreatDoor
namespace Sheet
open Go Go.RowKit Deci
def rep (t : List UInt8) : Nat → List UInt8
  | 0 => []
  | k + 1 => rep t k ++ t
def carT : List UInt8 := [99, 97, 114] ++ (32 :: writeV 1 0 ++ 32 :: writeV 0 0) ++ numsT 0 (fun _ => 9) 1 ++ [10]
def stopT : List UInt8 := [115, 116, 111, 112] ++ (32 :: writeV 0 0 ++ 32 :: writeV 0 0) ++ (32 :: writeV 0 0 ++ 32 :: writeV 0 0) ++ numsT 0 (three 0 0 9) 3 ++ [10]
theorem write0 : writeV 0 0 = [48] := by
  have d : Lib.decDigits 0 = [48] := by rw [Lib.decDigits, dif_pos (by decide)]; rfl
  have h : ((0 : Int)).natAbs = 0 := rfl
  unfold writeV headV partV
  rw [h, d]
  decide +kernel
theorem write1 : writeV 1 0 = [49] := by
  have d : Lib.decDigits 1 = [49] := by rw [Lib.decDigits, dif_pos (by decide)]; rfl
  have h : ((1 : Int)).natAbs = 1 := rfl
  unfold writeV headV partV
  rw [h, d]
  decide +kernel
theorem write9 : writeV 9 0 = [57] := by
  have d : Lib.decDigits 9 = [57] := by rw [Lib.decDigits, dif_pos (by decide)]; rfl
  have h : ((9 : Int)).natAbs = 9 := rfl
  unfold writeV headV partV
  rw [h, d]
  decide +kernel
theorem top_text : topT 0 1 0 = [106, 105, 116, 110, 101, 121, 32, 48, 32, 49, 32, 48, 32, 115, 112, 111, 116, 115, 10] := by
  unfold topT; simp [numsT, three, write0, write1]
theorem car_text : carT = [99, 97, 114, 32, 49, 32, 48, 32, 57, 10] := by unfold carT; simp [numsT, write0, write1, write9]
theorem stop_text : stopT = [115, 116, 111, 112, 32, 48, 32, 48, 32, 48, 32, 48, 32, 48, 32, 48, 32, 57, 10] := by unfold stopT; simp [numsT, three, write0, write9]
theorem rep_len (t : List UInt8) : ∀ k, (rep t k).length = k * t.length
  | 0 => by simp [rep]
  | k + 1 => by rw [rep, List.length_append, rep_len t k, Nat.succ_mul]
theorem one_row {n : Int} {T : TypeId} {w : World} : NumsAt w.heap.size 1 T (fun _ => n) (w.alloc (.cells #[.int .i64 n] T)) := by
  refine ⟨_, World.alloc_heap_new _ _, fun j hj => ?_⟩
  match j, hj with
  | 0, _ => rfl
/-- The numbers of a row that the call has just made. -/
theorem times_new (b n : Nat) (l : List UInt8) (x : Nat → Int) (cs : Array Value) (W0 w : World) (h : Pg b b 0 l W0 w) (hE : EnvAt b W0) (hx : ∀ j, j < n → -9223372036854775808 ≤ x j ∧ x j ≤ 9223372036854775807) (hs : ∀ j, j < n → (writeV (x j) 0).length ≤ 100)
    (hr : NumsAt w.heap.size n 2 x (w.alloc (.cells cs 2))) (hn : n ≤ 100) (hlen : l.length ≤ 800000000) :
    Calls Tryz.prog 42 #[.pointer (some ⟨b, 0, none⟩), .slice (some ⟨w.heap.size, 0, none⟩) n n] (w.alloc (.cells cs 2)) fun e w' => e = .returned (.tuple #[]) ∧ Pg b b 0 (l ++ numsT 0 x n) W0 w' := by
  have hB : b ≤ w.heap.size := Nat.le_of_lt h.1.lt
  have hp := h.below ((Below.refl _ _).alloc (Nat.le_refl _) (.cells cs 2)) hB
  refine (times_page b b w.heap.size n n 0 l x _ hp.1 (EnvAt.below hE hp.2.1) hx hs hr (by have := h.1.lt; omega) (by omega) hlen (by simp; omega)).mono ?_
  rintro e w' ⟨rfl, hq⟩
  exact ⟨rfl, hp.trans hq⟩
theorem str_new (b : Nat) (l : List UInt8) (t : ByteArray) (W0 w : World) (h : Pg b b 0 l W0 w) (hlen : l.length + t.size ≤ 1000000000) :
    Calls Tryz.prog 40 #[.pointer (some ⟨b, 0, none⟩), .string t] w fun e w' => e = .returned (.tuple #[.int .i64 t.size, .nilIface]) ∧ Pg b b 0 (l ++ t.data.toList) W0 w' ∧ Lib.OthersKept 5 (some b) w w' := by
  refine (writeString_any b b 0 l t w h.1 hlen (Nat.le_of_lt h.1.lt)).mono ?_
  rintro e w' ⟨rfl, hq⟩
  exact ⟨rfl, h.trans hq, hq.2.2⟩
theorem load_new (b : Nat) (m n : Int) (l : List UInt8) (W0 w : World) (h : Pg b b 0 l W0 w) (hE : EnvAt b W0) (hm : 0 ≤ m ∧ m ≤ 1000) (hn : 0 ≤ n ∧ n ≤ 1000) (hs : (writeV m 0).length ≤ 100) (ht : (writeV n 0).length ≤ 100) (hlen : l.length ≤ 800000000) :
    Calls Tryz.prog 41 #[.pointer (some ⟨b, 0, none⟩), .agg #[.int .i64 m, .int .i64 n]] w fun e w' => e = .returned (.tuple #[]) ∧ Pg b b 0 (l ++ (32 :: writeV m 0 ++ 32 :: writeV n 0)) W0 w' ∧ Lib.OthersKept 5 (some b) w w' := by
  refine (load_page b b 0 m n l w h.1 (EnvAt.below hE h.2.1) ⟨by omega, by omega⟩ ⟨by omega, by omega⟩ hs ht hlen (Nat.le_of_lt h.1.lt)).mono ?_
  rintro e w' ⟨rfl, hq⟩
  exact ⟨rfl, h.trans hq, hq.2.2⟩
theorem spot_new (b : Nat) (u v : Nat) (l : List UInt8) (W0 w : World) (h : Pg b b 0 l W0 w) (hE : EnvAt b W0) (hxy : ∀ W, Calls Tryz.prog 77 #[.complex .f64 u v] W fun e w' => e = .returned (.tuple #[.int .i64 0, .int .i64 0]) ∧ W = w') (hlen : l.length ≤ 800000000) :
    Calls Tryz.prog 44 #[.pointer (some ⟨b, 0, none⟩), .complex .f64 u v] w fun e w' => e = .returned (.tuple #[]) ∧ Pg b b 0 (l ++ (32 :: writeV 0 0 ++ 32 :: writeV 0 0)) W0 w' ∧ Lib.OthersKept 5 (some b) w w' := by
  refine (spot_page b b 0 l u v 0 0 w h.1 (EnvAt.below hE h.2.1) hxy ⟨by omega, by omega⟩ ⟨by omega, by omega⟩ (by rw [write0]; decide) (by rw [write0]; decide) hlen (Nat.le_of_lt h.1.lt)).mono ?_
  rintro e w' ⟨rfl, hq⟩
  exact ⟨rfl, h.trans hq, hq.2.2⟩
theorem end_new (b : Nat) (l : List UInt8) (W0 w : World) (h : Pg b b 0 l W0 w) (hlen : l.length ≤ 800000000) :
    Calls Tryz.prog 43 #[.pointer (some ⟨b, 0, none⟩)] w fun e w' => e = .returned (.tuple #[]) ∧ Pg b b 0 (l ++ [10]) W0 w' := by
  refine (end_page b b 0 l w h.1 (by omega) (Nat.le_of_lt h.1.lt)).mono ?_
  rintro e w' ⟨rfl, hq⟩
  exact ⟨rfl, h.trans hq⟩
theorem box_kept {b c : Nat} {cs : Array Value} {T : TypeId} {w w' : World} (h : w.heap[c]? = some (.cells cs T)) (hk : Lib.OthersKept 5 (some b) w w') (hc : c ≠ b) (hT : T ≠ 5) : w'.heap[c]? = some (.cells cs T) :=
  hk c _ h (by simpa using hc) (by rintro cs' fz e; simp at e; exact hT e.2.1)
attribute [local go_sem] store_cx
set_option maxHeartbeats 2000000 in
set_option maxRecDepth 100000 in
theorem write_ex (a1 a2 a3 a4 : Option Addr) (c1 c2 c3 c4 u v : Nat) (w : World) (hE : EnvAt w.heap.size w)
    (hc : IsCar w a1 1 (fun _ => 1) (fun _ => 0) (fun _ => 9)) (hs : IsStop w a2 2 (fun _ => 0) (fun _ => 0) (fun _ => 0) (fun _ => 0) (fun _ => 9) (fun _ => u) (fun _ => v))
    (hxy : ∀ W, Calls Tryz.prog 77 #[.complex .f64 u v] W fun e w' => e = .returned (.tuple #[.int .i64 0, .int .i64 0]) ∧ W = w') :
    Calls Tryz.prog 16 #[.agg #[.slice a1 1 c1, .slice a2 2 c2, .slice a3 0 c3, .slice a4 0 c4], .int .i64 0] w fun e w' => e = .returned (.string ⟨(topT 0 1 0 ++ rep carT 1 ++ rep stopT 2).toArray⟩) ∧ Below w.heap.size w w' := by
  obtain ⟨b, hb⟩ : ∃ b, b = w.heap.size + 1 := ⟨_, rfl⟩
  obtain ⟨X, hX⟩ : ∃ X, X = w.heap.size := ⟨_, rfl⟩
  obtain ⟨W0, hW0⟩ : ∃ W0, W0 = (w.alloc (.cells #[.slice a1 1 c1, .slice a2 2 c2, .slice a3 0 c3, .slice a4 0 c4] 28)).alloc (.cells #[.pointer none, .slice none 0 0, .int .i64 0] 86) := ⟨_, rfl⟩
  have hb0 : Below w.heap.size w W0 := by rw [hW0]; exact ((Below.refl _ _).alloc (Nat.le_refl _) _).alloc (by simp) _
  have hx0 : W0.heap[X]? = some (.cells #[.slice a1 1 c1, .slice a2 2 c2, .slice a3 0 c3, .slice a4 0 c4] 28) := by
    rw [hW0, hX]; exact (Lib.alloc_old _ _ _ (by simp)).trans (World.alloc_heap_new w _)
  have hg0 : W0.heap[b]? = some (.cells #[.pointer none, .slice none 0 0, .int .i64 0] 86) := by
    rw [hW0, hb, show w.heap.size + 1 = (w.alloc (.cells #[.slice a1 1 c1, .slice a2 2 c2, .slice a3 0 c3, .slice a4 0 c4] 28)).heap.size by simp]; exact World.alloc_heap_new _ _
  have hXb : X + 1 = b := by omega
  have hz0 : W0.heap.size = b + 1 := by rw [hW0, hb]; simp
  have hp0 : IsPage b b 0 [] W0 := .inl ⟨Nat.le_refl _, _, hg0, World.ownsRow_nil _ _ _ _⟩
  have hE0 : EnvAt b W0 := EnvAt.mono (EnvAt.below hE hb0) (by omega)
  have hh := head_page b b 0 a1 a2 a3 a4 1 c1 2 c2 0 c3 0 c4 W0 hp0 hE0 ⟨by omega, by omega⟩ (by omega) (by omega) (by rw [write0]; decide) (by rw [show ((1 : Nat) : Int) = 1 from rfl, write1]; decide) (by rw [show ((0 : Nat) : Int) = 0 from rfl, write0]; decide) (by omega)
  have HH := Lib.hid hh; clear hh hp0 hg0 hE
  have HX0 := Lib.hid hx0; clear hx0
  have HC0 := Lib.hid hc; clear hc
  have HS0 := Lib.hid hs; clear hs
  have HE0 := Lib.hid hE0; clear hE0
  have HB0 := Lib.hid hb0; clear hb0
  have HXY := Lib.hid hxy; clear hxy
  have HX := Lib.hid hX; clear hX
  have HBE := Lib.hid hb; clear hb
  have HW := Lib.hid hW0; clear hW0
  go_enter Tryz.func16, Tryz.ntmps16
  go_wp2_with fail
  rw [← HBE.out, ← HX.out, ← HW.out]
  refine HH.out.mono ?_
  rintro e w1 ⟨rfl, hp1⟩
  have P1 : Hid (Pg b b 0 (topT 0 1 0 ++ rep carT 0) W0 w1) := Lib.hid (by rw [show topT 0 1 0 ++ rep carT 0 = topT 0 1 0 from List.append_nil _]; exact hp1)
  clear hp1 HH
  have hx1 : w1.heap[X]? = _ := (P1.out.2.1.block X (by omega)).trans HX0.out
  have x0 : w1.cell? ⟨X, 0, none⟩ = some (.slice a1 1 c1) := (own_cell hx1).trans rfl
  clear hx1
  go_wp2_with fail
  clear x0
  go_loopw [27] (fun i wr => ∃ k : Nat, k ≤ 1 ∧ i = .int .i64 k ∧ Hid (Pg b b 0 (topT 0 1 0 ++ rep carT k) W0 wr)) (fun i _ => 1 - (intOf i).toNat)
  case atStart => exact ⟨0, by omega, rfl, P1⟩
  case round =>
    obtain ⟨k, hk, rfl, HP⟩ := hrel
    by_cases hlt : k < 1
    · obtain rfl : k = 0 := by omega
      rcases HC0.out with h0 | ⟨cb, off, rfl, hcb, hcc⟩
      · omega
      · obtain ⟨d0, d1, d2⟩ := hcc 0 (by omega)
        have bw : Below w.heap.size w wr := HB0.out.trans (HP.out.2.1.mono (by rw [HBE.out]; omega))
        rw [Nat.zero_mul, Nat.add_zero] at d0 d1 d2
        have e0 := (bw.cell (p := ⟨cb, off, none⟩) hcb).trans d0
        have e1 := (bw.cell (p := ⟨cb, off + 1, none⟩) hcb).trans d1
        have e2 := (bw.cell (p := ⟨cb, off + 2, none⟩) hcb).trans d2
        have hcb' : cb < wr.heap.size := Nat.lt_of_lt_of_le hcb bw.size
        clear d0 d1 d2 hcc bw
        obtain ⟨l, hl⟩ : ∃ l, l = topT 0 1 0 ++ rep carT 0 := ⟨_, rfl⟩
        rw [← hl] at HP
        have hln : l.length ≤ 1000 := by rw [hl, top_text, List.length_append, rep_len, car_text]; decide
        have hto : l ++ carT = topT 0 1 0 ++ rep carT 1 := by rw [hl]; simp [rep]
        have HL := Lib.hid hln; clear hln hl
        have HTO := Lib.hid hto; clear hto
        have hbr : b < wr.heap.size := HP.out.1.lt
        go_wp2_with fail
        obtain ⟨W1, hW1⟩ : ∃ W1, W1 = wr.alloc (.cells #[.int .i64 1, .int .i64 0, .int .i64 9] 54) := ⟨_, rfl⟩
        obtain ⟨c8, hc8⟩ : ∃ c8, c8 = wr.heap.size := ⟨_, rfl⟩
        have hq1 : Pg b b 0 l W0 W1 := HP.out.below (by rw [hW1]; exact (Below.refl _ _).alloc (Nat.le_refl _) _) (Nat.le_of_lt hbr)
        have hbx : W1.heap[c8]? = some (.cells #[.int .i64 1, .int .i64 0, .int .i64 9] 54) := by rw [hW1, hc8]; exact World.alloc_heap_new _ _
        have hcb8 : c8 ≠ b := by omega
        rw [← hW1, ← hc8]
        clear hW1 hc8 e0 e1 e2 hcb' hbr
        refine (str_new b l ⟨#[99, 97, 114]⟩ W0 W1 hq1 (by have := HL.out; have : (⟨#[99, 97, 114]⟩ : ByteArray).size = 3 := rfl; omega)).mono ?_
        rintro e w2 ⟨rfl, hq2, hk⟩
        have hbx2 := box_kept hbx hk hcb8 (by decide)
        have y0 : w2.cell? ⟨c8, 0, none⟩ = some (.int .i64 1) := (own_cell hbx2).trans rfl
        have y1 : w2.cell? ⟨c8, 1, none⟩ = some (.int .i64 0) := (own_cell hbx2).trans rfl
        have HQ2 := Lib.hid hq2; clear hq2 hq1 hbx hk
        have HBX2 := Lib.hid hbx2; clear hbx2
        go_wp2_with fail
        refine (load_new b 1 0 _ W0 w2 HQ2.out HE0.out (by omega) (by omega) (by rw [write1]; decide) (by rw [write0]; decide) (by have := HL.out; rw [List.length_append]; simp; omega)).mono ?_
        rintro e w3 ⟨rfl, hq3, hk⟩
        have hbx3 := box_kept HBX2.out hk hcb8 (by decide)
        clear y0 y1
        have y2 : w3.cell? ⟨c8, 2, none⟩ = some (.int .i64 9) := (own_cell hbx3).trans rfl
        have HQ3 := Lib.hid hq3; clear hq3 hk hbx3
        go_wp2_with fail
        refine (times_new b 1 _ (fun _ => 9) #[.int .i64 9] W0 w3 HQ3.out HE0.out (fun _ _ => ⟨by omega, by omega⟩) (fun _ _ => by rw [write9]; decide) one_row (by omega) (by have := HL.out; rw [List.length_append, List.length_append]; simp [write0, write1]; omega)).mono ?_
        rintro e w4 ⟨rfl, hq4⟩
        have HQ4 := Lib.hid hq4; clear hq4 y2
        go_wp2_with fail
        refine (end_new b _ W0 w4 HQ4.out (by have := HL.out; rw [List.length_append, List.length_append, List.length_append]; simp [write0, write1, write9, numsT]; omega)).mono ?_
        rintro e w5 ⟨rfl, hq5⟩
        have hq6 : Pg b b 0 (topT 0 1 0 ++ rep carT (0 + 1)) W0 w5 := by
          rw [Nat.zero_add, ← HTO.out]
          unfold carT
          simpa only [List.append_assoc] using hq5
        have HQ6 := Lib.hid hq6; clear hq6 hq5
        go_wp2_with fail
        go_roundw
        case rel => exact ⟨0 + 1, by omega, by go_num, HQ6⟩
        case measure => simp [intOf]
    · obtain rfl : k = 1 := by omega
      rw [show ((1 : Nat) : Int) = 1 from rfl]
      have hx1 : wr.heap[X]? = _ := (HP.out.2.1.block X (by omega)).trans HX0.out
      have x1 : wr.cell? ⟨X, 1, none⟩ = some (.slice a2 2 c2) := (own_cell hx1).trans rfl
      have P2 : Hid (Pg b b 0 (topT 0 1 0 ++ rep carT 1 ++ rep stopT 0) W0 wr) := Lib.hid (by rw [show topT 0 1 0 ++ rep carT 1 ++ rep stopT 0 = topT 0 1 0 ++ rep carT 1 from List.append_nil _]; exact HP.out)
      clear HP hx1
      go_wp2_with fail
      clear x1
      go_loopw [10, 45] (fun _ i wr => ∃ k : Nat, k ≤ 2 ∧ i = .int .i64 k ∧ Hid (Pg b b 0 (topT 0 1 0 ++ rep carT 1 ++ rep stopT k) W0 wr)) (fun _ i _ => 2 - (intOf i).toNat)
      case atStart => exact ⟨0, by omega, rfl, P2⟩
      case round =>
        clear P2
        obtain ⟨k, hk, rfl, HP⟩ := hrel
        by_cases hlt : k < 2
        · rcases HS0.out with h0 | ⟨cb, off, rfl, hcb, hcc⟩
          · omega
          · obtain ⟨d0, d1, d2, d3, d4, d5⟩ := hcc k hlt
            have bw := HB0.out.trans (HP.out.2.1.mono (by rw [HBE.out]; omega))
            have e0 := (bw.cell (p := ⟨cb, off + k * 6, none⟩) hcb).trans d0
            have e1 := (bw.cell (p := ⟨cb, off + k * 6 + 1, none⟩) hcb).trans d1
            have e2 := (bw.cell (p := ⟨cb, off + k * 6 + 2, none⟩) hcb).trans d2
            have e3 := (bw.cell (p := ⟨cb, off + k * 6 + 3, none⟩) hcb).trans d3
            have e4 := (bw.cell (p := ⟨cb, off + k * 6 + 4, none⟩) hcb).trans d4
            have e5 := (bw.cell (p := ⟨cb, off + k * 6 + 5, none⟩) hcb).trans d5
            have hcb' : cb < wr.heap.size := Nat.lt_of_lt_of_le hcb bw.size
            clear d0 d1 d2 d3 d4 d5 hcc bw
            obtain ⟨l, hl⟩ : ∃ l, l = topT 0 1 0 ++ rep carT 1 ++ rep stopT k := ⟨_, rfl⟩
            rw [← hl] at HP
            have hln : l.length ≤ 1000 := by rw [hl, top_text, List.length_append, List.length_append, rep_len, rep_len, car_text, stop_text]; simp; omega
            have hto : l ++ stopT = topT 0 1 0 ++ rep carT 1 ++ rep stopT (k + 1) := by rw [hl]; simp [rep]
            have HL := Lib.hid hln; clear hln hl
            have HTO := Lib.hid hto; clear hto
            have hbr : b < wr.heap.size := HP.out.1.lt
            have hi0 : (k : Int) < 2 := by omega
            go_wp2_with fail
            obtain ⟨W1, hW1⟩ : ∃ W1, W1 = wr.alloc (.cells #[.int .i64 0, .int .i64 0, .int .i64 0, .int .i64 0, .int .i64 9, .complex .f64 u v] 57) := ⟨_, rfl⟩
            obtain ⟨c8, hc8⟩ : ∃ c8, c8 = wr.heap.size := ⟨_, rfl⟩
            have hq1 : Pg b b 0 l W0 W1 := HP.out.below (by rw [hW1]; exact (Below.refl _ _).alloc (Nat.le_refl _) _) (Nat.le_of_lt hbr)
            have hbx : W1.heap[c8]? = some (.cells #[.int .i64 0, .int .i64 0, .int .i64 0, .int .i64 0, .int .i64 9, .complex .f64 u v] 57) := by rw [hW1, hc8]; exact World.alloc_heap_new _ _
            have hcb8 : c8 ≠ b := by omega
            rw [← hW1, ← hc8]
            clear hW1 hc8 e0 e1 e2 e3 e4 e5 hcb' hbr
            refine (str_new b l ⟨#[115, 116, 111, 112]⟩ W0 W1 hq1 (by have := HL.out; have : (⟨#[115, 116, 111, 112]⟩ : ByteArray).size = 4 := rfl; omega)).mono ?_
            rintro e w2 ⟨rfl, hq2, hk⟩
            have hbx2 := box_kept hbx hk hcb8 (by decide)
            have y5 : w2.cell? ⟨c8, 5, none⟩ = some (.complex .f64 u v) := (own_cell hbx2).trans rfl
            have HQ2 := Lib.hid hq2; clear hq2 hq1 hbx hk
            have HBX2 := Lib.hid hbx2; clear hbx2
            go_wp2_with fail
            refine (spot_new b u v _ W0 w2 HQ2.out HE0.out HXY.out (by have := HL.out; rw [List.length_append]; simp; omega)).mono ?_
            rintro e w3 ⟨rfl, hq3, hk⟩
            have hbx3 := box_kept HBX2.out hk hcb8 (by decide)
            clear y5
            have y0 : w3.cell? ⟨c8, 0, none⟩ = some (.int .i64 0) := (own_cell hbx3).trans rfl
            have y1 : w3.cell? ⟨c8, 1, none⟩ = some (.int .i64 0) := (own_cell hbx3).trans rfl
            have HQ3 := Lib.hid hq3; clear hq3 hk
            have HBX3 := Lib.hid hbx3; clear hbx3
            go_wp2_with fail
            refine (load_new b 0 0 _ W0 w3 HQ3.out HE0.out (by omega) (by omega) (by rw [write0]; decide) (by rw [write0]; decide) (by have := HL.out; rw [List.length_append, List.length_append]; simp [write0]; omega)).mono ?_
            rintro e w4 ⟨rfl, hq4, hk⟩
            have hbx4 := box_kept HBX3.out hk hcb8 (by decide)
            clear y0 y1
            have y2 : w4.cell? ⟨c8, 2, none⟩ = some (.int .i64 0) := (own_cell hbx4).trans rfl
            have y3 : w4.cell? ⟨c8, 3, none⟩ = some (.int .i64 0) := (own_cell hbx4).trans rfl
            have y4 : w4.cell? ⟨c8, 4, none⟩ = some (.int .i64 9) := (own_cell hbx4).trans rfl
            have HQ4 := Lib.hid hq4; clear hq4 hk hbx4
            go_wp2_with fail
            refine (times_new b 3 _ (three 0 0 9) #[.int .i64 0, .int .i64 0, .int .i64 9] W0 w4 HQ4.out HE0.out (fun j _ => three_at (fun x => -9223372036854775808 ≤ x ∧ x ≤ 9223372036854775807) ⟨by omega, by omega⟩ ⟨by omega, by omega⟩ ⟨by omega, by omega⟩) (fun j _ => three_at (fun x => (writeV x 0).length ≤ 100) (by rw [write0]; decide) (by rw [write0]; decide) (by rw [write9]; decide)) three_row (by omega) (by have := HL.out; rw [List.length_append, List.length_append, List.length_append]; simp [write0]; omega)).mono ?_
            rintro e w5 ⟨rfl, hq5⟩
            have HQ5 := Lib.hid hq5; clear hq5 y2 y3 y4
            go_wp2_with fail
            refine (end_new b _ W0 w5 HQ5.out (by have := HL.out; rw [List.length_append, List.length_append, List.length_append, List.length_append]; simp [write0, write9, numsT, three]; omega)).mono ?_
            rintro e w6 ⟨rfl, hq6⟩
            have hq7 : Pg b b 0 (topT 0 1 0 ++ rep carT 1 ++ rep stopT (k + 1)) W0 w6 := by
              rw [← HTO.out]
              unfold stopT
              simpa only [List.append_assoc] using hq6
            have HQ7 := Lib.hid hq7; clear hq7 hq6
            go_wp2_with fail
            go_roundw
            case rel => exact ⟨k + 1, by omega, by go_num, HQ7⟩
            case measure => simp [intOf]; omega
        · obtain rfl : k = 2 := by omega
          rw [show ((2 : Nat) : Int) = 2 from rfl]
          have hx1 : wr.heap[X]? = _ := (HP.out.2.1.block X (by omega)).trans HX0.out
          have x2 : wr.cell? ⟨X, 2, none⟩ = some (.slice a3 0 c3) := (own_cell hx1).trans rfl
          have x3 : wr.cell? ⟨X, 3, none⟩ = some (.slice a4 0 c4) := (own_cell hx1).trans rfl
          have HX1 := Lib.hid hx1; clear hx1
          go_wp2_with fail
          clear x2
          have HP2 := HP
          go_loopw [71] (fun i W => i = .int .i64 0 ∧ Hid (W = wr)) (fun _ _ => 0)
          case atStart => exact ⟨rfl, Lib.hid rfl⟩
          case round =>
            obtain ⟨rfl, HW2⟩ := hrel
            obtain rfl := HW2.out
            go_wp2_with fail
            go_loopw [85] (fun i W => i = .int .i64 0 ∧ Hid (W = wr)) (fun _ _ => 0)
            case atStart => exact ⟨rfl, Lib.hid rfl⟩
            case round =>
              obtain ⟨rfl, HW3⟩ := hrel
              obtain rfl := HW3.out
              have hne : topT 0 1 0 ++ rep carT 1 ++ rep stopT 2 ≠ [] := by rw [top_text]; simp
              have hst := string_any b b 0 _ _ HP.out.1 hne
              have HST := Lib.hid hst; clear hst hne
              go_wp2_with fail
              refine HST.out.mono ?_
              rintro e w9 ⟨rfl, hb9⟩
              have HB9 : Hid (Below w.heap.size w w9) := Lib.hid (HB0.out.trans ((HP.out.2.1.trans hb9).mono (by rw [HBE.out]; omega)))
              clear hb9
              go_wp2_with fail
              go_ret
              exact ⟨by rw [show topT 0 1 0 ++ rep carT 1 ++ rep stopT 2 = topT 0 1 0 ++ (rep carT 1 ++ rep stopT 2) from List.append_assoc _ _ _]; rfl, HB9.out⟩
end Sheet
end Go.Proofs.YtjmhlabgoegeoaaGreatDoor
namespace Go.Proofs.YtjmhlabgoegeoaaGreatDoor
namespace Sheet
open Go Go.RowKit Deci
theorem ex_text : (⟨(topT 0 1 0 ++ rep carT 1 ++ rep stopT 2).toArray⟩ : ByteArray) = exA := by
  rw [top_text, show rep carT 1 = carT from rfl, show rep stopT 2 = stopT ++ stopT from rfl, car_text, stop_text]
  rfl
theorem ex_inst {base : Nat} {v : Value} {W : World} (h : InstAt base (parOf exL) v W) : ∃ a1 c1 a2 c2 a3 c3 a4 c4, v = .agg #[.slice a1 1 c1, .slice a2 2 c2, .slice a3 0 c3, .slice a4 0 c4] ∧
    IsCar W a1 1 (fun _ => 1) (fun _ => 0) (fun _ => 9) ∧ IsStop W a2 2 (fun _ => 0) (fun _ => 0) (fun _ => 0) (fun _ => 0) (fun _ => 9) (fun _ => Spot.wd 0) (fun _ => Spot.wd 0) := by
  obtain ⟨vc, vs, vr, vm, V, rfl, h⟩ := h
  obtain ⟨a1, c1, rfl, hc⟩ := isCar_of h.cars
  obtain ⟨a2, c2, rfl, hs⟩ := isStop_of h.stops
  obtain ⟨a3, c3, rfl⟩ := own_slice h.rides
  obtain ⟨a4, c4, rfl⟩ := own_slice h.rows
  obtain ⟨n1, n2, n3, -, -⟩ := ex_n
  have nP : (parOf exL).P = 2 := by unfold IP.P; rw [n2]
  have nm : (parOf exL).more = 0 := by unfold IP.more; rw [n3]; rfl
  rw [n1] at hc
  rw [nP] at hs
  refine ⟨a1, c1, a2, c2, a3, c3, a4, c4, by rw [n1, nP, n2, nm], ?_, ?_⟩
  · rcases hc with hc | ⟨b, off, h1, h2, h3⟩
    · exact absurd hc (by decide)
    · refine .inr ⟨b, off, h1, h2, fun j hj => ?_⟩
      obtain rfl : j = 0 := by omega
      have := h3 0 hj
      rwa [ex_car.1, ex_car.2.1, ex_car.2.2] at this
  · rcases hs with hs | ⟨b, off, h1, h2, h3⟩
    · exact absurd hs (by decide)
    · refine .inr ⟨b, off, h1, h2, fun j hj => ?_⟩
      have := h3 j hj
      obtain ⟨e1, e2, e3, e4, e5⟩ := ex_stop j hj
      obtain ⟨e6, e7⟩ := ex_xy j hj
      rwa [e1, e2, e3, e4, e5, e6, e7] at this
theorem xy_zero (W : World) : Calls Tryz.prog 77 #[.complex .f64 (Spot.wd 0) (Spot.wd 0)] W fun e w' => e = .returned (.tuple #[.int .i64 0, .int .i64 0]) ∧ W = w' :=
  Spot.xy_yes _ _ 0 0 W ⟨Spot.isz_wd ⟨by omega, by omega⟩, Spot.isz_wd ⟨by omega, by omega⟩⟩ ⟨by omega, by omega⟩ ⟨by omega, by omega⟩
set_option maxHeartbeats 1000000 in
set_option maxRecDepth 100000 in
theorem print_ex (base : Nat) (v : Value) (w : World) (hE : EnvAt w.heap.size w) (h : InstAt base (parOf exL) v w) :
    Calls Tryz.prog 8 #[v, .int .i64 0] w fun e w' => e = .returned (.tuple #[.string exA, .int .i64 0]) ∧ Below w.heap.size w w' := by
  obtain ⟨a1, c1, a2, c2, a3, c3, a4, c4, rfl, hc, hs⟩ := ex_inst h
  obtain ⟨X, hX⟩ : ∃ X, X = w.heap.size := ⟨_, rfl⟩
  obtain ⟨W0, hW0⟩ : ∃ W0, W0 = w.alloc (.cells #[.slice a1 1 c1, .slice a2 2 c2, .slice a3 0 c3, .slice a4 0 c4] 28) := ⟨_, rfl⟩
  have hb0 : Below w.heap.size w W0 := by rw [hW0]; exact (Below.refl _ _).alloc (Nat.le_refl _) _
  have hx0 : W0.heap[X]? = some (.cells #[.slice a1 1 c1, .slice a2 2 c2, .slice a3 0 c3, .slice a4 0 c4] 28) := by rw [hX, hW0]; exact World.alloc_heap_new w _
  have hck := check_any (parOf exL) (parOf_ok ex_n.2.2.2.2).1 base _ W0 (h.below hb0)
  rw [ex_chk] at hck
  have hw := fun W (hb : Below w.heap.size w W) => write_ex a1 a2 a3 a4 c1 c2 c3 c4 _ _ W (EnvAt.mono (EnvAt.below hE hb) hb.size) (hc.below hb) (hs.below hb) xy_zero
  rw [ex_text] at hw
  have HCK := Lib.hid hck; clear hck
  have HW := Lib.hid hw; clear hw h hc hs hE
  have HB0 := Lib.hid hb0; clear hb0
  have HX0 := Lib.hid hx0; clear hx0
  have HX := Lib.hid hX; clear hX
  have HWW := Lib.hid hW0; clear hW0
  generalize exA = tx at *
  go_enter Tryz.func8, Tryz.ntmps8
  go_wp2_with fail
  rw [← HX.out, ← HWW.out]
  refine HCK.out.mono ?_
  rintro e w1 ⟨rfl, hb1⟩
  have hx1 : w1.heap[X]? = _ := (hb1.block X (Array.getElem?_eq_some_iff.1 HX0.out).1).trans HX0.out
  have x0 : w1.cell? ⟨X, 0, none⟩ = some (.slice a1 1 c1) := (own_cell hx1).trans rfl
  have x1 : w1.cell? ⟨X, 1, none⟩ = some (.slice a2 2 c2) := (own_cell hx1).trans rfl
  have x2 : w1.cell? ⟨X, 2, none⟩ = some (.slice a3 0 c3) := (own_cell hx1).trans rfl
  have x3 : w1.cell? ⟨X, 3, none⟩ = some (.slice a4 0 c4) := (own_cell hx1).trans rfl
  clear hx1
  have HB1 := Lib.hid (HB0.out.trans (hb1.mono HB0.out.size)); clear hb1
  go_wp2_with fail
  refine (HW.out _ HB1.out).mono ?_
  rintro e w2 ⟨rfl, hb2⟩
  have HB2 := Lib.hid (HB1.out.trans (hb2.mono HB1.out.size)); clear hb2 x0 x1 x2 x3
  go_wp2_with fail
  go_ret2
  exact ⟨rfl, HB2.out⟩
theorem env_at {w : World} (h : Env w) : EnvAt w.heap.size w := fun _ hb => h.below hb
theorem no_form {base : Nat} {s : ByteArray} {er sc : Int} {v : Value} {W : World} (h : ReadAt base s er v sc W) (he : er ≠ 0) : v = .agg #[.slice none 0 0, .slice none 0 0, .slice none 0 0, .slice none 0 0] ∧ sc = 0 := by
  rcases h with ⟨h0, -⟩ | ⟨-, h⟩
  · exact absurd h0 he
  · exact h
theorem yes_form {base : Nat} {s : ByteArray} {sc : Int} {v : Value} {W : World} (h : ReadAt base s 0 v sc W) : InstAt base (parOf (linesP s.data.toList)) v W ∧ sc = headS (linesP s.data.toList) := by
  rcases h with ⟨-, h⟩ | ⟨h0, -⟩
  · exact h
  · exact absurd rfl h0
set_option maxHeartbeats 2000000 in
set_option maxRecDepth 100000 in
theorem alive_any (w : World) (hE : Env w) : Calls Tryz.prog 4 #[] w fun e w' => e = .returned (.bool true) ∧ Below w.heap.size w w' := by
  have ca := fun (W : World) (hb : Below w.heap.size w W) => parse_any exA W 0 (by decide) (env_at (hE.below hb)) (by have := checks_any exL; rwa [ex_chk] at this)
  have cb := fun (W : World) (hb : Below w.heap.size w W) => parse_any exB W _ (by decide) (env_at (hE.below hb)) (checks_any _)
  have cc := fun (W : World) (hb : Below w.heap.size w W) => parse_any exC W _ (by decide) (env_at (hE.below hb)) (checks_any _)
  have cp := fun (W : World) (hb : Below w.heap.size w W) base v => print_ex base v W (env_at (hE.below hb))
  unfold ParseOut at ca cb cc
  simp only [ex_a, ex_b, ex_c] at ca cb cc
  have CA := Lib.hid ca; clear ca
  have CB := Lib.hid cb; clear cb
  have CC := Lib.hid cc; clear cc
  have CP := Lib.hid cp; clear cp hE
  go_enter Tryz.func4, Tryz.ntmps4
  go_wp2_with fail
  simp only [List.append_eq, List.cons_append, List.nil_append]
  rw [show (⟨#[106, 105, 116, 110, 101, 121, 32, 48, 32, 49, 32, 48, 32, 115, 112, 111, 116, 115, 10, 99, 97, 114, 32, 49, 32, 48, 32, 57, 10, 115, 116, 111, 112, 32, 48, 32, 48, 32, 48, 32, 48, 32, 48, 32, 48, 32, 57, 10, 115, 116, 111, 112, 32, 48, 32, 48, 32, 48, 32, 48, 32, 48, 32, 48, 32, 57, 10]⟩ : ByteArray) = exA from rfl]
  refine (CA.out w (Below.refl _ _)).mono ?_
  rintro e w1 ⟨hb1, v, sc, rfl, hr⟩
  obtain ⟨hi, rfl⟩ := yes_form hr
  rw [show headS (linesP exA.data.toList) = 0 from ex_n.2.2.2.1]
  obtain ⟨a1, c1, a2, c2, a3, c3, a4, c4, rfl, -, -⟩ := ex_inst hi
  have HI := Lib.hid hi; clear hi hr
  go_wp2_with fail
  obtain ⟨X, hX⟩ : ∃ X, X = w1.heap.size := ⟨_, rfl⟩
  obtain ⟨W1, hW1⟩ : ∃ W1, W1 = w1.alloc (.cells #[.slice a1 1 c1, .slice a2 2 c2, .slice a3 0 c3, .slice a4 0 c4] 28) := ⟨_, rfl⟩
  have hba : Below w1.heap.size w1 W1 := by rw [hW1]; exact (Below.refl _ _).alloc (Nat.le_refl _) _
  have hx1 : W1.heap[X]? = some (.cells #[.slice a1 1 c1, .slice a2 2 c2, .slice a3 0 c3, .slice a4 0 c4] 28) := by rw [hX, hW1]; exact World.alloc_heap_new w1 _
  rw [← hX, ← hW1]
  have HI1 := Lib.hid (HI.out.below hba)
  have HB1 := Lib.hid (hb1.trans (hba.mono hb1.size)); clear hb1 hba hX hW1 HI
  have HX1 := Lib.hid hx1; clear hx1
  refine (CB.out W1 HB1.out).mono ?_
  rintro e w2 ⟨hb2, v2, sc2, rfl, hr⟩
  obtain ⟨rfl, rfl⟩ := no_form hr (by decide)
  have hx2 : w2.heap[X]? = _ := (hb2.block X (Array.getElem?_eq_some_iff.1 HX1.out).1).trans HX1.out
  have HX2 := Lib.hid hx2; clear hx2 hr
  have HI2 := Lib.hid (HI1.out.below hb2)
  have HB2 := Lib.hid (HB1.out.trans (hb2.mono HB1.out.size)); clear hb2
  go_wp2_with fail
  obtain ⟨U2, hU2⟩ : ∃ U, U = w2.alloc (.cells #[.slice none 0 0, .slice none 0 0, .slice none 0 0, .slice none 0 0] 28) := ⟨_, rfl⟩
  have hba : Below w2.heap.size w2 U2 := by rw [hU2]; exact (Below.refl _ _).alloc (Nat.le_refl _) _
  rw [← hU2]
  have hx7 : U2.heap[X]? = _ := (hba.block X (Array.getElem?_eq_some_iff.1 HX2.out).1).trans HX2.out
  have HI7 := Lib.hid (HI2.out.below hba)
  have HB7 := Lib.hid (HB2.out.trans (hba.mono HB2.out.size)); clear hba hU2
  have HX7 := Lib.hid hx7; clear hx7
  refine (CC.out U2 HB7.out).mono ?_
  rintro e w3 ⟨hb3, v3, sc3, rfl, hr⟩
  obtain ⟨rfl, rfl⟩ := no_form hr (by decide)
  have hx3 : w3.heap[X]? = _ := (hb3.block X (Array.getElem?_eq_some_iff.1 HX7.out).1).trans HX7.out
  have lx : ∀ o j, (w3.alloc o).cell? ⟨X, j, none⟩ = w3.cell? ⟨X, j, none⟩ := fun o j => ((Below.refl w3.heap.size w3).alloc (Nat.le_refl _) o).cell (p := ⟨X, j, none⟩) (Array.getElem?_eq_some_iff.1 hx3).1
  have x0 : w3.cell? ⟨X, 0, none⟩ = some (.slice a1 1 c1) := (own_cell hx3).trans rfl
  have x1 : w3.cell? ⟨X, 1, none⟩ = some (.slice a2 2 c2) := (own_cell hx3).trans rfl
  have x2 : w3.cell? ⟨X, 2, none⟩ = some (.slice a3 0 c3) := (own_cell hx3).trans rfl
  have x3 : w3.cell? ⟨X, 3, none⟩ = some (.slice a4 0 c4) := (own_cell hx3).trans rfl
  have xl : X < w3.heap.size := (Array.getElem?_eq_some_iff.1 hx3).1
  have HX3 := Lib.hid hx3; clear hx3 hr
  have HI3 := Lib.hid (HI7.out.below hb3)
  have HB3 := Lib.hid (HB7.out.trans (hb3.mono HB7.out.size)); clear hb3
  go_wp2_with fail
  obtain ⟨U3, hU3⟩ : ∃ U, U = w3.alloc (.cells #[.slice none 0 0, .slice none 0 0, .slice none 0 0, .slice none 0 0] 28) := ⟨_, rfl⟩
  have hba : Below w3.heap.size w3 U3 := by rw [hU3]; exact (Below.refl _ _).alloc (Nat.le_refl _) _
  rw [← hU3]
  have hx8 : U3.heap[X]? = _ := (hba.block X (Array.getElem?_eq_some_iff.1 HX3.out).1).trans HX3.out
  have HI8 := Lib.hid (HI3.out.below hba)
  have HB8 := Lib.hid (HB3.out.trans (hba.mono HB3.out.size)); clear hba hU3
  have HX8 := Lib.hid hx8; clear hx8 x0 x1 x2 x3 lx xl
  refine (CP.out U3 HB8.out _ _ HI8.out).mono ?_
  rintro e w4 ⟨rfl, hb4⟩
  have hx4 : w4.heap[X]? = _ := (hb4.block X (Array.getElem?_eq_some_iff.1 HX8.out).1).trans HX8.out
  have x0 : w4.cell? ⟨X, 0, none⟩ = some (.slice a1 1 c1) := (own_cell hx4).trans rfl
  have x1 : w4.cell? ⟨X, 1, none⟩ = some (.slice a2 2 c2) := (own_cell hx4).trans rfl
  have HB4 := Lib.hid (HB8.out.trans (hb4.mono HB8.out.size)); clear hb4 hx4
  go_wp2_with fail
  go_ret
  exact ⟨rfl, HB4.out⟩
end Sheet
end Go.Proofs.YtjmhlabgoegeoaaGreatDoor
