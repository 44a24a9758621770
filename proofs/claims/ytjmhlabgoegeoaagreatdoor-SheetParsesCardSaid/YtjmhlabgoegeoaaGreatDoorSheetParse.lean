/- Package sheet's read, and Parse; over the translated program. -/
import Derived.Test.YtjmhlabgoegeoaaGreatDoorSheetInst
import Derived.RegionTactic
import Derived.BigRegion
namespace Go.Proofs.YtjmhlabgoegeoaaGreatDoor
namespace Sheet
open Go Go.RowKit Deci
theorem lines_size (l : List UInt8) : ∀ p ∈ linesP l, p.size ≤ l.length := by
  intro p hp
  unfold linesP at hp
  split at hp
  · simp at hp
  · split at hp
    · obtain ⟨q, hq, rfl⟩ := List.mem_map.1 hp
      have := pcs_mem 10 l [] q (List.dropLast_subset _ hq)
      simpa [strOf, ByteArray.size] using this
    · simp at hp
theorem lines_many (l : List UInt8) : (linesP l).length ≤ l.length + 1 := by
  unfold linesP
  split
  · simp
  · split
    · have := pcs_length 10 l []
      rw [List.length_map, List.length_dropLast]
      omega
    · simp
/-- The line, and the error, of a text. -/
def readF (s : ByteArray) (ck : Int) : Nat × Int :=
  if openE s.data.toList ≠ 0 then (0, openE s.data.toList) else if headE (linesP s.data.toList) ≠ 0 then (1, headE (linesP s.data.toList)) else (parOf (linesP s.data.toList)).fault ck
/-- What is read of a text: the instance and its scale, or nothing. -/
def ReadAt (base : Nat) (s : ByteArray) (er : Int) (v : Value) (sc : Int) (W : World) : Prop :=
  (er = 0 ∧ InstAt base (parOf (linesP s.data.toList)) v W ∧ sc = headS (linesP s.data.toList)) ∨ (er ≠ 0 ∧ v = .agg #[.slice none 0 0, .slice none 0 0, .slice none 0 0, .slice none 0 0] ∧ sc = 0)
def ReadOut (base : Nat) (s : ByteArray) (ck : Int) (e : Ending) (W : World) : Prop :=
  ∃ v sc, e = .returned (.tuple #[v, .int .i64 sc, .agg #[.int .i64 (readF s ck).1, .int .i64 (readF s ck).2]]) ∧ ReadAt base s (readF s ck).2 v sc W
theorem InstAt.mono {base base' : Nat} {p : IP} {v : Value} {W : World} (h : InstAt base p v W) (hb : base' ≤ base) : InstAt base' p v W := by
  obtain ⟨vc, vs, vr, vm, V, h1, h2⟩ := h
  refine ⟨vc, vs, vr, vm, V, h1, Joins.ownsRow_le h2.cars hb, Joins.ownsRow_le h2.stops hb, Joins.ownsRow_le h2.rides hb, Joins.ownsRow_le h2.rows hb, fun j hj => ?_⟩
  obtain ⟨g, cap, cur, e1, e2, e3⟩ := h2.deep j hj
  exact ⟨g, cap, cur, e1, by omega, e3⟩
theorem InstAt.put {base X f : Nat} {p : IP} {v u : Value} {W : World} {cs : Array Value} {T : TypeId} (h : InstAt base p v W) (hb : W.heap[X]? = some (.cells cs T)) (h1 : T ≠ 54) (h2 : T ≠ 57) (h3 : T ≠ 2) (h4 : T ≠ 25) : InstAt base p v (W.setCell ⟨X, f, none⟩ u) := by
  obtain ⟨vc, vs, vr, vm, V, e, h⟩ := h
  exact ⟨vc, vs, vr, vm, V, e, h.put hb h1 h2 h3 h4⟩
theorem InstAt.below {base : Nat} {p : IP} {v : Value} {W W' : World} (h : InstAt base p v W) (hb : Below W.heap.size W W') : InstAt base p v W' := by
  obtain ⟨vc, vs, vr, vm, V, e, h⟩ := h
  exact ⟨vc, vs, vr, vm, V, e, h.below hb⟩
theorem InstAt.form {base : Nat} {p : IP} {v : Value} {W : World} (h : InstAt base p v W) : ∃ a1 n1 c1 a2 n2 c2 a3 n3 c3 a4 n4 c4, v = .agg #[.slice a1 n1 c1, .slice a2 n2 c2, .slice a3 n3 c3, .slice a4 n4 c4] := by
  obtain ⟨vc, vs, vr, vm, V, rfl, h⟩ := h
  obtain ⟨a1, c1, rfl⟩ := own_slice h.cars
  obtain ⟨a2, c2, rfl⟩ := own_slice h.stops
  obtain ⟨a3, c3, rfl⟩ := own_slice h.rides
  obtain ⟨a4, c4, rfl⟩ := own_slice h.rows
  exact ⟨_, _, _, _, _, _, _, _, _, _, _, _, rfl⟩
theorem ownsRow_same {base size n : Nat} {e : TypeId} {v : Value} {xs : List Value} {W W' : World} (h : W.ownsRow base e size v n xs) (hk : ∀ g o, base ≤ g → W.heap[g]? = some o → W'.heap[g]? = some o) : W'.ownsRow base e size v n xs := by
  obtain ⟨h1, h2⟩ := h
  refine ⟨h1, h2.imp id ?_⟩
  rintro ⟨g, cap, cur, hv, hg, hh, r⟩
  exact ⟨g, cap, cur, hv, hg, hk g _ hg hh, r⟩
theorem InstAt.same {base : Nat} {p : IP} {v : Value} {W W' : World} (h : InstAt base p v W) (hk : ∀ g o, base ≤ g → W.heap[g]? = some o → W'.heap[g]? = some o) : InstAt base p v W' := by
  obtain ⟨vc, vs, vr, vm, V, e, h⟩ := h
  exact ⟨vc, vs, vr, vm, V, e, ownsRow_same h.cars hk, ownsRow_same h.stops hk, ownsRow_same h.rides hk, ownsRow_same h.rows hk, fun j hj => (h.deep j hj).far fun g _ hg hh => hk g _ hg hh⟩
/-- The claim on a check of an instance that has been read. -/
def Checks (ck : Int) (L : List ByteArray) : Prop :=
  headE L = 0 → ∀ base v W, InstAt base (parOf L) v W → Calls Tryz.prog 15 #[v] W fun e W' => e = .returned (.int .i64 ck) ∧ Below W.heap.size W W'
theorem instance_any (N B M : Nat) (L : List ByteArray) (w : World) (ck : Int) (hl : ∀ s ∈ L, s.size ≤ 1000000) (hn2 : L.length ≤ 1000000) (h : St N B M [] L 0 [] 0 w) (hck : Checks ck L) :
    Calls Tryz.prog 19 #[.pointer (some ⟨B, 0, none⟩)] w fun e w' => w.grownBy w' (some B) ∧
      ((headE L ≠ 0 ∧ Gave 1 (headE L) e) ∨ (headE L = 0 ∧ InstOut N B M (parOf L) ck w e w')) := by
  by_cases he : headE L = 0
  · obtain ⟨hok, hC, hR, -, -⟩ := parOf_ok he
    refine (inst_walk N B M (parOf L) hok w ck hl hn2 h (fun w h => ?_) (fun v W hv => hck he _ v W hv)).mono ?_
    · refine (head_any N B M [] L 0 [] w hl hn2 h).mono fun e w' hr => ?_
      rw [he, hC, hR] at hr
      exact res_yes hr
    · rintro e w' ⟨h1, h2⟩
      exact ⟨h1, .inr ⟨he, h2⟩⟩
  · have hlt := h.lt
    have h0 : ∀ w, St N B M [] L 0 [] 0 w → _ := fun w h => (head_any N B M [] L 0 [] w hl hn2 h).mono fun _ _ hr => res_no hr he
    have H0 := Lib.hid h0; clear h0
    have HS := Lib.hid h; clear h hck
    go_enter Tryz.func19, Tryz.ntmps19
    go_wp2_with fail
    have hb0 : Below w.heap.size w (w.alloc (.cells #[.slice none 0 0, .slice none 0 0, .slice none 0 0, .slice none 0 0] 28)) := (Below.refl _ _).alloc (Nat.le_refl _) _
    refine (H0.out _ (HS.out.below hb0)).mono ?_
    rintro e w1 ⟨rfl, hg1⟩
    exact ⟨rfl, (grown_of hb0 _).trans hg1, .inl ⟨he, rfl⟩⟩
theorem drew_heap (W : World) : W.drew.heap = W.heap := rfl
theorem err_no {f : Nat → Int} {i m j : Nat} (h : bad f i m = some j) : f j ≠ 0 := by
  induction m generalizing i with
  | zero => cases h
  | succ m ih =>
    unfold bad at h
    split at h
    · exact ih h
    · cases h; assumption
theorem fault_line {p : IP} {ck : Int} (h : (p.fault ck).2 = 0) : (p.fault ck).1 = 0 := by
  unfold IP.fault at h ⊢
  split at h
  · rename_i i hi
    exact absurd h (err_no hi)
  · split at h
    · cases h
    · rename_i hb _ hl
      rw [if_neg hl]
set_option maxHeartbeats 4000000 in
set_option maxRecDepth 100000 in
theorem read_any (s : ByteArray) (w : World) (ck : Int) (hs : s.size ≤ 100000) (hE : EnvAt w.heap.size w) (hck : Checks ck (linesP s.data.toList)) :
    Calls Tryz.prog 9 #[.string s] w fun e w' => Below w.heap.size w w' ∧ ReadOut w.heap.size s ck e w' := by
  have hl := lines_size s.data.toList
  have hn := lines_many s.data.toList
  have hsz : s.data.toList.length = s.size := by simp
  have hl' : ∀ q ∈ linesP s.data.toList, q.size ≤ 1000000 := fun q hq => by have := hl q hq; omega
  have hn' : (linesP s.data.toList).length ≤ 1000000 := by omega
  clear hl hn hsz
  have HL := Lib.hid hl'; clear hl'
  obtain ⟨X, hX⟩ : ∃ X, X = w.heap.size := ⟨_, rfl⟩
  rw [← hX] at hE ⊢
  have HE := Lib.hid hE; clear hE
  have HXe := Lib.hid hX; clear hX
  have HCK := Lib.hid hck; clear hck
  have HN := Lib.hid hn'; clear hn'
  have hmf : ∀ (fn : Fn) (first cap : Array Value) (w : World), (Instr.makeFunc fn first cap).run Tryz.prog w = .ok (.func fn first cap) w := fun _ _ _ _ => rfl
  go_enter_defers Tryz.func9, Tryz.ntmps9
  go_wp2_with fail
  have hX := HXe.out
  obtain ⟨W4, hW4⟩ : ∃ W4, W4 = (((w.alloc (.cells #[.slice none 0 0, .slice none 0 0, .slice none 0 0, .slice none 0 0] 28)).alloc (.cells #[.int .i64 0] 3)).alloc (.cells #[.int .i64 0, .int .i64 0] 39)).alloc (.cells #[.slice none 0 0, .int .i64 0, .slice none 0 0, .int .i64 0] 61) := ⟨_, rfl⟩
  have hz4 : W4.heap.size = X + 1 + 1 + 1 + 1 := by rw [hW4, hX]; simp
  have hb4 : Below X w W4 := by rw [hW4, hX]; exact ((((Below.refl _ _).alloc (Nat.le_refl _) _).alloc (by simp) _).alloc (by simp <;> omega) _).alloc (by simp <;> omega) _
  have hx4 : W4.heap[X]? = some (.cells #[.slice none 0 0, .slice none 0 0, .slice none 0 0, .slice none 0 0] 28) := by
    rw [hW4, hX, Below.heap_alloc _ _ _ (by simp; omega), Below.heap_alloc _ _ _ (by simp; omega), Below.heap_alloc _ _ _ (by simp)]; exact World.alloc_heap_new w _
  have hy4 : W4.heap[X + 1]? = some (.cells #[.int .i64 0] 3) := by
    rw [hW4, hX, Below.heap_alloc _ _ _ (by simp), Below.heap_alloc _ _ _ (by simp)]
    rw [← World.size_alloc w (.cells #[.slice none 0 0, .slice none 0 0, .slice none 0 0, .slice none 0 0] 28)]; exact World.alloc_heap_new _ _
  have hq4 : W4.heap[X + 1 + 1]? = some (.cells #[.int .i64 0, .int .i64 0] 39) := by
    rw [hW4, hX, Below.heap_alloc _ _ _ (by simp)]
    rw [← World.size_alloc w (.cells #[.slice none 0 0, .slice none 0 0, .slice none 0 0, .slice none 0 0] 28), ← World.size_alloc _ (.cells #[.int .i64 0] 3)]; exact World.alloc_heap_new _ _
  have hr4 : Rd W4 (X + 1 + 1 + 1) (.slice none 0 0) 0 (.slice none 0 0) 0 := by
    unfold Rd
    rw [hW4, hX]
    rw [← World.size_alloc w (.cells #[.slice none 0 0, .slice none 0 0, .slice none 0 0, .slice none 0 0] 28), ← World.size_alloc _ (.cells #[.int .i64 0] 3), ← World.size_alloc _ (.cells #[.int .i64 0, .int .i64 0] 39)]; exact World.alloc_heap_new _ _
  rw [← hW4, ← hX]
  have HE4 := Lib.hid (HE.out.below hb4)
  have HB4 := Lib.hid hb4; clear hb4
  have HX4 := Lib.hid hx4; clear hx4
  have HY4 := Lib.hid hy4; clear hy4
  have HQ4 := Lib.hid hq4; clear hq4
  have HR4 := Lib.hid hr4; clear hr4
  have HZ4 := Lib.hid hz4; clear hz4
  clear hW4 HE hX
  -- what a reader that gave up leaves
  have hgave : ∀ (W5 : World) (tmps : Array Value) (hg : W4.grownBy W5 (some (X + 1 + 1 + 1))) (ln er : Int) (hf : (((readF s ck).1 : Nat) : Int) = ln ∧ (readF s ck).2 = er ∧ er ≠ 0) (h2 : tmps[2]? = some (.pointer (some ⟨X, 0, none⟩))) (h3 : tmps[3]? = some (.pointer (some ⟨X + 1, 0, none⟩))) (h4 : tmps[4]? = some (.pointer (some ⟨X + 1 + 1, 0, none⟩))),
      Leaves Tryz.prog Tryz.f9 tmps (fun e w' => Below X w w' ∧ ReadOut X s ck e w') [{ target := .fn (.func 17) #[.pointer (some ⟨X, 0, none⟩), .pointer (some ⟨X + 1, 0, none⟩), .pointer (some ⟨X + 1 + 1, 0, none⟩)], args := #[] }]
        (.panicking [{ v := .iface 39 (.agg #[.int .i64 ln, .int .i64 er]), recovered := false }]) W5 := by
    intro W5 tmps hg ln er hf h2 h3 h4
    refine leaves_cons (f := 17) (args := #[.pointer (some ⟨X, 0, none⟩), .pointer (some ⟨X + 1, 0, none⟩), .pointer (some ⟨X + 1 + 1, 0, none⟩)]) (by simp) (by simp [go_sem]) ?_
    refine (catch_gave X (X + 1) (X + 1 + 1) ln er 0 0 0 _ _ _ _ [] W5 (own_kept hg (by omega) HX4.out) (own_kept hg (by omega) HY4.out) (own_kept hg (by omega) HQ4.out) (by omega) (by omega) (by omega) X (Nat.le_refl _) (by omega) (by omega)).mono ?_
    rintro e u' w'' ⟨rfl, rfl, hx, hy, hq, hb⟩
    have hbb : Below X w w'' := (HB4.out.trans (below_of hg (by omega) HR4.out.lt)).trans hb
    refine ⟨.tuple #[.agg #[.slice none 0 0, .slice none 0 0, .slice none 0 0, .slice none 0 0], .int .i64 0, .agg #[.int .i64 ln, .int .i64 er]], ?_, hbb, _, _, ?_, .inr ⟨by rw [hf.2.1]; exact hf.2.2, rfl, rfl⟩⟩
    · simp [results, Tryz.results9, go_sem, h2, h3, h4, World.cell?, hx, hy, hq]
    · rw [hf.1, hf.2.1]
  have HG := Lib.hid hgave; clear hgave
  refine (open_any X (X + 1 + 1 + 1) s W4 (by unfold maxLen; omega) HE4.out (by omega) HR4.out).mono ?_
  rintro e w5 ⟨hg5, ⟨ho, rfl, hs5⟩ | ⟨ho, rfl⟩⟩
  · have HO := Lib.hid ho; clear ho
    have HS5 := Lib.hid hs5; clear hs5
    have HG5 := Lib.hid hg5; clear hg5
    go_wp2_with fail
    refine (instance_any X (X + 1 + 1 + 1) w5.heap.size (linesP s.data.toList) w5 ck HL.out HN.out HS5.out HCK.out).mono ?_
    rintro e w6 ⟨hg6, ⟨hh, rfl⟩ | ⟨hh, ho6⟩⟩
    · have hf : readF s ck = (1, headE (linesP s.data.toList)) := by unfold readF; rw [if_neg (by simpa using HO.out), if_pos hh]
      go_wp2_with fail
      change Leaves _ _ _ _ _ _ _
      refine HG.out _ _ (HG5.out.trans hg6) 1 _ ⟨by rw [hf]; rfl, by rw [hf], hh⟩ ?_ ?_ ?_ <;> rfl
    · have hf : readF s ck = (parOf (linesP s.data.toList)).fault ck := by unfold readF; rw [if_neg (by simpa using HO.out), if_neg (by simpa using hh)]
      rcases ho6 with ⟨hf0, v, rfl, hi, hst⟩ | ⟨hf0, rfl⟩
      · have hz5 : X + 1 + 1 + 1 < w5.heap.size := HS5.out.lt
        have hg46 := HG5.out.trans hg6
        have hx6 := own_kept hg46 (by omega) HX4.out
        have hy6 := own_kept hg46 (by omega) HY4.out
        have hq6 := own_kept hg46 (by omega) HQ4.out
        have hb6 := HB4.out.trans (below_of hg46 (by omega) HR4.out.lt)
        obtain ⟨lv, wv, hr6, -, -⟩ := hst.rd
        obtain ⟨a1, n1, c1, a2, n2, c2, a3, n3, c3, a4, n4, c4, rfl⟩ := hi.form
        have HI := Lib.hid hi; clear hi
        have HF := Lib.hid hf; clear hf
        have HFL := Lib.hid (fault_line hf0)
        have HF0 := Lib.hid hf0; clear hf0
        have hx60 : w6.cell? ⟨X, 0, none⟩ = some (.slice none 0 0) := (own_cell hx6).trans rfl
        have hx61 : w6.cell? ⟨X, 1, none⟩ = some (.slice none 0 0) := (own_cell hx6).trans rfl
        have hx62 : w6.cell? ⟨X, 2, none⟩ = some (.slice none 0 0) := (own_cell hx6).trans rfl
        have hx63 : w6.cell? ⟨X, 3, none⟩ = some (.slice none 0 0) := (own_cell hx6).trans rfl
        have fx6 : ∀ j, w6.frozen? ⟨X, j, none⟩ = false := fun j => own_free hx6
        have HX6 := Lib.hid hx6; clear hx6
        have HY6 := Lib.hid hy6; clear hy6
        have HQ6 := Lib.hid hq6; clear hq6
        have HR6 := Lib.hid hr6; clear hr6
        have HB6 := Lib.hid hb6; clear hb6
        clear hg6 hg46 hst
        go_wp2_with fail
        clear hx60 hx61 hx62 hx63 fx6
        obtain ⟨W7, hW7⟩ : ∃ W7, W7 = ((((w6.setCell ⟨X, 0, none⟩ (.slice a1 n1 c1)).setCell ⟨X, 1, none⟩ (.slice a2 n2 c2)).setCell ⟨X, 2, none⟩ (.slice a3 n3 c3)).setCell ⟨X, 3, none⟩ (.slice a4 n4 c4)) := ⟨_, rfl⟩
        have hx7 : W7.heap[X]? = some (.cells #[.slice a1 n1 c1, .slice a2 n2 c2, .slice a3 n3 c3, .slice a4 n4 c4] 28) := by
          rw [hW7]; exact own_set (own_set (own_set (own_set HX6.out _) _) _) _
        have k7 : ∀ {b : Nat} {o : Option Obj}, b ≠ X → w6.heap[b]? = o → W7.heap[b]? = o := fun hb h => by
          rw [hW7]; exact own_other (own_other (own_other (own_other h hb _) hb _) hb _) hb _
        have hy7 := k7 (by omega) HY6.out
        have hq7 := k7 (by omega) HQ6.out
        have hr7 : W7.heap[X + 1 + 1 + 1]? = some (.cells #[lv, .int .i64 0, wv, .int .i64 (parOf (linesP s.data.toList)).sc] 61) := k7 (by omega) HR6.out
        have hb7 : Below X w W7 := by rw [hW7]; exact (((HB6.out.setCell (p := ⟨X, 0, none⟩) (Nat.le_refl _) _).setCell (p := ⟨X, 1, none⟩) (Nat.le_refl _) _).setCell (p := ⟨X, 2, none⟩) (Nat.le_refl _) _).setCell (p := ⟨X, 3, none⟩) (Nat.le_refl _) _
        have HI7 := Lib.hid (HI.out.same fun g o hg h => k7 (by omega) h)
        rw [← hW7]
        clear hW7 k7 HX6 HY6 HQ6 HR6 HB6 HI
        have x0 : W7.cell? ⟨X, 0, none⟩ = some (.slice a1 n1 c1) := (own_cell hx7).trans rfl
        have x1 : W7.cell? ⟨X, 1, none⟩ = some (.slice a2 n2 c2) := (own_cell hx7).trans rfl
        have x2 : W7.cell? ⟨X, 2, none⟩ = some (.slice a3 n3 c3) := (own_cell hx7).trans rfl
        have x3 : W7.cell? ⟨X, 3, none⟩ = some (.slice a4 n4 c4) := (own_cell hx7).trans rfl
        have y0 : W7.cell? ⟨X + 1, 0, none⟩ = some (.int .i64 0) := (own_cell hy7).trans rfl
        have z0 : W7.cell? ⟨X + 1 + 1, 0, none⟩ = some (.int .i64 0) := (own_cell hq7).trans rfl
        have z1 : W7.cell? ⟨X + 1 + 1, 1, none⟩ = some (.int .i64 0) := (own_cell hq7).trans rfl
        have r3 : W7.cell? ⟨X + 1 + 1 + 1, 3, none⟩ = some (.int .i64 (parOf (linesP s.data.toList)).sc) := (own_cell hr7).trans rfl
        have fX : ∀ j, W7.frozen? ⟨X, j, none⟩ = false := fun j => own_free hx7
        have fY : ∀ j, W7.frozen? ⟨X + 1, j, none⟩ = false := fun j => own_free hy7
        have fZ : ∀ j, W7.frozen? ⟨X + 1 + 1, j, none⟩ = false := fun j => own_free hq7
        have HX7 := Lib.hid hx7; clear hx7
        have HY7 := Lib.hid hy7; clear hy7
        have HQ7 := Lib.hid hq7; clear hq7
        have HB7 := Lib.hid hb7; clear hb7
        clear hr7
        go_region
        all_goals
          clear x0 x1 x2 x3 y0 z0 z1 r3 fX fY fZ
          go_wp2_with fail
          change Leaves _ _ _ _ _ _ _
          obtain ⟨W8, hW8⟩ : ∃ W8, W8 = (((((((W7.setCell ⟨X, 0, none⟩ (.slice a1 n1 c1)).setCell ⟨X, 1, none⟩ (.slice a2 n2 c2)).setCell ⟨X, 2, none⟩ (.slice a3 n3 c3)).setCell ⟨X, 3, none⟩ (.slice a4 n4 c4)).setCell ⟨X + 1, 0, none⟩ (.int .i64 (parOf (linesP s.data.toList)).sc)).setCell ⟨X + 1 + 1, 0, none⟩ (.int .i64 0)).setCell ⟨X + 1 + 1, 1, none⟩ (.int .i64 0)).drew := ⟨_, rfl⟩
          have hx8 : W8.heap[X]? = some (.cells #[.slice a1 n1 c1, .slice a2 n2 c2, .slice a3 n3 c3, .slice a4 n4 c4] 28) := by
            rw [hW8, drew_heap]; exact own_other (own_other (own_other (own_set (own_set (own_set (own_set HX7.out _) _) _) _) (by omega) _) (by omega) _) (by omega) _
          have hy8 : W8.heap[X + 1]? = some (.cells #[.int .i64 (parOf (linesP s.data.toList)).sc] 3) := by
            rw [hW8, drew_heap]; exact own_other (own_other (own_set (own_other (own_other (own_other (own_other HY7.out (by omega) _) (by omega) _) (by omega) _) (by omega) _) _) (by omega) _) (by omega) _
          have hq8 : W8.heap[X + 1 + 1]? = some (.cells #[.int .i64 0, .int .i64 0] 39) := by
            rw [hW8, drew_heap]; exact own_set (own_set (own_other (own_other (own_other (own_other (own_other HQ7.out (by omega) _) (by omega) _) (by omega) _) (by omega) _) (by omega) _) _) _
          have hb8 : Below X w W8 := by
            rw [hW8]
            exact (((((((HB7.out.setCell (p := ⟨X, 0, none⟩) (Nat.le_refl _) _).setCell (p := ⟨X, 1, none⟩) (Nat.le_refl _) _).setCell (p := ⟨X, 2, none⟩) (Nat.le_refl _) _).setCell (p := ⟨X, 3, none⟩) (Nat.le_refl _) _).setCell (p := ⟨X + 1, 0, none⟩) (by simp) _).setCell (p := ⟨X + 1 + 1, 0, none⟩) (by simp; omega) _).setCell (p := ⟨X + 1 + 1, 1, none⟩) (by simp; omega) _).drew
          have hi8 : InstAt X (parOf (linesP s.data.toList)) (.agg #[.slice a1 n1 c1, .slice a2 n2 c2, .slice a3 n3 c3, .slice a4 n4 c4]) W8 := by
            refine (HI7.out.same fun g o hg h => ?_).mono (by omega)
            rw [hW8, drew_heap]
            exact own_other (own_other (own_other (own_other (own_other (own_other (own_other h (by omega) _) (by omega) _) (by omega) _) (by omega) _) (by omega) _) (by omega) _) (by omega) _
          rw [← hW8]
          clear hW8
          refine leaves_cons (f := 17) (args := #[.pointer (some ⟨X, 0, none⟩), .pointer (some ⟨X + 1, 0, none⟩), .pointer (some ⟨X + 1 + 1, 0, none⟩)]) (by simp) (by simp [go_sem]) ?_
          refine (catch_idle _ _ _ W8).mono ?_
          rintro e u' w'' ⟨rfl, rfl, rfl⟩
          refine ⟨.tuple #[.agg #[.slice a1 n1 c1, .slice a2 n2 c2, .slice a3 n3 c3, .slice a4 n4 c4], .int .i64 (parOf (linesP s.data.toList)).sc, .agg #[.int .i64 0, .int .i64 0]], ?_, hb8, _, _, ?_, .inl ⟨by rw [HF.out]; exact HF0.out, hi8, rfl⟩⟩
          · simp [results, Tryz.results9, go_sem, World.cell?, hx8, hy8, hq8]
          · rw [HF.out, HF0.out, HFL.out]; rfl
      · go_wp2_with fail
        change Leaves _ _ _ _ _ _ _
        refine HG.out _ _ (HG5.out.trans hg6) _ _ ⟨by rw [hf], by rw [hf], hf0⟩ ?_ ?_ ?_ <;> rfl
  · have hf : readF s ck = (0, openE s.data.toList) := by unfold readF; rw [if_pos ho]
    go_wp2_with fail
    change Leaves _ _ _ _ _ _ _
    refine HG.out _ _ hg5 0 _ ⟨by rw [hf]; rfl, by rw [hf], ho⟩ ?_ ?_ ?_ <;> rfl
theorem EnvAt.mono {N N' : Nat} {w : World} (h : EnvAt N w) (hN : N ≤ N') : EnvAt N' w := fun w' hb => h w' (hb.mono hN)
theorem ReadAt.form {base : Nat} {s : ByteArray} {er sc : Int} {v : Value} {W : World} (h : ReadAt base s er v sc W) : ∃ a1 n1 c1 a2 n2 c2 a3 n3 c3 a4 n4 c4, v = .agg #[.slice a1 n1 c1, .slice a2 n2 c2, .slice a3 n3 c3, .slice a4 n4 c4] := by
  rcases h with ⟨-, h, -⟩ | ⟨-, rfl, -⟩
  · exact h.form
  · exact ⟨_, _, _, _, _, _, _, _, _, _, _, _, rfl⟩
theorem ReadAt.same {base base' : Nat} {s : ByteArray} {er sc : Int} {v : Value} {W W' : World} (h : ReadAt base s er v sc W) (hk : ∀ g o, base ≤ g → W.heap[g]? = some o → W'.heap[g]? = some o) (hb : base' ≤ base) : ReadAt base' s er v sc W' := by
  rcases h with ⟨h0, h, h1⟩ | h
  · exact .inl ⟨h0, (h.same hk).mono hb, h1⟩
  · exact .inr h
def ParseOut (base : Nat) (s : ByteArray) (ck : Int) (e : Ending) (W : World) : Prop :=
  ∃ v sc, e = .returned (.tuple #[v, .int .i64 sc, .int .i64 (readF s ck).1, .int .i64 (readF s ck).2]) ∧ ReadAt base s (readF s ck).2 v sc W
set_option maxHeartbeats 4000000 in
set_option maxRecDepth 100000 in
theorem parse_any (s : ByteArray) (w : World) (ck : Int) (hs : s.size ≤ 100000) (hE : EnvAt w.heap.size w) (hck : Checks ck (linesP s.data.toList)) :
    Calls Tryz.prog 5 #[.string s] w fun e w' => Below w.heap.size w w' ∧ ParseOut w.heap.size s ck e w' := by
  obtain ⟨X, hX⟩ : ∃ X, X = w.heap.size := ⟨_, rfl⟩
  obtain ⟨W0, hW0⟩ : ∃ W0, W0 = w.alloc (.cells #[.slice none 0 0, .slice none 0 0, .slice none 0 0, .slice none 0 0] 28) := ⟨_, rfl⟩
  have hb0 : Below X w W0 := by rw [hX, hW0]; exact (Below.refl _ _).alloc (Nat.le_refl _) _
  have hx0 : W0.heap[X]? = some (.cells #[.slice none 0 0, .slice none 0 0, .slice none 0 0, .slice none 0 0] 28) := by rw [hX, hW0]; exact World.alloc_heap_new w _
  have hz0 : W0.heap.size = X + 1 := by rw [hX, hW0]; simp
  rw [← hX] at hE ⊢
  have h1 := read_any s W0 ck hs ((hE.below hb0).mono (by omega)) hck
  have H1 := Lib.hid h1; clear h1 hE hck
  have HX := Lib.hid hX; clear hX
  have HW := Lib.hid hW0; clear hW0
  have HB0 := Lib.hid hb0; clear hb0
  have HX0 := Lib.hid hx0; clear hx0
  have HZ0 := Lib.hid hz0; clear hz0
  unfold ParseOut
  go_enter Tryz.func5, Tryz.ntmps5
  go_wp2_with fail
  rw [← HX.out, ← HW.out]
  refine H1.out.mono ?_
  rintro e w1 ⟨hb1, v, sc, rfl, hr⟩
  generalize hln : (((readF s ck).1 : Nat) : Int) = ln at *
  generalize her : (readF s ck).2 = er at *
  have HLN := Lib.hid hln; clear hln
  have HER := Lib.hid her; clear her
  have hx1 : w1.heap[X]? = _ := (hb1.block X (by rw [HZ0.out]; omega)).trans HX0.out
  have hbb : Below X w w1 := HB0.out.trans (hb1.mono (by rw [HZ0.out]; omega))
  have hz1 : X + 1 ≤ w1.heap.size := by have := hb1.size; rw [HZ0.out] at this; exact this
  obtain ⟨a1, n1, c1, a2, n2, c2, a3, n3, c3, a4, n4, c4, rfl⟩ := hr.form
  have HR := Lib.hid hr; clear hr
  have HBB := Lib.hid hbb; clear hbb hb1
  have x0 : w1.cell? ⟨X, 0, none⟩ = some (.slice none 0 0) := (own_cell hx1).trans rfl
  have x1 : w1.cell? ⟨X, 1, none⟩ = some (.slice none 0 0) := (own_cell hx1).trans rfl
  have x2 : w1.cell? ⟨X, 2, none⟩ = some (.slice none 0 0) := (own_cell hx1).trans rfl
  have x3 : w1.cell? ⟨X, 3, none⟩ = some (.slice none 0 0) := (own_cell hx1).trans rfl
  have fX : ∀ j, w1.frozen? ⟨X, j, none⟩ = false := fun j => own_free hx1
  have hzx : X < w1.heap.size := by omega
  have HX1 := Lib.hid hx1; clear hx1
  go_wp2_with fail
  clear x0 x1 x2 x3 fX
  obtain ⟨Z, hZ⟩ : ∃ Z, Z = w1.heap.size := ⟨_, rfl⟩
  obtain ⟨W6, hW6⟩ : ∃ W6, W6 = ((((w1.setCell ⟨X, 0, none⟩ (.slice a1 n1 c1)).setCell ⟨X, 1, none⟩ (.slice a2 n2 c2)).setCell ⟨X, 2, none⟩ (.slice a3 n3 c3)).setCell ⟨X, 3, none⟩ (.slice a4 n4 c4)) := ⟨_, rfl⟩
  obtain ⟨W7, hW7⟩ : ∃ W7, W7 = W6.alloc (.cells #[.int .i64 ln, .int .i64 er] 39) := ⟨_, rfl⟩
  have hz6 : W6.heap.size = Z := by rw [hW6, hZ]; simp [World.size_setCell]
  have hx7 : W7.heap[X]? = some (.cells #[.slice a1 n1 c1, .slice a2 n2 c2, .slice a3 n3 c3, .slice a4 n4 c4] 28) := by
    rw [hW7, Below.heap_alloc _ _ _ (by rw [hz6]; omega), hW6]; exact own_set (own_set (own_set (own_set HX1.out _) _) _) _
  have hq7 : W7.heap[Z]? = some (.cells #[.int .i64 ln, .int .i64 er] 39) := by
    rw [hW7, ← hz6]; exact World.alloc_heap_new _ _
  have k7 : ∀ g, X + 1 ≤ g → g < Z → W7.heap[g]? = w1.heap[g]? := fun g h1 h2 => by
    rw [hW7, Below.heap_alloc _ _ _ (by rw [hz6]; exact h2), hW6]; exact own_other (own_other (own_other (own_other rfl (by omega) _) (by omega) _) (by omega) _) (by omega) _
  have hb7 : Below X w W7 := by
    rw [hW7]
    refine Below.alloc ?_ (by rw [hz6]; omega) _
    rw [hW6]; exact (((HBB.out.setCell (p := ⟨X, 0, none⟩) (Nat.le_refl _) _).setCell (p := ⟨X, 1, none⟩) (Nat.le_refl _) _).setCell (p := ⟨X, 2, none⟩) (Nat.le_refl _) _).setCell (p := ⟨X, 3, none⟩) (Nat.le_refl _) _
  rw [← hZ, ← hW6, ← hW7]
  have hxz : ¬ X = Z := by omega
  have hzx' : ¬ Z = X := by omega
  have HK := Lib.hid k7; clear k7
  have HBZ := Lib.hid hb7; clear hb7
  have x0 : W7.cell? ⟨X, 0, none⟩ = some (.slice a1 n1 c1) := (own_cell hx7).trans rfl
  have x1 : W7.cell? ⟨X, 1, none⟩ = some (.slice a2 n2 c2) := (own_cell hx7).trans rfl
  have x2 : W7.cell? ⟨X, 2, none⟩ = some (.slice a3 n3 c3) := (own_cell hx7).trans rfl
  have x3 : W7.cell? ⟨X, 3, none⟩ = some (.slice a4 n4 c4) := (own_cell hx7).trans rfl
  have z0 : W7.cell? ⟨Z, 0, none⟩ = some (.int .i64 ln) := (own_cell hq7).trans rfl
  have z1 : W7.cell? ⟨Z, 1, none⟩ = some (.int .i64 er) := (own_cell hq7).trans rfl
  have fX : ∀ j, W7.frozen? ⟨X, j, none⟩ = false := fun j => own_free hx7
  have HX7 := Lib.hid hx7; clear hx7
  clear hW6 hW7 hz6 hq7 HX1 HBB
  have HZE := Lib.hid hZ; clear hZ
  go_region
  all_goals
    clear x0 x1 x2 x3 z0 z1 fX
    go_wp2_with fail
    obtain ⟨W8, hW8⟩ : ∃ W8, W8 = ((((W7.setCell ⟨X, 0, none⟩ (.slice a1 n1 c1)).setCell ⟨X, 1, none⟩ (.slice a2 n2 c2)).setCell ⟨X, 2, none⟩ (.slice a3 n3 c3)).setCell ⟨X, 3, none⟩ (.slice a4 n4 c4)).drew := ⟨_, rfl⟩
    have hx8 : W8.heap[X]? = some (.cells #[.slice a1 n1 c1, .slice a2 n2 c2, .slice a3 n3 c3, .slice a4 n4 c4] 28) := by
      rw [hW8, drew_heap]; exact own_set (own_set (own_set (own_set HX7.out _) _) _) _
    have hb8 : Below X w W8 := by
      rw [hW8]
      exact ((((HBZ.out.setCell (p := ⟨X, 0, none⟩) (Nat.le_refl _) _).setCell (p := ⟨X, 1, none⟩) (Nat.le_refl _) _).setCell (p := ⟨X, 2, none⟩) (Nat.le_refl _) _).setCell (p := ⟨X, 3, none⟩) (Nat.le_refl _) _).drew
    have hr8 : ReadAt X s er (.agg #[.slice a1 n1 c1, .slice a2 n2 c2, .slice a3 n3 c3, .slice a4 n4 c4]) sc W8 := by
      refine HR.out.same (fun g o hg h => ?_) (by rw [HZ0.out]; omega)
      rw [HZ0.out] at hg
      have hlt : g < Z := by rw [HZE.out]; exact (Array.getElem?_eq_some_iff.1 h).1
      rw [hW8, drew_heap]
      exact own_other (own_other (own_other (own_other ((HK.out g hg hlt).trans h) (by omega) _) (by omega) _) (by omega) _) (by omega) _
    rw [← hW8]
    clear hW8
    refine bodyPost_ret (v := .tuple #[.agg #[.slice a1 n1 c1, .slice a2 n2 c2, .slice a3 n3 c3, .slice a4 n4 c4], .int .i64 sc, .int .i64 ln, .int .i64 er]) (by simp [results, Tryz.results5, go_sem, World.cell?, hx8]) rfl ?_
    refine ⟨hb8, _, _, by rw [HLN.out, HER.out], ?_⟩
    rw [HER.out]
    exact hr8
end Sheet
end Go.Proofs.YtjmhlabgoegeoaaGreatDoor
