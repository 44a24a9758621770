/- Package sheet's reader: ride, car: over the translated program. -/
import Derived.Test.YtjmhlabgoegeoaaGreatDoorSheetNext
import Derived.Deep.RegionHeld3
import Derived.RegionDies
namespace Go.Proofs.YtjmhlabgoegeoaaGreatDoor
namespace Sheet
open Go Go.RowKit Deci
section
variable {N B M : Nat} {Av : List Nat} {L : List ByteArray} {ln : Int} {ps : List ByteArray} {sc : Int} {w w' : World} {er : Int} {v : Value} {e : Ending}
theorem res_yes (h : Res N B M Av L ln ps sc w 0 v e w') : e = .returned v ∧ w.grownBy w' (some B) ∧ St N B M Av L ln ps sc w' := by
  obtain ⟨h1, h2 | h2⟩ := h
  · exact ⟨h2.2.1, h1, h2.2.2⟩
  · exact absurd rfl h2.1
theorem res_no (h : Res N B M Av L ln ps sc w er v e w') (he : er ≠ 0) : Gave ln er e ∧ w.grownBy w' (some B) := by
  obtain ⟨h1, h2 | h2⟩ := h
  · exact absurd h2.1 he
  · exact ⟨h2.2, h1⟩
theorem St.c3 (h : St N B M Av L ln ps sc w) : w.cell? ⟨B, 3, none⟩ = some (.int .i64 sc) := by obtain ⟨lv, wv, h, -⟩ := h.rd; exact h.c3
theorem St.fz (h : St N B M Av L ln ps sc w) (j : Nat) : w.frozen? ⟨B, j, none⟩ = false := by obtain ⟨lv, wv, h, -⟩ := h.rd; exact h.fz j
end
theorem next_words {L : List ByteArray} {n : Nat} {name : ByteArray} {cnt : Nat} (h : nextE L n name cnt = 0) : (nextW L n).length = cnt := by
  unfold nextE at h
  unfold nextW
  by_cases hn : n < L.length
  · rw [dif_pos hn] at h ⊢
    unfold lineE at h
    split at h
    · rename_i h'
      rw [List.length_tail, h'.2.1]; rfl
    · exact absurd h (by decide)
  · rw [dif_neg hn] at h
    exact absurd h (by decide)
theorem len1 {ws : List ByteArray} (h : ws.length = 1) : ∃ a, ws = [a] := by
  match ws, h with
  | [a], _ => exact ⟨a, rfl⟩
theorem len3 {ws : List ByteArray} (h : ws.length = 3) : ∃ a b c, ws = [a, b, c] := by
  match ws, h with
  | [a, b, c], _ => exact ⟨a, b, c, rfl⟩
/-- The words of a line are no longer than it. -/
theorem words_size (l : List UInt8) : ∀ p ∈ wordsP l, p.size ≤ l.length := by
  intro p hp
  unfold wordsP at hp
  split at hp
  · simp at hp
  · split at hp
    · obtain ⟨q, hq, rfl⟩ := List.mem_map.1 hp
      have := pcs_mem 32 l [] q hq
      simpa [strOf, ByteArray.size] using this
    · simp at hp
theorem nextW_size {L : List ByteArray} {n m : Nat} (hl : ∀ s ∈ L, s.size ≤ m) : ∀ p ∈ nextW L n, p.size ≤ m := by
  intro p hp
  unfold nextW at hp
  split at hp
  · rename_i hn
    have h1 := words_size _ p (List.mem_of_mem_tail hp)
    have h2 := hl _ (List.getElem_mem hn)
    have h3 : L[n].data.toList.length = L[n].size := by simp
    omega
  · simp at hp
/-- The number of a ride's line, and its error. -/
def rideE (L : List ByteArray) (n : Nat) (sc : Int) : Int := twoE (nextE L n ⟨#[114, 105, 100, 101]⟩ 1) (readE ((nextW L n).getD 0 ⟨#[]⟩).data.toList sc)
def rideV (L : List ByteArray) (n : Nat) (sc : Int) : Int := readV ((nextW L n).getD 0 ⟨#[]⟩).data.toList sc
set_option maxHeartbeats 1000000 in
theorem ride_any (N B M : Nat) (Av : List Nat) (L : List ByteArray) (n : Nat) (sc : Int) (ps : List ByteArray) (w : World) (hn : n ≤ 1000000) (hl : ∀ s ∈ L, s.size ≤ 1000000) (hn2 : L.length ≤ 1000000) (h : St N B M Av L n ps sc w) :
    Calls Tryz.prog 53 #[.pointer (some ⟨B, 0, none⟩)] w (Res N B M Av L (n + 1) [] sc w (rideE L n sc) (.int .i64 (rideV L n sc))) := by
  have h0 := next_any N B M Av L n sc ps ⟨#[114, 105, 100, 101]⟩ 1 w hn hl hn2 (by decide) h
  unfold rideE rideV
  have hw := nextW_size (n := n) hl
  by_cases he : nextE L n ⟨#[114, 105, 100, 101]⟩ 1 = 0
  · obtain ⟨p, hp⟩ := len1 (next_words he)
    rw [he] at h0
    rw [he, twoE_ok]
    rw [hp] at h0 hw ⊢
    have hps : p.size ≤ 1000000 := hw p (by simp)
    have h1 : ∀ w1, St N B M Av L (n + 1) [p] sc w1 → _ := fun w1 h => decimal_res (w := w1) sc (by decide) (by omega) h
    simp only [List.getD_cons_zero] at *
    generalize readE p.data.toList sc = er at *
    generalize readV p.data.toList sc = v at *
    have H0 := Lib.hid (h0.mono fun _ _ h => res_yes h); clear h0
    have H1 := Lib.hid h1; clear h1
    clear h hw hl
    go_enter Tryz.func53, Tryz.ntmps53
    go_wp2_with fail
    refine H0.out.mono ?_
    rintro e w1 ⟨rfl, hg1, hs1⟩
    have c3 := hs1.c3
    have S1 := Lib.hid hs1; clear hs1
    go_wp2_with fail
    refine (H1.out _ S1.out).mono ?_
    rintro e w2 ⟨hg2, ⟨he2, rfl, hs2⟩ | ⟨he2, rfl⟩⟩
    · subst he2
      have S2 := Lib.hid hs2; clear hs2
      clear c3
      go_wp2_with fail
      go_ret
      exact ⟨hg1.trans hg2, .inl ⟨rfl, rfl, S2.out⟩⟩
    · clear c3
      go_wp2_with fail
      exact ⟨rfl, hg1.trans hg2, .inr ⟨he2, rfl⟩⟩
  · rw [twoE_no _ he]
    have H0 := Lib.hid (h0.mono fun _ _ h => res_no h he); clear h0
    generalize nextE L n ⟨#[114, 105, 100, 101]⟩ 1 = er at *
    generalize readV _ _ = v
    clear h hw hl
    go_enter Tryz.func53, Tryz.ntmps53
    go_wp2_with fail
    refine H0.out.mono ?_
    rintro e w1 ⟨rfl, hg1⟩
    go_wp2_with fail
    exact ⟨rfl, hg1, .inr ⟨he, rfl⟩⟩
theorem own_kept {w w' : World} {B b : Nat} {o : Obj} (hg : w.grownBy w' (some B)) (hB : B ≠ b) (h : w.heap[b]? = some o) : w'.heap[b]? = some o :=
  (hg.block b (Array.getElem?_eq_some_iff.1 h).1 (by intro e; injection e with e; exact hB e.symm)).trans h
theorem set_far {w : World} {B H i j : Nat} {u : Value} (h : ¬ B = H) : (w.setCell ⟨H, i, none⟩ u).cell? ⟨B, j, none⟩ = w.cell? ⟨B, j, none⟩ :=
  World.cell?_of_block (w := w) (Below.heap_setCell w ⟨H, i, none⟩ u B h)
/-- A car's line. -/
def loadE (p q : ByteArray) : Int := twoE (smallE p.data.toList 1000) (smallE q.data.toList 1000)
def wAt (L : List ByteArray) (n k : Nat) : ByteArray := (nextW L n).getD k ⟨#[]⟩
def carE (L : List ByteArray) (n : Nat) (sc : Int) : Int := twoE (nextE L n ⟨#[99, 97, 114]⟩ 3) (twoE (loadE (wAt L n 0) (wAt L n 1)) (readE (wAt L n 2).data.toList sc))
def carA (L : List ByteArray) (n : Nat) : Int := smallV (wAt L n 0).data.toList 1000
def carB (L : List ByteArray) (n : Nat) : Int := smallV (wAt L n 1).data.toList 1000
def carC (L : List ByteArray) (n : Nat) (sc : Int) : Int := readV (wAt L n 2).data.toList sc
set_option maxHeartbeats 1000000 in
theorem car_any (N B M : Nat) (Av : List Nat) (L : List ByteArray) (n : Nat) (sc : Int) (ps : List ByteArray) (w : World) (hn : n ≤ 1000000) (hl : ∀ s ∈ L, s.size ≤ 1000000) (hn2 : L.length ≤ 1000000) (h : St N B M Av L n ps sc w) :
    Calls Tryz.prog 51 #[.pointer (some ⟨B, 0, none⟩)] w (Res N B M Av L (n + 1) [] sc w (carE L n sc) (.agg #[.int .i64 (carA L n), .int .i64 (carB L n), .int .i64 (carC L n sc)])) := by
  have h0 : ∀ Av w, St N B M Av L n ps sc w → Calls _ _ _ w (Res _ _ _ _ _ _ _ _ w _ _) := fun Av w h => next_any N B M Av L n sc ps ⟨#[99, 97, 114]⟩ 3 w hn hl hn2 (by decide) h
  have HS0 := Lib.hid h; clear h
  have hB : B ≠ w.heap.size := Nat.ne_of_lt HS0.out.lt
  have HB := Lib.hid hB; clear hB
  have hw := nextW_size (n := n) hl
  unfold carE carA carB carC wAt
  by_cases he : nextE L n ⟨#[99, 97, 114]⟩ 3 = 0
  · obtain ⟨p, q, r, hp⟩ := len3 (next_words he)
    rw [he] at h0
    rw [he, twoE_ok]
    rw [hp] at h0 hw ⊢
    have hps : p.size ≤ 1000000 := hw p (by simp)
    have hqs : q.size ≤ 1000000 := hw q (by simp)
    have hrs : r.size ≤ 1000000 := hw r (by simp)
    have h1 : ∀ Av w1, St N B M Av L (n + 1) [p, q, r] sc w1 → _ := fun Av w1 h => load_any N B M Av L (n + 1) sc p q [r] w1 (by simp) (by omega) (by omega) h
    have h2 : ∀ Av w1, St N B M Av L (n + 1) [r] sc w1 → _ := fun Av w1 h => decimal_res (w := w1) sc (by simp) (by omega) h
    simp only [List.getD_cons_zero, List.getD_cons_succ] at *
    change ∀ Av w1, St N B M Av L (n + 1) [p, q, r] sc w1 → Calls _ _ _ _ (Res N B M Av L (n + 1) [r] sc w1 (loadE p q) _) at h1
    generalize loadE p q = e1 at *
    generalize smallV p.data.toList 1000 = v1 at *
    generalize smallV q.data.toList 1000 = v2 at *
    generalize readE r.data.toList sc = e2 at *
    generalize readV r.data.toList sc = v3 at *
    have H0 := Lib.hid fun Av w h => ((h0 Av w h).mono fun _ _ h => res_yes h); clear h0
    have H1 := Lib.hid h1; clear h1
    have H2 := Lib.hid h2; clear h2
    clear hw hl hp hps hqs hrs
    go_enter Tryz.func51, Tryz.ntmps51
    go_wp2_with fail
    have B0 : Below w.heap.size w (w.alloc (.cells #[.int .i64 0, .int .i64 0, .int .i64 0] 54)) := (Below.refl _ _).alloc (Nat.le_refl _) _
    have n0 : (w.alloc (.cells #[.int .i64 0, .int .i64 0, .int .i64 0] 54)).heap[w.heap.size]? = some (.cells #[.int .i64 0, .int .i64 0, .int .i64 0] 54) := World.alloc_heap_new w _
    have s0 := HS0.out.fresh (.cells #[.int .i64 0, .int .i64 0, .int .i64 0] 54)
    generalize w.alloc (.cells #[.int .i64 0, .int .i64 0, .int .i64 0] 54) = w0 at *
    refine (H0.out _ _ s0).mono ?_
    rintro e w1 ⟨rfl, hg1, hs1⟩
    have c3 := hs1.c3
    have N1 := Lib.hid (own_kept hg1 HB.out n0); clear n0
    have G1 := Lib.hid ((grown_of B0 _).trans hg1); clear hg1 B0 s0
    have S1 := Lib.hid hs1; clear hs1
    by_cases he1 : e1 = 0
    · subst he1
      rw [twoE_ok]
      have H1' := Lib.hid fun Av w h => ((H1.out Av w h).mono fun _ _ h => res_yes h); clear H1
      by_cases he2 : e2 = 0
      · subst he2
        have H2' := Lib.hid fun Av w h => ((H2.out Av w h).mono fun _ _ h => res_yes h); clear H2
        have hB' : ¬ B = w.heap.size := HB.out
        go_wp2_with fail
        go_region_held3 (fun w' => w'.cell? ⟨B, 3, none⟩ = some (.int .i64 sc)) (first | go_keep | (rw [set_far hB', set_far hB', set_far hB']; assumption)) (first
          | (go_at_call 84; refine (H1'.out _ _ (by first | exact S1.out | exact S1.out.below (Joins.below_draws _ _ _))).mono ?_; rintro e w2 ⟨rfl, hg2, hs2⟩; have k3 := hs2.c3; have S2 := Lib.hid hs2; clear hs2; have N2 := Lib.hid (own_kept hg2 HB.out N1.out); have G2 : Hid (w.grownBy w2 (some B)) := Lib.hid (by first | exact G1.out.trans hg2 | exact G1.out.trans ((grown_of (Joins.below_draws _ _ _) _).trans hg2)); clear hg2)
          | (go_at_call 85; refine (H2'.out _ _ (by first | exact S2.out | exact S2.out.below (Joins.below_draws _ _ _))).mono ?_; rintro e w3 ⟨rfl, hg3, hs3⟩; have k4 := hs3.c3; have S3 := Lib.hid hs3; clear hs3; have N3 := Lib.hid (own_kept hg3 HB.out N2.out); have G3 : Hid (w.grownBy w3 (some B)) := Lib.hid (by first | exact G2.out.trans hg3 | exact G2.out.trans ((grown_of (Joins.below_draws _ _ _) _).trans hg3)); clear hg3; have n3 := N3.out; have d0 : w3.cell? ⟨w.heap.size, 0, none⟩ = some (.int .i64 0) := by { simp [World.cell?, n3] }; have d1 : w3.cell? ⟨w.heap.size, 1, none⟩ = some (.int .i64 0) := by { simp [World.cell?, n3] }; have d2 : w3.cell? ⟨w.heap.size, 2, none⟩ = some (.int .i64 0) := by { simp [World.cell?, n3] }; have f0 : w3.frozen? ⟨w.heap.size, 0, none⟩ = false := by { simp [World.frozen?, n3] }; have f1 : w3.frozen? ⟨w.heap.size, 1, none⟩ = false := by { simp [World.frozen?, n3] }; have f2 : w3.frozen? ⟨w.heap.size, 2, none⟩ = false := by { simp [World.frozen?, n3] }; clear n3))
        go_wp2_with fail
        refine bodyPost_ret (v := .agg #[.int .i64 v1, .int .i64 v2, .int .i64 v3]) (by simp [results, Tryz.results51, go_sem, d0, d1, d2]) rfl ?_
        exact ⟨grown_own (grown_own (grown_own G3.out (Nat.le_refl _) _) (Nat.le_refl _) _) (Nat.le_refl _) _, .inl ⟨by decide, rfl, (((S3.out.set (List.mem_cons_self ..) _).set (List.mem_cons_self ..) _).set (List.mem_cons_self ..) _).drop⟩⟩
      · have H2' := Lib.hid fun Av w h => ((H2.out Av w h).mono fun _ _ h => res_no h he2); clear H2
        go_wp2_with fail
        go_region_dies
        · rename_i K1 a1 K2 hK2
          refine (H1'.out _ _ (by first | exact S1.out | exact S1.out.below (Joins.below_draws _ _ 1))).mono ?_
          rintro e w2 ⟨rfl, hg2, hs2⟩
          have k3 := hs2.c3
          refine hK2 _ _ ?_
          clear hK2 K2
          refine wpAny_ready (rs := [6]) (by kernel_rfl) (by simp) ?_
          refine AllReady.cons rfl (fun K hK => ?_) AllReady.nil
          go_simp
          refine hK _ _ ?_
          clear hK K
          refine wpAny_ready (rs := [7]) (by kernel_rfl) (by simp) ?_
          refine AllReady.cons rfl (fun K hK => ?_) AllReady.nil
          go_simp
          refine (H2'.out _ _ hs2).mono ?_
          rintro e w3 ⟨rfl, hg3⟩
          refine ⟨rfl, (by first | exact (G1.out.trans hg2).trans hg3 | exact G1.out.trans (((grown_of (Joins.below_draws _ _ 1) _).trans hg2).trans hg3)), .inr ?_⟩
          rw [twoE_ok]
          exact ⟨he2, rfl⟩
        · rename_i K1 a1 K2 hK2
          refine (H1'.out _ _ (by first | exact S1.out | exact S1.out.below (Joins.below_draws _ _ 1))).mono ?_
          rintro e w2 ⟨rfl, hg2, hs2⟩
          refine hK2 _ _ ?_
          clear hK2 K2
          refine wpAny_ready (rs := [7]) (by kernel_rfl) (by simp) ?_
          refine AllReady.cons rfl (fun K hK => ?_) AllReady.nil
          go_simp
          refine (H2'.out _ _ hs2).mono ?_
          rintro e w3 ⟨rfl, hg3⟩
          refine ⟨rfl, (by first | exact (G1.out.trans hg2).trans hg3 | exact G1.out.trans (((grown_of (Joins.below_draws _ _ 1) _).trans hg2).trans hg3)), .inr ?_⟩
          rw [twoE_ok]
          exact ⟨he2, rfl⟩
    · rw [twoE_no _ he1]
      have H1' := Lib.hid fun Av w h => ((H1.out Av w h).mono fun _ _ h => res_no h he1); clear H1
      go_wp2_with fail
      go_region_dies
      all_goals
        refine (H1'.out _ _ (by first | exact S1.out | exact S1.out.below (Joins.below_draws _ _ 1))).mono ?_
        rintro e w2 ⟨rfl, hg2⟩
        refine ⟨rfl, (by first | exact G1.out.trans hg2 | exact G1.out.trans ((grown_of (Joins.below_draws _ _ 1) _).trans hg2)), .inr ?_⟩
        rw [twoE_no _ he1]
        exact ⟨he1, rfl⟩
  · rw [twoE_no _ he]
    have H0 := Lib.hid fun Av w h => ((h0 Av w h).mono fun _ _ h => res_no h he); clear h0
    generalize nextE L n ⟨#[99, 97, 114]⟩ 3 = er at *
    generalize Value.agg _ = v
    clear hw hl
    go_enter Tryz.func51, Tryz.ntmps51
    go_wp2_with fail
    refine (H0.out _ _ (HS0.out.fresh _)).mono ?_
    rintro e w1 ⟨rfl, hg1⟩
    go_wp2_with fail
    exact ⟨rfl, (grown_of ((Below.refl _ _).alloc (Nat.le_refl _) _) _).trans hg1, .inr ⟨he, rfl⟩⟩
end Sheet
end Go.Proofs.YtjmhlabgoegeoaaGreatDoor
