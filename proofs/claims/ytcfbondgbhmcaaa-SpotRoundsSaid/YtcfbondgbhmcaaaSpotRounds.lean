/- SpotRounds: whatever the input, the law returns true, and each argument reads as it read before. No conditions but the row's own. -/
import Derived.Test.YtcfbondgbhmcaaaRows
import Derived.WalkKit
import Derived.ProofKit
import Derived.ShutString
import Derived.ChangeOld
import Derived.Below
import Derived.OpenShut
import Derived.Carry
import Derived.Test.YtcfbondgbhmcaaaRounds
namespace Go.Proofs.Ytcfbondgbhmcaaa.spotRounds
open Go.ChangeShapes Go.WideShapes Go.ChangeAt Go.RowKit
open Go.ChangeMaps (open_string shut_string)
set_option linter.unusedVariables false

theorem own : ownKnob Try.prog.godebug = none := by kernel_rfl
theorem laidOut : laidOutB Try.prog = true := by kernel_rfl

/-- WHAT THE WALK IS TOLD OF A SLICE OF INTEGERS THAT CAME IN: it is nil; or it leads to a row of 'cap' cells, the numbers 'zs' (the first 'len' are its elements, the rest its spare room), each fitting its kind. -/
def IsRow (k : IntKind) (w : World) (a : Option Addr) (len cap : Nat) (zs : List Int) : Prop :=
  (a = none ∧ len = 0 ∧ cap = 0 ∧ zs = []) ∨
  ∃ x, a = some x ∧ len ≤ cap ∧ cap ≤ maxLen ∧ zs.length = cap ∧ (∀ i, i < zs.length → w.cell? (x.add i) = some (.int k (zs.getD i 0))) ∧ ∀ n ∈ zs, (Lit.int k n).wf = true

/-! ### STEP 1: THE WALK: the Go text returns true, AND WRITES NOTHING THAT WAS THERE: 'Below w.heap.size w w'' (Derived/Below.lean: '.refl', '.alloc', '.drew', '.setCell' at a new block, '.trans'). Open each 'IsRow' by 'rcases' AHEAD of 'go_enter'; part every test ahead of the walk. -/
/-- A row that came in, read as a function. -/
theorem row_fn {w : World} {a : Option Addr} {len cap n : Nat} {zs : List Int} (h : IsRow .i64 w a len cap zs) (h0 : 0 < n) (hn : n ≤ len) :
    ∃ b off, ∃ z : Nat → Int, a = some ⟨b, off, none⟩ ∧ len ≤ 9223372036854775807 ∧ b < w.heap.size ∧ (∀ j, j < n → w.cell? ⟨b, off + j, none⟩ = some (.int .i64 (z j))) ∧ ∀ j, j < n → -9223372036854775808 ≤ z j ∧ z j ≤ 9223372036854775807 := by
  rcases h with ⟨_, h1, _⟩ | ⟨x, rfl, hl, hm, hz, hcell, hwf⟩
  · omega
  · obtain ⟨b, off, rfl, hc⟩ := ints_at hcell (by omega)
    refine ⟨b, off, fun j => zs.getD j 0, rfl, by unfold maxLen at hm; omega, ?_, fun j hj => hc j (by omega), fun j hj => ?_⟩
    · have := hc 0 (by omega)
      rcases Nat.lt_or_ge b w.heap.size with h' | h'
      · exact h'
      · exfalso
        unfold World.cell? at this
        simp [Array.getElem?_eq_none h'] at this
    · refine Num.wf64 (hwf _ ?_)
      simp only [List.getD]
      rw [List.getElem?_eq_getElem (by omega)]
      simp
set_option maxHeartbeats 2000000 in
set_option maxRecDepth 100000 in
theorem walk_nil (a0 : Option Addr) (cap0 : Nat) (a1 : Option Addr) (len1 cap1 : Nat) (a2 : Int) (a3 : Int) (w : World) (g1 : -9223372036854775808 ≤ a2) (g2 : a2 ≤ 9223372036854775807) (g3 : -9223372036854775808 ≤ a3) (g4 : a3 ≤ 9223372036854775807) :
    Calls Try.prog 10 #[.slice a0 0 cap0, .slice a1 len1 cap1, .int .i64 a2, .int .i64 a3] w fun e w' => e = .returned (.bool true) ∧ Below w.heap.size w w' := by
  have n1 := Spot.tmod_near a2 1000 (by omega) (by omega)
  have n2 := Spot.tmod_near a3 1000 (by omega) (by omega)
  have k0 := fun w => Spot.at_yes _ _ w n1 n2
  generalize hm0 : a2.tmod 1000 = ox at *
  generalize hm1 : a3.tmod 1000 = oy at *
  generalize Spot.wd ox = o1 at *
  generalize Spot.wd oy = o2 at *
  have K0 := Lib.hid k0; clear k0
  have hmm := @run_makeMap Try.prog
  have hl : ¬ len1 < 0 := by omega
  go_enter Try.func10, Try.ntmps10
  go_wp2_with fail
  refine (Spot.alive_any Spot.sortSaid _).mono ?_
  rintro e W1 ⟨rfl, hb⟩
  go_wp2_with fail
  refine (K0.out _).mono ?_
  rintro e w' ⟨rfl, rfl⟩
  go_wp2_with fail
  go_loop [11, 12, 44] (fun v u i => i = .int .i64 0 ∧ v = .slice (some ⟨W1.heap.size, 0, none⟩) 0 0 ∧ u = .slice (some ⟨W1.heap.size + 1, 0, none⟩) 0 0) (fun _ _ _ => 0)
  case atStart => exact ⟨rfl, rfl, rfl⟩
  case round =>
    obtain ⟨rfl, rfl, rfl⟩ := hrel
    have hb1 : Below w.heap.size w ((W1.alloc (.cells #[] 36)).alloc (.cells #[] 36)) := (hb.alloc hb.size _).alloc (by have := hb.size; simp; omega) _
    have HB1 := Lib.hid hb1; clear hb1
    have HB := Lib.hid hb; clear hb
    go_wp2_with fail
    refine (Spot.sweep_nil _ _ _ _ _).mono ?_
    rintro e W2 ⟨rfl, hb2⟩
    have hb3 := HB1.out.trans (hb2.mono HB1.out.size)
    clear hb2
    have HB3 := Lib.hid hb3; clear hb3
    go_wp2_with fail
    have hb4 := HB3.out.alloc HB3.out.size (.map #[] 0)
    have HB4 := Lib.hid hb4; clear hb4
    go_loop [77] (fun i => i = .int .i64 0) (fun _ => 0)
    case atStart => rfl
    case round =>
      subst hrel
      go_wp2_with fail
      refine (Spot.sweep_nil _ _ _ _ _).mono ?_
      rintro e W3 ⟨rfl, hb5⟩
      have hb6 := HB4.out.trans (hb5.mono HB4.out.size)
      clear hb5
      have HB6 := Lib.hid hb6; clear hb6
      go_wp2_with fail
      refine (Spot.same_nil _ _ _ _ _).mono ?_
      rintro e W4 ⟨rfl, hd⟩
      go_wp2_with fail
      go_ret
      exact ⟨rfl, HB6.out.trans (hd.below _)⟩
set_option maxHeartbeats 1000000 in
set_option maxRecDepth 100000 in
theorem walk (a0 : Option Addr) (len0 cap0 : Nat) (z0 : List Int) (a1 : Option Addr) (len1 cap1 : Nat) (z1 : List Int) (a2 : Int) (a3 : Int) (w : World) (w0 : IsRow .i64 w a0 len0 cap0 z0) (w1 : IsRow .i64 w a1 len1 cap1 z1) (w2 : (Lit.int .i64 a2).wf = true) (w3 : (Lit.int .i64 a3).wf = true) :
    Calls Try.prog 10 #[.slice a0 len0 cap0, .slice a1 len1 cap1, .int .i64 a2, .int .i64 a3] w fun e w' => e = .returned (.bool true) ∧ Below w.heap.size w w' := by
  obtain ⟨g1, g2⟩ := Num.wf64 w2
  obtain ⟨g3, g4⟩ := Num.wf64 w3
  by_cases hbig : 60 < len0
  · clear w0 w1
    go_enter Try.func10, Try.ntmps10
    go_wp2_with fail
    refine (Spot.alive_any Spot.sortSaid _).mono ?_
    rintro e W1 ⟨rfl, hb⟩
    go_wp2_with fail
    go_ret
    exact ⟨rfl, hb⟩
  · by_cases hshort : len1 < len0
    · clear w0 w1
      go_enter Try.func10, Try.ntmps10
      go_wp2_with fail
      refine (Spot.alive_any Spot.sortSaid _).mono ?_
      rintro e W1 ⟨rfl, hb⟩
      go_wp2_with fail
      go_ret
      exact ⟨rfl, hb⟩
    · by_cases h0 : len0 = 0
      · subst h0
        exact walk_nil a0 cap0 a1 len1 cap1 a2 a3 w g1 g2 g3 g4
      · obtain ⟨b0, off0, x, rfl, hl0, hb0, hcx, hx⟩ := row_fn w0 (n := len0) (by omega) (Nat.le_refl _)
        obtain ⟨b1, off1, y, rfl, hl1, hb1, hcy, hy⟩ := row_fn w1 (n := len0) (by omega) (by omega)
        obtain ⟨m, rfl⟩ : ∃ m, len0 = m + 1 := ⟨len0 - 1, by omega⟩
        exact Spot.rounds_full m b0 off0 cap0 b1 off1 len1 cap1 x y a2 a3 w (by omega) (by omega) hl1 hb0 hb1 hcx hcy hx hy g1 g2 g3 g4

/-! ### THE ROW's STEP: WRITTEN OUT: LEAVE IT -/
set_option maxRecDepth 100000 in
theorem lifted (os : Os) (started : os.Started) (H : Type) (enc : TypeId × Value → H) :
    ReturnsInHanded {} Try.checked os 10 .any (Rows.spotRoundsSpec.pre6 enc Try.prog Try.f10 Rows.spotRoundsRow.domain false) (Rows.spotRoundsSpec.post enc Try.prog Try.f10 false true false false) := by
  refine returnsInHanded_of_change (C := Try.checked) own started (by kernel_rfl) Try.func10
    (ChangeSpec.witness6 (enc := enc) (C := Try.checked) false ⟨#[], #[.slice none 0 0, .slice none 0 0, .int .i64 0, .int .i64 0], []⟩ 8 (by kernel_rfl) (by kernel_rfl) (by kernel_rfl) (by kernel_rfl)) ?_
  intro W base args ds gs before hval0 hW hcnd _
  have hval : ∀ (j : Nat) t v, Try.f10.params[j]? = some t → args[j]? = some v → Value.okWide Try.prog W .any base t v := hval0
  have hW' := hW
  obtain ⟨p, q, hA0, hV, rfl, hfz, hnd⟩ := hW
  have hA : DataW.TrodAll enc Try.prog W 0 (fun _ => true) true Try.f10.params.toList args.toList ds p := hA0
  rw [Try.params10] at hA hval
  obtain ⟨v0, vs0, d0, ds0, p0, q0, hargs, rfl, rfl, h0, r0⟩ := trodAll_cons hA
  obtain ⟨v1, vs1, d1, ds1, p1, q1, rfl, rfl, rfl, h1, r1⟩ := trodAll_cons r0
  obtain ⟨v2, vs2, d2, ds2, p2, q2, rfl, rfl, rfl, h2, r2⟩ := trodAll_cons r1
  obtain ⟨v3, vs3, d3, ds3, p3, q3, rfl, rfl, rfl, h3, r3⟩ := trodAll_cons r2
  obtain ⟨rfl, rfl, rfl⟩ := trodAll_nil r3
  obtain rfl : args = #[v0, v1, v2, v3] := by cases args; simp_all
  obtain ⟨rfl, rfl⟩ := trodVars_none hV
  obtain ⟨a0, len0, cap0, rfl⟩ := okWide_slice Try.underlying42 (hval 0 42 v0 rfl rfl)
  have k0 := h0
  have lt0 : ∀ x ∈ p0, x.block < W.heap.size := by obtain ⟨m, hm⟩ := k0; exact DataW.trod_lt m _ _ _ hm
  obtain ⟨z0, w0⟩ : ∃ zs, IsRow .i64 W a0 len0 cap0 zs := by
    obtain ⟨fuel, hf⟩ := h0
    rcases open_ints Try.underlying42 Try.underlying3 (by kernel_rfl) hf with ⟨hcs, _⟩ | ⟨x, l, c, zs, hcs, _, hl, hm, hz, _, hcell, hwz⟩
    · simp [Value.cells] at hcs
      obtain ⟨rfl, rfl, rfl⟩ := hcs
      exact ⟨[], .inl ⟨rfl, rfl, rfl, rfl⟩⟩
    · simp [Value.cells] at hcs
      obtain ⟨rfl, rfl, rfl⟩ := hcs
      exact ⟨zs, .inr ⟨_, rfl, hl, hm, by simpa using hz, hcell, hwz⟩⟩
  obtain ⟨a1, len1, cap1, rfl⟩ := okWide_slice Try.underlying42 (hval 1 42 v1 rfl rfl)
  have k1 := h1
  have lt1 : ∀ x ∈ p1, x.block < W.heap.size := by obtain ⟨m, hm⟩ := k1; exact DataW.trod_lt m _ _ _ hm
  obtain ⟨z1, w1⟩ : ∃ zs, IsRow .i64 W a1 len1 cap1 zs := by
    obtain ⟨fuel, hf⟩ := h1
    rcases open_ints Try.underlying42 Try.underlying3 (by kernel_rfl) hf with ⟨hcs, _⟩ | ⟨x, l, c, zs, hcs, _, hl, hm, hz, _, hcell, hwz⟩
    · simp [Value.cells] at hcs
      obtain ⟨rfl, rfl, rfl⟩ := hcs
      exact ⟨[], .inl ⟨rfl, rfl, rfl, rfl⟩⟩
    · simp [Value.cells] at hcs
      obtain ⟨rfl, rfl, rfl⟩ := hcs
      exact ⟨zs, .inr ⟨_, rfl, hl, hm, by simpa using hz, hcell, hwz⟩⟩
  obtain ⟨a2, rfl, rfl, rfl, w2⟩ := open_int Try.underlying3 (hval 2 3 v2 rfl rfl) h2
  obtain ⟨a3, rfl, rfl, rfl, w3⟩ := open_int Try.underlying3 (hval 3 3 v3 rfl rfl) h3
  clear hA0 hval0
  refine (walk a0 len0 cap0 z0 a1 len1 cap1 z1 a2 a3 W w0 w1 w2 w3).mono fun e W' ⟨he, bel⟩ => ?_
  subst he
  exact ⟨_, rfl, _, _, _, [], _, [], hW', trodAll_mk1 (shut_bool Try.underlying4 _), (trodAll_cons_mk (Below.trod laidOut (by kernel_rfl) (of_decide_eq_true (by kernel_rfl)) k0 bel lt0) (trodAll_cons_mk (Below.trod laidOut (by kernel_rfl) (of_decide_eq_true (by kernel_rfl)) k1 bel lt1) (trodAll_cons_mk (shut_int Try.underlying3 w2) (trodAll_cons_mk (shut_int Try.underlying3 w3) trodAll_mk0)))), rfl, bel.frame _, fun h => by cases h⟩

theorem over : Rows.spotRoundsRow.holds Try.pinned (OpenSpec.ofChange Rows.spotRoundsSpec) :=
  OpenClaim.holds_of_wide 10 Try.f10 rfl rfl rfl rfl rfl rfl rfl ⟨rfl, rfl, rfl, rfl, rfl⟩ rfl rfl rfl rfl rfl (by kernel_rfl) Try.func10 (by kernel_rfl)
    (of_decide_eq_true (by kernel_rfl)) (by unfold Func.isWrapper; first | (rw [if_pos (by decide +kernel)]; kernel_rfl) | (rw [if_neg (by decide +kernel)]; exact ⟨rfl, rfl⟩))
    (fun os started H enc _ => lifted os started H enc)

/-- ████ THE STATEMENT ████ -/
theorem proved : Rows.SpotRoundsSaid := over
#print axioms proved
end Go.Proofs.Ytcfbondgbhmcaaa.spotRounds
