/- TabuTurns: whatever the input, the law returns true, and each argument reads as it read before. No conditions but the row's own. -/
import Derived.Test.YtjfagekdeapiaaaRows
import Derived.WalkKit
import Derived.ProofKit
import Derived.ShutString
import Derived.ChangeOld
import Derived.Below
import Derived.OpenShut
import Derived.Lib.SmallJoins
import Derived.Test.YtjfagekdeapiaaaTabOpen
namespace Go.Proofs.Ytjfagekdeapiaaa.tabuTurns
open Go.ChangeShapes Go.WideShapes Go.ChangeAt Go.RowKit Go.Joins
open Go.ChangeMaps (open_string shut_string)
set_option linter.unusedVariables false

theorem own : ownKnob Try.prog.godebug = none := by kernel_rfl
theorem laidOut : laidOutB Try.prog = true := by kernel_rfl
open Tab Go.Lib
theorem turn_mono {x y : Int} (g : Bool) (h : x ≤ y) : turnV x g ≤ turnV y g := by
  unfold turnV
  cases g
  · simp only [Bool.false_eq_true, if_false]
    split
    · split <;> omega
    · split <;> omega
  · simp only [if_true]
    split
    · split <;> omega
    · split <;> omega
theorem turn_less {x : Int} (h : 1 ≤ x ∧ x ≤ 1000000) : turnV x true ≤ x := by
  unfold turnV
  simp only [if_true]
  split <;> omega
theorem turn_more {x : Int} (h : 1 ≤ x ∧ x ≤ 1000000) : x ≤ turnV x false := by
  unfold turnV
  simp only [Bool.false_eq_true, if_false]
  split <;> omega
/-- so many turns -/
def turns (g : Bool) (x : Int) : Nat → Int
  | 0 => x
  | n + 1 => turnV (turns g x n) g
theorem turns_mono {x y : Int} (g : Bool) (h : x ≤ y) (n : Nat) : turns g x n ≤ turns g y n := by
  induction n with
  | zero => exact h
  | succ n ih => exact turn_mono g ih
theorem turns_in {x : Int} (h : 1 ≤ x ∧ x ≤ 1000000) (g : Bool) (n : Nat) : 1 ≤ turns g x n ∧ turns g x n ≤ 1000000 := by
  induction n with
  | zero => exact h
  | succ n ih => exact turnV_in ih g
theorem turns_end {x : Int} (h : 1 ≤ x ∧ x ≤ 1000000) (g : Bool) : turns g x 60 = if g = true then 1 else 1000000 := by
  have h1 := turns_in h g 60
  cases g
  · have h2 := turns_mono false h.1 60
    have h3 : turns false 1 60 = 1000000 := by decide +kernel
    simp only [Bool.false_eq_true, if_false]
    omega
  · have h2 := turns_mono true h.2 60
    have h3 : turns true 1000000 60 = 1 := by decide +kernel
    simp only [if_true]
    omega
/-- a weight that the call has made -/
structure Ws (w : World) (V : Nat) (x : Int) (wr : World) : Prop where
  wt : Wt wr V x
  below : Below w.heap.size w wr
  hV : w.heap.size ≤ V
theorem Ws.set {w wr w' : World} {V : Nat} {x y : Int} (h : Ws w V x wr) (hw : w' = wr.setCell ⟨V, 0, none⟩ (.int .i64 (y - 1000))) (hy : 1 ≤ y ∧ y ≤ 1000000) : Ws w V y w' := by
  subst hw
  exact ⟨h.wt.set hy, h.below.setCell (p := ⟨V, 0, none⟩) h.hV _, h.hV⟩
set_option maxHeartbeats 4000000 in
set_option maxRecDepth 100000 in
theorem walk (w : World) (b0 : Option Addr) (len0 cap0 : Nat) (g0 : Nat → Bool) (w0 : IsBs w b0 len0 g0) (x0 : len0 ≤ maxLen) (a1 : Bool) :
    Calls Try.prog 7 #[.slice b0 len0 cap0, .bool a1] w fun e w' => e = .returned (.bool true) ∧ Below w.heap.size w w' := by
  by_cases hl : 200 < len0
  · go_enter Try.func7, Try.ntmps7
    go_wp2_with fail
    refine (alive_any _).mono ?_
    rintro e w1 ⟨rfl, hb⟩
    have HB := Lib.hid hb; clear hb
    go_wp2_with fail
    go_ret
    exact ⟨rfl, HB.out⟩
  · have HG := Lib.hid w0; clear w0
    go_enter Try.func7, Try.ntmps7
    go_wp2_with fail
    refine (alive_any _).mono ?_
    rintro e w1 ⟨rfl, hb⟩
    have HS0 := Lib.hid (show Ws w w1.heap.size 1000 (w1.alloc (.cells #[.int .i64 0] 39)) from ⟨Wt.made w1, hb.alloc hb.size _, hb.size⟩)
    clear hb
    go_wp2_with fail
    obtain ⟨V, hV⟩ : ∃ V, V = w1.heap.size := ⟨_, rfl⟩
    rw [← hV] at HS0 ⊢
    clear hV
    go_loopg [7, 8, 9, 17] len0 (fun gg _ _ _ s17 wr => ∃ (k : Nat) (x : Int), k ≤ len0 ∧ len0 - k ≤ gg ∧ s17 = .int .i64 k ∧ Hid (Ws w V x wr))
    case atStart => exact ⟨0, 1000, Nat.zero_le _, by omega, rfl, HS0⟩
    case round =>
      obtain ⟨k, x, hk, hg, rfl, HS⟩ := hrel
      by_cases hlt : k < len0
      · rcases HG.out with h0 | ⟨b, off, rfl, hb, hmx, hc⟩
        · omega
        have d0 := (HS.out.below.cell hb).trans (hc k hlt)
        have hx := HS.out.wt.ok
        clear hc hmx
        obtain ⟨good, hgd⟩ : ∃ good, good = g0 k := ⟨_, rfl⟩
        rw [← hgd] at d0
        clear hgd
        cases good with
        | true =>
          have hle := turn_less hx
          obtain ⟨y, hy⟩ : ∃ y, y = turnV x true := ⟨_, rfl⟩
          have hyi := turnV_in hx true
          rw [← hy] at hle hyi
          have HY := Lib.hid hy
          clear hy
          go_wp2_with fail
          refine (value_any _ _ _ HS.out.wt).mono ?_
          rintro e w2 ⟨rfl, rfl⟩
          clear d0
          go_wp2_with fail
          refine (turn_any _ _ _ _ HS.out.wt).mono ?_
          rintro e w2 ⟨rfl, hw⟩
          rw [← HY.out] at hw ⊢
          have HS2 := Lib.hid (HS.out.set hw hyi)
          clear hw
          go_wp2_with fail
          go_roundg (len0 - (k + 1))
          case measure => omega
          case rel => exact ⟨k + 1, y, by omega, by omega, by go_num, HS2⟩
        | false =>
          have hle := turn_more hx
          obtain ⟨y, hy⟩ : ∃ y, y = turnV x false := ⟨_, rfl⟩
          have hyi := turnV_in hx false
          rw [← hy] at hle hyi
          have HY := Lib.hid hy
          clear hy
          go_wp2_with fail
          refine (value_any _ _ _ HS.out.wt).mono ?_
          rintro e w2 ⟨rfl, rfl⟩
          clear d0
          go_wp2_with fail
          refine (turn_any _ _ _ _ HS.out.wt).mono ?_
          rintro e w2 ⟨rfl, hw⟩
          rw [← HY.out] at hw ⊢
          have HS2 := Lib.hid (HS.out.set hw hyi)
          clear hw
          go_wp2_with fail
          go_roundg (len0 - (k + 1))
          case measure => omega
          case rel => exact ⟨k + 1, y, by omega, by omega, by go_num, HS2⟩
      · have hx := HS.out.wt.ok
        have hkm : k = len0 := by omega
        rw [hkm] at hk ⊢
        clear hlt hkm
        go_wp2_with fail
        go_loopg [40] 60 (fun gg s40 wz => ∃ k : Nat, k ≤ 60 ∧ 60 - k ≤ gg ∧ s40 = .int .i64 k ∧ Hid (Ws w V (turns a1 x k) wz))
        case atStart => exact ⟨0, by omega, by omega, rfl, HS⟩
        case round =>
          obtain ⟨j, hj, hgj, rfl, HT⟩ := hrel
          by_cases hjl : j < 60
          · have hti := turns_in hx a1 j
            go_wp2_with fail
            refine (turn_any _ _ _ _ HT.out.wt).mono ?_
            rintro e w2 ⟨rfl, hw⟩
            have HS2 := Lib.hid (show Ws w V (turns a1 x (j + 1)) w2 from HT.out.set hw (turnV_in hti a1))
            clear hw
            go_wp2_with fail
            go_roundg (60 - (j + 1))
            case measure => omega
            case rel => exact ⟨j + 1, by omega, by omega, by go_num, HS2⟩
          · have hj6 : j = 60 := by omega
            rw [hj6] at HT ⊢
            have he := turns_end hx a1
            rw [he] at HT
            clear he hjl hj6 hx
            cases a1 with
            | true =>
              rw [if_pos rfl] at HT
              go_wp2_with fail
              refine (value_any _ _ _ HT.out.wt).mono ?_
              rintro e w2 ⟨rfl, rfl⟩
              go_wp2_with fail
              refine (of_any _ _ 3 4 _ HT.out.wt).mono ?_
              rintro e w2 ⟨rfl, rfl⟩
              rw [show (1 : Int) * (heldV 3 0 1048576 + heldV 4 0 1048576) = 7 from rfl]
              go_wp2_with fail
              go_ret
              exact ⟨rfl, HT.out.below⟩
            | false =>
              rw [if_neg (by decide)] at HT
              go_wp2_with fail
              refine (value_any _ _ _ HT.out.wt).mono ?_
              rintro e w2 ⟨rfl, rfl⟩
              go_wp2_with fail
              refine (of_any _ _ 1 0 _ HT.out.wt).mono ?_
              rintro e w2 ⟨rfl, rfl⟩
              rw [show (1000000 : Int) * (heldV 1 0 1048576 + heldV 0 0 1048576) = 1000000 from rfl]
              go_wp2_with fail
              go_ret
              exact ⟨rfl, HT.out.below⟩

set_option maxRecDepth 100000 in
theorem lifted (os : Os) (started : os.Started) (H : Type) (enc : TypeId × Value → H) :
    ReturnsInHanded {} Try.checked os 7 .any (Rows.tabuTurnsSpec.pre6 enc Try.prog Try.f7 Rows.tabuTurnsRow.domain false) (Rows.tabuTurnsSpec.post enc Try.prog Try.f7 false true false false) := by
  refine returnsInHanded_of_change (C := Try.checked) own started (by kernel_rfl) Try.func7
    (ChangeSpec.witness6 (enc := enc) (C := Try.checked) false ⟨#[], #[.slice none 0 0, .bool false], []⟩ 8 (by kernel_rfl) (by kernel_rfl) (by kernel_rfl) (by kernel_rfl)) ?_
  intro W base args ds gs before hval0 hW hcnd _
  have hval : ∀ (j : Nat) t v, Try.f7.params[j]? = some t → args[j]? = some v → Value.okWide Try.prog W .any base t v := hval0
  have hW' := hW
  obtain ⟨p, q, hA0, hV, rfl, hfz, hnd⟩ := hW
  have hA : DataW.TrodAll enc Try.prog W 0 (fun _ => true) true Try.f7.params.toList args.toList ds p := hA0
  rw [Try.params7] at hA hval
  obtain ⟨v0, vs0, d0, ds0, p0, q0, hargs, rfl, rfl, h0, r0⟩ := trodAll_cons hA
  obtain ⟨v1, vs1, d1, ds1, p1, q1, rfl, rfl, rfl, h1, r1⟩ := trodAll_cons r0
  obtain ⟨rfl, rfl, rfl⟩ := trodAll_nil r1
  obtain rfl : args = #[v0, v1] := by cases args; simp_all
  obtain ⟨rfl, rfl⟩ := trodVars_none hV
  have k0 := h0
  have lt0 : ∀ x ∈ p0, x.block < W.heap.size := by obtain ⟨m, hm⟩ := k0; exact DataW.trod_lt m _ _ _ hm
  obtain ⟨b0, len0, cap0, rfl⟩ := okWide_slice Try.underlying37 (hval 0 37 v0 rfl rfl)
  obtain ⟨g0, w0⟩ := isBs_of Try.underlying37 Try.underlying4 cellsBool h0
  have x0 : len0 ≤ maxLen := by
    rcases w0 with h | ⟨_, _, _, _, h, _⟩
    · rw [h]; exact Nat.zero_le _
    · exact h
  obtain ⟨a1, rfl, rfl, rfl⟩ := open_bool Try.underlying4 (hval 1 4 v1 rfl rfl) h1
  clear hA0 hval0
  refine (walk W b0 len0 cap0 g0 w0 x0 a1).mono fun e W' ⟨he, bel⟩ => ?_
  subst he
  exact ⟨_, rfl, _, _, _, [], _, [], hW', trodAll_mk1 (shut_bool Try.underlying4 _), (trodAll_cons_mk (Below.trod laidOut (by kernel_rfl) (of_decide_eq_true (by kernel_rfl)) k0 bel lt0) (trodAll_cons_mk (shut_bool Try.underlying4 a1) trodAll_mk0)), rfl, bel.frame _, fun h => by cases h⟩

theorem over : Rows.tabuTurnsRow.holds Try.pinned (OpenSpec.ofChange Rows.tabuTurnsSpec) :=
  OpenClaim.holds_of_wide 7 Try.f7 rfl rfl rfl rfl rfl rfl rfl ⟨rfl, rfl, rfl, rfl, rfl⟩ rfl rfl rfl rfl rfl (by kernel_rfl) Try.func7 (by kernel_rfl)
    (of_decide_eq_true (by kernel_rfl)) (by unfold Func.isWrapper; first | (rw [if_pos (by decide +kernel)]; kernel_rfl) | (rw [if_neg (by decide +kernel)]; exact ⟨rfl, rfl⟩))
    (fun os started H enc _ => lifted os started H enc)

/-- THE STATEMENT -/
theorem proved : Rows.TabuTurnsSaid := over
#print axioms proved
end Go.Proofs.Ytjfagekdeapiaaa.tabuTurns
