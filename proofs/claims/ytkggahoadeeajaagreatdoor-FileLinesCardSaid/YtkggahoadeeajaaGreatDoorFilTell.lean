/- What Parse of a text leaves, told plainly; where the last line of a plan's text begins. -/
import Derived.Test.YtkggahoadeeajaaGreatDoorFilBack
import Derived.Test.YtkggahoadeeajaaGreatDoorFilOpen
import Derived.Test.YtkggahoadeeajaaGreatDoorFilEqual
namespace Go.Proofs.YtkggahoadeeajaaGreatDoor
namespace Fil
open Go Go.RowKit Deci
set_option linter.unusedVariables false
/-- What Parse of a text leaves, told plainly. -/
def Tells (w : World) (p : PL) (ln er : Int) (e : Ending) (w' : World) : Prop :=
  Below w.heap.size w w' ∧ ∃ a1 c1 a2 c2 a3 c3, e = .returned (.tuple #[.agg #[.slice a1 p.routes.length c1, .slice a2 p.times.length c2, .slice a3 p.left.length c3, .int .i64 p.cost], .int .i64 ln, .int .i64 er]) ∧ IsPlan w' (.agg #[.slice a1 p.routes.length c1, .slice a2 p.times.length c2, .slice a3 p.left.length c3, .int .i64 p.cost]) p
theorem tells_any (s : ByteArray) (w : World) (hs : s.size ≤ 1000000) (hE : Env w) :
    Calls Tryz.prog 9 #[.string s] w (Tells w (parseP s.data.toList) (readF s.data.toList).1 (readF s.data.toList).2) := by
  refine (parse_any s w hs (env_at hE)).mono ?_
  rintro e w' ⟨hb, v, he, hp⟩
  have hi := hp.isPlan
  obtain ⟨v1, v2, v3, rfl, i1, i2, i3⟩ := hi
  obtain ⟨a1, c1, rfl⟩ := i1.form
  obtain ⟨a2, c2, rfl⟩ := i2.form
  obtain ⟨a3, c3, rfl⟩ := i3.form
  exact ⟨hb, a1, c1, a2, c2, a3, c3, he, ⟨_, _, _, rfl, i1, i2, i3⟩⟩
/-- What Parse of a text that is no plan's leaves. -/
def Fails (w : World) (ln er : Int) (e : Ending) (w' : World) : Prop :=
  Below w.heap.size w w' ∧ ∃ a1 c1 a2 c2 a3 c3, e = .returned (.tuple #[.agg #[.slice a1 0 c1, .slice a2 0 c2, .slice a3 0 c3, .int .i64 0], .int .i64 ln, .int .i64 er])
theorem fails_any (s : ByteArray) (w : World) (hs : s.size ≤ 1000000) (hE : Env w) {ln : Nat} {er : Int} (h : readF s.data.toList = (ln, er)) (h0 : er ≠ 0) :
    Calls Tryz.prog 9 #[.string s] w (Fails w ln er) := by
  have hc := tells_any s w hs hE
  rw [parse_none (by rw [h]; exact h0), h] at hc
  exact hc.mono fun e w' ⟨hb, a1, c1, a2, c2, a3, c3, he, _⟩ => ⟨hb, a1, c1, a2, c2, a3, c3, he⟩
theorem str_at {l : List UInt8} {j : Nat} (h : j < (strOf l).size) (h' : j < l.length) : (strOf l)[j] = l[j] := by
  show (strOf l).data[j] = l[j]
  unfold strOf; simp
/-- Where the last line of a plan's text begins. -/
structure Cuts (S : ByteArray) (I : Nat) : Prop where
  pos : 0 < I
  lt : I + 1 ≤ S.size
  inn : ∀ j (hj : j < S.size), I ≤ j → j + 1 < S.size → ¬ (S[j].toNat : Int) = 10
  nl : ∀ (hj : I - 1 < S.size), (S[I - 1].toNat : Int) = 10
theorem cuts_of {p : PL} (h : p.Ok) : Cuts (strOf (planT p)) (cutT p).length := by
  obtain ⟨h1, h2, h3, h4, h5⟩ := cut_last h
  refine ⟨h1, h4, fun j hj hi hl e => ?_, fun hj => ?_⟩
  · obtain ⟨b, hb, hn⟩ := h3 j hi hl
    have hj' : j < (planT p).length := hj
    rw [List.getElem?_eq_getElem hj'] at hb
    injection hb with hb
    have e1 := (str_at hj hj').trans hb
    erw [e1] at e
    exact hn (UInt8.toNat_inj.1 (by have : (10 : UInt8).toNat = 10 := rfl; omega))
  · have hj' : (cutT p).length - 1 < (planT p).length := hj
    rw [List.getElem?_eq_getElem hj'] at h2
    injection h2 with h2
    have e1 := (str_at hj hj').trans h2
    erw [e1]; rfl
end Fil
end Go.Proofs.YtkggahoadeeajaaGreatDoor
