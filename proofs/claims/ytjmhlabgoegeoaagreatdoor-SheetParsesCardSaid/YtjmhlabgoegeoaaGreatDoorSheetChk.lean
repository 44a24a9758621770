/- What a check of an instance that has been read says (plain), how its rows are read; inst.Count, Pick, Drop, idle; over the translated program. -/
import Derived.Test.YtjmhlabgoegeoaaGreatDoorSheetFind
import Derived.Test.YtjmhlabgoegeoaaGreatDoorSheetIs
namespace Go.Proofs.YtjmhlabgoegeoaaGreatDoor
namespace Sheet
open Go Go.RowKit Deci
attribute [local go_sem] store_cx
/-- A car's numbers, a ride's. -/
def IP.ca (p : IP) (j : Nat) : Int := carA p.L (1 + j)
def IP.cb (p : IP) (j : Nat) : Int := carB p.L (1 + j)
def IP.cm (p : IP) (j : Nat) : Int := carC p.L (1 + j) p.sc
def IP.rd (p : IP) (j : Nat) : Int := rideV p.L (1 + p.C + p.P + j) p.sc
theorem car_eq (p : IP) (j : Nat) : p.car j = [.int .i64 (p.ca j), .int .i64 (p.cb j), .int .i64 (p.cm j)] := rfl
theorem car_len (p : IP) (j : Nat) : (p.car j).length = 3 := by rw [car_eq]; rfl
theorem ride_eq (p : IP) (j : Nat) : p.ride j = [.int .i64 (p.rd j)] := rfl
/-- A stop's numbers. -/
def IP.sa (p : IP) (j : Nat) : Int := if p.T then stopS p.L (1 + p.C + j) 0 1000 else stopS p.L (1 + p.C + j) 2 1000
def IP.sb (p : IP) (j : Nat) : Int := if p.T then stopS p.L (1 + p.C + j) 1 1000 else stopS p.L (1 + p.C + j) 3 1000
def IP.sv (p : IP) (j : Nat) : Int := if p.T then stopC p.L (1 + p.C + j) 2 p.sc else stopC p.L (1 + p.C + j) 4 p.sc
def IP.se (p : IP) (j : Nat) : Int := if p.T then stopC p.L (1 + p.C + j) 3 p.sc else stopC p.L (1 + p.C + j) 5 p.sc
def IP.sl (p : IP) (j : Nat) : Int := if p.T then stopC p.L (1 + p.C + j) 4 p.sc else stopC p.L (1 + p.C + j) 6 p.sc
def IP.px (p : IP) (j : Nat) : Nat := if p.T then 0 else Spot.wd (stopS p.L (1 + p.C + j) 0 16777216)
def IP.py (p : IP) (j : Nat) : Nat := if p.T then 0 else Spot.wd (stopS p.L (1 + p.C + j) 1 16777216)
theorem stop_eq (p : IP) (j : Nat) : p.stop j = [.int .i64 (p.sa j), .int .i64 (p.sb j), .int .i64 (p.sv j), .int .i64 (p.se j), .int .i64 (p.sl j), .complex .f64 (p.px j) (p.py j)] := by
  unfold IP.stop IP.sa IP.sb IP.sv IP.se IP.sl IP.px IP.py stopL
  cases p.T
  · simp only [Bool.not_false, if_true, Bool.false_eq_true, if_false]
  · simp only [Bool.not_true, if_true, Bool.false_eq_true, if_false]
theorem sa_bd (p : IP) (j : Nat) : -1000 ≤ p.sa j ∧ p.sa j ≤ 1000 := by unfold IP.sa; split <;> exact smallV_near _ _ (by decide)
theorem sb_bd (p : IP) (j : Nat) : -1000 ≤ p.sb j ∧ p.sb j ≤ 1000 := by unfold IP.sb; split <;> exact smallV_near _ _ (by decide)
theorem sv_bd (p : IP) (j : Nat) : -1099511627776 ≤ p.sv j ∧ p.sv j ≤ 1099511627776 := by unfold IP.sv; split <;> exact readV_bd _ _
/-- What is asked of a car, a stop's times, a request's loads, a depot. -/
def IP.carOk (p : IP) (j : Nat) : Bool := carB' (p.ca j) (p.cb j) (p.cm j)
def IP.rideOk (p : IP) (j : Nat) : Bool := timeB (p.rd j)
def IP.timeOk (p : IP) (j : Nat) : Bool := timesB (p.sv j) (p.se j) (p.sl j)
def IP.loadOk (p : IP) (r : Nat) : Bool := Load.rightL (p.sa r) (p.sb r) && (decide (p.sa (p.R + r) = -p.sa r) && decide (p.sb (p.R + r) = -p.sb r))
def IP.idleOk (p : IP) (j : Nat) : Bool := decide (p.sa j = 0) && (decide (p.sb j = 0) && decide (p.sv j = 0))
def IP.rowOk (p : IP) (i : Nat) : Bool := !anyTo (fun t => !timeB (p.rowV i t)) p.P
def IP.rangeB (p : IP) : Bool := anyTo (fun j => !p.carOk j) p.C || (anyTo (fun j => !p.rideOk j) p.R || anyTo (fun j => !p.timeOk j) p.P)
def IP.loadsB (p : IP) : Bool := !anyTo (fun r => !p.loadOk (1 + r)) p.R && (p.idleOk 0 && p.idleOk (p.P - 1))
def IP.chk (p : IP) : Int := if p.rangeB then 23 else if p.loadsB = false then 33 else if anyTo (fun i => !p.rowOk i) p.more then 23 else 0
section
variable {base n : Nat} {p : IP} {v : Value} {W : World}
theorem isCar_of (h : W.ownsRow base 54 3 v n (cellsTo p.car n)) : ∃ a c, v = .slice a n c ∧ IsCar W a n p.ca p.cb p.cm := by
  rcases Joins.ownsRow_forms h with ⟨rfl, rfl⟩ | ⟨g, cap, rfl⟩
  · exact ⟨_, _, rfl, .inl rfl⟩
  · refine ⟨_, _, rfl, .inr ⟨g, 0, rfl, (h.lt g rfl).2, fun j hj => ?_⟩⟩
    have k : ∀ t, t < 3 → ∀ u, (p.car j)[t]? = some u → W.cell? ⟨g, 0 + j * 3 + t, none⟩ = some u := fun t ht u hu => by
      have := h.cells (g := g) rfl (j * 3 + t) u ((cellsTo_at (f := p.car) (s := 3) (car_len p) hj ht).trans hu)
      rwa [Go.WideShapes.add_plain, ← Nat.add_assoc] at this
    rw [car_eq] at k
    exact ⟨k 0 (by omega) (.int .i64 (p.ca j)) rfl, k 1 (by omega) (.int .i64 (p.cb j)) rfl, k 2 (by omega) (.int .i64 (p.cm j)) rfl⟩
theorem isStop_of (h : W.ownsRow base 57 6 v n (cellsTo p.stop n)) : ∃ a c, v = .slice a n c ∧ IsStop W a n p.sa p.sb p.sv p.se p.sl p.px p.py := by
  rcases Joins.ownsRow_forms h with ⟨rfl, rfl⟩ | ⟨g, cap, rfl⟩
  · exact ⟨_, _, rfl, .inl rfl⟩
  · refine ⟨_, _, rfl, .inr ⟨g, 0, rfl, (h.lt g rfl).2, fun j hj => ?_⟩⟩
    have k : ∀ t, t < 6 → ∀ u, (p.stop j)[t]? = some u → W.cell? ⟨g, 0 + j * 6 + t, none⟩ = some u := fun t ht u hu => by
      have := h.cells (g := g) rfl (j * 6 + t) u ((cellsTo_at (f := p.stop) (s := 6) (fun j => stopL_len _ _ _ _) hj ht).trans hu)
      rwa [Go.WideShapes.add_plain, ← Nat.add_assoc] at this
    rw [stop_eq] at k
    exact ⟨k 0 (by omega) (.int .i64 (p.sa j)) rfl, k 1 (by omega) (.int .i64 (p.sb j)) rfl, k 2 (by omega) (.int .i64 (p.sv j)) rfl, k 3 (by omega) (.int .i64 (p.se j)) rfl, k 4 (by omega) (.int .i64 (p.sl j)) rfl, k 5 (by omega) (.complex .f64 (p.px j) (p.py j)) rfl⟩
theorem isRide_of (h : W.ownsRow base 2 1 v n (cellsTo p.ride n)) : ∃ a c, v = .slice a n c ∧ IsLong W a n p.rd := by
  rcases Joins.ownsRow_forms h with ⟨rfl, rfl⟩ | ⟨g, cap, rfl⟩
  · exact ⟨_, _, rfl, .inl rfl⟩
  · refine ⟨_, _, rfl, .inr ⟨g, 0, rfl, (h.lt g rfl).2, fun j hj => ?_⟩⟩
    have := h.cells (g := g) rfl (j * 1 + 0) (.int .i64 (p.rd j)) ((cellsTo_at (s := 1) (t := 0) (fun _ => rfl) hj (by decide)).trans rfl)
    rwa [Go.WideShapes.add_plain, Nat.mul_one, Nat.add_zero] at this
theorem isRow_of {V : Nat → Value} (h : W.ownsRow base 25 1 v n (cellsTo (fun j => [V j]) n)) : ∃ a c, v = .slice a n c ∧ IsRow W a n V := by
  rcases Joins.ownsRow_forms h with ⟨rfl, rfl⟩ | ⟨g, cap, rfl⟩
  · exact ⟨_, _, rfl, .inl rfl⟩
  · refine ⟨_, _, rfl, .inr ⟨g, 0, rfl, (h.lt g rfl).2, fun j hj => ?_⟩⟩
    have := h.cells (g := g) rfl (j * 1 + 0) (V j) ((cellsTo_at (s := 1) (t := 0) (fun _ => rfl) hj (by decide)).trans rfl)
    rwa [Go.WideShapes.add_plain, Nat.mul_one, Nat.add_zero] at this
theorem isLong_of {j : Nat} (h : DeepAt base p j v W) : ∃ g cap, v = .slice (some ⟨g, 0, none⟩) p.P cap ∧ base ≤ g ∧ IsLong W (some ⟨g, 0, none⟩) p.P (p.rowV j) := by
  obtain ⟨g, cap, cur, rfl, hb, hc, hh, hv⟩ := h
  exact ⟨g, cap, rfl, hb, .inr ⟨g, 0, rfl, (Array.getElem?_eq_some_iff.1 hh).1, fun t ht => by rw [own_cell hh, Nat.zero_add]; exact hv t ht⟩⟩
end
section
variable (a1 a2 a3 a4 : Option Addr) (n1 c1 n2 c2 n3 c3 n4 c4 : Nat) (w : World)
theorem count_any (_h3 : n3 ≤ 5000) :
    Calls Tryz.prog 29 #[.agg #[.slice a1 n1 c1, .slice a2 n2 c2, .slice a3 n3 c3, .slice a4 n4 c4]] w fun e w' => e = .returned (.int .i64 n3) ∧ Below w.heap.size w w' := by
  go_enter Tryz.func29, Tryz.ntmps29
  go_wp2_with fail
  go_ret
  exact ⟨rfl, (Below.refl _ _).alloc (Nat.le_refl _) _⟩
end
end Sheet
end Go.Proofs.YtjmhlabgoegeoaaGreatDoor
