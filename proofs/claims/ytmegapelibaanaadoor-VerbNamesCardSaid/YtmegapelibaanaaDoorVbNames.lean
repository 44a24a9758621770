/- The walk of jitneylaw27.VerbNames; over the translated program. -/
import Derived.Test.YtmegapelibaanaaDoorVbAlive
import Derived.Test.YtmegapelibaanaaDoorVbAs
import Derived.Test.YtmegapelibaanaaDoorVbBack
import Derived.Deep.RegionHeld3
import Derived.Deep.RegionWith
namespace Go.Proofs.YtmegapelibaanaaDoor
namespace Vb
open Go Go.RowKit Deci
set_option linter.unusedVariables false
theorem name_inj {a b : Int} (h : a ≠ b) (e : nameS a.toNat = nameS b.toNat) : nameS a.toNat = ⟨#[]⟩ := by
  by_cases ha : a < 1 ∨ 8 ≤ a
  · rcases ha with ha | ha
    · rw [show a.toNat = 0 by omega]; rfl
    · exact name_none (.inr ha)
  by_cases hb : b < 1 ∨ 8 ≤ b
  · rw [e]
    rcases hb with hb | hb
    · rw [show b.toNat = 0 by omega]; rfl
    · exact name_none (.inr hb)
  · exfalso
    have h1 := kind_name (k := a.toNat) (by omega) (by omega)
    have h2 := kind_name (k := b.toNat) (by omega) (by omega)
    have h3 : nameL a.toNat = nameL b.toNat := congrArg (fun s : ByteArray => s.data.toList) e
    rw [h3, h2] at h1
    omega
theorem page_one (c : CM) (h : checkE c = 0) : printT [c] = cmdT c ∧ printE [c] = 0 := by
  have e : printE [c] = 0 := by unfold printE; rw [if_neg (by omega)]; rfl
  unfold printT
  rw [if_neg (by omega)]
  exact ⟨by simp, e⟩
theorem page_all : ∀ (L : List CM), (∀ c ∈ L, checkE c = 0) → printE L = 0
  | [], _ => rfl
  | c :: L, h => by
    unfold printE
    rw [if_neg (by have := h c (List.mem_cons_self ..); omega)]
    exact page_all L fun x hx => h x (List.mem_cons_of_mem _ hx)
/-- What is known of one command: its text, its kind's name. -/
structure One (c : CM) (S N : ByteArray) : Prop where
  text : S = strOf (cmdT c)
  name : N = nameS c.kind.toNat
  pos : 0 < N.size
  lt : N.size < S.size
  cut : S.extract 0 N.size = N
  few : S.size ≤ 40000
theorem one {c : CM} (h : Fits 1500 c) : One c (strOf (cmdT c)) (nameS c.kind.toNat) := by
  have hk := h.good.kind
  have hl := cmd_short h
  have hne := name_ne (k := c.kind.toNat) (by omega) (by omega)
  have hp : 0 < (nameL c.kind.toNat).length := List.length_pos_iff.2 hne
  refine ⟨rfl, rfl, hp, ?_, ?_, ?_⟩
  · show (nameL c.kind.toNat).length < (cmdT c).length
    unfold cmdT lineT
    simp only [List.length_append, List.length_cons]
    omega
  · rw [extract_front]
    show strOf ((cmdT c).take (nameL c.kind.toNat).length) = _
    unfold cmdT lineT
    rw [List.append_assoc, List.take_left]; rfl
  · show (cmdT c).length ≤ 40000
    omega
theorem one_fit {c : CM} (h : Fits 1500 c) : ∀ x ∈ [c], x.draws.length ≤ 5000 ∧ x.text.size ≤ 3000 := by
  intro x hx
  obtain rfl : x = c := by simpa using hx
  exact ⟨by have := h.draws; omega, by have := h.text; omega⟩
theorem print_one {c : CM} (h : Fits 1500 c) (v : Value) (W : World) (hE : EnvAt W.heap.size W) (hI : IsCm W v [c]) :
    Calls Tryd.prog 7 #[v] W fun e w' => e = .returned (.tuple #[.string (strOf (cmdT c)), .int .i64 0]) ∧ Below W.heap.size W w' := by
  have := print_any v [c] W hE hI (by simp) (one_fit h)
  rw [(page_one c h.good.check).1, (page_one c h.good.check).2] at this
  exact this
theorem parse_one {c : CM} (h : Fits 1500 c) (W : World) (hE : EnvAt W.heap.size W) :
    Calls Tryd.prog 11 #[.string (strOf (cmdT c))] W fun e w' => Below W.heap.size W w' ∧ ∃ a cap, e = .returned (.tuple #[.slice a 1 cap, .int .i64 0, .int .i64 0]) ∧ IsCm w' (.slice a 1 cap) [c] := by
  have hs := cmd_short h
  have := parse_any (strOf (cmdT c)) W hE (by show (cmdT c).length ≤ _; omega)
  unfold ParseOut at this
  rw [data_strOf, back h.good (by omega)] at this
  refine this.mono ?_
  rintro e w' ⟨hb, v, rfl, hI⟩
  obtain ⟨a, cap, rfl⟩ := hI.form
  exact ⟨hb, a, cap, rfl, hI⟩
theorem same_one {c : CM} (h : Fits 1500 c) (v1 v2 : Value) (W : World) (h1 : IsCm W v1 [c]) (h2 : IsCm W v2 [c]) :
    Calls Tryd.prog 12 #[v1, v2] W fun e w' => e = .returned (.bool true) ∧ Below W.heap.size W w' := by
  refine same_any v1 v2 [c] W h1 h2 (by simp) ?_
  intro x hx
  obtain rfl : x = c := by simpa using hx
  have := h.draws; omega
theorem as_one {c : CM} (v : Value) (W : World) (hI : IsCm W v [c]) :
    Calls Tryd.prog 9 #[v] W fun e w' => Below W.heap.size W w' ∧ ∃ a cap, e = .returned (.slice a 1 cap) ∧ IsCm w' (.slice a 1 cap) [c] := by
  refine (as_any v [c] W hI (by simp)).mono ?_
  rintro e w' ⟨hb, v, rfl, hI⟩
  obtain ⟨a, cap, rfl⟩ := hI.form
  exact ⟨hb, a, cap, rfl, hI⟩
theorem isCm_one {W : World} {Y : Nat} {c : CM} {dv : Value} {T : TypeId} (h : W.heap[Y]? = some (.cells #[.int .i64 c.kind, .int .i64 c.n, .int .i64 c.steps, .int .i64 c.clock, dv, .string c.text] T)) (hd : IsXs W dv c.draws) : IsCm W (.slice (some ⟨Y, 0, none⟩) 1 1) [c] := by
  refine ⟨_, 1, rfl, .inr ⟨Y, 0, rfl, own_lt h, fun j hj => ?_⟩⟩
  obtain rfl : j = 0 := by simpa using hj
  exact ⟨dv, ⟨(own_cell h).trans rfl, (own_cell h).trans rfl, (own_cell h).trans rfl, (own_cell h).trans rfl, (own_cell h).trans rfl, (own_cell h).trans rfl⟩, hd⟩
set_option maxHeartbeats 8000000 in
set_option maxRecDepth 100000 in
theorem names_walk (w : World) (hE : EnvV w) (s0 : ByteArray) (w0 : s0.size ≤ maxLen) (a1 a2 : Int) :
    Calls Tryd.prog 4 #[.string s0, .int .i64 a1, .int .i64 a2] w fun e w' => e = .returned (.bool true) ∧ Below w.heap.size w w' := by
  have hEA : EnvAt w.heap.size w := env_at hE
  obtain ⟨A, hA⟩ : ∃ A, A = w.heap.size := ⟨_, rfl⟩
  rw [← hA] at hEA ⊢
  have hEW := fun W (hb : Below A w W) => (hEA.below hb).mono (by have := hb.size; omega : A ≤ W.heap.size)
  have K0 := fun W (hb : Below A w W) => alive_any W (hEW W hb)
  have KN := fun k W (hb : Below A w W) => name_any k W (hEA W hb)
  have H0 := Lib.hid K0; clear K0
  have HN := Lib.hid KN; clear KN
  have HEW := Lib.hid hEW; clear hEW
  have HA := Lib.hid hA; clear hA
  clear hE hEA
  by_cases hs : 1500 < s0.size
  · have hs' : (1500 : Int) < (s0.size : Int) := by omega
    go_enter Tryd.func4, Tryd.ntmps4
    go_wp2_with fail
    refine (H0.out w (Below.refl _ _)).mono ?_
    rintro e w1 ⟨rfl, hb1⟩
    have HB1 := Lib.hid (hb1.mono (by have := HA.out; omega : A ≤ w.heap.size)); clear hb1
    go_wp2_with fail
    go_ret
    exact ⟨rfl, HB1.out⟩
  have hs' : ¬ (1500 : Int) < (s0.size : Int) := by omega
  have hpa := fun W (hb : Below A w W) => parse_any s0 W (HEW.out W hb) (by omega)
  unfold ParseOut at hpa
  have hsz : s0.data.toList.length = s0.size := by simp
  have hgood : (parseR s0.data.toList).2.2 = 0 → ∀ c ∈ (parseR s0.data.toList).1, Fits 1500 c := fun h c hc => by
    have := parse_good h (by omega) c hc
    exact ⟨this.good, by have := this.draws; omega, by have := this.text; omega⟩
  have hcnt := parse_count s0.data.toList
  rw [hsz] at hcnt
  generalize parseR s0.data.toList = R at *
  obtain ⟨R1, R2, R3⟩ := R
  simp only at hpa hgood hcnt
  have HPA := Lib.hid hpa; clear hpa
  have HGD := Lib.hid hgood; clear hgood
  have hn12 : Hid (a1 ≠ a2 → nameS a1.toNat = nameS a2.toNat → nameS a1.toNat = ⟨#[]⟩) := Lib.hid fun h e => name_inj h e
  have HN1 := Lib.hid fun W (hb : Below A w W) => HN.out a1 W hb
  have HN2 := Lib.hid fun W (hb : Below A w W) => HN.out a2 W hb
  generalize nameS a1.toNat = na at *
  generalize nameS a2.toNat = nb at *
  clear hsz w0
  -- the names of two kinds
  go_enter Tryd.func4, Tryd.ntmps4
  go_wp2_with fail
  refine (H0.out w (Below.refl _ _)).mono ?_
  rintro e w1 ⟨rfl, hb1⟩
  have HB1 := Lib.hid (hb1.mono (by have := HA.out; omega : A ≤ w.heap.size)); clear hb1
  go_upto_region 5 with fail
  go_cut [40] (fun s40 wx => s40 = .bool false ∧ wx = w1)
  case first =>
    by_cases h12 : a1 = a2
    · subst h12
      go_wp2_with fail
      go_meet
      exact ⟨rfl, rfl⟩
    · have hb12 : (a1 != a2) = true := by simpa using h12
      by_cases hne : na = nb
      · have h0 := hn12.out h12 hne
        subst hne
        subst h0
        go_wp2_with fail
        refine (HN1.out w1 HB1.out).mono ?_
        rintro e w2 ⟨rfl, rfl⟩
        go_wp2_with fail
        refine (HN2.out w2 HB1.out).mono ?_
        rintro e w3 ⟨rfl, rfl⟩
        go_wp2_with fail
        refine (HN1.out w3 HB1.out).mono ?_
        rintro e w4 ⟨rfl, rfl⟩
        go_wp2_with fail
        go_meet
        exact ⟨rfl, rfl⟩
      · have h1 : ¬ na.toList = nb.toList := fun e => hne (by rw [← strOf_data na, ← strOf_data nb, ← Lib.toList_data, ← Lib.toList_data, e])
        have h2 : (na.toList == nb.toList) = false := by simpa using h1
        go_wp2_with fail
        refine (HN1.out w1 HB1.out).mono ?_
        rintro e w2 ⟨rfl, rfl⟩
        go_wp2_with fail
        refine (HN2.out w2 HB1.out).mono ?_
        rintro e w3 ⟨rfl, rfl⟩
        go_wp2_with fail
        go_meet
        exact ⟨rfl, rfl⟩
  case rest =>
    obtain ⟨rfl, rfl⟩ := hcut
    clear hn12 HN1 HN2
    go_wp2_with fail
    refine (HPA.out _ HB1.out).mono ?_
    rintro e w2 ⟨hb2, v, rfl, hI⟩
    obtain ⟨a, cap, rfl⟩ := hI.form
    have HB2 := Lib.hid (HB1.out.trans (hb2.mono (by have := HB1.out.size; have := HA.out; omega))); clear hb2
    by_cases he : R3 ≠ 0
    · have he' : ¬ R3 = 0 := he
      go_wp2_with fail
      go_ret
      exact ⟨rfl, HB2.out⟩
    obtain rfl : R3 = 0 := by simpa using he
    have hfit := HGD.out rfl
    have hst := fun k (hk : k < R1.length) => pageT_take (L := R1) hk
    have hfk := fun k (hk : k < R1.length) => hfit R1[k] (List.getElem_mem hk)
    have hpp := fun W (hb : Below A w W) (hI : IsCm W (.slice a R1.length cap) R1) => print_any _ R1 W (HEW.out W hb) hI (by omega) (fun x hx => ⟨by have := (hfit x hx).draws; omega, by have := (hfit x hx).text; omega⟩)
    have hpe := page_all R1 fun c hc => (hfit c hc).good.check
    have hpt : strOf (printT R1) = strOf (pageT R1) := by unfold printT; rw [if_neg (by omega)]; rfl
    rw [hpe, hpt] at hpp
    obtain ⟨n, hn⟩ : ∃ n, n = R1.length := ⟨_, rfl⟩
    rw [← hn] at hI hpp ⊢
    have hat : ∀ W, IsCm W (.slice a n cap) R1 → ∀ k (hk : k < R1.length), ∃ g o da dc, a = some ⟨g, o, none⟩ ∧ CvAt W g (o + k * 6) R1[k] (.slice da R1[k].draws.length dc) ∧ IsXs W (.slice da R1[k].draws.length dc) R1[k].draws := fun W hI k hk => by
      obtain ⟨a', c', e, hr⟩ := hI
      injection e with e1 e2 e3
      subst e1
      obtain ⟨g, o, e, hg, hc⟩ := hr.resolve_left (by intro e; rw [e] at hk; simp at hk)
      obtain ⟨dv, h1, h2⟩ := hc k hk
      obtain ⟨da, dc, rfl⟩ := h2.form
      exact ⟨g, o, da, dc, e, h1, h2⟩
    have hall : pageT (R1.take n) = pageT R1 := by rw [hn, List.take_length]
    have HI := Lib.hid hI; clear hI
    have hn1500 : n ≤ 1500 := by omega
    have HN' := Lib.hid hn; clear hn
    have HST := Lib.hid hst; clear hst
    have HFK := Lib.hid hfk; clear hfk hfit
    have HPP := Lib.hid hpp; clear hpp
    have HAT := Lib.hid hat; clear hat
    have HALL := Lib.hid hall; clear hall
    clear hpe hpt he H0 HB1 HPA
    go_wp2_with fail
    go_loopw [10, 51] (fun s10 i wr => ∃ k : Nat, k ≤ n ∧ i = .int .i64 k ∧ s10 = .string (strOf (pageT (R1.take k))) ∧ Hid (Below w2.heap.size w2 wr) ∧ (pageT (R1.take k)).length ≤ k * 40000) (fun _ i _ => n - (intOf i).toNat)
    case atStart => exact ⟨0, Nat.zero_le _, rfl, rfl, Lib.hid (Below.refl _ _), by simp [pageT]⟩
    case round =>
      obtain ⟨k, hk, rfl, rfl, HW, hpl⟩ := hrel
      have HBW : Hid (Below A w wr) := Lib.hid (HB2.out.trans (HW.out.mono (by have := HB2.out.size; have := HA.out; omega)))
      have HIW : Hid (IsCm wr (.slice a n cap) R1) := Lib.hid (HI.out.below HW.out)
      have hAs : A ≤ wr.heap.size := by have := HBW.out.size; have := HA.out; omega
      by_cases hlt : k < n
      · have hkl : k < R1.length := by rw [← HN'.out]; exact hlt
        obtain ⟨g, o, da, dc, rfl, ⟨c0, c1, c2, c3, c4, c5⟩, hdv⟩ := HAT.out wr HIW.out k hkl
        have hst := HST.out k hkl
        have hF := HFK.out k hkl
        generalize R1[k] = c at *
        have hO := one hF
        obtain ⟨S, hS⟩ : ∃ S, S = strOf (cmdT c) := ⟨_, rfl⟩
        obtain ⟨N, hNm⟩ : ∃ N, N = nameS c.kind.toNat := ⟨_, rfl⟩
        have hdl : c.draws.length ≤ 1500 := hF.draws
        have KPr := fun v W (hb : Below A w W) (hI : IsCm W v [c]) => print_one hF v W (HEW.out W hb) hI
        have KPa := fun W (hb : Below A w W) => parse_one hF W (HEW.out W hb)
        have KSm := fun v1 v2 W (h1 : IsCm W v1 [c]) (h2 : IsCm W v2 [c]) => same_one hF v1 v2 W h1 h2
        have KAs := fun v W (hI : IsCm W v [c]) => as_one v W hI
        have KNm := fun W (hb : Below A w W) => HN.out c.kind W hb
        have hone := fun (W : World) (Y : Nat) (hb : Below wr.heap.size wr W) (h : W.heap[Y]? = some (.cells #[.int .i64 c.kind, .int .i64 c.n, .int .i64 c.steps, .int .i64 c.clock, .slice da c.draws.length dc, .string c.text] 37)) => isCm_one h (hdv.below hb)
        have hap : strOf (pageT (R1.take k)) ++ S = strOf (pageT (R1.take (k + 1))) := by rw [hS, strOf_append, hst]
        have hpn : (pageT (R1.take (k + 1))).length ≤ (k + 1) * 40000 := by
          rw [hst, List.length_append]
          have h1 := (one hF).few
          have h2 : (strOf (cmdT c)).size = (cmdT c).length := rfl
          omega
        have hps : (strOf (pageT (R1.take k))).size = (pageT (R1.take k)).length := rfl
        rw [← hS] at KPr KPa
        rw [← hNm] at KNm
        rw [← hS, ← hNm] at hO
        obtain ⟨-, -, o1, o2, o3, o4⟩ := hO
        have j5 : ((strOf (pageT (R1.take k))).size : Int) + (S.size : Int) ≤ 9223372036854775807 := by rw [hps]; omega
        have HPN := Lib.hid hpn; clear hpn hps
        clear hS hNm hst hF hdl
        obtain ⟨X, hX⟩ : ∃ X, X = wr.heap.size := ⟨_, rfl⟩
        obtain ⟨W1, hW1⟩ : ∃ W1, W1 = (wr.alloc (.cells #[.int .i64 c.kind, .int .i64 c.n, .int .i64 c.steps, .int .i64 c.clock, .slice da c.draws.length dc, .string c.text] 37)).alloc (.cells #[.int .i64 c.kind, .int .i64 c.n, .int .i64 c.steps, .int .i64 c.clock, .slice da c.draws.length dc, .string c.text] 37) := ⟨_, rfl⟩
        have hb1 : Below wr.heap.size wr W1 := by rw [hW1]; exact ((Below.refl _ _).alloc (Nat.le_refl _) _).alloc (by simp) _
        have hx1 : W1.heap[X]? = some (.cells #[.int .i64 c.kind, .int .i64 c.n, .int .i64 c.steps, .int .i64 c.clock, .slice da c.draws.length dc, .string c.text] 37) := by rw [hW1, hX]; exact (alloc2 wr _ _).1
        have hy1 : W1.heap[X + 1]? = some (.cells #[.int .i64 c.kind, .int .i64 c.n, .int .i64 c.steps, .int .i64 c.clock, .slice da c.draws.length dc, .string c.text] 37) := by rw [hW1, hX]; exact (alloc2 wr _ _).2
        have hpr := KPr _ W1 (HBW.out.trans (hb1.mono hAs)) (hone W1 (X + 1) hb1 hy1)
        have HAP := Lib.hid hap; clear hap
        generalize c.draws.length = dn at *
        generalize c.kind = q1 at *
        generalize c.n = q2 at *
        generalize c.steps = q3 at *
        generalize c.clock = q4 at *
        generalize c.text = q6 at *
        have HPR := Lib.hid hpr; clear hpr KPr hy1
        have HX := Lib.hid hX; clear hX
        have HW1 := Lib.hid hW1; clear hW1
        have HX1 := Lib.hid hx1; clear hx1
        have HB1 := Lib.hid hb1; clear hb1
        have HPA := Lib.hid KPa; clear KPa
        have HSM := Lib.hid KSm; clear KSm
        have HAS := Lib.hid KAs; clear KAs
        have HNM := Lib.hid KNm; clear KNm
        have HONE := Lib.hid hone; clear hone hdv
        have i0 : (k : Int) < (n : Int) := by omega
        have i1 : (0 : Int) ≤ k := by omega
        go_wp2_with fail
        rw [← HX.out, ← HW1.out]
        refine HPR.out.mono ?_
        rintro e w3 ⟨rfl, hb3⟩
        have hx3 := (hb3.block X (own_lt HX1.out)).trans HX1.out
        have hb03 : Below wr.heap.size wr w3 := HB1.out.trans (hb3.mono HB1.out.size)
        have z0 : w3.cell? ⟨X, 0, none⟩ = some (.int .i64 q1) := (own_cell hx3).trans rfl
        clear c0 c1 c2 c3 c4 c5
        have HB3 := Lib.hid hb03; clear hb03 hb3
        go_wp2_with fail
        refine (HNM.out w3 (HBW.out.trans (HB3.out.mono hAs))).mono ?_
        rintro e w4 ⟨rfl, rfl⟩
        have hNe : ¬ N.toList = [] := by
          rw [Lib.toList_data]; intro e
          have h1 : N.data.toList.length = N.size := by simp
          rw [e] at h1
          simp at h1; omega
        have hNe' : N.toList.isEmpty = false := by simpa using hNe
        have j1 : ¬ (S.size : Int) ≤ (N.size : Int) := by omega
        have j2 : (0 : Int) ≤ (N.size : Int) := by omega
        have j3 : (N.size : Int) ≤ (S.size : Int) := by omega
        go_wp2_with fail
        refine (HPA.out w4 (HBW.out.trans (HB3.out.mono hAs))).mono ?_
        rintro e w5 ⟨hb5, a5, p5, rfl, hI5⟩
        have hx5 := (hb5.block X (own_lt hx3)).trans hx3
        have HB5 := Lib.hid (HB3.out.trans (hb5.mono HB3.out.size)); clear hb5 hx3 z0
        have z0 : w5.cell? ⟨X, 0, none⟩ = some (.int .i64 q1) := (own_cell hx5).trans rfl
        have z1 : w5.cell? ⟨X, 1, none⟩ = some (.int .i64 q2) := (own_cell hx5).trans rfl
        have z2 : w5.cell? ⟨X, 2, none⟩ = some (.int .i64 q3) := (own_cell hx5).trans rfl
        have z3 : w5.cell? ⟨X, 3, none⟩ = some (.int .i64 q4) := (own_cell hx5).trans rfl
        have z4 : w5.cell? ⟨X, 4, none⟩ = some (.slice da dn dc) := (own_cell hx5).trans rfl
        have z5 : w5.cell? ⟨X, 5, none⟩ = some (.string q6) := (own_cell hx5).trans rfl
        have HX5 := Lib.hid hx5; clear hx5
        have HI5 := Lib.hid hI5; clear hI5
        have HZ : Hid (∀ W, Below w5.heap.size w5 W → W.cell? ⟨X, 0, none⟩ = some (.int .i64 q1) ∧ W.cell? ⟨X, 1, none⟩ = some (.int .i64 q2) ∧ W.cell? ⟨X, 2, none⟩ = some (.int .i64 q3) ∧ W.cell? ⟨X, 3, none⟩ = some (.int .i64 q4) ∧ W.cell? ⟨X, 4, none⟩ = some (.slice da dn dc) ∧ W.cell? ⟨X, 5, none⟩ = some (.string q6)) := Lib.hid fun W hb => by
          have hx := (hb.block X (own_lt HX5.out)).trans HX5.out
          exact ⟨(own_cell hx).trans rfl, (own_cell hx).trans rfl, (own_cell hx).trans rfl, (own_cell hx).trans rfl, (own_cell hx).trans rfl, (own_cell hx).trans rfl⟩
        clear j1 j2 j3 hNe hNe' HNM HPA o1 o2 o3 o4
        obtain ⟨Q, hQ⟩ : ∃ Q : World → Prop, Q = fun W => Below w5.heap.size w5 W ∧ IsCm W (.slice a5 1 p5) [c] := ⟨_, rfl⟩
        have HQ0 : Q w5 := by rw [hQ]; exact ⟨Below.refl _ _, HI5.out⟩
        have HQB : Hid (∀ W W', Q W → Below W.heap.size W W' → Q W') := Lib.hid fun W W' h hb => by
          rw [hQ] at h ⊢
          exact ⟨h.1.trans (hb.mono h.1.size), h.2.below hb⟩
        have HQC : Hid (∀ W, Q W → Q W ∧ W.cell? ⟨X, 0, none⟩ = some (.int .i64 q1) ∧ W.cell? ⟨X, 1, none⟩ = some (.int .i64 q2) ∧ W.cell? ⟨X, 2, none⟩ = some (.int .i64 q3) ∧ W.cell? ⟨X, 3, none⟩ = some (.int .i64 q4) ∧ W.cell? ⟨X, 4, none⟩ = some (.slice da dn dc) ∧ W.cell? ⟨X, 5, none⟩ = some (.string q6)) := Lib.hid fun W h => ⟨h, HZ.out W (by rw [hQ] at h; exact h.1)⟩
        have HQL : Hid (∀ W, Q W → Below w5.heap.size w5 W) := Lib.hid fun W h => by rw [hQ] at h; exact h.1
        have HAS1 : Hid (∀ W, Q W → Calls Tryd.prog 9 #[.slice a5 1 p5] W fun e w' => Below W.heap.size W w' ∧ ∃ a cap, e = .returned (.slice a 1 cap) ∧ IsCm w' (.slice a 1 cap) [c]) := Lib.hid fun W h => HAS.out _ W (by rw [hQ] at h; exact h.2)
        have HAS2 : Hid (∀ W Y, Q W → W.heap[Y]? = some (.cells #[.int .i64 q1, .int .i64 q2, .int .i64 q3, .int .i64 q4, .slice da dn dc, .string q6] 37) → Calls Tryd.prog 9 #[.slice (some ⟨Y, 0, none⟩) 1 1] W fun e w' => Below W.heap.size W w' ∧ ∃ a cap, e = .returned (.slice a 1 cap) ∧ IsCm w' (.slice a 1 cap) [c]) := Lib.hid fun W Y h hY => HAS.out _ W (HONE.out W Y (by rw [hQ] at h; exact HB5.out.trans (h.1.mono HB5.out.size)) hY)
        have HS5 : Hid (Q w5) := Lib.hid HQ0
        clear hQ HQ0 HX5 HI5 HZ HAS HONE
        have hq := HQC.out _ HS5.out
        obtain ⟨hQ5, z0, z1, z2, z3, z4, z5⟩ := hq
        go_upto_region 19 with fail
        go_cut [101] (fun s101 wx => s101 = .bool false ∧ Hid (Below w5.heap.size w5 wx))
        case first =>
          go_region_held3 (fun w' => Q w' ∧ w'.cell? ⟨X, 0, none⟩ = some (.int .i64 q1) ∧ w'.cell? ⟨X, 1, none⟩ = some (.int .i64 q2) ∧ w'.cell? ⟨X, 2, none⟩ = some (.int .i64 q3) ∧ w'.cell? ⟨X, 3, none⟩ = some (.int .i64 q4) ∧ w'.cell? ⟨X, 4, none⟩ = some (.slice da dn dc) ∧ w'.cell? ⟨X, 5, none⟩ = some (.string q6))
            (first
              | exact HQC.out _ ‹Q _›
              | exact HQC.out _ (HQB.out _ _ (And.left ‹Q _ ∧ _›) (Below.drew (Below.refl _ _)))
              | exact HQC.out _ (HQB.out _ _ ‹Q _› (Below.drew (Below.refl _ _)))
              | exact HQC.out _ (HQB.out _ _ (And.left ‹Q _ ∧ _›) ((Below.refl _ _).alloc (Nat.le_refl _) _))
              | exact HQC.out _ (HQB.out _ _ ‹Q _› ((Below.refl _ _).alloc (Nat.le_refl _) _)))
            (first
              | (go_at_call 9; (with_reducible refine (HAS1.out _ (And.left ‹Q _ ∧ _›)).mono ?_); rintro e wA ⟨hbA, aA, pA, rfl, hIA⟩; have hka := HQB.out _ _ (And.left ‹Q _ ∧ _›) hbA)
              | (go_at_call 9; (with_reducible refine (HAS2.out _ _ (And.left ‹Q _ ∧ _›) (by first | exact World.alloc_heap_new _ _ | exact (hbA.block _ (own_lt (World.alloc_heap_new _ _))).trans (World.alloc_heap_new _ _))).mono ?_); rintro e wB ⟨hbB, aB, pB, rfl, hIB⟩; have hkb := HQB.out _ _ (And.left ‹Q _ ∧ _›) hbB; have hIA2 : IsCm wB (.slice aA 1 pA) [c] := (by first | exact hIA.below hbB | exact hIA.below (((Below.refl _ _).alloc (Nat.le_refl _) _).trans (hbB.mono (by simp)))))
              | (go_at_call 12; (with_reducible refine (HSM.out _ _ _ hIA2 hIB).mono ?_); rintro e wC ⟨rfl, hbC⟩; have hkc := HQB.out _ _ (And.left ‹Q _ ∧ _›) hbC))
          all_goals
            go_wp2_with fail
            go_meet
            exact ⟨rfl, Lib.hid (HQL.out _ hkc)⟩
        case rest =>
          obtain ⟨rfl, HB6⟩ := hcut
          clear z0 z1 z2 z3 z4 z5 hQ5
          have hbw : Below w2.heap.size w2 wc := HW.out.trans ((HB5.out.trans (HB6.out.mono HB5.out.size)).mono HW.out.size)
          have HBF := Lib.hid hbw; clear hbw
          go_wp2_with fail
          go_roundw
          case rel => exact ⟨k + 1, by omega, by go_num, by rw [HAP.out], HBF, HPN.out⟩
          case measure => simp [intOf]; omega
      · obtain rfl : k = n := by omega
        have hpp := HPP.out wr HBW.out HIW.out
        rw [← HALL.out] at hpp
        have HP := Lib.hid hpp; clear hpp
        generalize strOf (pageT (R1.take k)) = acc at *
        go_wp2_with fail
        refine HP.out.mono ?_
        rintro e w3 ⟨rfl, hb3⟩
        have HB3 := Lib.hid (HBW.out.trans (hb3.mono hAs)); clear hb3
        go_wp2_with fail
        go_ret
        exact ⟨rfl, HB3.out⟩
end Vb
end Go.Proofs.YtmegapelibaanaaDoor
