/- What the document's answers for layer 6 (poundageref06) come to: elements of a plan's rows; Great. -/
import Derived.Test.YtfeccjcdpiopaaaTree
import Derived.Test.YtfeccjcdpiopaaaDatB
import Derived.WalkKit
import Derived.ProofKit
namespace Go.Proofs.Ytfeccjcdpiopaaa.R6
open Go.RowKit Go.Sort P Mm

theorem lies0 {w : World} {b o k : Nat} {v : Value} (h : w.cell? ⟨b, o + k + 0, none⟩ = some v) : w.cell? ⟨b, o + k, none⟩ = some v := h
theorem meter_at {w : World} {ao : Option Addr} {len cap : Nat} {xs : List Meter} (h : Row tMeter w ao len cap xs) {j : Nat} {m : Meter} (hj : xs[j]? = some m) :
    ∃ b o, ao = some ⟨b, o, none⟩ ∧ b < w.heap.size ∧ w.cell? ⟨b, o + j * 5, none⟩ = some (.string m.name) ∧ w.cell? ⟨b, o + j * 5 + 1, none⟩ = some (.string m.unit) ∧ w.cell? ⟨b, o + j * 5 + 2, none⟩ = some (.int .i64 m.max) ∧
      w.cell? ⟨b, o + j * 5 + 3, none⟩ = some (.int .i64 m.line) ∧ w.cell? ⟨b, o + j * 5 + 4, none⟩ = some (.int .i64 m.col) ∧ strOk m.name ∧ strOk m.unit ∧ I64 m.max ∧ I64 m.line ∧ I64 m.col := by
  obtain ⟨b, o, cs, h1, h2, ⟨h3, h5⟩, h4⟩ := h.at hj
  subst h3
  exact ⟨b, o, h1, h2, lies0 (h4 0 _ rfl), h4 1 _ rfl, h4 2 _ rfl, h4 3 _ rfl, h4 4 _ rfl, h5⟩
theorem fee_at {w : World} {ao : Option Addr} {len cap : Nat} {xs : List Fee} (h : Row tFee w ao len cap xs) {j : Nat} {m : Fee} (hj : xs[j]? = some m) :
    ∃ b o, ao = some ⟨b, o, none⟩ ∧ b < w.heap.size ∧ w.cell? ⟨b, o + j * 10, none⟩ = some (.int .i64 m.amount) ∧ w.cell? ⟨b, o + j * 10 + 1, none⟩ = some (.bool m.win.has) ∧ w.cell? ⟨b, o + j * 10 + 2, none⟩ = some (.int .i64 m.win.a.y) ∧
      w.cell? ⟨b, o + j * 10 + 3, none⟩ = some (.int .i64 m.win.a.m) ∧ w.cell? ⟨b, o + j * 10 + 4, none⟩ = some (.int .i64 m.win.a.d) ∧ w.cell? ⟨b, o + j * 10 + 5, none⟩ = some (.int .i64 m.win.b.y) ∧
      w.cell? ⟨b, o + j * 10 + 6, none⟩ = some (.int .i64 m.win.b.m) ∧ w.cell? ⟨b, o + j * 10 + 7, none⟩ = some (.int .i64 m.win.b.d) ∧ w.cell? ⟨b, o + j * 10 + 8, none⟩ = some (.int .i64 m.line) ∧ w.cell? ⟨b, o + j * 10 + 9, none⟩ = some (.int .i64 m.col) ∧
      I64 m.amount ∧ winOk m.win ∧ I64 m.line ∧ I64 m.col := by
  obtain ⟨b, o, cs, h1, h2, ⟨h3, h5⟩, h4⟩ := h.at hj
  subst h3
  exact ⟨b, o, h1, h2, lies0 (h4 0 _ rfl), h4 1 _ rfl, h4 2 _ rfl, h4 3 _ rfl, h4 4 _ rfl, h4 5 _ rfl, h4 6 _ rfl, h4 7 _ rfl, h4 8 _ rfl, h4 9 _ rfl, h5⟩
theorem tier_at {w : World} {ao : Option Addr} {len cap : Nat} {xs : List Tier} (h : Row tTier w ao len cap xs) {j : Nat} {m : Tier} (hj : xs[j]? = some m) :
    ∃ b o, ao = some ⟨b, o, none⟩ ∧ b < w.heap.size ∧ w.cell? ⟨b, o + j * 2, none⟩ = some (.int .i64 m.upto) ∧ w.cell? ⟨b, o + j * 2 + 1, none⟩ = some (.int .i64 m.rate) ∧ I64 m.upto ∧ I64 m.rate := by
  obtain ⟨b, o, cs, h1, h2, ⟨h3, h5⟩, h4⟩ := h.at hj
  subst h3
  exact ⟨b, o, h1, h2, lies0 (h4 0 _ rfl), h4 1 _ rfl, h5⟩
theorem adj_at {w : World} {ao : Option Addr} {len cap : Nat} {xs : List Adj} (h : Row tAdj w ao len cap xs) {j : Nat} {m : Adj} (hj : xs[j]? = some m) :
    ∃ b o, ao = some ⟨b, o, none⟩ ∧ b < w.heap.size ∧ w.cell? ⟨b, o + j * 3, none⟩ = some (.int .i64 m.kind) ∧ w.cell? ⟨b, o + j * 3 + 1, none⟩ = some (.int .i64 m.num) ∧ w.cell? ⟨b, o + j * 3 + 2, none⟩ = some (.int .i64 m.mode) ∧ I64 m.kind ∧ I64 m.num ∧ I64 m.mode := by
  obtain ⟨b, o, cs, h1, h2, ⟨h3, h5⟩, h4⟩ := h.at hj
  subst h3
  exact ⟨b, o, h1, h2, lies0 (h4 0 _ rfl), h4 1 _ rfl, h4 2 _ rfl, h5⟩
/-- A charge's cells. -/
structure ChargeAt (w : World) (b o : Nat) (c : Charge) (ta : Option Addr) (tc : Nat) (aa : Option Addr) (ac : Nat) : Prop where
  lt : b < w.heap.size
  c0 : w.cell? ⟨b, o, none⟩ = some (.string c.meter)
  c1 : w.cell? ⟨b, o + 1, none⟩ = some (.bool c.win.has)
  c2 : w.cell? ⟨b, o + 2, none⟩ = some (.int .i64 c.win.a.y)
  c3 : w.cell? ⟨b, o + 3, none⟩ = some (.int .i64 c.win.a.m)
  c4 : w.cell? ⟨b, o + 4, none⟩ = some (.int .i64 c.win.a.d)
  c5 : w.cell? ⟨b, o + 5, none⟩ = some (.int .i64 c.win.b.y)
  c6 : w.cell? ⟨b, o + 6, none⟩ = some (.int .i64 c.win.b.m)
  c7 : w.cell? ⟨b, o + 7, none⟩ = some (.int .i64 c.win.b.d)
  c8 : w.cell? ⟨b, o + 8, none⟩ = some (.int .i64 c.allowance)
  c9 : w.cell? ⟨b, o + 9, none⟩ = some (.int .i64 c.block)
  c10 : w.cell? ⟨b, o + 10, none⟩ = some (.int .i64 c.kind)
  c11 : w.cell? ⟨b, o + 11, none⟩ = some (.slice ta c.tiers.length tc)
  c12 : w.cell? ⟨b, o + 12, none⟩ = some (.int .i64 c.mode)
  c13 : w.cell? ⟨b, o + 13, none⟩ = some (.slice aa c.adjusts.length ac)
  c14 : w.cell? ⟨b, o + 14, none⟩ = some (.int .i64 c.line)
  c15 : w.cell? ⟨b, o + 15, none⟩ = some (.int .i64 c.col)
theorem charge_at {w : World} {ao : Option Addr} {len cap : Nat} {xs : List Charge} (h : Row tCharge w ao len cap xs) {j : Nat} {c : Charge} (hj : xs[j]? = some c) :
    ∃ b o ta tc aa ac, ao = some ⟨b, o, none⟩ ∧ ChargeAt w b (o + j * 16) c ta tc aa ac ∧ ChargeLies w (chargeC c ta tc aa ac) c ta tc aa ac := by
  obtain ⟨b, o, cs, h1, h2, ⟨ta, tc, aa, ac, h3⟩, h4⟩ := h.at hj
  have e := h3.cells
  subst e
  exact ⟨b, o, ta, tc, aa, ac, h1, ⟨h2, lies0 (h4 0 _ rfl), h4 1 _ rfl, h4 2 _ rfl, h4 3 _ rfl, h4 4 _ rfl, h4 5 _ rfl, h4 6 _ rfl, h4 7 _ rfl, h4 8 _ rfl, h4 9 _ rfl, h4 10 _ rfl, h4 11 _ rfl, h4 12 _ rfl, h4 13 _ rfl, h4 14 _ rfl, h4 15 _ rfl⟩, h3⟩

/-- Whether a plan is more than is played. -/
def meterGreat (m : Meter) : Bool := decide (200 < m.name.size) || decide (200 < m.unit.size)
def chargeGreat (c : Charge) : Bool := decide (40 < c.tiers.length) || decide (40 < c.adjusts.length) || decide (200 < c.meter.size)
def headGreat (p : Plan) : Bool := decide (20 < p.meters.length) || decide (40 < p.fees.length) || decide (40 < p.charges.length) || decide (200 < p.name.size) || decide (200 < p.cur.size)
def great (p : Plan) : Bool := headGreat p || p.meters.any meterGreat || p.charges.any chargeGreat
theorem any_none {α : Type} {q : α → Bool} {l : List α} (h : ∀ (j : Nat) (x : α), l[j]? = some x → q x = false) : l.any q = false := by
  rw [List.any_eq_false]
  intro x hx
  obtain ⟨j, hj, e⟩ := List.getElem_of_mem hx
  rw [h j x (by rw [List.getElem?_eq_getElem hj, e])]
  simp
theorem any_some {α : Type} {q : α → Bool} {l : List α} {j : Nat} {x : α} (hj : l[j]? = some x) (h : q x = true) : l.any q = true := List.any_eq_true.2 ⟨x, List.mem_of_getElem? hj, h⟩
set_option maxHeartbeats 2000000 in
theorem great_any (p : Plan) (ma : Option Addr) (mc : Nat) (fa : Option Addr) (fc : Nat) (ca : Option Addr) (cc : Nat) (w : World) (hp : PlanLies w (planC p ma mc fa fc ca cc) p ma mc fa fc ca cc) :
    Calls Try.prog 9 #[.agg (planC p ma mc fa fc ca cc).toArray] w fun e w' => e = .returned (.bool (great p)) ∧ Below w.heap.size w w' := by
  obtain ⟨w1, hw1⟩ : ∃ w1, w1 = w.alloc (.cells (planC p ma mc fa fc ca cc).toArray 28) := ⟨_, rfl⟩
  have b1 : Below w.heap.size w w1 := by rw [hw1]; exact bel_alloc _ _
  by_cases hh : headGreat p = true
  · have fin : great p = true := by unfold great; rw [hh]; rfl
    rw [fin]
    unfold headGreat at hh
    simp only [Bool.or_eq_true, decide_eq_true_eq] at hh
    clear fin hw1 b1
    unfold planC
    go_enter Try.func9, Try.ntmps9
    go_wp2
    all_goals
      go_ret
      exact ⟨rfl, bel_alloc _ _⟩
  · have hh' : headGreat p = false := by simpa using hh
    unfold headGreat at hh'
    simp only [Bool.or_eq_false_iff, decide_eq_false_iff_not] at hh'
    obtain ⟨⟨⟨⟨g1, g2⟩, g3⟩, g4⟩, g5⟩ := hh'
    have fin : great p = (p.meters.any meterGreat || p.charges.any chargeGreat) := by unfold great; rw [show headGreat p = false by simpa using hh]; rfl
    rw [fin]
    have h1 : ¬ (20 : Int) < (p.meters.length : Int) := by omega
    have h2 : ¬ (40 : Int) < (p.fees.length : Int) := by omega
    have h3 : ¬ (40 : Int) < (p.charges.length : Int) := by omega
    have h4 : ¬ (200 : Int) < (p.name.size : Int) := by omega
    have h5 : ¬ (200 : Int) < (p.cur.size : Int) := by omega
    clear hh fin g1 g2 g3 g4 g5
    have hM := hid hp.meters
    have hC := hid hp.charges
    clear hp
    obtain ⟨R, hR⟩ : ∃ R : Bool, R = (p.meters.any meterGreat || p.charges.any chargeGreat) := ⟨_, rfl⟩
    rw [← hR]
    replace hR := hid hR
    unfold planC at hw1 ⊢
    go_enter Try.func9, Try.ntmps9
    go_wp2
    rw [← hw1]
    go_loopw [38] (fun i wr => ∃ i' : Int, i = .int .i64 i' ∧ 0 ≤ i' ∧ i' ≤ p.meters.length ∧ Hid (∀ (j : Nat) (x : Meter), p.meters[j]? = some x → j < i'.toNat → meterGreat x = false) ∧ Hid (Below w1.heap.size w1 wr)) (fun i _ => ((p.meters.length : Int) - intOf i).toNat)
    case atStart => exact ⟨0, rfl, by omega, by omega, hid fun _ _ _ h => absurd h (Nat.not_lt_zero _), hid (Below.refl _ _)⟩
    case round =>
      obtain ⟨i', rfl, i0, i1, hno, hb⟩ := hrel
      have bb := bel_on b1 hb.out
      by_cases hlt : i' < p.meters.length
      · have hil : i'.toNat < p.meters.length := by omega
        have ht : p.meters[i'.toNat]? = some (p.meters[i'.toNat]'hil) := List.getElem?_eq_getElem hil
        obtain ⟨m, hm⟩ : ∃ m, m = p.meters[i'.toNat]'hil := ⟨_, rfl⟩
        rw [← hm] at ht
        have hr := hM.out.on bb
        obtain ⟨b, o, e, lb, a0, a1, a2, a3, a4, _⟩ := meter_at hr ht
        subst e
        by_cases k : meterGreat m = true
        · have fin : R = true := by rw [hR.out, any_some ht k]; rfl
          unfold meterGreat at k
          simp only [Bool.or_eq_true, decide_eq_true_eq] at k
          have Fin := hid fin
          have bb2 := hid bb
          clear hm ht hr fin hno hb bb
          go_wp2
          all_goals
            go_ret
            exact ⟨ret_b Fin.out.symm, bel_on bb2.out (bel_alloc _ _)⟩
        · have k' : meterGreat m = false := by simpa using k
          have hno2 : Hid (∀ (j : Nat) (x : Meter), p.meters[j]? = some x → j < (i' + 1).toNat → meterGreat x = false) := hid fun j x hj hlt => by
            by_cases e : j = i'.toNat
            · subst e; rw [ht] at hj; obtain rfl := Option.some.inj hj; exact k'
            · exact hno.out j x hj (by omega)
          unfold meterGreat at k'
          simp only [Bool.or_eq_false_iff, decide_eq_false_iff_not] at k'
          have k1 : ¬ (200 : Int) < (m.name.size : Int) := by omega
          have k2 : ¬ (200 : Int) < (m.unit.size : Int) := by omega
          have hb2 := hid (hb.out.alloc hb.out.size (.cells #[.string m.name, .string m.unit, .int .i64 m.max, .int .i64 m.line, .int .i64 m.col] 38))
          clear hm ht hr hno hb bb k k'
          go_wp2
          go_roundw
          case rel => exact ⟨i' + 1, rfl, by omega, by omega, hno2, hb2⟩
          case measure => simp [intOf]; omega
      · obtain rfl : i' = p.meters.length := by omega
        have hfin : Hid (R = p.charges.any chargeGreat) := hid (by
          rw [hR.out, any_none fun j x hj => hno.out j x hj (by have := (List.getElem?_eq_some_iff.1 hj).1; omega)]; rfl)
        have c10 : wr.cell? ⟨w.heap.size, 10, none⟩ = some (.slice ca p.charges.length cc) := by
          rw [hb.out.cell (by rw [hw1]; simp), hw1, World.cell?_alloc_new]; rfl
        have lw : w.heap.size < wr.heap.size := Nat.lt_of_lt_of_le (by rw [hw1]; simp) hb.out.size
        have bb2 := hid bb
        have hC1 := hid (hC.out.on bb)
        clear hno hR hb bb hM hC
        go_wp2
        obtain ⟨wc, hwc⟩ : ∃ wc, wc = wr := ⟨_, rfl⟩
        rw [← hwc] at hC1 bb2
        go_loopw [56] (fun i wr => ∃ i' : Int, i = .int .i64 i' ∧ 0 ≤ i' ∧ i' ≤ p.charges.length ∧ Hid (∀ (j : Nat) (x : Charge), p.charges[j]? = some x → j < i'.toNat → chargeGreat x = false) ∧ Hid (Below wc.heap.size wc wr)) (fun i _ => ((p.charges.length : Int) - intOf i).toNat)
        case atStart => exact ⟨0, rfl, by omega, by omega, hid fun _ _ _ h => absurd h (Nat.not_lt_zero _), hid (hwc ▸ Below.refl _ _)⟩
        case round =>
          obtain ⟨i', rfl, j0, j1, hno, hb⟩ := hrel
          have bb := bel_on bb2.out hb.out
          by_cases hlt : i' < p.charges.length
          · have hil : i'.toNat < p.charges.length := by omega
            have ht : p.charges[i'.toNat]? = some (p.charges[i'.toNat]'hil) := List.getElem?_eq_getElem hil
            obtain ⟨c, hm⟩ : ∃ m, m = p.charges[i'.toNat]'hil := ⟨_, rfl⟩
            rw [← hm] at ht
            obtain ⟨b, o, ta, tc, aa, ac, e, hat, _⟩ := charge_at (hC1.out.on hb.out) ht
            obtain ⟨lb, a0, a1, a2, a3, a4, a5, a6, a7, a8, a9, a10, a11, a12, a13, a14, a15⟩ := hat
            subst e
            by_cases k : chargeGreat c = true
            · have Fin : Hid (R = true) := hid (by rw [hfin.out, any_some ht k])
              unfold chargeGreat at k
              simp only [Bool.or_eq_true, decide_eq_true_eq] at k
              have bb3 := hid bb
              clear hm ht hno hb bb c10 lw
              go_wp2
              all_goals
                go_ret
                exact ⟨ret_b Fin.out.symm, bel_on bb3.out (bel_alloc _ _)⟩
            · have k' : chargeGreat c = false := by simpa using k
              have hno2 : Hid (∀ (j : Nat) (x : Charge), p.charges[j]? = some x → j < (i' + 1).toNat → chargeGreat x = false) := hid fun j x hj hlt => by
                by_cases e : j = i'.toNat
                · subst e; rw [ht] at hj; obtain rfl := Option.some.inj hj; exact k'
                · exact hno.out j x hj (by omega)
              unfold chargeGreat at k'
              simp only [Bool.or_eq_false_iff, decide_eq_false_iff_not] at k'
              have k1 : ¬ (40 : Int) < (c.tiers.length : Int) := by omega
              have k2 : ¬ (40 : Int) < (c.adjusts.length : Int) := by omega
              have k3 : ¬ (200 : Int) < (c.meter.size : Int) := by omega
              have hb2 := hid fun x => hb.out.alloc hb.out.size x
              clear hm ht hno hb bb k k' c10 lw
              go_wp2
              go_roundw
              case rel => exact ⟨i' + 1, rfl, by omega, by omega, hno2, hid (hb2.out _)⟩
              case measure => simp [intOf]; omega
          · obtain rfl : i' = p.charges.length := by omega
            have Fin : Hid (R = false) := hid (by
              rw [hfin.out, any_none fun j x hj => hno.out j x hj (by have := (List.getElem?_eq_some_iff.1 hj).1; omega)])
            have bb3 := hid bb
            clear hno hb bb c10 lw
            go_wp2
            go_ret
            exact ⟨ret_b Fin.out.symm, bb3.out⟩
end Go.Proofs.Ytfeccjcdpiopaaa.R6
