/- The laws of layer 6: TreePlain. -/
import Derived.Test.YtfeccjcdpiopaaaOwn2
import Derived.Test.YtfeccjcdpiopaaaL06c
import Derived.Test.YtfeccjcdpiopaaaTail
import Derived.BigQuiet
import Derived.Lib.QuietBelow
namespace Go.Proofs.Ytfeccjcdpiopaaa.L06
open Go.RowKit Go.Sort P Mm R6 Tl

theorem names_of {p : Plan} (h : great p = false) : ∀ m ∈ p.meters, m.name.size ≤ 200 := by
  unfold great at h
  simp only [Bool.or_eq_false_iff] at h
  intro m hm
  have := List.any_eq_false.1 h.1.2 m hm
  unfold meterGreat at this
  simp only [Bool.or_eq_true, decide_eq_true_eq, not_or, Nat.not_lt] at this
  exact this.1
section
variable (r : Plan) (ma : Option Addr) (mc : Nat) (fa : Option Addr) (fc : Nat) (ca : Option Addr) (cc : Nat) (hs : List Hd) (base : Nat) (wB : World) (bq : Nat)
/-- While the meters' names are written. -/
structure WrM (i : Nat) (W : World) : Prop where
  box : Box W bq (planC r ma mc fa fc ca cc)
  met : ∃ xs, W.ownsRow base 38 5 (.slice ma r.meters.length mc) r.meters.length xs ∧ ∀ (k : Nat) (m : Meter), i ≤ k → r.meters[k]? = some m → xs[k * 5]? = some (.string m.name)
  oth : ∀ s row, s ≠ .m → rowOf r ma mc fa fc ca cc hs s = some row → W.ownsRow base row.e row.size row.v row.n row.xs
  bel : Below wB.heap.size wB W
/-- While the charges' blocks, and the tiers' rates, are written. -/
structure WrC (i : Nat) (W : World) : Prop where
  box : Box W bq (planC r ma mc fa fc ca cc)
  chg : ∃ xs, W.ownsRow base 46 16 (.slice ca r.charges.length cc) r.charges.length xs ∧
    ∀ (k : Nat) (c : Charge) (d : Hd), r.charges[k]? = some c → hs[k]? = some d → (i ≤ k → xs[k * 16 + 9]? = some (.int .i64 c.block)) ∧ xs[k * 16 + 11]? = some (.slice d.ta c.tiers.length d.tc)
  rates : ∀ (k : Nat) (c : Charge) (d : Hd), r.charges[k]? = some c → hs[k]? = some d → ∃ ys, W.ownsRow base 49 2 (.slice d.ta c.tiers.length d.tc) c.tiers.length ys ∧ ∀ l, l < c.tiers.length → ∃ v, ys[l * 2 + 1]? = some (.int .i64 v)
  bel : Below wB.heap.size wB W
end
section
variable {r : Plan} {ma : Option Addr} {mc : Nat} {fa : Option Addr} {fc : Nat} {ca : Option Addr} {cc : Nat} {hs : List Hd} {base : Nat} {wB : World} {bq : Nat} {w0 : World}
theorem WrM.start {W : World} (hb : Box W bq (planC r ma mc fa fc ca cc)) (O : Owns W base (rowOf r ma mc fa fc ca cc hs)) (bl : Below wB.heap.size wB W) : WrM r ma mc fa fc ca cc hs base wB bq 0 W :=
  ⟨hb, ⟨_, O.own .m _ rfl, fun k m _ hk => by
    have := flat_get (cells := meterC) (n := 5) (fun _ => rfl) r.meters k m 0 (.string m.name) hk rfl
    simpa using this⟩, fun s row _ h => O.own s row h, bl⟩
theorem WrM.on {W W' : World} {i : Nat} (h : WrM r ma mc fa fc ca cc hs base wB bq i W) (b : Below W.heap.size W W') : WrM r ma mc fa fc ca cc hs base wB bq i W' := by
  obtain ⟨xs, h1, h2⟩ := h.met
  exact ⟨h.box.on b, ⟨xs, owns_on h1 b, h2⟩, fun s row hne hs' => owns_on (h.oth s row hne hs') b, bel_on h.bel b⟩
theorem WrM.cell {W : World} {i mb : Nat} (h : WrM r (some ⟨mb, 0, none⟩) mc fa fc ca cc hs base wB bq i W) {m : Meter} (hm : r.meters[i]? = some m) : W.cell? ⟨mb, i * 5, none⟩ = some (.string m.name) ∧ W.frozen? ⟨mb, i * 5, none⟩ = false := by
  obtain ⟨xs, h1, h2⟩ := h.met
  have hl := (List.getElem?_eq_some_iff.1 hm).1
  refine ⟨?_, World.ownsRow.frozenAt h1 _⟩
  rw [World.ownsRow.cellAt h1 _ (by omega)]
  exact h2 i m (Nat.le_refl _) hm
theorem WrM.next {W : World} {i mb : Nat} (O : Owns w0 base (rowOf r (some ⟨mb, 0, none⟩) mc fa fc ca cc hs)) (hq : mb ≠ bq) (hB : wB.heap.size ≤ mb) (h : WrM r (some ⟨mb, 0, none⟩) mc fa fc ca cc hs base wB bq i W) (u : Value) : WrM r (some ⟨mb, 0, none⟩) mc fa fc ca cc hs base wB bq (i + 1) (W.setCell ⟨mb, i * 5, none⟩ u) := by
  obtain ⟨xs, h1, h2⟩ := h.met
  refine ⟨h.box.other (p := ⟨mb, i * 5, none⟩) hq.symm u, ⟨_, (World.ownsRow.stored h1 (i * 5) u).1, fun k m hk hm => ?_⟩, fun s row hne hs' => ownsRow_setCell_other (h.oth s row hne hs') (fun e => hne (O.apart s .m _ _ mb hs' rfl e rfl)) u, h.bel.setCell hB _⟩
  rw [List.getElem?_set_ne (by omega)]
  exact h2 k m (by omega) hm
theorem WrC.start {i : Nat} {W : World} (h : WrM r ma mc fa fc ca cc hs base wB bq i W) : WrC r ma mc fa fc ca cc hs base wB bq 0 W := by
  refine ⟨h.box, ⟨_, h.oth .c _ (by decide) rfl, fun k c d hc hd => ?_⟩, fun k c d hc hd => ?_, h.bel⟩
  · have hz := zip_get hc hd
    exact ⟨fun _ => flat_get (cells := zC) zC_len _ k (c, d) 9 _ hz rfl, flat_get (cells := zC) zC_len _ k (c, d) 11 _ hz rfl⟩
  · refine ⟨_, h.oth (.t k) ⟨_, 2, d.ta, c.tiers.length, d.tc, c.tiers.flatMap tierC⟩ (by intro e; cases e) (by show Option.map _ ((r.charges.zip hs)[k]?) = _; rw [zip_get hc hd]; rfl), fun l hl => ?_⟩
    exact ⟨_, flat_get (cells := tierC) (n := 2) (fun _ => rfl) c.tiers l _ 1 _ (List.getElem?_eq_getElem hl) rfl⟩
theorem WrC.on {W W' : World} {i : Nat} (h : WrC r ma mc fa fc ca cc hs base wB bq i W) (b : Below W.heap.size W W') : WrC r ma mc fa fc ca cc hs base wB bq i W' := by
  obtain ⟨xs, h1, h2⟩ := h.chg
  exact ⟨h.box.on b, ⟨xs, owns_on h1 b, h2⟩, fun k c d hc hd => by
    obtain ⟨ys, g1, g2⟩ := h.rates k c d hc hd
    exact ⟨ys, owns_on g1 b, g2⟩, bel_on h.bel b⟩
theorem WrC.head {W : World} {i cb : Nat} (h : WrC r ma mc fa fc (some ⟨cb, 0, none⟩) cc hs base wB bq i W) {k : Nat} {c : Charge} {d : Hd} (hc : r.charges[k]? = some c) (hd : hs[k]? = some d) : W.cell? ⟨cb, k * 16 + 11, none⟩ = some (.slice d.ta c.tiers.length d.tc) := by
  obtain ⟨xs, h1, h2⟩ := h.chg
  have hl := (List.getElem?_eq_some_iff.1 hc).1
  rw [World.ownsRow.cellAt h1 _ (by omega)]
  exact (h2 k c d hc hd).2
theorem WrC.blk {W : World} {i cb : Nat} (h : WrC r ma mc fa fc (some ⟨cb, 0, none⟩) cc hs base wB bq i W) {c : Charge} {d : Hd} (hc : r.charges[i]? = some c) (hd : hs[i]? = some d) : W.cell? ⟨cb, i * 16 + 9, none⟩ = some (.int .i64 c.block) ∧ W.frozen? ⟨cb, i * 16 + 9, none⟩ = false := by
  obtain ⟨xs, h1, h2⟩ := h.chg
  have hl := (List.getElem?_eq_some_iff.1 hc).1
  refine ⟨?_, World.ownsRow.frozenAt h1 _⟩
  rw [World.ownsRow.cellAt h1 _ (by omega)]
  exact (h2 i c d hc hd).1 (Nat.le_refl _)
theorem WrC.next {W : World} {i cb : Nat} (O : Owns w0 base (rowOf r ma mc fa fc (some ⟨cb, 0, none⟩) cc hs)) (hq : cb ≠ bq) (hB : wB.heap.size ≤ cb) (h : WrC r ma mc fa fc (some ⟨cb, 0, none⟩) cc hs base wB bq i W) (u : Value) : WrC r ma mc fa fc (some ⟨cb, 0, none⟩) cc hs base wB bq (i + 1) (W.setCell ⟨cb, i * 16 + 9, none⟩ u) := by
  obtain ⟨xs, h1, h2⟩ := h.chg
  refine ⟨h.box.other (p := ⟨cb, i * 16 + 9, none⟩) hq.symm u, ⟨_, (World.ownsRow.stored h1 (i * 16 + 9) u).1, fun k c d hc hd => ⟨fun hk => ?_, ?_⟩⟩, fun k c d hc hd => ?_, h.bel.setCell hB _⟩
  · rw [List.getElem?_set_ne (by omega)]
    exact (h2 k c d hc hd).1 (by omega)
  · rw [List.getElem?_set_ne (by omega)]
    exact (h2 k c d hc hd).2
  · obtain ⟨ys, g1, g2⟩ := h.rates k c d hc hd
    refine ⟨ys, ownsRow_setCell_other g1 (fun e => ?_) u, g2⟩
    have := O.apart .c (.t k) _ _ cb rfl (own_t hc hd) rfl e
    cases this
theorem WrC.rate {W : World} {i l tb : Nat} (h : WrC r ma mc fa fc ca cc hs base wB bq i W) {k : Nat} {c : Charge} {d : Hd} (hc : r.charges[k]? = some c) (hd : hs[k]? = some d) (hl : l < c.tiers.length) (hta : d.ta = some ⟨tb, 0, none⟩) :
    (∃ v, W.cell? ⟨tb, l * 2 + 1, none⟩ = some (.int .i64 v)) ∧ W.frozen? ⟨tb, l * 2 + 1, none⟩ = false := by
  obtain ⟨ys, g1, g2⟩ := h.rates k c d hc hd
  rw [hta] at g1
  obtain ⟨v, hv⟩ := g2 l hl
  exact ⟨⟨v, by rw [World.ownsRow.cellAt g1 _ (by omega)]; exact hv⟩, World.ownsRow.frozenAt g1 _⟩
theorem WrC.turn {W : World} {i l tb cb : Nat} (O : Owns w0 base (rowOf r ma mc fa fc (some ⟨cb, 0, none⟩) cc hs)) (h : WrC r ma mc fa fc (some ⟨cb, 0, none⟩) cc hs base wB bq i W) {k : Nat} {c : Charge} {d : Hd} (hc : r.charges[k]? = some c) (hd : hs[k]? = some d) (hta : d.ta = some ⟨tb, 0, none⟩) (hq : tb ≠ bq) (hB : wB.heap.size ≤ tb) (v : Int) :
    WrC r ma mc fa fc (some ⟨cb, 0, none⟩) cc hs base wB bq i (W.setCell ⟨tb, l * 2 + 1, none⟩ (.int .i64 v)) := by
  have own : (Value.slice d.ta c.tiers.length d.tc).ownBlock = some tb := by rw [hta]; rfl
  obtain ⟨xs, h1, h2⟩ := h.chg
  refine ⟨h.box.other (p := ⟨tb, l * 2 + 1, none⟩) hq.symm _, ⟨xs, ownsRow_setCell_other h1 (fun e => ?_) _, h2⟩, fun k' c' d' hc' hd' => ?_, h.bel.setCell hB _⟩
  · have := O.apart .c (.t k) _ _ tb rfl (own_t hc hd) e own
    cases this
  · obtain ⟨ys, g1, g2⟩ := h.rates k' c' d' hc' hd'
    by_cases hk : k' = k
    · subst hk
      obtain rfl : c' = c := Option.some.inj (hc'.symm.trans hc)
      obtain rfl : d' = d := Option.some.inj (hd'.symm.trans hd)
      rw [hta] at g1 ⊢
      refine ⟨_, (World.ownsRow.stored g1 (l * 2 + 1) _).1, fun l' hl' => ?_⟩
      obtain ⟨v', hv'⟩ := g2 l' hl'
      by_cases he : l * 2 + 1 = l' * 2 + 1
      · exact ⟨v, by rw [he, List.getElem?_set_self (List.getElem?_eq_some_iff.1 hv').1]⟩
      · exact ⟨v', by rw [List.getElem?_set_ne he]; exact hv'⟩
    · refine ⟨ys, ownsRow_setCell_other g1 (fun e => hk ?_) _, g2⟩
      have := O.apart (.t k') (.t k) _ _ tb (own_t hc' hd') (own_t hc hd) e own
      simpa using this
end
set_option maxHeartbeats 8000000 in
set_option maxRecDepth 100000 in
theorem plain_walk {K : World → Prop} (D : TrO K) (p : Plan) (ma : Option Addr) (mc : Nat) (fa : Option Addr) (fc : Nat) (ca : Option Addr) (cc : Nat) (w : World) (k : K w)
    (hp : PlanLies w (planC p ma mc fa fc ca cc) p ma mc fa fc ca cc) :
    Calls Try.prog 7 #[.agg (planC p ma mc fa fc ca cc).toArray] w fun e w' => e = .returned (.bool true) ∧ Below w.heap.size w w' := by
  obtain ⟨w1, hw1⟩ : ∃ w1, w1 = w.alloc (.cells (planC p ma mc fa fc ca cc).toArray 28) := ⟨_, rfl⟩
  have b1 : Below w.heap.size w w1 := by rw [hw1]; exact bel_alloc _ _
  have s1 : w1.heap.size = w.heap.size + 1 := by rw [hw1]; simp
  have xA : Box w1 w.heap.size (planC p ma mc fa fc ca cc) := by rw [hw1]; exact Box.new _ _ _
  have cA := alive_any D.tr w1 (D.tr.keep k b1)
  have gP := fun W (hb : Below w.heap.size w W) => great_any p ma mc fa fc ca cc W (hp.on hb)
  have fr := fits_no (fits_of hp)
  obtain ⟨r, hr⟩ : ∃ r, r = noPl p := ⟨_, rfl⟩
  have hrr : noPl r = r := by rw [hr, no_no2]
  have PL : Hid (∀ W, Below w.heap.size w W → Mid p → Calls Try.prog 11 #[.agg #[.string p.name, .string p.cur, .int .i64 p.a.y, .int .i64 p.a.m, .int .i64 p.a.d, .int .i64 p.b.y, .int .i64 p.b.m, .int .i64 p.b.d, .slice ma p.meters.length mc, .slice fa p.fees.length fc, .slice ca p.charges.length cc, .int .i64 p.line, .int .i64 p.col]] W fun e w' => ∃ ma2 mc2 fa2 fc2 ca2 cc2 hs, e = .returned (.agg #[.string r.name, .string r.cur, .int .i64 r.a.y, .int .i64 r.a.m, .int .i64 r.a.d, .int .i64 r.b.y, .int .i64 r.b.m, .int .i64 r.b.d, .slice ma2 r.meters.length mc2, .slice fa2 r.fees.length fc2, .slice ca2 r.charges.length cc2, .int .i64 r.line, .int .i64 r.col]) ∧
      hs.length = r.charges.length ∧ Owns w' W.heap.size (rowOf r ma2 mc2 fa2 fc2 ca2 cc2 hs) ∧ Below W.heap.size W w') := hid fun W hb hm => by
    have := D.plain p ma mc fa fc ca cc W (D.tr.keep k hb) hm (hp.on hb)
    rw [← hr] at this
    exact this
  rw [← hr] at fr
  have CA : Hid (∀ W, Below w1.heap.size w1 W → W.cell? ⟨w.heap.size, 0, none⟩ = some (.string p.name) ∧ W.cell? ⟨w.heap.size, 1, none⟩ = some (.string p.cur) ∧ W.cell? ⟨w.heap.size, 2, none⟩ = some (.int .i64 p.a.y) ∧ W.cell? ⟨w.heap.size, 3, none⟩ = some (.int .i64 p.a.m) ∧ W.cell? ⟨w.heap.size, 4, none⟩ = some (.int .i64 p.a.d) ∧ W.cell? ⟨w.heap.size, 5, none⟩ = some (.int .i64 p.b.y) ∧ W.cell? ⟨w.heap.size, 6, none⟩ = some (.int .i64 p.b.m) ∧ W.cell? ⟨w.heap.size, 7, none⟩ = some (.int .i64 p.b.d) ∧ W.cell? ⟨w.heap.size, 8, none⟩ = some (.slice ma p.meters.length mc) ∧ W.cell? ⟨w.heap.size, 9, none⟩ = some (.slice fa p.fees.length fc) ∧ W.cell? ⟨w.heap.size, 10, none⟩ = some (.slice ca p.charges.length cc) ∧ W.cell? ⟨w.heap.size, 11, none⟩ = some (.int .i64 p.line) ∧ W.cell? ⟨w.heap.size, 12, none⟩ = some (.int .i64 p.col)) := hid fun W h => by
    have c := (xA.on h).cell
    exact ⟨c 0 _ rfl, c 1 _ rfl, c 2 _ rfl, c 3 _ rfl, c 4 _ rfl, c 5 _ rfl, c 6 _ rfl, c 7 _ rfl, c 8 _ rfl, c 9 _ rfl, c 10 _ rfl, c 11 _ rfl, c 12 _ rfl⟩
  have HW1 := hid hw1
  have HB1 := hid b1
  have HR := hid hr
  have HRR := hid hrr
  have HF := hid fr
  have lt1 := hid (show w.heap.size < w1.heap.size by omega)
  clear hw1 b1 s1 xA fr hr hrr
  unfold planC at HW1 gP ⊢
  have GP := hid gP
  clear gP
  go_enter Try.func7, Try.ntmps7
  go_wp2_with fail
  rw [← HW1.out]
  refine cA.mono ?_
  rintro e w2 ⟨rfl, b2⟩
  have P2 := CA.out w2 b2
  have l2 : w.heap.size < w2.heap.size := Nat.lt_of_lt_of_le lt1.out b2.size
  go_wp2_with fail
  refine (GP.out _ (bel_on HB1.out b2)).mono ?_
  rintro e w3 ⟨rfl, b3x⟩
  have b3 := bel_on b2 b3x
  have P3 := CA.out w3 b3
  have l3 : w.heap.size < w3.heap.size := Nat.lt_of_lt_of_le l2 b3x.size
  clear P2 l2
  rcases Bool.eq_false_or_eq_true (great p) with g1 | g1
  · rw [g1]
    clear P3
    go_wp2
    go_ret
    exact ⟨rfl, bel_on HB1.out b3⟩
  · rw [g1]
    have SM := hid (small_of g1)
    have hsn := hid (names_of g1)
    clear g1
    go_wp2_with fail
    refine (PL.out _ (bel_on HB1.out b3) (mid_of SM.out)).mono ?_
    rintro e w4 ⟨ma2, mc2, fa2, fc2, ca2, cc2, hs2, rfl, hl2, O4, b4x⟩
    obtain ⟨w5, hw5⟩ : ∃ w5, w5 = w4.alloc (.cells #[.string r.name, .string r.cur, .int .i64 r.a.y, .int .i64 r.a.m, .int .i64 r.a.d, .int .i64 r.b.y, .int .i64 r.b.m, .int .i64 r.b.d, .slice ma2 r.meters.length mc2, .slice fa2 r.fees.length fc2, .slice ca2 r.charges.length cc2, .int .i64 r.line, .int .i64 r.col] 28) := ⟨_, rfl⟩
    have b5x : Below w4.heap.size w4 w5 := by rw [hw5]; exact bel_alloc _ _
    have b15 := hid (bel_on b3 (bel_on b4x b5x))
    have X5 : Box w5 w4.heap.size (planC r ma2 mc2 fa2 fc2 ca2 cc2) := by rw [hw5]; exact Box.new _ _ _
    have L5 := hid (lies_of hl2 HF.out (O4.on b5x).own)
    have P5 := CA.out w5 b15.out
    have l5 : w.heap.size < w5.heap.size := Nat.lt_of_lt_of_le l3 (bel_on b4x b5x).size
    obtain ⟨bp, hbp⟩ : ∃ bp, bp = w4.heap.size := ⟨_, rfl⟩
    rw [← hbp] at X5
    have PR : Hid (∀ W, Below w5.heap.size w5 W → Calls Try.prog 11 #[.agg #[.string r.name, .string r.cur, .int .i64 r.a.y, .int .i64 r.a.m, .int .i64 r.a.d, .int .i64 r.b.y, .int .i64 r.b.m, .int .i64 r.b.d, .slice ma2 r.meters.length mc2, .slice fa2 r.fees.length fc2, .slice ca2 r.charges.length cc2, .int .i64 r.line, .int .i64 r.col]] W fun e w' => ∃ ma3 mc3 fa3 fc3 ca3 cc3 hs, e = .returned (.agg #[.string r.name, .string r.cur, .int .i64 r.a.y, .int .i64 r.a.m, .int .i64 r.a.d, .int .i64 r.b.y, .int .i64 r.b.m, .int .i64 r.b.d, .slice ma3 r.meters.length mc3, .slice fa3 r.fees.length fc3, .slice ca3 r.charges.length cc3, .int .i64 r.line, .int .i64 r.col]) ∧
        hs.length = r.charges.length ∧ Owns w' W.heap.size (rowOf r ma3 mc3 fa3 fc3 ca3 cc3 hs) ∧ Below W.heap.size W w') := hid fun W hb => by
      have := D.plain r ma2 mc2 fa2 fc2 ca2 cc2 W (D.tr.keep k (bel_on HB1.out (bel_on b15.out hb))) (mid_of (by rw [HR.out]; exact small_no SM.out)) (L5.out.on hb)
      rw [HRR.out] at this
      exact this
    have HW5 := hid hw5
    have HX5 := hid X5
    have HBP := hid hbp
    clear P3 l3 b4x O4 X5 hw5 b5x hl2 hbp
    go_wp2_with fail
    rw [← HW5.out, ← HBP.out]
    have hx5 := HX5.out
    have lx5 := hx5.lt
    obtain ⟨x0, x1, x2, x3, x4, x5, x6, x7, x8, x9, x10, x11, x12⟩ : w5.cell? ⟨bp, 0, none⟩ = some (.string r.name) ∧ w5.cell? ⟨bp, 1, none⟩ = some (.string r.cur) ∧ w5.cell? ⟨bp, 2, none⟩ = some (.int .i64 r.a.y) ∧ w5.cell? ⟨bp, 3, none⟩ = some (.int .i64 r.a.m) ∧ w5.cell? ⟨bp, 4, none⟩ = some (.int .i64 r.a.d) ∧ w5.cell? ⟨bp, 5, none⟩ = some (.int .i64 r.b.y) ∧ w5.cell? ⟨bp, 6, none⟩ = some (.int .i64 r.b.m) ∧ w5.cell? ⟨bp, 7, none⟩ = some (.int .i64 r.b.d) ∧ w5.cell? ⟨bp, 8, none⟩ = some (.slice ma2 r.meters.length mc2) ∧ w5.cell? ⟨bp, 9, none⟩ = some (.slice fa2 r.fees.length fc2) ∧ w5.cell? ⟨bp, 10, none⟩ = some (.slice ca2 r.charges.length cc2) ∧ w5.cell? ⟨bp, 11, none⟩ = some (.int .i64 r.line) ∧ w5.cell? ⟨bp, 12, none⟩ = some (.int .i64 r.col) := by
      have c := hx5.cell
      exact ⟨c 0 _ rfl, c 1 _ rfl, c 2 _ rfl, c 3 _ rfl, c 4 _ rfl, c 5 _ rfl, c 6 _ rfl, c 7 _ rfl, c 8 _ rfl, c 9 _ rfl, c 10 _ rfl, c 11 _ rfl, c 12 _ rfl⟩
    go_wp2_with fail
    refine (PR.out _ (Below.refl _ _)).mono ?_
    rintro e w6 ⟨ma3, mc3, fa3, fc3, ca3, cc3, hs, rfl, hl, O6, b6x⟩
    obtain ⟨w7, hw7⟩ : ∃ w7, w7 = w6.alloc (.cells #[.string r.name, .string r.cur, .int .i64 r.a.y, .int .i64 r.a.m, .int .i64 r.a.d, .int .i64 r.b.y, .int .i64 r.b.m, .int .i64 r.b.d, .slice ma3 r.meters.length mc3, .slice fa3 r.fees.length fc3, .slice ca3 r.charges.length cc3, .int .i64 r.line, .int .i64 r.col] 28) := ⟨_, rfl⟩
    have b7x : Below w6.heap.size w6 w7 := by rw [hw7]; exact bel_alloc _ _
    have b57 := bel_on b6x b7x
    have X7 : Box w7 w6.heap.size (planC r ma3 mc3 fa3 fc3 ca3 cc3) := by rw [hw7]; exact Box.new _ _ _
    have O7 := O6.on b7x
    have L7 := hid (lies_of hl HF.out O7.own)
    have LT : Hid (∀ s row k, rowOf r ma3 mc3 fa3 fc3 ca3 cc3 hs s = some row → row.v.ownBlock = some k → w5.heap.size ≤ k ∧ k < w6.heap.size) := hid fun s row k a b => (O6.own s row a).lt k b
    obtain ⟨bq, hbq⟩ : ∃ bq, bq = w6.heap.size := ⟨_, rfl⟩
    rw [← hbq] at X7 LT
    have hq5 : w5.heap.size ≤ bq := by rw [hbq]; exact b6x.size
    have K26 : Hid (∀ w', Below w7.heap.size w7 w' → w'.cell? ⟨bp, 0, none⟩ = some (.string r.name) ∧ w'.cell? ⟨bp, 1, none⟩ = some (.string r.cur) ∧ w'.cell? ⟨bp, 2, none⟩ = some (.int .i64 r.a.y) ∧ w'.cell? ⟨bp, 3, none⟩ = some (.int .i64 r.a.m) ∧ w'.cell? ⟨bp, 4, none⟩ = some (.int .i64 r.a.d) ∧ w'.cell? ⟨bp, 5, none⟩ = some (.int .i64 r.b.y) ∧ w'.cell? ⟨bp, 6, none⟩ = some (.int .i64 r.b.m) ∧ w'.cell? ⟨bp, 7, none⟩ = some (.int .i64 r.b.d) ∧ w'.cell? ⟨bp, 8, none⟩ = some (.slice ma2 r.meters.length mc2) ∧ w'.cell? ⟨bp, 9, none⟩ = some (.slice fa2 r.fees.length fc2) ∧ w'.cell? ⟨bp, 10, none⟩ = some (.slice ca2 r.charges.length cc2) ∧ w'.cell? ⟨bp, 11, none⟩ = some (.int .i64 r.line) ∧ w'.cell? ⟨bp, 12, none⟩ = some (.int .i64 r.col) ∧ w'.cell? ⟨bq, 0, none⟩ = some (.string r.name) ∧ w'.cell? ⟨bq, 1, none⟩ = some (.string r.cur) ∧ w'.cell? ⟨bq, 2, none⟩ = some (.int .i64 r.a.y) ∧ w'.cell? ⟨bq, 3, none⟩ = some (.int .i64 r.a.m) ∧ w'.cell? ⟨bq, 4, none⟩ = some (.int .i64 r.a.d) ∧ w'.cell? ⟨bq, 5, none⟩ = some (.int .i64 r.b.y) ∧ w'.cell? ⟨bq, 6, none⟩ = some (.int .i64 r.b.m) ∧ w'.cell? ⟨bq, 7, none⟩ = some (.int .i64 r.b.d) ∧ w'.cell? ⟨bq, 8, none⟩ = some (.slice ma3 r.meters.length mc3) ∧ w'.cell? ⟨bq, 9, none⟩ = some (.slice fa3 r.fees.length fc3) ∧ w'.cell? ⟨bq, 10, none⟩ = some (.slice ca3 r.charges.length cc3) ∧ w'.cell? ⟨bq, 11, none⟩ = some (.int .i64 r.line) ∧ w'.cell? ⟨bq, 12, none⟩ = some (.int .i64 r.col)) := hid fun w' h => by
      have c := (HX5.out.on (bel_on b57 h)).cell
      have e := (X7.on h).cell
      exact ⟨c 0 _ rfl, c 1 _ rfl, c 2 _ rfl, c 3 _ rfl, c 4 _ rfl, c 5 _ rfl, c 6 _ rfl, c 7 _ rfl, c 8 _ rfl, c 9 _ rfl, c 10 _ rfl, c 11 _ rfl, c 12 _ rfl, e 0 _ rfl, e 1 _ rfl, e 2 _ rfl, e 3 _ rfl, e 4 _ rfl, e 5 _ rfl, e 6 _ rfl, e 7 _ rfl, e 8 _ rfl, e 9 _ rfl, e 10 _ rfl, e 11 _ rfl, e 12 _ rfl⟩
    have SR := hid (show Small r by rw [HR.out]; exact small_no SM.out)
    have RS : Hid (∀ W, Below w7.heap.size w7 W → Calls Try.prog 13 #[.agg #[.string r.name, .string r.cur, .int .i64 r.a.y, .int .i64 r.a.m, .int .i64 r.a.d, .int .i64 r.b.y, .int .i64 r.b.m, .int .i64 r.b.d, .slice ma2 r.meters.length mc2, .slice fa2 r.fees.length fc2, .slice ca2 r.charges.length cc2, .int .i64 r.line, .int .i64 r.col], .agg #[.string r.name, .string r.cur, .int .i64 r.a.y, .int .i64 r.a.m, .int .i64 r.a.d, .int .i64 r.b.y, .int .i64 r.b.m, .int .i64 r.b.d, .slice ma3 r.meters.length mc3, .slice fa3 r.fees.length fc3, .slice ca3 r.charges.length cc3, .int .i64 r.line, .int .i64 r.col]] W fun e w' => e = .returned (.bool true) ∧ Below W.heap.size W w') := hid fun W hb => by
      have h := same_any r r ma2 mc2 fa2 fc2 ca2 cc2 ma3 mc3 fa3 fc3 ca3 cc3 W (L5.out.on (bel_on b57 hb)) (L7.out.on hb) SR.out SR.out
      rw [show decide (row r = row r) = true by simp] at h
      exact h
    have PA : Hid (∀ W, Below w7.heap.size w7 W → Calls Try.prog 10 #[.agg #[.string r.name, .string r.cur, .int .i64 r.a.y, .int .i64 r.a.m, .int .i64 r.a.d, .int .i64 r.b.y, .int .i64 r.b.m, .int .i64 r.b.d, .slice ma2 r.meters.length mc2, .slice fa2 r.fees.length fc2, .slice ca2 r.charges.length cc2, .int .i64 r.line, .int .i64 r.col]] W fun e w' => ∃ ao cap, e = .returned (.slice ao (places r).length cap) ∧ Row tI w' ao (places r).length cap (places r) ∧ Below W.heap.size W w') := hid fun W hb =>
      places_slice r ma2 mc2 fa2 fc2 ca2 cc2 W (L5.out.on (bel_on b57 hb)) SR.out
    have PB : Hid (∀ W, Below w7.heap.size w7 W → Calls Try.prog 10 #[.agg #[.string r.name, .string r.cur, .int .i64 r.a.y, .int .i64 r.a.m, .int .i64 r.a.d, .int .i64 r.b.y, .int .i64 r.b.m, .int .i64 r.b.d, .slice ma3 r.meters.length mc3, .slice fa3 r.fees.length fc3, .slice ca3 r.charges.length cc3, .int .i64 r.line, .int .i64 r.col]] W fun e w' => ∃ ao cap, e = .returned (.slice ao (places r).length cap) ∧ Row tI w' ao (places r).length cap (places r) ∧ Below W.heap.size W w') := hid fun W hb =>
      places_slice r ma3 mc3 fa3 fc3 ca3 cc3 W (L7.out.on hb) SR.out
    have II : Hid (∀ aa ka ab kb W, Row tI W aa (places r).length ka (places r) → Row tI W ab (places r).length kb (places r) → Calls Try.prog 14 #[.slice aa (places r).length ka, .slice ab (places r).length kb] W fun e w' => e = .returned (.bool true) ∧ Below W.heap.size W w') := hid fun aa ka ab kb W h1 h2 => by
      have h := ints_any aa (places r).length ka ab (places r).length kb (places r) (places r) W h1 h2 (by have := places_len SR.out; omega)
      rw [show decide (places r = places r) = true by simp] at h
      exact h
    have HW7 := hid hw7
    have HX7 := hid X7
    have HO7 := hid O7
    have HL := hid hl
    have HBQ := hid hbq
    have B57 := hid b57
    have BB : Hid (Below w7.heap.size w7 w7.drew) := hid (Below.refl _ _).drew
    clear x0 x1 x2 x3 x4 x5 x6 x7 x8 x9 x10 x11 x12 hx5 lx5 hw7 b7x b57 X7 O7 O6 hl hbq b6x
    have lx7 : bq < w7.heap.size := HX7.out.lt
    have lp7 : bp < w7.heap.size := Nat.lt_of_lt_of_le HX5.out.lt B57.out.size
    obtain ⟨x0, x1, x2, x3, x4, x5, x6, x7, x8, x9, x10, x11, x12, y0, y1, y2, y3, y4, y5, y6, y7, y8, y9, y10, y11, y12⟩ := K26.out w7 (Below.refl _ _)
    go_wp2_with fail
    rw [← HW7.out, ← HBQ.out]
    go_region_held_law (fun w' => w'.cell? ⟨bp, 0, none⟩ = some (.string r.name) ∧ w'.cell? ⟨bp, 1, none⟩ = some (.string r.cur) ∧ w'.cell? ⟨bp, 2, none⟩ = some (.int .i64 r.a.y) ∧ w'.cell? ⟨bp, 3, none⟩ = some (.int .i64 r.a.m) ∧ w'.cell? ⟨bp, 4, none⟩ = some (.int .i64 r.a.d) ∧ w'.cell? ⟨bp, 5, none⟩ = some (.int .i64 r.b.y) ∧ w'.cell? ⟨bp, 6, none⟩ = some (.int .i64 r.b.m) ∧ w'.cell? ⟨bp, 7, none⟩ = some (.int .i64 r.b.d) ∧ w'.cell? ⟨bp, 8, none⟩ = some (.slice ma2 r.meters.length mc2) ∧ w'.cell? ⟨bp, 9, none⟩ = some (.slice fa2 r.fees.length fc2) ∧ w'.cell? ⟨bp, 10, none⟩ = some (.slice ca2 r.charges.length cc2) ∧ w'.cell? ⟨bp, 11, none⟩ = some (.int .i64 r.line) ∧ w'.cell? ⟨bp, 12, none⟩ = some (.int .i64 r.col) ∧ w'.cell? ⟨bq, 0, none⟩ = some (.string r.name) ∧ w'.cell? ⟨bq, 1, none⟩ = some (.string r.cur) ∧ w'.cell? ⟨bq, 2, none⟩ = some (.int .i64 r.a.y) ∧ w'.cell? ⟨bq, 3, none⟩ = some (.int .i64 r.a.m) ∧ w'.cell? ⟨bq, 4, none⟩ = some (.int .i64 r.a.d) ∧ w'.cell? ⟨bq, 5, none⟩ = some (.int .i64 r.b.y) ∧ w'.cell? ⟨bq, 6, none⟩ = some (.int .i64 r.b.m) ∧ w'.cell? ⟨bq, 7, none⟩ = some (.int .i64 r.b.d) ∧ w'.cell? ⟨bq, 8, none⟩ = some (.slice ma3 r.meters.length mc3) ∧ w'.cell? ⟨bq, 9, none⟩ = some (.slice fa3 r.fees.length fc3) ∧ w'.cell? ⟨bq, 10, none⟩ = some (.slice ca3 r.charges.length cc3) ∧ w'.cell? ⟨bq, 11, none⟩ = some (.int .i64 r.line) ∧ w'.cell? ⟨bq, 12, none⟩ = some (.int .i64 r.col))
      ((refine K26.out _ ?_; exact BB.out))
      (first
        | (go_at_call 13
           refine (RS.out _ BB.out).mono ?_
           rintro e w' ⟨rfl, b⟩
           replace BB := hid (BB.out.trans (b.mono BB.out.size))
           clear b)
        | (go_at_call_of 10 (Value.agg #[.string r.name, .string r.cur, .int .i64 r.a.y, .int .i64 r.a.m, .int .i64 r.a.d, .int .i64 r.b.y, .int .i64 r.b.m, .int .i64 r.b.d, .slice ma2 r.meters.length mc2, .slice fa2 r.fees.length fc2, .slice ca2 r.charges.length cc2, .int .i64 r.line, .int .i64 r.col])
           refine (PA.out _ BB.out).mono ?_
           rintro e w' ⟨aa, ka, rfl, h1, b⟩
           replace BB := hid (BB.out.trans (b.mono BB.out.size))
           have H1 := hid h1
           clear b h1)
        | (go_at_call 10
           refine (PB.out _ BB.out).mono ?_
           rintro e w' ⟨ab, kb, rfl, h2, b⟩
           replace BB := hid (BB.out.trans (b.mono BB.out.size))
           have H2 := hid h2
           replace H1 := hid (H1.out.on b)
           clear b h2)
        | (go_at_call 14
           refine (II.out _ _ _ _ _ H1.out H2.out).mono ?_
           rintro e w' ⟨rfl, b⟩
           replace BB := hid (BB.out.trans (b.mono BB.out.size))
           clear b))
    obtain ⟨w8, hw8⟩ : ∃ w8, w8 = w' := ⟨_, rfl⟩
    rw [← hw8] at BB ⊢
    have X8 := HX7.out.on BB.out
    have O8 := HO7.out.on BB.out
    have M8 := WrM.start (wB := w5) X8 O8 (bel_on B57.out BB.out)
    have hmb : ∃ mb, r.meters.length = 0 ∨ (ma3 = some ⟨mb, 0, none⟩ ∧ mb ≠ bq ∧ w5.heap.size ≤ mb) := by
      rcases (O8.own .m _ rfl).2 with ⟨_, h⟩ | ⟨g, cap, cur, h, _⟩
      · exact ⟨0, .inl h⟩
      · simp only [R.v, Value.slice.injEq] at h
        have := LT.out .m _ g rfl (by rw [R.v, h.1]; rfl)
        exact ⟨g, .inr ⟨h.1, by omega, this.1⟩⟩
    have HM := hid M8
    have HO8 := hid O8
    have hn20 : r.meters.length ≤ 20 := SR.out.meters
    have hnm := hid (show ∀ m ∈ r.meters, m.name.size ≤ 200 by
      intro m hm
      rw [HR.out] at hm
      simp only [noPl, List.mem_map] at hm
      obtain ⟨x, hx, rfl⟩ := hm
      exact hsn.out x hx)
    have z8 : w8.cell? ⟨bq, 8, none⟩ = some (.slice ma3 r.meters.length mc3) := X8.cell 8 _ rfl
    clear x0 x1 x2 x3 x4 x5 x6 x7 x8 x9 x10 x11 x12 y0 y1 y2 y3 y4 y5 y6 y7 y8 y9 y10 y11 y12 hw8 X8 O8 M8 RS PA PB II H1 H2 K26 lx7 lp7
    go_wp2
    go_loopw [31] (fun i wr => ∃ i' : Int, i = .int .i64 i' ∧ 0 ≤ i' ∧ i' ≤ r.meters.length ∧ Hid (WrM r ma3 mc3 fa3 fc3 ca3 cc3 hs w5.heap.size w5 bq i'.toNat wr)) (fun i _ => ((r.meters.length : Int) - intOf i).toNat)
    case atStart => exact ⟨0, rfl, by omega, by omega, HM⟩
    case round =>
      obtain ⟨i', rfl, i0, i1, hst⟩ := hrel
      clear z8
      by_cases hlt : i' < r.meters.length
      · obtain ⟨mb, hmb⟩ := hmb
        rcases hmb with h | ⟨rfl, hmq, hm5⟩
        · omega
        obtain ⟨m, hm⟩ : ∃ m, r.meters[i'.toNat]? = some m := ⟨_, List.getElem?_eq_getElem (by omega)⟩
        have hml : (m.name.size : Int) + 1 ≤ 9223372036854775807 := by have := hnm.out m (List.mem_of_getElem? hm); omega
        obtain ⟨c0, _⟩ := hst.out.cell hm
        have q8 := hst.out.box.cell 8 _ rfl
        have lq := hst.out.box.lt
        have k0 := cell_regrown c0
        have k8 := cell_regrown (show wr.cell? ⟨bq, 8, none⟩ = some (.slice (some ⟨mb, 0, none⟩) r.meters.length mc3) from q8)
        obtain ⟨s, hs0⟩ : ∃ s, s = m.name := ⟨_, rfl⟩
        simp only [← hs0] at k0 c0 hml
        have HMm := hid hm
        clear hs0 c0 q8 hm
        go_wp2
        refine Tl.region_tail_below 12 (by kernel_rfl) (by kernel_rfl) ?_
        simp only [List.take_succ_cons, List.take_zero, List.drop_succ_cons, List.drop_zero]
        repeat (go_big_quiet_step (fail))
        refine wpQuiet_nil ?_
        intro _ hw'
        obtain ⟨⟨dq, osq⟩, hw''⟩ := hw'
        subst hw''
        obtain ⟨w9, hw9⟩ : ∃ w9, w9 = grow (redrawn wr dq) osq := ⟨_, rfl⟩
        have b9 : Below wr.heap.size wr w9 := by rw [hw9]; exact below_regrown wr dq osq
        rw [← hw9]
        clear hw9 k0 k8
        have M9 := hst.out.on b9
        obtain ⟨_, f0⟩ := M9.cell HMm.out
        obtain ⟨c0, _⟩ := M9.cell HMm.out
        have HM9 := hid M9
        clear M9
        go_wp2
        go_roundw
        case rel => exact ⟨i' + 1, rfl, by omega, by omega, hid (by rw [show (i' + 1).toNat = i'.toNat + 1 by omega]; exact HM9.out.next HO8.out hmq hm5 _)⟩
        case measure => simp [intOf]; omega
      · obtain rfl : i' = r.meters.length := by omega
        have HC0 := hid (WrC.start hst.out)
        have q10 := hst.out.box.cell 10 _ rfl
        obtain ⟨wq, hwq⟩ : ∃ wq, wq = wr := ⟨_, rfl⟩
        subst hwq
        have hcb : ∃ cb, r.charges.length = 0 ∨ (ca3 = some ⟨cb, 0, none⟩ ∧ cb ≠ bq ∧ w5.heap.size ≤ cb) := by
          rcases (HO8.out.own .c _ rfl).2 with ⟨_, h⟩ | ⟨g, cap, cur, h, _⟩
          · exact ⟨0, .inl h⟩
          · simp only [R.v, Value.slice.injEq] at h
            have := LT.out .c _ g rfl (by rw [R.v, h.1]; rfl)
            exact ⟨g, .inr ⟨h.1, by omega, this.1⟩⟩
        have hn40 : r.charges.length ≤ 40 := SR.out.charges
        have hparts := hid SR.out.parts
        clear hmb HM hst i0 i1 hlt hnm
        go_wp2
        go_loopw [50] (fun i wr => ∃ i' : Int, i = .int .i64 i' ∧ 0 ≤ i' ∧ i' ≤ r.charges.length ∧ Hid (WrC r ma3 mc3 fa3 fc3 ca3 cc3 hs w5.heap.size w5 bq i'.toNat wr)) (fun i _ => ((r.charges.length : Int) - intOf i).toNat)
        case atStart => exact ⟨0, rfl, by omega, by omega, HC0⟩
        case round =>
          obtain ⟨i', rfl, i0, i1, hst⟩ := hrel
          clear q10
          by_cases hlt : i' < r.charges.length
          · obtain ⟨cb, hcb⟩ := hcb
            rcases hcb with h | ⟨rfl, hcq, hc5⟩
            · omega
            obtain ⟨c, hj⟩ : ∃ c, r.charges[i'.toNat]? = some c := ⟨_, List.getElem?_eq_getElem (by omega)⟩
            obtain ⟨d, hd⟩ : ∃ d, hs[i'.toNat]? = some d := ⟨_, List.getElem?_eq_getElem (by rw [HL.out]; omega)⟩
            obtain ⟨a9, f9⟩ := hst.out.blk hj hd
            have a10 := hst.out.box.cell 10 _ rfl
            have a11 := hst.out.head hj hd
            have lq := hst.out.box.lt
            have HJ := hid hj
            have HD := hid hd
            have hcn : c.tiers.length ≤ 40 := (hparts.out c (List.mem_of_getElem? hj)).1
            obtain ⟨wo, hwo⟩ : ∃ wo, wo = wr := ⟨_, rfl⟩
            subst hwo
            have HN := hid (hst.out.next HO8.out hcq hc5 (.int .i64 (wrap64 (c.block + 1))))
            have htb : ∃ tb, c.tiers.length = 0 ∨ (d.ta = some ⟨tb, 0, none⟩ ∧ tb ≠ bq ∧ w5.heap.size ≤ tb) := by
              have ht := HO8.out.own (.t i'.toNat) _ (own_t hj hd)
              rcases ht.2 with ⟨_, h⟩ | ⟨g, cap, cur, h, _⟩
              · exact ⟨0, .inl h⟩
              · simp only [R.v, Value.slice.injEq] at h
                have := LT.out (.t i'.toNat) _ g (own_t hj hd) (by rw [R.v, h.1]; rfl)
                exact ⟨g, .inr ⟨h.1, by omega, this.1⟩⟩
            clear hj hd hst
            go_wp2
            go_loopw [69] (fun l wr => ∃ l' : Int, l = .int .i64 l' ∧ 0 ≤ l' ∧ l' ≤ c.tiers.length ∧ Hid (WrC r ma3 mc3 fa3 fc3 (some ⟨cb, 0, none⟩) cc3 hs w5.heap.size w5 bq (i'.toNat + 1) wr)) (fun l _ => ((c.tiers.length : Int) - intOf l).toNat)
            case atStart => exact ⟨0, rfl, by omega, by omega, HN⟩
            case round =>
              obtain ⟨l', rfl, l0, l1, hst⟩ := hrel
              clear a9 f9 a10 a11 lq
              by_cases hll : l' < c.tiers.length
              · obtain ⟨tb, htb⟩ := htb
                rcases htb with h | ⟨hta, htq, ht5⟩
                · omega
                have a10 := hst.out.box.cell 10 _ rfl
                have a11 := hst.out.head HJ.out HD.out
                have lq := hst.out.box.lt
                obtain ⟨⟨v, r1⟩, r2⟩ := hst.out.rate (l := l'.toNat) HJ.out HD.out (by omega) hta
                have HTA := hid hta
                rw [hta] at a11
                clear hta
                go_wp2
                go_roundw
                case rel => exact ⟨l' + 1, rfl, by omega, by omega, hid (hst.out.turn HO8.out HJ.out HD.out HTA.out htq ht5 _)⟩
                case measure => simp [intOf]; omega
              · obtain rfl : l' = c.tiers.length := by omega
                go_wp2
                go_roundw
                case rel => exact ⟨i' + 1, rfl, by omega, by omega, hid (by rw [show (i' + 1).toNat = i'.toNat + 1 by omega]; exact hst.out)⟩
                case measure => simp [intOf]; omega
          · obtain rfl : i' = r.charges.length := by omega
            have bel := hst.out.bel
            have b1r := bel_on b15.out bel
            obtain ⟨x0, x1, x2, x3, x4, x5, x6, x7, x8, x9, x10, x11, x12⟩ := CA.out wr b1r
            have c := (HX5.out.on bel).cell
            obtain ⟨y0, y1, y2, y3, y4, y5, y6, y7, y8, y9, y10, y11, y12⟩ : wr.cell? ⟨bp, 0, none⟩ = some (.string r.name) ∧ wr.cell? ⟨bp, 1, none⟩ = some (.string r.cur) ∧ wr.cell? ⟨bp, 2, none⟩ = some (.int .i64 r.a.y) ∧ wr.cell? ⟨bp, 3, none⟩ = some (.int .i64 r.a.m) ∧ wr.cell? ⟨bp, 4, none⟩ = some (.int .i64 r.a.d) ∧ wr.cell? ⟨bp, 5, none⟩ = some (.int .i64 r.b.y) ∧ wr.cell? ⟨bp, 6, none⟩ = some (.int .i64 r.b.m) ∧ wr.cell? ⟨bp, 7, none⟩ = some (.int .i64 r.b.d) ∧ wr.cell? ⟨bp, 8, none⟩ = some (.slice ma2 r.meters.length mc2) ∧ wr.cell? ⟨bp, 9, none⟩ = some (.slice fa2 r.fees.length fc2) ∧ wr.cell? ⟨bp, 10, none⟩ = some (.slice ca2 r.charges.length cc2) ∧ wr.cell? ⟨bp, 11, none⟩ = some (.int .i64 r.line) ∧ wr.cell? ⟨bp, 12, none⟩ = some (.int .i64 r.col) := ⟨c 0 _ rfl, c 1 _ rfl, c 2 _ rfl, c 3 _ rfl, c 4 _ rfl, c 5 _ rfl, c 6 _ rfl, c 7 _ rfl, c 8 _ rfl, c 9 _ rfl, c 10 _ rfl, c 11 _ rfl, c 12 _ rfl⟩
            have lA : w.heap.size < wr.heap.size := Nat.lt_of_lt_of_le lt1.out b1r.size
            have lP : bp < wr.heap.size := Nat.lt_of_lt_of_le HX5.out.lt bel.size
            have RS : Hid (Calls Try.prog 13 #[.agg #[.string r.name, .string r.cur, .int .i64 r.a.y, .int .i64 r.a.m, .int .i64 r.a.d, .int .i64 r.b.y, .int .i64 r.b.m, .int .i64 r.b.d, .slice ma2 r.meters.length mc2, .slice fa2 r.fees.length fc2, .slice ca2 r.charges.length cc2, .int .i64 r.line, .int .i64 r.col], .agg #[.string p.name, .string p.cur, .int .i64 p.a.y, .int .i64 p.a.m, .int .i64 p.a.d, .int .i64 p.b.y, .int .i64 p.b.m, .int .i64 p.b.d, .slice ma p.meters.length mc, .slice fa p.fees.length fc, .slice ca p.charges.length cc, .int .i64 p.line, .int .i64 p.col]] wr fun e w' => e = .returned (.bool true) ∧ Below wr.heap.size wr w') := hid (by
              have h := same_any r p ma2 mc2 fa2 fc2 ca2 cc2 ma mc fa fc ca cc wr (L5.out.on bel) (hp.on (bel_on HB1.out b1r)) SR.out SM.out
              rw [show decide (row r = row p) = true by rw [HR.out, row_noPl]; simp] at h
              exact h)
            have HB1R := hid b1r
            clear c bel b1r hst hcb HC0
            go_wp2_with fail
            refine RS.out.mono ?_
            rintro e w9 ⟨rfl, b9⟩
            go_wp2
            go_ret
            exact ⟨rfl, bel_on HB1.out (bel_on HB1R.out b9)⟩
end Go.Proofs.Ytfeccjcdpiopaaa.L06
