/- The laws of layer 6: TreeSame. -/
import Derived.Test.YtfeccjcdpiopaaaL06b
namespace Go.Proofs.Ytfeccjcdpiopaaa.L06
open Go.RowKit Go.Sort P Mm R6

theorem small_no {p : Plan} (h : Small p) : Small (noPl p) := by
  refine ⟨by simpa [noPl] using h.meters, by simpa [noPl] using h.fees, by simpa [noPl] using h.charges, fun c hc => ?_⟩
  simp only [noPl, List.mem_map] at hc
  obtain ⟨d, hd, rfl⟩ := hc
  exact h.parts d hd
theorem no_no (p : Plan) : noPl (noPl p) = noPl p := by
  unfold noPl
  simp only [List.map_map]
  rfl
theorem places_no (p : Plan) : ∀ x ∈ places (noPl p), x = 0 := by
  intro x hx
  unfold places noPl at hx
  simp only [List.flatMap_map, List.mem_append, List.mem_flatMap] at hx
  rcases hx with ((h | ⟨m, _, h⟩) | ⟨m, _, h⟩) | ⟨m, _, h⟩
  · simpa using h
  · simpa [mP, nM] using h
  · simpa [fP, nF] using h
  · simpa [cP, nC] using h
theorem places_len {p : Plan} (h : Small p) : (places p).length ≤ 1000 := by
  have h1 := h.meters
  have h2 := h.fees
  have h3 := h.charges
  unfold places
  simp only [List.length_append, flat_len (f := mP) (n := 2) (fun _ => rfl), flat_len (f := fP) (n := 2) (fun _ => rfl), flat_len (f := cP) (n := 2) (fun _ => rfl)]
  show 2 + _ + _ + _ ≤ _
  omega
set_option maxHeartbeats 4000000 in
set_option maxRecDepth 100000 in
theorem same_walk {K : World → Prop} (D : Tr K) (p q : Plan) (ma : Option Addr) (mc : Nat) (fa : Option Addr) (fc : Nat) (ca : Option Addr) (cc : Nat) (ma' : Option Addr) (mc' : Nat) (fa' : Option Addr) (fc' : Nat) (ca' : Option Addr) (cc' : Nat) (w : World) (k : K w)
    (hp : PlanLies w (planC p ma mc fa fc ca cc) p ma mc fa fc ca cc) (hq : PlanLies w (planC q ma' mc' fa' fc' ca' cc') q ma' mc' fa' fc' ca' cc') :
    Calls Try.prog 3 #[.agg (planC p ma mc fa fc ca cc).toArray, .agg (planC q ma' mc' fa' fc' ca' cc').toArray] w fun e w' => e = .returned (.bool true) ∧ Below w.heap.size w w' := by
  obtain ⟨w1, hw1⟩ : ∃ w1, w1 = w.alloc (.cells (planC p ma mc fa fc ca cc).toArray 28) := ⟨_, rfl⟩
  obtain ⟨w2, hw2⟩ : ∃ w2, w2 = w1.alloc (.cells (planC q ma' mc' fa' fc' ca' cc').toArray 28) := ⟨_, rfl⟩
  have b1 : Below w.heap.size w w1 := by rw [hw1]; exact bel_alloc _ _
  have b12 : Below w1.heap.size w1 w2 := by rw [hw2]; exact bel_alloc _ _
  have s1 : w1.heap.size = w.heap.size + 1 := by rw [hw1]; simp
  have s2 : w2.heap.size = w.heap.size + 1 + 1 := by rw [hw2]; simp [s1]
  have B2 := bel_on b1 b12
  have cp : ∀ (j : Nat) (u : Value), (planC p ma mc fa fc ca cc)[j]? = some u → ∀ W, Below w2.heap.size w2 W → W.cell? ⟨w.heap.size, j, none⟩ = some u := fun j u h W hb => by
    rw [hb.cell (by show w.heap.size < w2.heap.size; omega), b12.cell (by show w.heap.size < w1.heap.size; omega), hw1]
    exact box13 h
  have cq : ∀ (j : Nat) (u : Value), (planC q ma' mc' fa' fc' ca' cc')[j]? = some u → ∀ W, Below w2.heap.size w2 W → W.cell? ⟨w.heap.size + 1, j, none⟩ = some u := fun j u h W hb => by
    rw [hb.cell (by show w.heap.size + 1 < w2.heap.size; omega), ← s1, hw2]
    exact box13 h
  have cA := alive_any D w2 (D.keep k B2)
  have gP := fun W (hb : Below w.heap.size w W) => great_any p ma mc fa fc ca cc W (hp.on hb)
  have gQ := fun W (hb : Below w.heap.size w W) => great_any q ma' mc' fa' fc' ca' cc' W (hq.on hb)
  have CP : Hid (∀ W, Below w2.heap.size w2 W → W.cell? ⟨w.heap.size, 0, none⟩ = some (.string p.name) ∧ W.cell? ⟨w.heap.size, 1, none⟩ = some (.string p.cur) ∧ W.cell? ⟨w.heap.size, 2, none⟩ = some (.int .i64 p.a.y) ∧ W.cell? ⟨w.heap.size, 3, none⟩ = some (.int .i64 p.a.m) ∧ W.cell? ⟨w.heap.size, 4, none⟩ = some (.int .i64 p.a.d) ∧ W.cell? ⟨w.heap.size, 5, none⟩ = some (.int .i64 p.b.y) ∧ W.cell? ⟨w.heap.size, 6, none⟩ = some (.int .i64 p.b.m) ∧ W.cell? ⟨w.heap.size, 7, none⟩ = some (.int .i64 p.b.d) ∧ W.cell? ⟨w.heap.size, 8, none⟩ = some (.slice ma p.meters.length mc) ∧ W.cell? ⟨w.heap.size, 9, none⟩ = some (.slice fa p.fees.length fc) ∧ W.cell? ⟨w.heap.size, 10, none⟩ = some (.slice ca p.charges.length cc) ∧ W.cell? ⟨w.heap.size, 11, none⟩ = some (.int .i64 p.line) ∧ W.cell? ⟨w.heap.size, 12, none⟩ = some (.int .i64 p.col)) := hid fun W h => ⟨cp 0 _ rfl W h, cp 1 _ rfl W h, cp 2 _ rfl W h, cp 3 _ rfl W h, cp 4 _ rfl W h, cp 5 _ rfl W h, cp 6 _ rfl W h, cp 7 _ rfl W h, cp 8 _ rfl W h, cp 9 _ rfl W h, cp 10 _ rfl W h, cp 11 _ rfl W h, cp 12 _ rfl W h⟩
  have CQ : Hid (∀ W, Below w2.heap.size w2 W → W.cell? ⟨w.heap.size + 1, 0, none⟩ = some (.string q.name) ∧ W.cell? ⟨w.heap.size + 1, 1, none⟩ = some (.string q.cur) ∧ W.cell? ⟨w.heap.size + 1, 2, none⟩ = some (.int .i64 q.a.y) ∧ W.cell? ⟨w.heap.size + 1, 3, none⟩ = some (.int .i64 q.a.m) ∧ W.cell? ⟨w.heap.size + 1, 4, none⟩ = some (.int .i64 q.a.d) ∧ W.cell? ⟨w.heap.size + 1, 5, none⟩ = some (.int .i64 q.b.y) ∧ W.cell? ⟨w.heap.size + 1, 6, none⟩ = some (.int .i64 q.b.m) ∧ W.cell? ⟨w.heap.size + 1, 7, none⟩ = some (.int .i64 q.b.d) ∧ W.cell? ⟨w.heap.size + 1, 8, none⟩ = some (.slice ma' q.meters.length mc') ∧ W.cell? ⟨w.heap.size + 1, 9, none⟩ = some (.slice fa' q.fees.length fc') ∧ W.cell? ⟨w.heap.size + 1, 10, none⟩ = some (.slice ca' q.charges.length cc') ∧ W.cell? ⟨w.heap.size + 1, 11, none⟩ = some (.int .i64 q.line) ∧ W.cell? ⟨w.heap.size + 1, 12, none⟩ = some (.int .i64 q.col)) := hid fun W h => ⟨cq 0 _ rfl W h, cq 1 _ rfl W h, cq 2 _ rfl W h, cq 3 _ rfl W h, cq 4 _ rfl W h, cq 5 _ rfl W h, cq 6 _ rfl W h, cq 7 _ rfl W h, cq 8 _ rfl W h, cq 9 _ rfl W h, cq 10 _ rfl W h, cq 11 _ rfl W h, cq 12 _ rfl W h⟩
  have HW1 := hid hw1
  have HW2 := hid hw2
  have HB2 := hid B2
  have lt2 := hid (show w.heap.size + 1 < w2.heap.size by omega)
  clear hw1 hw2 b1 b12 s1 s2 cp cq B2
  unfold planC at HW1 HW2 gP gQ ⊢
  have GP := hid gP
  have GQ := hid gQ
  clear gP gQ
  go_enter Try.func3, Try.ntmps3
  go_wp2_with fail
  rw [← HW1.out, ← HW2.out]
  refine cA.mono ?_
  rintro e w3 ⟨rfl, b3⟩
  have P3 := CP.out w3 b3
  have l3 : w.heap.size + 1 < w3.heap.size := Nat.lt_of_lt_of_le lt2.out b3.size
  have l3' : w.heap.size < w3.heap.size := by omega
  go_wp2_with fail
  refine (GP.out _ (bel_on HB2.out b3)).mono ?_
  rintro e w4 ⟨rfl, b4x⟩
  have b4 := bel_on b3 b4x
  have Q4 := CQ.out w4 b4
  have l4 : w.heap.size + 1 < w4.heap.size := Nat.lt_of_lt_of_le l3 b4x.size
  clear P3 l3 l3'
  rcases Bool.eq_false_or_eq_true (great p) with g1 | g1
  · rw [g1]
    clear Q4
    go_wp2
    go_ret
    exact ⟨rfl, bel_on HB2.out b4⟩
  · rw [g1]
    go_wp2_with fail
    refine (GQ.out _ (bel_on HB2.out b4)).mono ?_
    rintro e w5 ⟨rfl, b5x⟩
    have b5 := bel_on b4 b5x
    clear Q4 l4
    rcases Bool.eq_false_or_eq_true (great q) with g2 | g2
    · rw [g2]
      go_wp2
      go_ret
      exact ⟨rfl, bel_on HB2.out b5⟩
    · rw [g2]
      have sp := small_of g1
      have sq := small_of g2
      obtain ⟨r, hr⟩ : ∃ r, r = noPl p := ⟨_, rfl⟩
      have sr : Small r := by rw [hr]; exact small_no sp
      have PA : Hid (∀ W, Below w.heap.size w W → Calls Try.prog 10 #[.agg #[.string p.name, .string p.cur, .int .i64 p.a.y, .int .i64 p.a.m, .int .i64 p.a.d, .int .i64 p.b.y, .int .i64 p.b.m, .int .i64 p.b.d, .slice ma p.meters.length mc, .slice fa p.fees.length fc, .slice ca p.charges.length cc, .int .i64 p.line, .int .i64 p.col]] W fun e w' => ∃ ao cap, e = .returned (.slice ao (places p).length cap) ∧ Row tI w' ao (places p).length cap (places p) ∧ Below W.heap.size W w') := hid fun W hb => places_slice p ma mc fa fc ca cc W (hp.on hb) sp
      have PL : Hid (∀ W, Below w.heap.size w W → Calls Try.prog 11 #[.agg #[.string p.name, .string p.cur, .int .i64 p.a.y, .int .i64 p.a.m, .int .i64 p.a.d, .int .i64 p.b.y, .int .i64 p.b.m, .int .i64 p.b.d, .slice ma p.meters.length mc, .slice fa p.fees.length fc, .slice ca p.charges.length cc, .int .i64 p.line, .int .i64 p.col]] W fun e w' => ∃ ma2 mc2 fa2 fc2 ca2 cc2, e = .returned (.agg #[.string r.name, .string r.cur, .int .i64 r.a.y, .int .i64 r.a.m, .int .i64 r.a.d, .int .i64 r.b.y, .int .i64 r.b.m, .int .i64 r.b.d, .slice ma2 r.meters.length mc2, .slice fa2 r.fees.length fc2, .slice ca2 r.charges.length cc2, .int .i64 r.line, .int .i64 r.col]) ∧ PlanLies w' (planC r ma2 mc2 fa2 fc2 ca2 cc2) r ma2 mc2 fa2 fc2 ca2 cc2 ∧ Below W.heap.size W w') := hid fun W hb => by
        have := D.plain p ma mc fa fc ca cc W (D.keep k hb) (mid_of sp) (hp.on hb)
        rw [← hr] at this
        exact this
      have P5 := CP.out w5 b5
      have l5 : w.heap.size + 1 < w5.heap.size := Nat.lt_of_lt_of_le lt2.out b5.size
      have l5' : w.heap.size < w5.heap.size := by omega
      have hR0 := hid hr
      clear hr g1 g2
      go_wp2_with fail
      refine (PA.out _ (bel_on HB2.out b5)).mono ?_
      rintro e w6 ⟨aw, cw, rfl, hw6, b6x⟩
      have b6 := bel_on b5 b6x
      have P6 := CP.out w6 b6
      have l6 : w.heap.size < w6.heap.size := Nat.lt_of_lt_of_le l5' b6x.size
      have HW6 := hid hw6
      clear P5 l5 l5' hw6
      go_wp2_with fail
      refine (PL.out _ (bel_on HB2.out b6)).mono ?_
      rintro e w7 ⟨ma2, mc2, fa2, fc2, ca2, cc2, rfl, hr7, b7x⟩
      have b7 := bel_on b6 b7x
      obtain ⟨w8, hw8⟩ : ∃ w8, w8 = w7.alloc (.cells #[.string r.name, .string r.cur, .int .i64 r.a.y, .int .i64 r.a.m, .int .i64 r.a.d, .int .i64 r.b.y, .int .i64 r.b.m, .int .i64 r.b.d, .slice ma2 r.meters.length mc2, .slice fa2 r.fees.length fc2, .slice ca2 r.charges.length cc2, .int .i64 r.line, .int .i64 r.col] 28) := ⟨_, rfl⟩
      have b8x : Below w7.heap.size w7 w8 := by rw [hw8]; exact bel_alloc _ _
      have b8 := bel_on b7 b8x
      have hr8 := hr7.on b8x
      have lt8 := hid (show w7.heap.size < w8.heap.size by rw [hw8]; simp)
      have CR : Hid (∀ W, Below w8.heap.size w8 W → W.cell? ⟨w7.heap.size, 0, none⟩ = some (.string r.name) ∧ W.cell? ⟨w7.heap.size, 1, none⟩ = some (.string r.cur) ∧ W.cell? ⟨w7.heap.size, 2, none⟩ = some (.int .i64 r.a.y) ∧ W.cell? ⟨w7.heap.size, 3, none⟩ = some (.int .i64 r.a.m) ∧ W.cell? ⟨w7.heap.size, 4, none⟩ = some (.int .i64 r.a.d) ∧ W.cell? ⟨w7.heap.size, 5, none⟩ = some (.int .i64 r.b.y) ∧ W.cell? ⟨w7.heap.size, 6, none⟩ = some (.int .i64 r.b.m) ∧ W.cell? ⟨w7.heap.size, 7, none⟩ = some (.int .i64 r.b.d) ∧ W.cell? ⟨w7.heap.size, 8, none⟩ = some (.slice ma2 r.meters.length mc2) ∧ W.cell? ⟨w7.heap.size, 9, none⟩ = some (.slice fa2 r.fees.length fc2) ∧ W.cell? ⟨w7.heap.size, 10, none⟩ = some (.slice ca2 r.charges.length cc2) ∧ W.cell? ⟨w7.heap.size, 11, none⟩ = some (.int .i64 r.line) ∧ W.cell? ⟨w7.heap.size, 12, none⟩ = some (.int .i64 r.col)) := by
        have cr : ∀ (j : Nat) (u : Value), (planC r ma2 mc2 fa2 fc2 ca2 cc2)[j]? = some u → ∀ W, Below w8.heap.size w8 W → W.cell? ⟨w7.heap.size, j, none⟩ = some u := fun j u h W hb => by
          rw [hb.cell (by show w7.heap.size < w8.heap.size; exact lt8.out), hw8]
          exact box13 h
        exact hid fun W h => ⟨cr 0 _ rfl W h, cr 1 _ rfl W h, cr 2 _ rfl W h, cr 3 _ rfl W h, cr 4 _ rfl W h, cr 5 _ rfl W h, cr 6 _ rfl W h, cr 7 _ rfl W h, cr 8 _ rfl W h, cr 9 _ rfl W h, cr 10 _ rfl W h, cr 11 _ rfl W h, cr 12 _ rfl W h⟩
      have PR : Hid (∀ W, Below w8.heap.size w8 W → Calls Try.prog 10 #[.agg #[.string r.name, .string r.cur, .int .i64 r.a.y, .int .i64 r.a.m, .int .i64 r.a.d, .int .i64 r.b.y, .int .i64 r.b.m, .int .i64 r.b.d, .slice ma2 r.meters.length mc2, .slice fa2 r.fees.length fc2, .slice ca2 r.charges.length cc2, .int .i64 r.line, .int .i64 r.col]] W fun e w' => ∃ ao cap, e = .returned (.slice ao (places r).length cap) ∧ Row tI w' ao (places r).length cap (places r) ∧ Below W.heap.size W w') := hid fun W hb => places_slice r ma2 mc2 fa2 fc2 ca2 cc2 W (hr8.on hb) sr
      have hz := hid (show ∀ x ∈ places r, x = 0 by rw [hR0.out]; exact places_no p)
      have HR8 := hid hr8
      have HW8 := hid hw8
      have b68 := hid (bel_on b7x b8x)
      clear P6 l6 hw8 hr7 hr8 b8x b7x
      go_wp2_with fail
      rw [← HW8.out]
      have c8 := CR.out w8 (Below.refl _ _)
      have l8 := lt8.out
      refine (PR.out w8 (Below.refl _ _)).mono ?_
      rintro e w9 ⟨ar, cr, rfl, hw9, b9⟩
      have HW9 := hid hw9
      obtain ⟨n, hn⟩ : ∃ n, n = (places r).length := ⟨_, rfl⟩
      have hnb : n ≤ 1000 := by rw [hn]; exact places_len sr
      have HN := hid hn
      rw [← hn]
      clear c8 l8 hw9 hn
      go_wp2
      go_loop [24] (fun i => ∃ i' : Int, i = .int .i64 i' ∧ 0 ≤ i' ∧ i' ≤ n) (fun i => ((n : Int) - intOf i).toNat)
      case atStart => exact ⟨0, rfl, by omega, by omega⟩
      case round =>
        obtain ⟨i', rfl, i0, i1⟩ := hrel
        by_cases hlt : i' < n
        · have hil : i'.toNat < (places r).length := by rw [← HN.out]; omega
          have ht : (places r)[i'.toNat]? = some ((places r)[i'.toNat]'hil) := List.getElem?_eq_getElem hil
          rw [hz.out _ (List.getElem_mem hil)] at ht
          obtain ⟨b, o, e, lb, a0⟩ := int_at HW9.out ht
          subst e
          clear hil ht
          go_wp2
          go_round
          case rel => exact ⟨i' + 1, rfl, by omega, by omega⟩
          case measure => simp [intOf]; omega
        · obtain rfl : i' = n := by omega
          obtain ⟨R, hR⟩ : ∃ R : Bool, (R = true ↔ noPl p = noPl q) := by
            by_cases h : noPl p = noPl q
            · exact ⟨true, by simp [h]⟩
            · exact ⟨false, by simp [h]⟩
          have up := fun W (hb : Below w8.heap.size w8 W) => bel_on b8 hb
          have upw := fun W (hb : Below w8.heap.size w8 W) => bel_on HB2.out (up W hb)
          have SPQ : Hid (∀ W, Below w8.heap.size w8 W → Calls Try.prog 12 #[.agg #[.string p.name, .string p.cur, .int .i64 p.a.y, .int .i64 p.a.m, .int .i64 p.a.d, .int .i64 p.b.y, .int .i64 p.b.m, .int .i64 p.b.d, .slice ma p.meters.length mc, .slice fa p.fees.length fc, .slice ca p.charges.length cc, .int .i64 p.line, .int .i64 p.col], .agg #[.string q.name, .string q.cur, .int .i64 q.a.y, .int .i64 q.a.m, .int .i64 q.a.d, .int .i64 q.b.y, .int .i64 q.b.m, .int .i64 q.b.d, .slice ma' q.meters.length mc', .slice fa' q.fees.length fc', .slice ca' q.charges.length cc', .int .i64 q.line, .int .i64 q.col]] W fun e w' => e = .returned (.bool R) ∧ Below W.heap.size W w') := hid fun W hb =>
            (D.same p q ma mc fa fc ca cc ma' mc' fa' fc' ca' cc' W (D.keep k (upw W hb)) (hp.on (upw W hb)) (hq.on (upw W hb))).mono fun e w' ⟨b, h1, h2, h3⟩ => ⟨by rw [h2, Bool.eq_iff_iff.2 (h1.trans hR.symm)], h3⟩
          have SPP : Hid (∀ W, Below w8.heap.size w8 W → Calls Try.prog 12 #[.agg #[.string p.name, .string p.cur, .int .i64 p.a.y, .int .i64 p.a.m, .int .i64 p.a.d, .int .i64 p.b.y, .int .i64 p.b.m, .int .i64 p.b.d, .slice ma p.meters.length mc, .slice fa p.fees.length fc, .slice ca p.charges.length cc, .int .i64 p.line, .int .i64 p.col], .agg #[.string p.name, .string p.cur, .int .i64 p.a.y, .int .i64 p.a.m, .int .i64 p.a.d, .int .i64 p.b.y, .int .i64 p.b.m, .int .i64 p.b.d, .slice ma p.meters.length mc, .slice fa p.fees.length fc, .slice ca p.charges.length cc, .int .i64 p.line, .int .i64 p.col]] W fun e w' => e = .returned (.bool true) ∧ Below W.heap.size W w') := hid fun W hb =>
            (D.same p p ma mc fa fc ca cc ma mc fa fc ca cc W (D.keep k (upw W hb)) (hp.on (upw W hb)) (hp.on (upw W hb))).mono fun e w' ⟨b, h1, h2, h3⟩ => ⟨by rw [h2, h1.2 rfl], h3⟩
          have SPR : Hid (∀ W, Below w8.heap.size w8 W → Calls Try.prog 12 #[.agg #[.string p.name, .string p.cur, .int .i64 p.a.y, .int .i64 p.a.m, .int .i64 p.a.d, .int .i64 p.b.y, .int .i64 p.b.m, .int .i64 p.b.d, .slice ma p.meters.length mc, .slice fa p.fees.length fc, .slice ca p.charges.length cc, .int .i64 p.line, .int .i64 p.col], .agg #[.string r.name, .string r.cur, .int .i64 r.a.y, .int .i64 r.a.m, .int .i64 r.a.d, .int .i64 r.b.y, .int .i64 r.b.m, .int .i64 r.b.d, .slice ma2 r.meters.length mc2, .slice fa2 r.fees.length fc2, .slice ca2 r.charges.length cc2, .int .i64 r.line, .int .i64 r.col]] W fun e w' => e = .returned (.bool true) ∧ Below W.heap.size W w') := hid fun W hb =>
            (D.same p r ma mc fa fc ca cc ma2 mc2 fa2 fc2 ca2 cc2 W (D.keep k (upw W hb)) (hp.on (upw W hb)) (HR8.out.on hb)).mono fun e w' ⟨b, h1, h2, h3⟩ => ⟨by rw [h2, h1.2 (by rw [hR0.out, no_no])], h3⟩
          have RPQ : Hid (∀ W, Below w8.heap.size w8 W → Calls Try.prog 13 #[.agg #[.string p.name, .string p.cur, .int .i64 p.a.y, .int .i64 p.a.m, .int .i64 p.a.d, .int .i64 p.b.y, .int .i64 p.b.m, .int .i64 p.b.d, .slice ma p.meters.length mc, .slice fa p.fees.length fc, .slice ca p.charges.length cc, .int .i64 p.line, .int .i64 p.col], .agg #[.string q.name, .string q.cur, .int .i64 q.a.y, .int .i64 q.a.m, .int .i64 q.a.d, .int .i64 q.b.y, .int .i64 q.b.m, .int .i64 q.b.d, .slice ma' q.meters.length mc', .slice fa' q.fees.length fc', .slice ca' q.charges.length cc', .int .i64 q.line, .int .i64 q.col]] W fun e w' => e = .returned (.bool R) ∧ Below W.heap.size W w') := hid fun W hb => by
            have h := same_any p q ma mc fa fc ca cc ma' mc' fa' fc' ca' cc' W (hp.on (upw W hb)) (hq.on (upw W hb)) sp sq
            rw [show decide (row p = row q) = R by rw [Bool.eq_iff_iff, decide_eq_true_iff, hR]; exact row_inj (ok_of hp) (ok_of hq) sp sq] at h
            exact h
          have RPR : Hid (∀ W, Below w8.heap.size w8 W → Calls Try.prog 13 #[.agg #[.string p.name, .string p.cur, .int .i64 p.a.y, .int .i64 p.a.m, .int .i64 p.a.d, .int .i64 p.b.y, .int .i64 p.b.m, .int .i64 p.b.d, .slice ma p.meters.length mc, .slice fa p.fees.length fc, .slice ca p.charges.length cc, .int .i64 p.line, .int .i64 p.col], .agg #[.string r.name, .string r.cur, .int .i64 r.a.y, .int .i64 r.a.m, .int .i64 r.a.d, .int .i64 r.b.y, .int .i64 r.b.m, .int .i64 r.b.d, .slice ma2 r.meters.length mc2, .slice fa2 r.fees.length fc2, .slice ca2 r.charges.length cc2, .int .i64 r.line, .int .i64 r.col]] W fun e w' => e = .returned (.bool true) ∧ Below W.heap.size W w') := hid fun W hb => by
            have h := same_any p r ma mc fa fc ca cc ma2 mc2 fa2 fc2 ca2 cc2 W (hp.on (upw W hb)) (HR8.out.on hb) sp sr
            rw [show decide (row p = row r) = true by rw [hR0.out, row_noPl]; simp] at h
            exact h
          have II : Hid (∀ ab cb W, Below w8.heap.size w8 W → Row tI W ab (places p).length cb (places p) → Calls Try.prog 14 #[.slice aw (places p).length cw, .slice ab (places p).length cb] W fun e w' => e = .returned (.bool true) ∧ Below W.heap.size W w') := hid fun ab cb W hb hrow => by
            have h := ints_any aw (places p).length cw ab (places p).length cb (places p) (places p) W (HW6.out.on (bel_on b68.out hb)) hrow (by have := places_len sp; omega)
            rw [show decide (places p = places p) = true by simp] at h
            exact h
          have K13 : Hid (∀ w', Below w8.heap.size w8 w' → w'.cell? ⟨w.heap.size, 0, none⟩ = some (.string p.name) ∧ w'.cell? ⟨w.heap.size, 1, none⟩ = some (.string p.cur) ∧ w'.cell? ⟨w.heap.size, 2, none⟩ = some (.int .i64 p.a.y) ∧ w'.cell? ⟨w.heap.size, 3, none⟩ = some (.int .i64 p.a.m) ∧ w'.cell? ⟨w.heap.size, 4, none⟩ = some (.int .i64 p.a.d) ∧ w'.cell? ⟨w.heap.size, 5, none⟩ = some (.int .i64 p.b.y) ∧ w'.cell? ⟨w.heap.size, 6, none⟩ = some (.int .i64 p.b.m) ∧ w'.cell? ⟨w.heap.size, 7, none⟩ = some (.int .i64 p.b.d) ∧ w'.cell? ⟨w.heap.size, 8, none⟩ = some (.slice ma p.meters.length mc) ∧ w'.cell? ⟨w.heap.size, 9, none⟩ = some (.slice fa p.fees.length fc) ∧ w'.cell? ⟨w.heap.size, 10, none⟩ = some (.slice ca p.charges.length cc) ∧ w'.cell? ⟨w.heap.size, 11, none⟩ = some (.int .i64 p.line) ∧ w'.cell? ⟨w.heap.size, 12, none⟩ = some (.int .i64 p.col) ∧ w'.cell? ⟨w.heap.size + 1, 0, none⟩ = some (.string q.name) ∧ w'.cell? ⟨w.heap.size + 1, 1, none⟩ = some (.string q.cur) ∧ w'.cell? ⟨w.heap.size + 1, 2, none⟩ = some (.int .i64 q.a.y) ∧ w'.cell? ⟨w.heap.size + 1, 3, none⟩ = some (.int .i64 q.a.m) ∧ w'.cell? ⟨w.heap.size + 1, 4, none⟩ = some (.int .i64 q.a.d) ∧ w'.cell? ⟨w.heap.size + 1, 5, none⟩ = some (.int .i64 q.b.y) ∧ w'.cell? ⟨w.heap.size + 1, 6, none⟩ = some (.int .i64 q.b.m) ∧ w'.cell? ⟨w.heap.size + 1, 7, none⟩ = some (.int .i64 q.b.d) ∧ w'.cell? ⟨w.heap.size + 1, 8, none⟩ = some (.slice ma' q.meters.length mc') ∧ w'.cell? ⟨w.heap.size + 1, 9, none⟩ = some (.slice fa' q.fees.length fc') ∧ w'.cell? ⟨w.heap.size + 1, 10, none⟩ = some (.slice ca' q.charges.length cc') ∧ w'.cell? ⟨w.heap.size + 1, 11, none⟩ = some (.int .i64 q.line) ∧ w'.cell? ⟨w.heap.size + 1, 12, none⟩ = some (.int .i64 q.col) ∧ w'.cell? ⟨w7.heap.size, 0, none⟩ = some (.string r.name) ∧ w'.cell? ⟨w7.heap.size, 1, none⟩ = some (.string r.cur) ∧ w'.cell? ⟨w7.heap.size, 2, none⟩ = some (.int .i64 r.a.y) ∧ w'.cell? ⟨w7.heap.size, 3, none⟩ = some (.int .i64 r.a.m) ∧ w'.cell? ⟨w7.heap.size, 4, none⟩ = some (.int .i64 r.a.d) ∧ w'.cell? ⟨w7.heap.size, 5, none⟩ = some (.int .i64 r.b.y) ∧ w'.cell? ⟨w7.heap.size, 6, none⟩ = some (.int .i64 r.b.m) ∧ w'.cell? ⟨w7.heap.size, 7, none⟩ = some (.int .i64 r.b.d) ∧ w'.cell? ⟨w7.heap.size, 8, none⟩ = some (.slice ma2 r.meters.length mc2) ∧ w'.cell? ⟨w7.heap.size, 9, none⟩ = some (.slice fa2 r.fees.length fc2) ∧ w'.cell? ⟨w7.heap.size, 10, none⟩ = some (.slice ca2 r.charges.length cc2) ∧ w'.cell? ⟨w7.heap.size, 11, none⟩ = some (.int .i64 r.line) ∧ w'.cell? ⟨w7.heap.size, 12, none⟩ = some (.int .i64 r.col) ∧ Below w8.heap.size w8 w') := hid fun w' h => by
            obtain ⟨x0, x1, x2, x3, x4, x5, x6, x7, x8, x9, x10, x11, x12⟩ := CP.out w' (bel_on b8 h)
            obtain ⟨y0, y1, y2, y3, y4, y5, y6, y7, y8, y9, y10, y11, y12⟩ := CQ.out w' (bel_on b8 h)
            obtain ⟨z0, z1, z2, z3, z4, z5, z6, z7, z8, z9, z10, z11, z12⟩ := CR.out w' h
            exact ⟨x0, x1, x2, x3, x4, x5, x6, x7, x8, x9, x10, x11, x12, y0, y1, y2, y3, y4, y5, y6, y7, y8, y9, y10, y11, y12, z0, z1, z2, z3, z4, z5, z6, z7, z8, z9, z10, z11, z12, h⟩
          have PA8 : Hid (∀ W, Below w8.heap.size w8 W → _) := hid fun W hb => PA.out W (upw W hb)
          have BB := hid b9.drew
          have Bend := hid upw
          clear up upw hR hz HR8 HW8 CP CQ CR HW9 HN HW6 PR PL PA hR0 HW1 HW2 GP GQ cA b68 lt8 lt2 hlt hp hq sp sq sr k D hnb i0 i1 b3 b4x b4 b5x b5 b6x b6 b7 b8 b9
          go_wp2_with fail
          go_region_held_law (fun w' => w'.cell? ⟨w.heap.size, 0, none⟩ = some (.string p.name) ∧ w'.cell? ⟨w.heap.size, 1, none⟩ = some (.string p.cur) ∧ w'.cell? ⟨w.heap.size, 2, none⟩ = some (.int .i64 p.a.y) ∧ w'.cell? ⟨w.heap.size, 3, none⟩ = some (.int .i64 p.a.m) ∧ w'.cell? ⟨w.heap.size, 4, none⟩ = some (.int .i64 p.a.d) ∧ w'.cell? ⟨w.heap.size, 5, none⟩ = some (.int .i64 p.b.y) ∧ w'.cell? ⟨w.heap.size, 6, none⟩ = some (.int .i64 p.b.m) ∧ w'.cell? ⟨w.heap.size, 7, none⟩ = some (.int .i64 p.b.d) ∧ w'.cell? ⟨w.heap.size, 8, none⟩ = some (.slice ma p.meters.length mc) ∧ w'.cell? ⟨w.heap.size, 9, none⟩ = some (.slice fa p.fees.length fc) ∧ w'.cell? ⟨w.heap.size, 10, none⟩ = some (.slice ca p.charges.length cc) ∧ w'.cell? ⟨w.heap.size, 11, none⟩ = some (.int .i64 p.line) ∧ w'.cell? ⟨w.heap.size, 12, none⟩ = some (.int .i64 p.col) ∧ w'.cell? ⟨w.heap.size + 1, 0, none⟩ = some (.string q.name) ∧ w'.cell? ⟨w.heap.size + 1, 1, none⟩ = some (.string q.cur) ∧ w'.cell? ⟨w.heap.size + 1, 2, none⟩ = some (.int .i64 q.a.y) ∧ w'.cell? ⟨w.heap.size + 1, 3, none⟩ = some (.int .i64 q.a.m) ∧ w'.cell? ⟨w.heap.size + 1, 4, none⟩ = some (.int .i64 q.a.d) ∧ w'.cell? ⟨w.heap.size + 1, 5, none⟩ = some (.int .i64 q.b.y) ∧ w'.cell? ⟨w.heap.size + 1, 6, none⟩ = some (.int .i64 q.b.m) ∧ w'.cell? ⟨w.heap.size + 1, 7, none⟩ = some (.int .i64 q.b.d) ∧ w'.cell? ⟨w.heap.size + 1, 8, none⟩ = some (.slice ma' q.meters.length mc') ∧ w'.cell? ⟨w.heap.size + 1, 9, none⟩ = some (.slice fa' q.fees.length fc') ∧ w'.cell? ⟨w.heap.size + 1, 10, none⟩ = some (.slice ca' q.charges.length cc') ∧ w'.cell? ⟨w.heap.size + 1, 11, none⟩ = some (.int .i64 q.line) ∧ w'.cell? ⟨w.heap.size + 1, 12, none⟩ = some (.int .i64 q.col) ∧ w'.cell? ⟨w7.heap.size, 0, none⟩ = some (.string r.name) ∧ w'.cell? ⟨w7.heap.size, 1, none⟩ = some (.string r.cur) ∧ w'.cell? ⟨w7.heap.size, 2, none⟩ = some (.int .i64 r.a.y) ∧ w'.cell? ⟨w7.heap.size, 3, none⟩ = some (.int .i64 r.a.m) ∧ w'.cell? ⟨w7.heap.size, 4, none⟩ = some (.int .i64 r.a.d) ∧ w'.cell? ⟨w7.heap.size, 5, none⟩ = some (.int .i64 r.b.y) ∧ w'.cell? ⟨w7.heap.size, 6, none⟩ = some (.int .i64 r.b.m) ∧ w'.cell? ⟨w7.heap.size, 7, none⟩ = some (.int .i64 r.b.d) ∧ w'.cell? ⟨w7.heap.size, 8, none⟩ = some (.slice ma2 r.meters.length mc2) ∧ w'.cell? ⟨w7.heap.size, 9, none⟩ = some (.slice fa2 r.fees.length fc2) ∧ w'.cell? ⟨w7.heap.size, 10, none⟩ = some (.slice ca2 r.charges.length cc2) ∧ w'.cell? ⟨w7.heap.size, 11, none⟩ = some (.int .i64 r.line) ∧ w'.cell? ⟨w7.heap.size, 12, none⟩ = some (.int .i64 r.col) ∧ Below w8.heap.size w8 w')
            ((refine K13.out _ ?_; exact BB.out))
            (first
              | (go_at_call_of 12 (Value.agg #[.string q.name, .string q.cur, .int .i64 q.a.y, .int .i64 q.a.m, .int .i64 q.a.d, .int .i64 q.b.y, .int .i64 q.b.m, .int .i64 q.b.d, .slice ma' q.meters.length mc', .slice fa' q.fees.length fc', .slice ca' q.charges.length cc', .int .i64 q.line, .int .i64 q.col])
                 refine (SPQ.out _ BB.out).mono ?_
                 rintro e w' ⟨rfl, b⟩
                 replace BB := hid (BB.out.trans (b.mono BB.out.size))
                 clear b)
              | (go_at_call_of 12 (Value.agg #[.string r.name, .string r.cur, .int .i64 r.a.y, .int .i64 r.a.m, .int .i64 r.a.d, .int .i64 r.b.y, .int .i64 r.b.m, .int .i64 r.b.d, .slice ma2 r.meters.length mc2, .slice fa2 r.fees.length fc2, .slice ca2 r.charges.length cc2, .int .i64 r.line, .int .i64 r.col])
                 refine (SPR.out _ BB.out).mono ?_
                 rintro e w' ⟨rfl, b⟩
                 replace BB := hid (BB.out.trans (b.mono BB.out.size))
                 clear b)
              | (go_at_call 12
                 refine (SPP.out _ BB.out).mono ?_
                 rintro e w' ⟨rfl, b⟩
                 replace BB := hid (BB.out.trans (b.mono BB.out.size))
                 clear b)
              | (go_at_call_of 13 (Value.agg #[.string q.name, .string q.cur, .int .i64 q.a.y, .int .i64 q.a.m, .int .i64 q.a.d, .int .i64 q.b.y, .int .i64 q.b.m, .int .i64 q.b.d, .slice ma' q.meters.length mc', .slice fa' q.fees.length fc', .slice ca' q.charges.length cc', .int .i64 q.line, .int .i64 q.col])
                 refine (RPQ.out _ BB.out).mono ?_
                 rintro e w' ⟨rfl, b⟩
                 replace BB := hid (BB.out.trans (b.mono BB.out.size))
                 clear b)
              | (go_at_call 13
                 refine (RPR.out _ BB.out).mono ?_
                 rintro e w' ⟨rfl, b⟩
                 replace BB := hid (BB.out.trans (b.mono BB.out.size))
                 clear b)
              | (go_at_call 10
                 refine (PA8.out _ BB.out).mono ?_
                 rintro e w' ⟨ab, cb, rfl, h2, b⟩
                 replace BB := hid (BB.out.trans (b.mono BB.out.size))
                 have H2 := hid h2
                 clear b h2)
              | (go_at_call 14
                 refine (II.out _ _ _ BB.out H2.out).mono ?_
                 rintro e w' ⟨rfl, b⟩
                 replace BB := hid (BB.out.trans (b.mono BB.out.size))
                 clear b))
          go_wp2
          go_ret
          exact ⟨rfl, Bend.out _ BB.out⟩
end Go.Proofs.Ytfeccjcdpiopaaa.L06
