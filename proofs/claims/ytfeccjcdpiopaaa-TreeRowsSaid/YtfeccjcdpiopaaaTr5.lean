/- Package tree, walked: Same. -/
import Derived.Test.YtfeccjcdpiopaaaTr4
import Derived.Test.YtfeccjcdpiopaaaTreeQ
namespace Go.Proofs.Ytfeccjcdpiopaaa.Te
open Go.RowKit Go.Sort P Mm R6 Tl

/-- Whether two plans are one, but for places. -/
def sameP (p q : Plan) : Bool := (p.name.toList == q.name.toList) && (p.cur.toList == q.cur.toList) && (p.a.y == q.a.y) && (p.a.m == q.a.m) && (p.a.d == q.a.d) && (p.b.y == q.b.y) && (p.b.m == q.b.m) && (p.b.d == q.b.d) && eqL sameM p.meters q.meters && eqL sameF p.fees q.fees && eqL sameC p.charges q.charges
set_option maxHeartbeats 8000000 in
set_option maxRecDepth 100000 in
theorem sameP_any (p q : Plan) (ma : Option Addr) (mc : Nat) (fa : Option Addr) (fc : Nat) (ca : Option Addr) (cc : Nat) (ma' : Option Addr) (mc' : Nat) (fa' : Option Addr) (fc' : Nat) (ca' : Option Addr) (cc' : Nat) (w : World) (hp : PlanLies w (planC p ma mc fa fc ca cc) p ma mc fa fc ca cc) (hq : PlanLies w (planC q ma' mc' fa' fc' ca' cc') q ma' mc' fa' fc' ca' cc') :
    Calls Try.prog 12 #[.agg (planC p ma mc fa fc ca cc).toArray, .agg (planC q ma' mc' fa' fc' ca' cc').toArray] w fun e w' => e = .returned (.bool (sameP p q)) ∧ Below w.heap.size w w' := by
  obtain ⟨w1, hw1⟩ : ∃ w1, w1 = (w.alloc (.cells (planC p ma mc fa fc ca cc).toArray 28)).alloc (.cells (planC q ma' mc' fa' fc' ca' cc').toArray 28) := ⟨_, rfl⟩
  have b1 : Below w.heap.size w w1 := by rw [hw1]; exact bel_alloc2 ..
  have s1 : w1.heap.size = w.heap.size + 2 := by rw [hw1]; simp
  have cM := fun W (hb : Below w.heap.size w W) => eachM_any p.meters q.meters ma mc ma' mc' W (hp.meters.on hb) (hq.meters.on hb)
  have cF := fun W (hb : Below w.heap.size w W) => eachF_any p.fees q.fees fa fc fa' fc' W (hp.fees.on hb) (hq.fees.on hb)
  have cC := fun W (hb : Below w.heap.size w W) => eachC_any p.charges q.charges ca cc ca' cc' W (hp.charges.on hb) (hq.charges.on hb)
  have K : Hid (∀ W, Below w1.heap.size w1 W → W.cell? ⟨w.heap.size, 8, none⟩ = some (.slice ma p.meters.length mc) ∧ W.cell? ⟨w.heap.size, 9, none⟩ = some (.slice fa p.fees.length fc) ∧ W.cell? ⟨w.heap.size, 10, none⟩ = some (.slice ca p.charges.length cc) ∧ W.cell? ⟨w.heap.size + 1, 8, none⟩ = some (.slice ma' q.meters.length mc') ∧ W.cell? ⟨w.heap.size + 1, 9, none⟩ = some (.slice fa' q.fees.length fc') ∧ W.cell? ⟨w.heap.size + 1, 10, none⟩ = some (.slice ca' q.charges.length cc')) := hid fun W hb => by
    have l1 : w.heap.size < w1.heap.size := by omega
    have l2 : w.heap.size + 1 < w1.heap.size := by omega
    refine ⟨?_, ?_, ?_, ?_, ?_, ?_⟩ <;> first | rw [hb.cell (show _ < _ from l1)] | rw [hb.cell (show _ < _ from l2)]
    all_goals rw [hw1]
    · exact cell2a rfl
    · exact cell2a rfl
    · exact cell2a rfl
    · exact cell2b rfl
    · exact cell2b rfl
    · exact cell2b rfl
  obtain ⟨R, hR⟩ : ∃ R, R = sameP p q := ⟨_, rfl⟩
  rw [← hR]
  have FR := hid hR
  have HW1 := hid hw1
  have HB := hid b1
  clear hR hw1 b1 s1 hp hq
  unfold planC at HW1 ⊢
  go_enter Try.func12, Try.ntmps12
  rcases Bool.eq_false_or_eq_true (p.name.toList == q.name.toList) with h0 | h0
  · rcases Bool.eq_false_or_eq_true (p.cur.toList == q.cur.toList) with h1 | h1
    · rcases Bool.eq_false_or_eq_true (p.a.y == q.a.y) with h2 | h2
      · rcases Bool.eq_false_or_eq_true (p.a.m == q.a.m) with h3 | h3
        · rcases Bool.eq_false_or_eq_true (p.a.d == q.a.d) with h4 | h4
          · rcases Bool.eq_false_or_eq_true (p.b.y == q.b.y) with h5 | h5
            · rcases Bool.eq_false_or_eq_true (p.b.m == q.b.m) with h6 | h6
              · rcases Bool.eq_false_or_eq_true (p.b.d == q.b.d) with h7 | h7
                · go_wp2_with fail
                  rw [← HW1.out]
                  refine (cM _ HB.out).mono ?_
                  rintro e w2 ⟨rfl, b2⟩
                  obtain ⟨k0, k1, k2, k3, k4, k5⟩ := K.out w2 b2
                  have B2 := bel_on HB.out b2
                  clear cM
                  rcases Bool.eq_false_or_eq_true (eqL sameM p.meters q.meters) with h8 | h8 <;> rw [h8]
                  · go_wp2_with fail
                    refine (cF _ B2).mono ?_
                    rintro e w3 ⟨rfl, b3⟩
                    have B3 := bel_on B2 b3
                    clear k0 k1 k2 k3 k4 k5
                    obtain ⟨k0, k1, k2, k3, k4, k5⟩ := K.out w3 (bel_on b2 b3)
                    clear cF
                    rcases Bool.eq_false_or_eq_true (eqL sameF p.fees q.fees) with h9 | h9 <;> rw [h9]
                    · go_wp2_with fail
                      refine (cC _ B3).mono ?_
                      rintro e w4 ⟨rfl, b4⟩
                      have B4 := bel_on B3 b4
                      clear cC k0 k1 k2 k3 k4 k5
                      rcases Bool.eq_false_or_eq_true (eqL sameC p.charges q.charges) with h10 | h10 <;> rw [h10]
                      · go_wp2
                        go_ret
                        refine ⟨?_, B4⟩
                        rw [FR.out]
                        unfold sameP
                        simp [h0, h1, h2, h3, h4, h5, h6, h7, h8, h9, h10]
                      · go_wp2
                        go_ret
                        refine ⟨?_, B4⟩
                        rw [FR.out]
                        unfold sameP
                        simp [h0, h1, h2, h3, h4, h5, h6, h7, h8, h9, h10]
                    · go_wp2
                      go_ret
                      refine ⟨?_, B3⟩
                      rw [FR.out]
                      unfold sameP
                      simp [h0, h1, h2, h3, h4, h5, h6, h7, h8, h9]
                  · go_wp2
                    go_ret
                    refine ⟨?_, B2⟩
                    rw [FR.out]
                    unfold sameP
                    simp [h0, h1, h2, h3, h4, h5, h6, h7, h8]
                · go_wp2
                  go_ret
                  refine ⟨?_, by rw [HW1.out] at HB; exact HB.out⟩
                  rw [FR.out]
                  unfold sameP
                  simp [h0, h1, h2, h3, h4, h5, h6, h7]
              · go_wp2
                go_ret
                refine ⟨?_, by rw [HW1.out] at HB; exact HB.out⟩
                rw [FR.out]
                unfold sameP
                simp [h0, h1, h2, h3, h4, h5, h6]
            · go_wp2
              go_ret
              refine ⟨?_, by rw [HW1.out] at HB; exact HB.out⟩
              rw [FR.out]
              unfold sameP
              simp [h0, h1, h2, h3, h4, h5]
          · go_wp2
            go_ret
            refine ⟨?_, by rw [HW1.out] at HB; exact HB.out⟩
            rw [FR.out]
            unfold sameP
            simp [h0, h1, h2, h3, h4]
        · go_wp2
          go_ret
          refine ⟨?_, by rw [HW1.out] at HB; exact HB.out⟩
          rw [FR.out]
          unfold sameP
          simp [h0, h1, h2, h3]
      · go_wp2
        go_ret
        refine ⟨?_, by rw [HW1.out] at HB; exact HB.out⟩
        rw [FR.out]
        unfold sameP
        simp [h0, h1, h2]
    · go_wp2
      go_ret
      refine ⟨?_, by rw [HW1.out] at HB; exact HB.out⟩
      rw [FR.out]
      unfold sameP
      simp [h0, h1]
  · go_wp2
    go_ret
    refine ⟨?_, by rw [HW1.out] at HB; exact HB.out⟩
    rw [FR.out]
    unfold sameP
    simp [h0]
theorem str_eq {a b : ByteArray} : a.toList = b.toList ↔ a = b := by
  constructor
  · intro h
    rw [ByteArray.toList_eq, ByteArray.toList_eq] at h
    exact ByteArray.ext (Array.toList_inj.1 h)
  · rintro rfl; rfl
theorem eqL_iff {α β : Type} {f : α → α → Bool} {g : α → β} (h : ∀ x y, f x y = true ↔ g x = g y) : ∀ xs ys : List α, eqL f xs ys = true ↔ xs.map g = ys.map g
  | [], [] => by simp [eqL]
  | [], _ :: _ => by simp [eqL]
  | _ :: _, [] => by simp [eqL]
  | x :: xs, y :: ys => by
    rw [eqL, Bool.and_eq_true, h, eqL_iff h xs ys]
    simp
theorem sameM_iff (m n : Meter) : sameM m n = true ↔ nM m = nM n := by
  unfold sameM nM
  simp only [Bool.and_eq_true, beq_iff_eq, str_eq, Meter.mk.injEq, and_true]
  exact and_assoc
theorem sameF_iff (m n : Fee) : sameF m n = true ↔ nF m = nF n := by
  obtain ⟨_, ⟨_, ⟨_, _, _⟩, ⟨_, _, _⟩⟩, _, _⟩ := m
  obtain ⟨_, ⟨_, ⟨_, _, _⟩, ⟨_, _, _⟩⟩, _, _⟩ := n
  unfold sameF nF
  simp only [Bool.and_eq_true, beq_iff_eq, Fee.mk.injEq, Win.mk.injEq, Day.mk.injEq, and_true]
  constructor <;> intro h <;> simp_all
theorem sameC_iff (m n : Charge) : sameC m n = true ↔ nC m = nC n := by
  have h1 := eqL_iff (f := beqT) (g := id) (fun x y => by unfold beqT; simp) m.tiers n.tiers
  have h2 := eqL_iff (f := beqA) (g := id) (fun x y => by unfold beqA; simp) m.adjusts n.adjusts
  rw [List.map_id, List.map_id] at h1 h2
  obtain ⟨_, ⟨_, ⟨_, _, _⟩, ⟨_, _, _⟩⟩, _, _, _, _, _, _, _, _⟩ := m
  obtain ⟨_, ⟨_, ⟨_, _, _⟩, ⟨_, _, _⟩⟩, _, _, _, _, _, _, _, _⟩ := n
  unfold sameC nC
  simp only [Bool.and_eq_true, beq_iff_eq, str_eq, Charge.mk.injEq, Win.mk.injEq, Day.mk.injEq, and_true]
  simp only at h1 h2
  rw [h1, h2]
  constructor <;> intro h <;> simp_all
theorem sameP_iff (p q : Plan) : sameP p q = true ↔ noPl p = noPl q := by
  have h1 := eqL_iff sameM_iff p.meters q.meters
  have h2 := eqL_iff sameF_iff p.fees q.fees
  have h3 := eqL_iff sameC_iff p.charges q.charges
  obtain ⟨_, _, ⟨_, _, _⟩, ⟨_, _, _⟩, _, _, _, _, _⟩ := p
  obtain ⟨_, _, ⟨_, _, _⟩, ⟨_, _, _⟩, _, _, _, _, _⟩ := q
  unfold sameP noPl
  simp only [Bool.and_eq_true, beq_iff_eq, str_eq, Plan.mk.injEq, Day.mk.injEq, and_true]
  simp only at h1 h2 h3
  rw [h1, h2, h3]
  constructor <;> intro h <;> simp_all
end Go.Proofs.Ytfeccjcdpiopaaa.Te
