/- Package tree, walked: charges held against each other. -/
import Derived.Test.YtfeccjcdpiopaaaTr2
namespace Go.Proofs.Ytfeccjcdpiopaaa.Te
open Go.RowKit Go.Sort P Mm R6 Tl

/-- Whether two charges are one, but for places. -/
def sameC (c d : Charge) : Bool := (c.meter.toList == d.meter.toList) && (c.win.has == d.win.has) && (c.win.a.y == d.win.a.y) && (c.win.a.m == d.win.a.m) && (c.win.a.d == d.win.a.d) && (c.win.b.y == d.win.b.y) && (c.win.b.m == d.win.b.m) && (c.win.b.d == d.win.b.d) && (c.allowance == d.allowance) && (c.block == d.block) && (c.kind == d.kind) && (c.mode == d.mode) && eqL beqT c.tiers d.tiers && eqL beqA c.adjusts d.adjusts
theorem cell1 {w : World} {a : List Value} {t : TypeId} {j : Nat} {v : Value} (h : a[j]? = some v) : (w.alloc (.cells a.toArray t)).cell? ⟨w.heap.size, j, none⟩ = some v := by
  rw [World.cell?_alloc_new]
  simpa using h
theorem cell2a {w : World} {a b : List Value} {t u : TypeId} {j : Nat} {v : Value} (h : a[j]? = some v) : ((w.alloc (.cells a.toArray t)).alloc (.cells b.toArray u)).cell? ⟨w.heap.size, j, none⟩ = some v := by
  rw [(bel_alloc (w.alloc (.cells a.toArray t)) (.cells b.toArray u)).cell (by simp)]
  exact cell1 h
theorem cell2b {w : World} {a b : List Value} {t u : TypeId} {j : Nat} {v : Value} (h : b[j]? = some v) : ((w.alloc (.cells a.toArray t)).alloc (.cells b.toArray u)).cell? ⟨w.heap.size + 1, j, none⟩ = some v := by
  have := cell1 (w := w.alloc (.cells a.toArray t)) (t := u) h
  rwa [show (w.alloc (.cells a.toArray t)).heap.size = w.heap.size + 1 by simp] at this
set_option maxHeartbeats 8000000 in
set_option maxRecDepth 100000 in
theorem sameC_any (c d : Charge) (ta : Option Addr) (tc : Nat) (aa : Option Addr) (ac : Nat) (ta' : Option Addr) (tc' : Nat) (aa' : Option Addr) (ac' : Nat) (w : World) (hc : ChargeLies w (chargeC c ta tc aa ac) c ta tc aa ac) (hd : ChargeLies w (chargeC d ta' tc' aa' ac') d ta' tc' aa' ac') :
    Calls Try.prog 33 #[.agg (chargeC c ta tc aa ac).toArray, .agg (chargeC d ta' tc' aa' ac').toArray] w fun e w' => e = .returned (.bool (sameC c d)) ∧ Below w.heap.size w w' := by
  obtain ⟨w1, hw1⟩ : ∃ w1, w1 = (w.alloc (.cells (chargeC c ta tc aa ac).toArray 46)).alloc (.cells (chargeC d ta' tc' aa' ac').toArray 46) := ⟨_, rfl⟩
  have b1 : Below w.heap.size w w1 := by rw [hw1]; exact bel_alloc2 ..
  have s1 : w1.heap.size = w.heap.size + 2 := by rw [hw1]; simp
  have cT := fun W (hb : Below w.heap.size w W) => eachT_any c.tiers d.tiers ta tc ta' tc' W (hc.tiers.on hb) (hd.tiers.on hb)
  have cA := fun W (hb : Below w.heap.size w W) => eachA_any c.adjusts d.adjusts aa ac aa' ac' W (hc.adjusts.on hb) (hd.adjusts.on hb)
  have K : Hid (∀ W, Below w1.heap.size w1 W → W.cell? ⟨w.heap.size, 11, none⟩ = some (.slice ta c.tiers.length tc) ∧ W.cell? ⟨w.heap.size, 13, none⟩ = some (.slice aa c.adjusts.length ac) ∧ W.cell? ⟨w.heap.size + 1, 11, none⟩ = some (.slice ta' d.tiers.length tc') ∧ W.cell? ⟨w.heap.size + 1, 13, none⟩ = some (.slice aa' d.adjusts.length ac')) := hid fun W hb => by
    have l1 : w.heap.size < w1.heap.size := by omega
    have l2 : w.heap.size + 1 < w1.heap.size := by omega
    refine ⟨?_, ?_, ?_, ?_⟩ <;> first | rw [hb.cell (show _ < _ from l1)] | rw [hb.cell (show _ < _ from l2)]
    all_goals rw [hw1]
    · exact cell2a rfl
    · exact cell2a rfl
    · exact cell2b rfl
    · exact cell2b rfl
  obtain ⟨R, hR⟩ : ∃ R, R = sameC c d := ⟨_, rfl⟩
  rw [← hR]
  have FR := hid hR
  have HW1 := hid hw1
  have HB := hid b1
  clear hR hw1 b1 s1 hc hd
  unfold chargeC at HW1 ⊢
  go_enter Try.func33, Try.ntmps33
  rcases Bool.eq_false_or_eq_true (c.meter.toList == d.meter.toList) with h0 | h0
  · rcases Bool.eq_false_or_eq_true (c.win.has == d.win.has) with h1 | h1
    · rcases Bool.eq_false_or_eq_true (c.win.a.y == d.win.a.y) with h2 | h2
      · rcases Bool.eq_false_or_eq_true (c.win.a.m == d.win.a.m) with h3 | h3
        · rcases Bool.eq_false_or_eq_true (c.win.a.d == d.win.a.d) with h4 | h4
          · rcases Bool.eq_false_or_eq_true (c.win.b.y == d.win.b.y) with h5 | h5
            · rcases Bool.eq_false_or_eq_true (c.win.b.m == d.win.b.m) with h6 | h6
              · rcases Bool.eq_false_or_eq_true (c.win.b.d == d.win.b.d) with h7 | h7
                · rcases Bool.eq_false_or_eq_true (c.allowance == d.allowance) with h8 | h8
                  · rcases Bool.eq_false_or_eq_true (c.block == d.block) with h9 | h9
                    · rcases Bool.eq_false_or_eq_true (c.kind == d.kind) with h10 | h10
                      · rcases Bool.eq_false_or_eq_true (c.mode == d.mode) with h11 | h11
                        · go_wp2_with fail
                          rw [← HW1.out]
                          refine (cT _ HB.out).mono ?_
                          rintro e w2 ⟨rfl, b2⟩
                          obtain ⟨k0, k1, k2, k3⟩ := K.out w2 b2
                          have B2 := bel_on HB.out b2
                          clear cT
                          rcases Bool.eq_false_or_eq_true (eqL beqT c.tiers d.tiers) with h12 | h12 <;> rw [h12]
                          · go_wp2_with fail
                            refine (cA _ B2).mono ?_
                            rintro e w3 ⟨rfl, b3⟩
                            have B3 := bel_on B2 b3
                            clear cA k0 k1 k2 k3
                            rcases Bool.eq_false_or_eq_true (eqL beqA c.adjusts d.adjusts) with h13 | h13 <;> rw [h13]
                            · go_wp2
                              go_ret
                              refine ⟨?_, B3⟩
                              rw [FR.out]
                              unfold sameC
                              simp [h0, h1, h2, h3, h4, h5, h6, h7, h8, h9, h10, h11, h12, h13]
                            · go_wp2
                              go_ret
                              refine ⟨?_, B3⟩
                              rw [FR.out]
                              unfold sameC
                              simp [h0, h1, h2, h3, h4, h5, h6, h7, h8, h9, h10, h11, h12, h13]
                          · go_wp2
                            go_ret
                            refine ⟨?_, B2⟩
                            rw [FR.out]
                            unfold sameC
                            simp [h0, h1, h2, h3, h4, h5, h6, h7, h8, h9, h10, h11, h12]
                        · go_wp2
                          go_ret
                          refine ⟨?_, by rw [HW1.out] at HB; exact HB.out⟩
                          rw [FR.out]
                          unfold sameC
                          simp [h0, h1, h2, h3, h4, h5, h6, h7, h8, h9, h10, h11]
                      · go_wp2
                        go_ret
                        refine ⟨?_, by rw [HW1.out] at HB; exact HB.out⟩
                        rw [FR.out]
                        unfold sameC
                        simp [h0, h1, h2, h3, h4, h5, h6, h7, h8, h9, h10]
                    · go_wp2
                      go_ret
                      refine ⟨?_, by rw [HW1.out] at HB; exact HB.out⟩
                      rw [FR.out]
                      unfold sameC
                      simp [h0, h1, h2, h3, h4, h5, h6, h7, h8, h9]
                  · go_wp2
                    go_ret
                    refine ⟨?_, by rw [HW1.out] at HB; exact HB.out⟩
                    rw [FR.out]
                    unfold sameC
                    simp [h0, h1, h2, h3, h4, h5, h6, h7, h8]
                · go_wp2
                  go_ret
                  refine ⟨?_, by rw [HW1.out] at HB; exact HB.out⟩
                  rw [FR.out]
                  unfold sameC
                  simp [h0, h1, h2, h3, h4, h5, h6, h7]
              · go_wp2
                go_ret
                refine ⟨?_, by rw [HW1.out] at HB; exact HB.out⟩
                rw [FR.out]
                unfold sameC
                simp [h0, h1, h2, h3, h4, h5, h6]
            · go_wp2
              go_ret
              refine ⟨?_, by rw [HW1.out] at HB; exact HB.out⟩
              rw [FR.out]
              unfold sameC
              simp [h0, h1, h2, h3, h4, h5]
          · go_wp2
            go_ret
            refine ⟨?_, by rw [HW1.out] at HB; exact HB.out⟩
            rw [FR.out]
            unfold sameC
            simp [h0, h1, h2, h3, h4]
        · go_wp2
          go_ret
          refine ⟨?_, by rw [HW1.out] at HB; exact HB.out⟩
          rw [FR.out]
          unfold sameC
          simp [h0, h1, h2, h3]
      · go_wp2
        go_ret
        refine ⟨?_, by rw [HW1.out] at HB; exact HB.out⟩
        rw [FR.out]
        unfold sameC
        simp [h0, h1, h2]
    · go_wp2
      go_ret
      refine ⟨?_, by rw [HW1.out] at HB; exact HB.out⟩
      rw [FR.out]
      unfold sameC
      simp [h0, h1]
  · go_wp2
    go_ret
    refine ⟨?_, by rw [HW1.out] at HB; exact HB.out⟩
    rw [FR.out]
    unfold sameC
    simp [h0]
end Go.Proofs.Ytfeccjcdpiopaaa.Te
