/- The laws of layer 7: ParseIs. -/
import Derived.Test.YtabcoahenlaehaaGreatDoorJL07a
import Derived.Test.YtabcoahenlaehaaGreatDoorJParS
import Derived.Deep.RegionHeldLaw
namespace Go.Proofs.YtabcoahenlaehaaGreatDoor.L07
open Go.RowKit Go.Sort P Mm Md Pa R6

theorem places_cnt {p : Plan} (h : Small p) : (places p).length ≤ 10000000000 := by
  have hm : (p.meters.flatMap mP).length = p.meters.length * 2 := flat_len (f := mP) (n := 2) (fun _ => rfl) _
  have hf : (p.fees.flatMap fP).length = p.fees.length * 2 := flat_len (f := fP) (n := 2) (fun _ => rfl) _
  have hc : (p.charges.flatMap cP).length = p.charges.length * 2 := flat_len (f := cP) (n := 2) (fun _ => rfl) _
  have h1 := h.meters
  have h2 := h.fees
  have h3 := h.charges
  unfold places
  simp only [List.length_append, hm, hf, hc, List.length_cons, List.length_nil]
  omega
set_option maxHeartbeats 16000000 in
set_option maxRecDepth 100000 in
theorem is_walk (s : ByteArray) (w : World) (k : Ky w) : Calls Tryz.prog 3 #[.string s] w fun e w' => e = .returned (.bool true) ∧ Below w.heap.size w w' := by
  have cA := alive_any w k
  by_cases hs : (16384 : Int) < (s.size : Int)
  · clear k
    go_enter Tryz.func3, Tryz.ntmps3
    go_wp2_with (go_at_call 4; refine cA.mono ?_; rintro e w1 ⟨rfl, b1⟩)
    go_ret
    exact ⟨rfl, b1⟩
  · have K := hid k
    obtain ⟨p, hp⟩ : ∃ p, p = (parsed s.data.toList).1 := ⟨_, rfl⟩
    obtain ⟨x, hx⟩ : ∃ x, x = (parsed s.data.toList).2.1 := ⟨_, rfl⟩
    obtain ⟨y, hy⟩ : ∃ y, y = (parsed s.data.toList).2.2.1 := ⟨_, rfl⟩
    obtain ⟨z, hz⟩ : ∃ z, z = (parsed s.data.toList).2.2.2 := ⟨_, rfl⟩
    have SM : Hid (Small p) := hid (by rw [hp]; exact parsed_small _)
    have cP := fun W k => parse_lies s W k
    have cR := fun W => R7.ref_lies s W
    unfold fl3 at cP
    rw [← hp, ← hx, ← hy, ← hz] at cP cR
    clear k hp hx hy hz
    have CP := hid cP
    have CR := hid cR
    clear cP cR
    go_enter Tryz.func3, Tryz.ntmps3
    go_wp2_with fail
    refine cA.mono ?_
    rintro e w1 ⟨rfl, b1⟩
    have K1 := hid (K.out.later b1)
    clear cA
    go_wp2_with fail
    refine (CP.out w1 K1.out).mono ?_
    rintro e w2 ⟨ma, mc, fa, fc, ca, cc, rfl, lA, b2⟩
    have B2 := hid (bel_on b1 b2)
    clear b1 b2
    have T1 := hid (there_pf w2 29 32)
    have F1 := flt_pf w2 29 32 [.string p.name, .string p.cur, .int .i64 p.a.y, .int .i64 p.a.m, .int .i64 p.a.d, .int .i64 p.b.y, .int .i64 p.b.m, .int .i64 p.b.d, .slice ma p.meters.length mc, .slice fa p.fees.length fc, .slice ca p.charges.length cc, .int .i64 p.line, .int .i64 p.col]
    have z0 := F1.cell 0 _ rfl
    have z1 := F1.cell 1 _ rfl
    have z2 := F1.cell 2 _ rfl
    have f0 := F1.free 0
    have f1 := F1.free 1
    have f2 := F1.free 2
    have lz := F1.lt
    obtain ⟨PF, BF⟩ := pf_new (x := x) (y := y) (z := z) lA 29 32
    obtain ⟨wA, hwA⟩ : ∃ W, W = (((((w2.alloc (.cells #[.string ⟨#[]⟩, .string ⟨#[]⟩, .int .i64 0, .int .i64 0, .int .i64 0, .int .i64 0, .int .i64 0, .int .i64 0, .slice none 0 0, .slice none 0 0, .slice none 0 0, .int .i64 0, .int .i64 0] 29)).alloc (.cells #[.int .i64 0, .int .i64 0, .int .i64 0] 32)).setCells w2.heap.size 0 [.string p.name, .string p.cur, .int .i64 p.a.y, .int .i64 p.a.m, .int .i64 p.a.d, .int .i64 p.b.y, .int .i64 p.b.m, .int .i64 p.b.d, .slice ma p.meters.length mc, .slice fa p.fees.length fc, .slice ca p.charges.length cc, .int .i64 p.line, .int .i64 p.col]).setCell ⟨w2.heap.size + 1, 0, none⟩ (.int .i64 (x))).setCell ⟨w2.heap.size + 1, 1, none⟩ (.int .i64 (y))).setCell ⟨w2.heap.size + 1, 2, none⟩ (.int .i64 (z)) := ⟨_, rfl⟩
    obtain ⟨k1, hk1⟩ : ∃ k, k = w2.heap.size := ⟨_, rfl⟩
    have HP1 : Hid (Pf wA k1 p ma mc fa fc ca cc (x) (y) (z)) := hid (by rw [hwA, hk1]; exact PF)
    have HB1 : Hid (Below w2.heap.size w2 wA) := hid (by rw [hwA]; exact BF)
    have HW1 := hid hwA
    have HK1 := hid hk1
    clear F1 PF BF hwA hk1
    unfold planC
    go_upto_region 6 with (first
      | (with_reducible refine wpList_store_mid (op := Oper.mk none (Op.store 29 (Operand.tmp 3) (Operand.tmp 17)) _ _ _ _) ?_ 29 (.tmp 3) (.tmp 17) ?_ w2.heap.size 0 #[.string p.name, .string p.cur, .int .i64 p.a.y, .int .i64 p.a.m, .int .i64 p.a.d, .int .i64 p.b.y, .int .i64 p.b.m, .int .i64 p.b.d, .slice ma p.meters.length mc, .slice fa p.fees.length fc, .slice ca p.charges.length cc, .int .i64 p.line, .int .i64 p.col] ?_ ?_ ?_ ?_ ?_ ?_; rfl; rfl; go_simp; go_simp; (simpa using T1.out); kernel_rfl; (simp [Value.oneCell']))
      | (fail))
    rw [← HW1.out, ← HK1.out]
    clear z0 z1 z2 f0 f1 f2 lz T1
    clear lA hs
    go_wp2_with fail
    refine (CR.out wA).mono ?_
    rintro e w3 ⟨maB, mcB, faB, fcB, caB, ccB, rfl, lB, b3⟩
    have P3 := HP1.out.on b3
    have B3 := hid (bel_on (bel_on B2.out HB1.out) b3)
    obtain ⟨wB, hwB⟩ : ∃ W, W = w3.alloc (.cells #[.string p.name, .string p.cur, .int .i64 p.a.y, .int .i64 p.a.m, .int .i64 p.a.d, .int .i64 p.b.y, .int .i64 p.b.m, .int .i64 p.b.d, .slice maB p.meters.length mcB, .slice faB p.fees.length fcB, .slice caB p.charges.length ccB, .int .i64 p.line, .int .i64 p.col] 29) := ⟨_, rfl⟩
    obtain ⟨kq, hkq⟩ : ∃ k, k = w3.heap.size := ⟨_, rfl⟩
    have bB : Below w3.heap.size w3 wB := by rw [hwB]; exact bel_alloc _ _
    have XQ : Bx wB kq (planC p maB mcB faB fcB caB ccB) := by rw [hwB, hkq]; exact Bx.new _ _ _
    have LQ := hid (lB.on bB)
    have PB := hid (P3.on bB)
    have HXQ := hid XQ
    have BB0 := hid (bel_on B3.out bB)
    have HWB := hid hwB
    have HKQ := hid hkq
    clear hwB hkq bB XQ lB P3 b3
    unfold planC
    go_upto_region 7 with (first
      | (with_reducible refine wpList_store_new (op := Oper.mk none (Op.store 29 (Operand.tmp 5) (Operand.tmp 22)) _ _ _ _) ?_ 29 (.tmp 5) (.tmp 22) ?_ w3 #[.string ⟨#[]⟩, .string ⟨#[]⟩, .int .i64 0, .int .i64 0, .int .i64 0, .int .i64 0, .int .i64 0, .int .i64 0, .slice none 0 0, .slice none 0 0, .slice none 0 0, .int .i64 0, .int .i64 0] #[.string p.name, .string p.cur, .int .i64 p.a.y, .int .i64 p.a.m, .int .i64 p.a.d, .int .i64 p.b.y, .int .i64 p.b.m, .int .i64 p.b.d, .slice maB p.meters.length mcB, .slice faB p.fees.length fcB, .slice caB p.charges.length ccB, .int .i64 p.line, .int .i64 p.col] ?_ ?_ ?_ ?_ ?_ ?_; rfl; rfl; go_simp; go_simp; kernel_rfl; rfl; (simp [Value.oneCell']))
      | (fail))
    rw [← HWB.out, ← HKQ.out]
    have KS : Hid (∀ w', Below wB.heap.size wB w' → w'.cell? ⟨k1, 0, none⟩ = some (.string p.name) ∧ w'.cell? ⟨k1, 1, none⟩ = some (.string p.cur) ∧ w'.cell? ⟨k1, 2, none⟩ = some (.int .i64 p.a.y) ∧ w'.cell? ⟨k1, 3, none⟩ = some (.int .i64 p.a.m) ∧ w'.cell? ⟨k1, 4, none⟩ = some (.int .i64 p.a.d) ∧ w'.cell? ⟨k1, 5, none⟩ = some (.int .i64 p.b.y) ∧ w'.cell? ⟨k1, 6, none⟩ = some (.int .i64 p.b.m) ∧ w'.cell? ⟨k1, 7, none⟩ = some (.int .i64 p.b.d) ∧ w'.cell? ⟨k1, 8, none⟩ = some (.slice ma p.meters.length mc) ∧ w'.cell? ⟨k1, 9, none⟩ = some (.slice fa p.fees.length fc) ∧ w'.cell? ⟨k1, 10, none⟩ = some (.slice ca p.charges.length cc) ∧ w'.cell? ⟨k1, 11, none⟩ = some (.int .i64 p.line) ∧ w'.cell? ⟨k1, 12, none⟩ = some (.int .i64 p.col) ∧ w'.cell? ⟨kq, 0, none⟩ = some (.string p.name) ∧ w'.cell? ⟨kq, 1, none⟩ = some (.string p.cur) ∧ w'.cell? ⟨kq, 2, none⟩ = some (.int .i64 p.a.y) ∧ w'.cell? ⟨kq, 3, none⟩ = some (.int .i64 p.a.m) ∧ w'.cell? ⟨kq, 4, none⟩ = some (.int .i64 p.a.d) ∧ w'.cell? ⟨kq, 5, none⟩ = some (.int .i64 p.b.y) ∧ w'.cell? ⟨kq, 6, none⟩ = some (.int .i64 p.b.m) ∧ w'.cell? ⟨kq, 7, none⟩ = some (.int .i64 p.b.d) ∧ w'.cell? ⟨kq, 8, none⟩ = some (.slice maB p.meters.length mcB) ∧ w'.cell? ⟨kq, 9, none⟩ = some (.slice faB p.fees.length fcB) ∧ w'.cell? ⟨kq, 10, none⟩ = some (.slice caB p.charges.length ccB) ∧ w'.cell? ⟨kq, 11, none⟩ = some (.int .i64 p.line) ∧ w'.cell? ⟨kq, 12, none⟩ = some (.int .i64 p.col) ∧ w'.cell? ⟨k1 + 1, 0, none⟩ = some (.int .i64 x) ∧ w'.cell? ⟨k1 + 1, 1, none⟩ = some (.int .i64 y) ∧ w'.cell? ⟨k1 + 1, 2, none⟩ = some (.int .i64 z) ∧ Below wB.heap.size wB w') := hid fun w' b => by
      have X := PB.out.box.on b
      have Y := HXQ.out.on b
      have F := PB.out.flt.on b
      exact ⟨X.cell 0 _ rfl, X.cell 1 _ rfl, X.cell 2 _ rfl, X.cell 3 _ rfl, X.cell 4 _ rfl, X.cell 5 _ rfl, X.cell 6 _ rfl, X.cell 7 _ rfl, X.cell 8 _ rfl, X.cell 9 _ rfl, X.cell 10 _ rfl, X.cell 11 _ rfl, X.cell 12 _ rfl, Y.cell 0 _ rfl, Y.cell 1 _ rfl, Y.cell 2 _ rfl, Y.cell 3 _ rfl, Y.cell 4 _ rfl, Y.cell 5 _ rfl, Y.cell 6 _ rfl, Y.cell 7 _ rfl, Y.cell 8 _ rfl, Y.cell 9 _ rfl, Y.cell 10 _ rfl, Y.cell 11 _ rfl, Y.cell 12 _ rfl, F.cell 0 _ rfl, F.cell 1 _ rfl, F.cell 2 _ rfl, b⟩
    have SPQ : Hid (∀ W, Below wB.heap.size wB W → Calls Tryz.prog 7 #[.agg #[.string p.name, .string p.cur, .int .i64 p.a.y, .int .i64 p.a.m, .int .i64 p.a.d, .int .i64 p.b.y, .int .i64 p.b.m, .int .i64 p.b.d, .slice ma p.meters.length mc, .slice fa p.fees.length fc, .slice ca p.charges.length cc, .int .i64 p.line, .int .i64 p.col], .agg #[.string p.name, .string p.cur, .int .i64 p.a.y, .int .i64 p.a.m, .int .i64 p.a.d, .int .i64 p.b.y, .int .i64 p.b.m, .int .i64 p.b.d, .slice maB p.meters.length mcB, .slice faB p.fees.length fcB, .slice caB p.charges.length ccB, .int .i64 p.line, .int .i64 p.col]] W fun e w' => e = .returned (.bool true) ∧ Below W.heap.size W w') := hid fun W b => by
      have h := same_any p p ma mc fa fc ca cc maB mcB faB fcB caB ccB W (PB.out.lies.on b) (LQ.out.on b) SM.out SM.out
      rw [decide_eq_true rfl] at h
      exact h
    have PLP : Hid (∀ W, Below wB.heap.size wB W → Calls Tryz.prog 9 #[.agg #[.string p.name, .string p.cur, .int .i64 p.a.y, .int .i64 p.a.m, .int .i64 p.a.d, .int .i64 p.b.y, .int .i64 p.b.m, .int .i64 p.b.d, .slice ma p.meters.length mc, .slice fa p.fees.length fc, .slice ca p.charges.length cc, .int .i64 p.line, .int .i64 p.col]] W fun e w' => ∃ ao cap, e = .returned (.slice ao (places p).length cap) ∧ Row tI w' ao (places p).length cap (places p) ∧ Below W.heap.size W w') := hid fun W b => places_slice p ma mc fa fc ca cc W (PB.out.lies.on b) SM.out
    have PLQ : Hid (∀ W, Below wB.heap.size wB W → Calls Tryz.prog 9 #[.agg #[.string p.name, .string p.cur, .int .i64 p.a.y, .int .i64 p.a.m, .int .i64 p.a.d, .int .i64 p.b.y, .int .i64 p.b.m, .int .i64 p.b.d, .slice maB p.meters.length mcB, .slice faB p.fees.length fcB, .slice caB p.charges.length ccB, .int .i64 p.line, .int .i64 p.col]] W fun e w' => ∃ ao cap, e = .returned (.slice ao (places p).length cap) ∧ Row tI w' ao (places p).length cap (places p) ∧ Below W.heap.size W w') := hid fun W b => places_slice p maB mcB faB fcB caB ccB W (LQ.out.on b) SM.out
    have II : Hid (∀ aa ca ab cb W, Row tI W aa (places p).length ca (places p) → Row tI W ab (places p).length cb (places p) → Calls Tryz.prog 8 #[.slice aa (places p).length ca, .slice ab (places p).length cb] W fun e w' => e = .returned (.bool true) ∧ Below W.heap.size W w') := hid fun aa ca ab cb W h1 h2 => by
      have h := ints_any aa (places p).length ca ab (places p).length cb (places p) (places p) W h1 h2 (places_cnt SM.out)
      rw [decide_eq_true rfl] at h
      exact h
    have BB := hid (Below.drew (Below.refl wB.heap.size wB))
    clear HW1 HK1 B2 B3 HB1 HP1 K K1 CP CR HWB HKQ PB LQ HXQ SM
    go_region_held_law (fun w' => w'.cell? ⟨k1, 0, none⟩ = some (.string p.name) ∧ w'.cell? ⟨k1, 1, none⟩ = some (.string p.cur) ∧ w'.cell? ⟨k1, 2, none⟩ = some (.int .i64 p.a.y) ∧ w'.cell? ⟨k1, 3, none⟩ = some (.int .i64 p.a.m) ∧ w'.cell? ⟨k1, 4, none⟩ = some (.int .i64 p.a.d) ∧ w'.cell? ⟨k1, 5, none⟩ = some (.int .i64 p.b.y) ∧ w'.cell? ⟨k1, 6, none⟩ = some (.int .i64 p.b.m) ∧ w'.cell? ⟨k1, 7, none⟩ = some (.int .i64 p.b.d) ∧ w'.cell? ⟨k1, 8, none⟩ = some (.slice ma p.meters.length mc) ∧ w'.cell? ⟨k1, 9, none⟩ = some (.slice fa p.fees.length fc) ∧ w'.cell? ⟨k1, 10, none⟩ = some (.slice ca p.charges.length cc) ∧ w'.cell? ⟨k1, 11, none⟩ = some (.int .i64 p.line) ∧ w'.cell? ⟨k1, 12, none⟩ = some (.int .i64 p.col) ∧ w'.cell? ⟨kq, 0, none⟩ = some (.string p.name) ∧ w'.cell? ⟨kq, 1, none⟩ = some (.string p.cur) ∧ w'.cell? ⟨kq, 2, none⟩ = some (.int .i64 p.a.y) ∧ w'.cell? ⟨kq, 3, none⟩ = some (.int .i64 p.a.m) ∧ w'.cell? ⟨kq, 4, none⟩ = some (.int .i64 p.a.d) ∧ w'.cell? ⟨kq, 5, none⟩ = some (.int .i64 p.b.y) ∧ w'.cell? ⟨kq, 6, none⟩ = some (.int .i64 p.b.m) ∧ w'.cell? ⟨kq, 7, none⟩ = some (.int .i64 p.b.d) ∧ w'.cell? ⟨kq, 8, none⟩ = some (.slice maB p.meters.length mcB) ∧ w'.cell? ⟨kq, 9, none⟩ = some (.slice faB p.fees.length fcB) ∧ w'.cell? ⟨kq, 10, none⟩ = some (.slice caB p.charges.length ccB) ∧ w'.cell? ⟨kq, 11, none⟩ = some (.int .i64 p.line) ∧ w'.cell? ⟨kq, 12, none⟩ = some (.int .i64 p.col) ∧ w'.cell? ⟨k1 + 1, 0, none⟩ = some (.int .i64 x) ∧ w'.cell? ⟨k1 + 1, 1, none⟩ = some (.int .i64 y) ∧ w'.cell? ⟨k1 + 1, 2, none⟩ = some (.int .i64 z) ∧ Below wB.heap.size wB w')
      ((refine KS.out _ ?_; exact BB.out))
      (first
        | (go_at_call 7
           refine (SPQ.out _ BB.out).mono ?_
           rintro e w' ⟨rfl, b⟩
           replace BB := hid (BB.out.trans (b.mono BB.out.size))
           clear b)
        | (go_at_call_of 9 (Value.agg #[.string p.name, .string p.cur, .int .i64 p.a.y, .int .i64 p.a.m, .int .i64 p.a.d, .int .i64 p.b.y, .int .i64 p.b.m, .int .i64 p.b.d, .slice maB p.meters.length mcB, .slice faB p.fees.length fcB, .slice caB p.charges.length ccB, .int .i64 p.line, .int .i64 p.col])
           refine (PLQ.out _ BB.out).mono ?_
           rintro e w' ⟨aq, cq, rfl, h2, b⟩
           replace BB := hid (BB.out.trans (b.mono BB.out.size))
           have H2 := hid h2
           replace H1 := hid (H1.out.on b)
           clear b h2)
        | (go_at_call 9
           refine (PLP.out _ BB.out).mono ?_
           rintro e w' ⟨ap, cp, rfl, h2, b⟩
           replace BB := hid (BB.out.trans (b.mono BB.out.size))
           have H1 := hid h2
           clear b h2)
        | (go_at_call 8
           refine (II.out _ _ _ _ _ H1.out H2.out).mono ?_
           rintro e w' ⟨rfl, b⟩
           replace BB := hid (BB.out.trans (b.mono BB.out.size))
           clear b))
    go_wp2
    go_ret
    exact ⟨rfl, bel_on BB0.out BB.out⟩
end Go.Proofs.YtabcoahenlaehaaGreatDoor.L07
