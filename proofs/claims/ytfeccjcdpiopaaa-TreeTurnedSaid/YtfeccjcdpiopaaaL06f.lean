/- The laws of layer 6: TreeTurned. -/
import Derived.Test.YtfeccjcdpiopaaaOwn2
namespace Go.Proofs.Ytfeccjcdpiopaaa.L06
open Go.RowKit Go.Sort P Mm R6

set_option maxHeartbeats 8000000 in
set_option maxRecDepth 100000 in
theorem turned_walk {K : World → Prop} (D : TrO K) (p : Plan) (ma : Option Addr) (mc : Nat) (fa : Option Addr) (fc : Nat) (ca : Option Addr) (cc : Nat) (at' kind : Int) (w : World) (k : K w)
    (hp : PlanLies w (planC p ma mc fa fc ca cc) p ma mc fa fc ca cc) :
    Calls Try.prog 4 #[.agg (planC p ma mc fa fc ca cc).toArray, .int .i64 at', .int .i64 kind] w fun e w' => e = .returned (.bool true) ∧ Below w.heap.size w w' := by
  obtain ⟨w1, hw1⟩ : ∃ w1, w1 = w.alloc (.cells (planC p ma mc fa fc ca cc).toArray 28) := ⟨_, rfl⟩
  have b1 : Below w.heap.size w w1 := by rw [hw1]; exact bel_alloc _ _
  have s1 : w1.heap.size = w.heap.size + 1 := by rw [hw1]; simp
  have xA : Box w1 w.heap.size (planC p ma mc fa fc ca cc) := by rw [hw1]; exact Box.new _ _ _
  have cA := alive_any D.tr w1 (D.tr.keep k b1)
  have gP := fun W (hb : Below w.heap.size w W) => great_any p ma mc fa fc ca cc W (hp.on hb)
  have fr := fits_no (fits_of hp)
  obtain ⟨r, hr⟩ : ∃ r, r = noPl p := ⟨_, rfl⟩
  have PL : Hid (∀ W, Below w.heap.size w W → Mid p → Calls Try.prog 11 #[.agg #[.string p.name, .string p.cur, .int .i64 p.a.y, .int .i64 p.a.m, .int .i64 p.a.d, .int .i64 p.b.y, .int .i64 p.b.m, .int .i64 p.b.d, .slice ma p.meters.length mc, .slice fa p.fees.length fc, .slice ca p.charges.length cc, .int .i64 p.line, .int .i64 p.col]] W fun e w' => ∃ ma2 mc2 fa2 fc2 ca2 cc2 hs, e = .returned (.agg #[.string r.name, .string r.cur, .int .i64 r.a.y, .int .i64 r.a.m, .int .i64 r.a.d, .int .i64 r.b.y, .int .i64 r.b.m, .int .i64 r.b.d, .slice ma2 r.meters.length mc2, .slice fa2 r.fees.length fc2, .slice ca2 r.charges.length cc2, .int .i64 r.line, .int .i64 r.col]) ∧
      hs.length = r.charges.length ∧ Owns w' W.heap.size (rowOf r ma2 mc2 fa2 fc2 ca2 cc2 hs) ∧ Below W.heap.size W w') := hid fun W hb hm => by
    have := D.plain p ma mc fa fc ca cc W (D.tr.keep k hb) hm (hp.on hb)
    rw [← hr] at this
    exact this
  rw [← hr] at fr
  have CA : Hid (∀ W, Below w1.heap.size w1 W → W.cell? ⟨w.heap.size, 0, none⟩ = some (.string p.name) ∧ W.cell? ⟨w.heap.size, 1, none⟩ = some (.string p.cur) ∧ W.cell? ⟨w.heap.size, 2, none⟩ = some (.int .i64 p.a.y) ∧ W.cell? ⟨w.heap.size, 3, none⟩ = some (.int .i64 p.a.m) ∧ W.cell? ⟨w.heap.size, 4, none⟩ = some (.int .i64 p.a.d) ∧ W.cell? ⟨w.heap.size, 5, none⟩ = some (.int .i64 p.b.y) ∧ W.cell? ⟨w.heap.size, 6, none⟩ = some (.int .i64 p.b.m) ∧ W.cell? ⟨w.heap.size, 7, none⟩ = some (.int .i64 p.b.d) ∧ W.cell? ⟨w.heap.size, 8, none⟩ = some (.slice ma p.meters.length mc) ∧ W.cell? ⟨w.heap.size, 9, none⟩ = some (.slice fa p.fees.length fc) ∧ W.cell? ⟨w.heap.size, 10, none⟩ = some (.slice ca p.charges.length cc) ∧ W.cell? ⟨w.heap.size, 11, none⟩ = some (.int .i64 p.line) ∧ W.cell? ⟨w.heap.size, 12, none⟩ = some (.int .i64 p.col)) := hid fun W h => by
    have c := (xA.on h).cell
    exact ⟨c 0 _ rfl, c 1 _ rfl, c 2 _ rfl, c 3 _ rfl, c 4 _ rfl, c 5 _ rfl, c 6 _ rfl, c 7 _ rfl, c 8 _ rfl, c 9 _ rfl, c 10 _ rfl, c 11 _ rfl, c 12 _ rfl⟩
  have HW1 := hid hw1
  have HB1 := hid b1
  have HR := hid hr
  have HF := hid fr
  have lt1 := hid (show w.heap.size < w1.heap.size by omega)
  have hrn : r.name = p.name := by rw [hr]; rfl
  have HRN := hid hrn
  clear hw1 b1 s1 xA fr hr hrn
  unfold planC at HW1 gP ⊢
  have GP := hid gP
  clear gP
  go_enter Try.func4, Try.ntmps4
  go_wp2_with fail
  rw [← HW1.out]
  refine cA.mono ?_
  rintro e w2 ⟨rfl, b2⟩
  have P2 := CA.out w2 b2
  have l2 : w.heap.size < w2.heap.size := Nat.lt_of_lt_of_le lt1.out b2.size
  go_wp2_with fail
  refine (GP.out _ (bel_on HB1.out b2)).mono ?_
  rintro e w3 ⟨rfl, b3x⟩
  have b3 := bel_on b2 b3x
  have P3 := CA.out w3 b3
  have l3 : w.heap.size < w3.heap.size := Nat.lt_of_lt_of_le l2 b3x.size
  clear P2 l2
  rcases Bool.eq_false_or_eq_true (great p) with g1 | g1
  · rw [g1]
    clear P3
    go_wp2
    go_ret
    exact ⟨rfl, bel_on HB1.out b3⟩
  · rw [g1]
    have SM := hid (small_of g1)
    have hsn := hid (name_of g1)
    clear g1
    go_wp2_with fail
    refine (PL.out _ (bel_on HB1.out b3) (mid_of SM.out)).mono ?_
    rintro e w4 ⟨ma2, mc2, fa2, fc2, ca2, cc2, hs, rfl, hl, O4, b4x⟩
    obtain ⟨w5, hw5⟩ : ∃ w5, w5 = w4.alloc (.cells #[.string r.name, .string r.cur, .int .i64 r.a.y, .int .i64 r.a.m, .int .i64 r.a.d, .int .i64 r.b.y, .int .i64 r.b.m, .int .i64 r.b.d, .slice ma2 r.meters.length mc2, .slice fa2 r.fees.length fc2, .slice ca2 r.charges.length cc2, .int .i64 r.line, .int .i64 r.col] 28) := ⟨_, rfl⟩
    have b5x : Below w4.heap.size w4 w5 := by rw [hw5]; exact bel_alloc _ _
    have b35 := hid (bel_on b4x b5x)
    have X5 : Box w5 w4.heap.size (planC r ma2 mc2 fa2 fc2 ca2 cc2) := by rw [hw5]; exact Box.new _ _ _
    have O5 := O4.on b5x
    have L5 := hid (lies_of hl HF.out O5.own)
    have LT : Hid (∀ s row k, rowOf r ma2 mc2 fa2 fc2 ca2 cc2 hs s = some row → row.v.ownBlock = some k → w3.heap.size ≤ k ∧ k < w4.heap.size) := hid fun s row k a b => (O4.own s row a).lt k b
    obtain ⟨bb, hbb⟩ : ∃ bb, bb = w4.heap.size := ⟨_, rfl⟩
    rw [← hbb] at LT X5
    have NB : Hid (∀ s row, rowOf r ma2 mc2 fa2 fc2 ca2 cc2 hs s = some row → row.v.ownBlock ≠ some bb) := hid fun s row a e => Nat.lt_irrefl _ (LT.out s row bb a e).2
    have hb3 : w3.heap.size ≤ bb := by rw [hbb]; exact b4x.size
    have HW5 := hid hw5
    have HO := hid O5
    have HX := hid X5
    have HL := hid hl
    have hbb' := hid hbb
    obtain ⟨t, ht, hts⟩ := kind_cases kind
    clear P3 l3 b4x O4 O5 X5 hw5 b5x hl hbb
    go_upto_block 0 with fail
    rw [← HW5.out, ← hbb'.out, ht]
    clear HW5
    have hx := HX.out
    have lx := hx.lt
    obtain ⟨c0, c1, c2, c3, c4, c5, c6, c7, c8, c9, c10, c11, c12⟩ : w5.cell? ⟨bb, 0, none⟩ = some (.string r.name) ∧ w5.cell? ⟨bb, 1, none⟩ = some (.string r.cur) ∧ w5.cell? ⟨bb, 2, none⟩ = some (.int .i64 r.a.y) ∧ w5.cell? ⟨bb, 3, none⟩ = some (.int .i64 r.a.m) ∧ w5.cell? ⟨bb, 4, none⟩ = some (.int .i64 r.a.d) ∧ w5.cell? ⟨bb, 5, none⟩ = some (.int .i64 r.b.y) ∧ w5.cell? ⟨bb, 6, none⟩ = some (.int .i64 r.b.m) ∧ w5.cell? ⟨bb, 7, none⟩ = some (.int .i64 r.b.d) ∧ w5.cell? ⟨bb, 8, none⟩ = some (.slice ma2 r.meters.length mc2) ∧ w5.cell? ⟨bb, 9, none⟩ = some (.slice fa2 r.fees.length fc2) ∧ w5.cell? ⟨bb, 10, none⟩ = some (.slice ca2 r.charges.length cc2) ∧ w5.cell? ⟨bb, 11, none⟩ = some (.int .i64 r.line) ∧ w5.cell? ⟨bb, 12, none⟩ = some (.int .i64 r.col) := by
      have c := hx.cell
      exact ⟨c 0 _ rfl, c 1 _ rfl, c 2 _ rfl, c 3 _ rfl, c 4 _ rfl, c 5 _ rfl, c 6 _ rfl, c 7 _ rfl, c 8 _ rfl, c 9 _ rfl, c 10 _ rfl, c 11 _ rfl, c 12 _ rfl⟩
    go_cut [9] (fun s9 wr => ∃ (sm : Bool) (q : Plan) (mq : Option Addr) (mcq : Nat) (fq : Option Addr) (fcq : Nat) (cq : Option Addr) (ccq : Nat), s9 = .bool sm ∧
      Hid ((sm = true ↔ noPl p = noPl q) ∧ PlanLies wr (planC q mq mcq fq fcq cq ccq) q mq mcq fq fcq cq ccq ∧ Box wr bb (planC q mq mcq fq fcq cq ccq) ∧ Below w3.heap.size w3 wr))
    case first =>
      rcases hts with rfl | rfl | rfl | rfl | rfl | rfl | rfl | rfl | rfl | rfl | rfl | rfl
      · -- the name
        have f0 := hx.free 0
        have hn : (r.name.size : Int) + 1 ≤ 9223372036854775807 := by rw [HRN.out]; have := hsn.out; omega
        go_wp2
        go_meet
        refine ⟨false, { r with name := r.name ++ ⟨#[122]⟩ }, ma2, mc2, fa2, fc2, ca2, cc2, rfl, hid ⟨?_, ?_, ?_, b35.out.setCell hb3 _⟩⟩
        · refine ⟨(fun h => by cases h), fun e => absurd (congrArg Plan.name e).symm ?_⟩
          show r.name ++ _ ≠ p.name
          rw [← HRN.out]
          exact append_ne _
        · have F := HF.out
          exact lies_of HL.out ⟨F.meters, F.fees, F.charges, ⟨by unfold strOk; rw [ByteArray.size_append]; have e : (⟨#[122]⟩ : ByteArray).size = 1 := rfl; show r.name.size + _ ≤ _; omega, F.name.2⟩, F.days, F.place⟩ (owns_box HO.out.own NB.out _ _)
        · exact hx.set 0 _
      · -- the day
        have f7 := hx.free 7
        go_wp2
        go_meet
        refine ⟨false, { r with b := { r.b with d := wrap64 (r.b.d + 1) } }, ma2, mc2, fa2, fc2, ca2, cc2, rfl, hid ⟨?_, ?_, ?_, b35.out.setCell hb3 _⟩⟩
        · refine ⟨(fun h => by cases h), fun e => absurd (congrArg (fun x : Plan => x.b.d) e).symm ?_⟩
          show wrap64 (r.b.d + 1) ≠ p.b.d
          rw [show p.b.d = r.b.d by rw [HR.out]; rfl]
          exact wrap_ne _
        · have F := HF.out
          exact lies_of HL.out ⟨F.meters, F.fees, F.charges, F.name, ⟨F.days.1, F.days.2.1, F.days.2.2.1, i64_wrap _⟩, F.place⟩ (owns_box HO.out.own NB.out _ _)
        · exact hx.set 7 _
      · -- a meter
        obtain ⟨ti, hi, hz0, hz1, hz2⟩ := info_parts info_meter
        have hO : w5.ownsRow w3.heap.size 38 5 (.slice ma2 r.meters.length mc2) r.meters.length (r.meters.flatMap meterC) := HO.out.own .m _ rfl
        have hn : r.meters.length ≤ 20 := by have := SM.out.meters; rw [HR.out]; simpa [noPl] using this
        go_wp2_with (at_builtin; refine wpList_append_own_at _ rfl _ _ 24 rfl w3.heap.size 38 ti (.agg (meterC m0).toArray) 5 56 Try.underlying24 hi hz0 hz1 hz2 rfl (by decide) _ _ _ rfl (hO.alloc _) ⟨w5.heap.size, 0, none⟩ 1 1 (meterC m0) rfl rfl (news_box w5 (meterC m0) _) (by decide) (by unfold maxLen; omega) (by omega) (by simp; omega) ?_)
        intro v' wA hown hgrow _ hat
        obtain ⟨ao, cap', rfl⟩ := form_slice hown
        have hne : some bb ≠ (Value.slice ma2 r.meters.length mc2).ownBlock := fun e => NB.out .m _ rfl e.symm
        have XA := (hx.on (bel_alloc w5 (.cells (meterC m0).toArray 38))).grown hgrow hne
        have hw5a := hid (bel_alloc w5 (.cells (meterC m0).toArray 38))
        have HGA := hid hgrow
        have HOA := hid hown
        have HAT := hid hat
        have HXA := hid XA
        have a8 := XA.cell 8 _ rfl
        have f8 := XA.free 8
        clear hown hgrow hat XA hO
        go_wp2
        go_meet
        refine ⟨false, { r with meters := r.meters ++ [m0] }, ao, cap', fa2, fc2, ca2, cc2, rfl, hid ⟨?_, ?_, ?_, ?_⟩⟩
        · refine ⟨(fun h => by cases h), fun e => absurd (congrArg (fun x : Plan => x.meters.length) e) ?_⟩
          rw [← HR.out]
          simp [noPl]
        · have F := HF.out
          refine lies_of HL.out ⟨fun m hm => ?_, F.fees, F.charges, F.name, F.days, F.place⟩ (owns_box (more_m (HO.out.on hw5a.out) HGA.out HOA.out) ?_ _ _)
          · rcases List.mem_append.1 hm with h | h
            · exact F.meters m h
            · obtain rfl := List.mem_singleton.1 h
              exact ⟨tiny (by decide), tiny (by decide), i64_0, i64_0, i64_0⟩
          · intro s row hs' e
            cases s with
            | m =>
              obtain rfl := Option.some.inj hs'
              exact apart_new hne HAT.out (by omega) e
            | f => exact NB.out .f row hs' e
            | c => exact NB.out .c row hs' e
            | t i => exact NB.out (.t i) row hs' e
            | a i => exact NB.out (.a i) row hs' e
        · have B := HXA.out.set 8 (.slice ao (r.meters.length + 1) cap')
          unfold planC at B ⊢
          simp only [List.length_append, List.length_singleton]
          exact B
        · have g : Below w3.heap.size w3 (w5.alloc (.cells (meterC m0).toArray 38)) := bel_on b35.out hw5a.out
          exact (g.grown HGA.out (by have := b35.out.size; simp; omega) (fun k hk => (LT.out .m _ k rfl hk).1)).setCell hb3 _
      · -- a fee
        obtain ⟨ti, hi, hz0, hz1, hz2⟩ := info_parts info_fee
        have hO : w5.ownsRow w3.heap.size 42 10 (.slice fa2 r.fees.length fc2) r.fees.length (r.fees.flatMap feeC) := HO.out.own .f _ rfl
        have hn : r.fees.length ≤ 40 := by have := SM.out.fees; rw [HR.out]; simpa [noPl] using this
        go_wp2_with (at_builtin; refine wpList_append_own_at _ rfl _ _ 25 rfl w3.heap.size 42 ti (.agg (feeC e0).toArray) 10 80 Try.underlying25 hi hz0 hz1 hz2 rfl (by decide) _ _ _ rfl (hO.alloc _) ⟨w5.heap.size, 0, none⟩ 1 1 (feeC e0) rfl rfl (news_box w5 (feeC e0) _) (by decide) (by unfold maxLen; omega) (by omega) (by simp; omega) ?_)
        intro v' wA hown hgrow _ hat
        obtain ⟨ao, cap', rfl⟩ := form_slice hown
        have hne : some bb ≠ (Value.slice fa2 r.fees.length fc2).ownBlock := fun e => NB.out .f _ rfl e.symm
        have XA := (hx.on (bel_alloc w5 (.cells (feeC e0).toArray 42))).grown hgrow hne
        have hw5a := hid (bel_alloc w5 (.cells (feeC e0).toArray 42))
        have HGA := hid hgrow
        have HOA := hid hown
        have HAT := hid hat
        have HXA := hid XA
        have a9 := XA.cell 9 _ rfl
        have f9 := XA.free 9
        clear hown hgrow hat XA hO
        go_wp2
        go_meet
        refine ⟨false, { r with fees := r.fees ++ [e0] }, ma2, mc2, ao, cap', ca2, cc2, rfl, hid ⟨?_, ?_, ?_, ?_⟩⟩
        · refine ⟨(fun h => by cases h), fun e => absurd (congrArg (fun x : Plan => x.fees.length) e) ?_⟩
          rw [← HR.out]
          simp [noPl]
        · have F := HF.out
          refine lies_of HL.out ⟨F.meters, fun m hm => ?_, F.charges, F.name, F.days, F.place⟩ (owns_box (more_f (HO.out.on hw5a.out) HGA.out HOA.out) ?_ _ _)
          · rcases List.mem_append.1 hm with h | h
            · exact F.fees m h
            · obtain rfl := List.mem_singleton.1 h
              exact ⟨i64_0, days0, i64_0, i64_0⟩
          · intro s row hs' e
            cases s with
            | m => exact NB.out .m row hs' e
            | f =>
              obtain rfl := Option.some.inj hs'
              exact apart_new hne HAT.out (by omega) e
            | c => exact NB.out .c row hs' e
            | t i => exact NB.out (.t i) row hs' e
            | a i => exact NB.out (.a i) row hs' e
        · have B := HXA.out.set 9 (.slice ao (r.fees.length + 1) cap')
          unfold planC at B ⊢
          simp only [List.length_append, List.length_singleton]
          exact B
        · have g : Below w3.heap.size w3 (w5.alloc (.cells (feeC e0).toArray 42)) := bel_on b35.out hw5a.out
          exact (g.grown HGA.out (by have := b35.out.size; simp; omega) (fun k hk => (LT.out .f _ k rfl hk).1)).setCell hb3 _
      · -- a charge
        obtain ⟨ti, hi, hz0, hz1, hz2⟩ := info_parts info_charge
        have hO : w5.ownsRow w3.heap.size 46 16 (.slice ca2 r.charges.length cc2) r.charges.length ((r.charges.zip hs).flatMap zC) := HO.out.own .c _ rfl
        have hn : r.charges.length ≤ 40 := by have := SM.out.charges; rw [HR.out]; simpa [noPl] using this
        go_wp2_with (at_builtin; refine wpList_append_own_at _ rfl _ _ 26 rfl w3.heap.size 46 ti (.agg (chargeC k0 none 0 none 0).toArray) 16 168 Try.underlying26 hi hz0 hz1 hz2 rfl (by decide) _ _ _ rfl (hO.alloc _) ⟨w5.heap.size, 0, none⟩ 1 1 (chargeC k0 none 0 none 0) rfl rfl (news_box w5 (chargeC k0 none 0 none 0) _) (by decide) (by unfold maxLen; omega) (by omega) (by simp; omega) ?_)
        intro v' wA hown hgrow _ hat
        obtain ⟨ao, cap', rfl⟩ := form_slice hown
        have hne : some bb ≠ (Value.slice ca2 r.charges.length cc2).ownBlock := fun e => NB.out .c _ rfl e.symm
        have XA := (hx.on (bel_alloc w5 (.cells (chargeC k0 none 0 none 0).toArray 46))).grown hgrow hne
        have hw5a := hid (bel_alloc w5 (.cells (chargeC k0 none 0 none 0).toArray 46))
        have HGA := hid hgrow
        have HOA := hid hown
        have HAT := hid hat
        have HXA := hid XA
        have a10 := XA.cell 10 _ rfl
        have f10 := XA.free 10
        clear hown hgrow hat XA hO
        go_wp2
        go_meet
        refine ⟨false, { r with charges := r.charges ++ [k0] }, ma2, mc2, fa2, fc2, ao, cap', rfl, hid ⟨?_, ?_, ?_, ?_⟩⟩
        · refine ⟨(fun h => by cases h), fun e => absurd (congrArg (fun x : Plan => x.charges.length) e) ?_⟩
          rw [← HR.out]
          simp [noPl]
        · have F := HF.out
          refine lies_of (hs := hs ++ [h0]) (by simp [HL.out]) ⟨F.meters, F.fees, fun m hm => ?_, F.name, F.days, F.place⟩ (owns_box (more_c (HO.out.on hw5a.out) HL.out HGA.out HOA.out) ?_ _ _)
          · rcases List.mem_append.1 hm with h | h
            · exact F.charges m h
            · obtain rfl := List.mem_singleton.1 h
              exact ⟨tiny (by decide), days0, ⟨i64_0, i64_0, i64_0, i64_0, i64_0, i64_0⟩, (fun _ h => by cases h), (fun _ h => by cases h)⟩
          · intro s row hs' e
            have hz : (r.charges ++ [k0]).zip (hs ++ [h0]) = r.charges.zip hs ++ [(k0, h0)] := by rw [List.zip_append HL.out.symm]; rfl
            cases s with
            | m => exact NB.out .m row hs' e
            | f => exact NB.out .f row hs' e
            | c =>
              obtain rfl := Option.some.inj hs'
              exact apart_new hne HAT.out (by omega) e
            | t i => exact new_t hz (fun row h => NB.out (.t i) row h) hs' e
            | a i => exact new_a hz (fun row h => NB.out (.a i) row h) hs' e
        · have B := HXA.out.set 10 (.slice ao (r.charges.length + 1) cap')
          unfold planC at B ⊢
          simp only [List.length_append, List.length_singleton]
          exact B
        · have g : Below w3.heap.size w3 (w5.alloc (.cells (chargeC k0 none 0 none 0).toArray 46)) := bel_on b35.out hw5a.out
          exact (g.grown HGA.out (by have := b35.out.size; simp; omega) (fun k hk => (LT.out .c _ k rfl hk).1)).setCell hb3 _
      · -- the place
        have f11 := hx.free 11
        have f12 := hx.free 12
        go_wp2
        go_meet
        refine ⟨true, { r with line := 7, col := 8 }, ma2, mc2, fa2, fc2, ca2, cc2, rfl, hid ⟨?_, ?_, ?_, (b35.out.setCell hb3 _).setCell hb3 _⟩⟩
        · refine ⟨fun _ => ?_, fun _ => rfl⟩
          show noPl p = noPl r
          rw [HR.out, no_no2]
        · have F := HF.out
          exact lies_of HL.out ⟨F.meters, F.fees, F.charges, F.name, F.days, show I64 7 by unfold I64; omega, show I64 8 by unfold I64; omega⟩ (owns_box (owns_box HO.out.own NB.out _ _) NB.out _ _)
        · exact (hx.set 11 _).set 12 _
      all_goals
        have hN : r.charges.length ≤ 40 := by have := SM.out.charges; rw [HR.out]; simpa [noPl] using this
        by_cases hN0 : r.charges.length = 0
        · clear ht
          have hz : ((r.charges.length : Int) == 0) = true := by rw [hN0]; rfl
          go_wp2
          go_ret
          exact ⟨rfl, bel_on HB1.out (bel_on b3 b35.out)⟩
        have hz : ((r.charges.length : Int) == 0) = false := beq_eq_false_iff_ne.2 (by omega)
        have hz2 : ¬ (r.charges.length : Int) = 0 := by omega
        obtain ⟨cb, hcb⟩ : ∃ cb, ca2 = some ⟨cb, 0, none⟩ := by
          rcases (HO.out.own .c _ rfl).2 with ⟨_, h⟩ | ⟨g, cap, cur, h, _⟩
          · exact absurd h hN0
          · simp only [R.v, Value.slice.injEq] at h
            exact ⟨g, h.1⟩
        subst hcb
        obtain ⟨J, hJ1, hJ2, hJ3, hJ4, hJ5⟩ := idx_case at' (r.charges.length : Int) (by omega) (by omega)
        go_wp2
        go_quiet (fail)
        generalize hw6 : World.drewN w5 _ = w6
        have b56 : Below w5.heap.size w5 w6 := by rw [← hw6]; exact ⟨rfl, rfl, rfl, Nat.le_refl _, fun _ _ => rfl⟩
        obtain ⟨j, hjJ⟩ : ∃ j : Nat, j = J.toNat := ⟨_, rfl⟩
        rw [← hjJ]
        have hjn : j < r.charges.length := by omega
        obtain ⟨c, hj⟩ : ∃ c, r.charges[j]? = some c := ⟨_, List.getElem?_eq_getElem hjn⟩
        obtain ⟨d, hd⟩ : ∃ d, hs[j]? = some d := ⟨_, List.getElem?_eq_getElem (by rw [HL.out]; exact hjn)⟩
        have O6 := HO.out.on b56
        have X6 := HX.out.on b56
        have hzj := zip_get hj hd
        have CC : ∀ i u, (chargeC c d.ta d.tc d.aa d.ac)[i]? = some u → w6.cell? ⟨cb, j * 16 + i, none⟩ = some u := fun i u hi => by
          have hil : i < 16 := (List.getElem?_eq_some_iff.1 hi).1
          rw [World.ownsRow.cellAt (O6.own .c _ rfl) _ (show j * 16 + i < r.charges.length * 16 by omega)]
          exact flat_get (cells := zC) zC_len _ j (c, d) i u hzj hi
        have CF : ∀ i, w6.frozen? ⟨cb, i, none⟩ = false := fun i => World.ownsRow.frozenAt (O6.own .c _ rfl) i
        have hcbb : bb ≠ cb := fun e => NB.out .c _ rfl (by rw [e]; rfl)
        have hcl : cb < w6.heap.size := (((O6.own .c _ rfl).lt cb rfl).2)
        have hc3 : w3.heap.size ≤ cb := ((O6.own .c _ rfl).lt cb rfl).1
        have HCC := hid CC
        have HCF := hid CF
        have HJ := hid hj
        have HD := hid hd
        have HO6 := hid O6
        have HX6 := hid X6
        have B6 := hid (bel_on b35.out b56)
        clear hw6 O6 X6 hzj CC CF hj hd hjJ hJ1 hJ2 hJ3 hJ4 hJ5 hN hN0 hz hz2 hx c0 c1 c2 c3 c4 c5 c6 c7 c8 c9 c10 c11 c12
      · -- the tiers
        obtain ⟨ti, hi, hz0, hz1, hz2⟩ := info_parts info_tier
        have a11 := HCC.out 11 _ rfl
        have hO : w6.ownsRow w3.heap.size 49 2 (.slice d.ta c.tiers.length d.tc) c.tiers.length (c.tiers.flatMap tierC) := HO6.out.own (.t j) _ (own_t HJ.out HD.out)
        have hn : c.tiers.length ≤ 40 := by
          have hm := List.mem_of_getElem? HJ.out
          rw [HR.out] at hm
          simp only [noPl, List.mem_map] at hm
          obtain ⟨x, hx, rfl⟩ := hm
          exact (SM.out.parts x hx).1
        go_wp2_with (at_builtin; refine wpList_append_own_at _ rfl _ _ 43 rfl w3.heap.size 49 ti (.agg (tierC ⟨0, 0⟩).toArray) 2 16 Try.underlying43 hi hz0 hz1 hz2 rfl (by decide) _ _ _ rfl (hO.alloc _) ⟨w6.heap.size, 0, none⟩ 1 1 (tierC ⟨0, 0⟩) rfl rfl (news_box w6 (tierC ⟨0, 0⟩) _) (by decide) (by unfold maxLen; omega) (by omega) (by have := B6.out.size; simp; omega) ?_)
        intro v' wA hown hgrow _ hat
        obtain ⟨ao, cap', rfl⟩ := form_slice hown
        have hw6a := hid (bel_alloc w6 (.cells (tierC ⟨0, 0⟩).toArray 49))
        have hne : some cb ≠ (Value.slice d.ta c.tiers.length d.tc).ownBlock := fun e => by
          have := HO6.out.apart .c (.t j) _ _ cb rfl (own_t HJ.out HD.out) rfl e.symm
          cases this
        have hne2 : some bb ≠ (Value.slice d.ta c.tiers.length d.tc).ownBlock := fun e => NB.out (.t j) _ (own_t HJ.out HD.out) e.symm
        have k11 : wA.cell? ⟨cb, j * 16 + 11, none⟩ = some (.slice d.ta c.tiers.length d.tc) := by
          refine hgrow.cell (a := ⟨cb, j * 16 + 11, none⟩) ?_ hne
          exact (hw6a.out.cell (p := ⟨cb, j * 16 + 11, none⟩) hcl).trans a11
        have f11 : wA.frozen? ⟨cb, j * 16 + 11, none⟩ = false := by
          rw [World.frozen?_of_block (w := w6) ((hgrow.block cb (Nat.lt_of_lt_of_le hcl hw6a.out.size) hne).trans (hw6a.out.block cb hcl))]
          exact HCF.out _
        have XA := hid ((HX6.out.on hw6a.out).grown hgrow hne2)
        have HGA := hid hgrow
        have HOA := hid hown
        have HAT := hid hat
        have s6 : w6.heap.size < (w6.alloc (.cells (tierC ⟨0, 0⟩).toArray 49)).heap.size := by simp
        have BA := hid ((bel_on B6.out hw6a.out).grown hgrow (by have := B6.out.size; omega) (fun k hk => (LT.out (.t j) _ k (own_t HJ.out HD.out) hk).1))
        clear hown hgrow hat hO a11 hne hne2
        go_wp2
        go_meet
        refine ⟨false, { r with charges := r.charges.set j { c with tiers := c.tiers ++ [⟨0, 0⟩] } }, ma2, mc2, fa2, fc2, some ⟨cb, 0, none⟩, cc2, rfl, hid ⟨?_, ?_, ?_, BA.out.setCell hc3 _⟩⟩
        · refine ⟨(fun h => by cases h), fun e => absurd e (ch_ne HR.out HJ.out (fun x => ?_))⟩
          have := congrArg (fun y : Charge => y.tiers.length) x
          simp [nC] at this
        · obtain ⟨C1, C2, ⟨C3, C4, C5, C6, C7, C8⟩, C9, C10⟩ := HF.out.charges c (List.mem_of_getElem? HJ.out)
          refine lies_of (hs := hs.set j { d with ta := ao, tc := cap' }) (by simp [HL.out]) (fits_set HF.out ⟨C1, C2, ⟨C3, C4, C5, C6, C7, C8⟩, ?_, C10⟩) (more_t (HO6.out.on hw6a.out) HJ.out HD.out HGA.out HOA.out HAT.out (by omega))
          intro y hy
          rcases List.mem_append.1 hy with h | h
          · exact C9 y h
          · obtain rfl := List.mem_singleton.1 h
            exact ⟨i64_0, i64_0⟩
        · have B := XA.out.other (p := ⟨cb, j * 16 + 11, none⟩) hcbb (.slice ao (c.tiers.length + 1) cap')
          unfold planC at B ⊢
          simp only [List.length_set]
          exact B
      · -- the adjustments
        obtain ⟨ti, hi, hz0, hz1, hz2⟩ := info_parts info_adj
        have a13 := HCC.out 13 _ rfl
        have hO : w6.ownsRow w3.heap.size 51 3 (.slice d.aa c.adjusts.length d.ac) c.adjusts.length (c.adjusts.flatMap adjC) := HO6.out.own (.a j) _ (own_a HJ.out HD.out)
        have hn : c.adjusts.length ≤ 40 := by
          have hm := List.mem_of_getElem? HJ.out
          rw [HR.out] at hm
          simp only [noPl, List.mem_map] at hm
          obtain ⟨x, hx, rfl⟩ := hm
          exact (SM.out.parts x hx).2
        go_wp2_with (at_builtin; refine wpList_append_own_at _ rfl _ _ 44 rfl w3.heap.size 51 ti (.agg (adjC ⟨0, 0, 0⟩).toArray) 3 24 Try.underlying44 hi hz0 hz1 hz2 rfl (by decide) _ _ _ rfl (hO.alloc _) ⟨w6.heap.size, 0, none⟩ 1 1 (adjC ⟨0, 0, 0⟩) rfl rfl (news_box w6 (adjC ⟨0, 0, 0⟩) _) (by decide) (by unfold maxLen; omega) (by omega) (by have := B6.out.size; simp; omega) ?_)
        intro v' wA hown hgrow _ hat
        obtain ⟨ao, cap', rfl⟩ := form_slice hown
        have hw6a := hid (bel_alloc w6 (.cells (adjC ⟨0, 0, 0⟩).toArray 51))
        have hne : some cb ≠ (Value.slice d.aa c.adjusts.length d.ac).ownBlock := fun e => by
          have := HO6.out.apart .c (.a j) _ _ cb rfl (own_a HJ.out HD.out) rfl e.symm
          cases this
        have hne2 : some bb ≠ (Value.slice d.aa c.adjusts.length d.ac).ownBlock := fun e => NB.out (.a j) _ (own_a HJ.out HD.out) e.symm
        have k13 : wA.cell? ⟨cb, j * 16 + 13, none⟩ = some (.slice d.aa c.adjusts.length d.ac) := by
          refine hgrow.cell (a := ⟨cb, j * 16 + 13, none⟩) ?_ hne
          exact (hw6a.out.cell (p := ⟨cb, j * 16 + 13, none⟩) hcl).trans a13
        have f13 : wA.frozen? ⟨cb, j * 16 + 13, none⟩ = false := by
          rw [World.frozen?_of_block (w := w6) ((hgrow.block cb (Nat.lt_of_lt_of_le hcl hw6a.out.size) hne).trans (hw6a.out.block cb hcl))]
          exact HCF.out _
        have XA := hid ((HX6.out.on hw6a.out).grown hgrow hne2)
        have HGA := hid hgrow
        have HOA := hid hown
        have HAT := hid hat
        have s6 : w6.heap.size < (w6.alloc (.cells (adjC ⟨0, 0, 0⟩).toArray 51)).heap.size := by simp
        have BA := hid ((bel_on B6.out hw6a.out).grown hgrow (by have := B6.out.size; omega) (fun k hk => (LT.out (.a j) _ k (own_a HJ.out HD.out) hk).1))
        clear hown hgrow hat hO a13 hne hne2
        go_wp2
        go_meet
        refine ⟨false, { r with charges := r.charges.set j { c with adjusts := c.adjusts ++ [⟨0, 0, 0⟩] } }, ma2, mc2, fa2, fc2, some ⟨cb, 0, none⟩, cc2, rfl, hid ⟨?_, ?_, ?_, BA.out.setCell hc3 _⟩⟩
        · refine ⟨(fun h => by cases h), fun e => absurd e (ch_ne HR.out HJ.out (fun x => ?_))⟩
          have := congrArg (fun y : Charge => y.adjusts.length) x
          simp [nC] at this
        · obtain ⟨C1, C2, ⟨C3, C4, C5, C6, C7, C8⟩, C9, C10⟩ := HF.out.charges c (List.mem_of_getElem? HJ.out)
          refine lies_of (hs := hs.set j { d with aa := ao, ac := cap' }) (by simp [HL.out]) (fits_set HF.out ⟨C1, C2, ⟨C3, C4, C5, C6, C7, C8⟩, C9, ?_⟩) (more_a (HO6.out.on hw6a.out) HJ.out HD.out HGA.out HOA.out HAT.out (by omega))
          intro y hy
          rcases List.mem_append.1 hy with h | h
          · exact C10 y h
          · obtain rfl := List.mem_singleton.1 h
            exact ⟨i64_0, i64_0, i64_0⟩
        · have B := XA.out.other (p := ⟨cb, j * 16 + 13, none⟩) hcbb (.slice ao (c.adjusts.length + 1) cap')
          unfold planC at B ⊢
          simp only [List.length_set]
          exact B
      · -- the window
        have a1 := HCC.out 1 _ rfl
        have f1 := HCF.out (j * 16 + 1)
        go_wp2
        go_meet
        refine ⟨false, { r with charges := r.charges.set j { c with win := { c.win with has := !c.win.has } } }, ma2, mc2, fa2, fc2, some ⟨cb, 0, none⟩, cc2, rfl, hid ⟨?_, ?_, ?_, B6.out.setCell hc3 _⟩⟩
        · exact ⟨(fun h => by cases h), fun e => absurd e (ch_ne HR.out HJ.out (fun x => by have := congrArg (fun y : Charge => y.win.has) x; revert this; show (!c.win.has) = c.win.has → False; cases c.win.has <;> simp))⟩
        · obtain ⟨C1, C2, ⟨C3, C4, C5, C6, C7, C8⟩, C9, C10⟩ := HF.out.charges c (List.mem_of_getElem? HJ.out)
          exact lies_of (by simp [HL.out]) (fits_set HF.out ⟨C1, C2, ⟨C3, C4, C5, C6, C7, C8⟩, C9, C10⟩) (set_c HO6.out HJ.out HD.out (by decide) rfl rfl rfl)
        · have B := HX6.out.other (p := ⟨cb, j * 16 + 1, none⟩) hcbb (.bool (!c.win.has))
          unfold planC at B ⊢
          simp only [List.length_set]
          exact B
      · -- the mode
        have a12 := HCC.out 12 _ rfl
        have f12 := HCF.out (j * 16 + 12)
        go_wp2
        go_meet
        refine ⟨false, { r with charges := r.charges.set j { c with mode := wrap64 (c.mode + 1) } }, ma2, mc2, fa2, fc2, some ⟨cb, 0, none⟩, cc2, rfl, hid ⟨?_, ?_, ?_, B6.out.setCell hc3 _⟩⟩
        · exact ⟨(fun h => by cases h), fun e => absurd e (ch_ne HR.out HJ.out (fun x => wrap_ne c.mode (congrArg Charge.mode x)))⟩
        · obtain ⟨C1, C2, ⟨C3, C4, C5, C6, C7, C8⟩, C9, C10⟩ := HF.out.charges c (List.mem_of_getElem? HJ.out)
          exact lies_of (by simp [HL.out]) (fits_set HF.out ⟨C1, C2, ⟨C3, C4, C5, i64_wrap _, C7, C8⟩, C9, C10⟩) (set_c HO6.out HJ.out HD.out (by decide) rfl rfl rfl)
        · have B := HX6.out.other (p := ⟨cb, j * 16 + 12, none⟩) hcbb (.int .i64 (wrap64 (c.mode + 1)))
          unfold planC at B ⊢
          simp only [List.length_set]
          exact B
      · -- the line
        have a14 := HCC.out 14 _ rfl
        have f14 := HCF.out (j * 16 + 14)
        go_wp2
        go_meet
        refine ⟨true, { r with charges := r.charges.set j { c with line := wrap64 (c.line + 1) } }, ma2, mc2, fa2, fc2, some ⟨cb, 0, none⟩, cc2, rfl, hid ⟨?_, ?_, ?_, B6.out.setCell hc3 _⟩⟩
        · exact ⟨fun _ => ch_eq HR.out HJ.out (ch_at HR.out HJ.out), fun _ => rfl⟩
        · obtain ⟨C1, C2, ⟨C3, C4, C5, C6, C7, C8⟩, C9, C10⟩ := HF.out.charges c (List.mem_of_getElem? HJ.out)
          exact lies_of (by simp [HL.out]) (fits_set HF.out ⟨C1, C2, ⟨C3, C4, C5, C6, i64_wrap _, C8⟩, C9, C10⟩) (set_c HO6.out HJ.out HD.out (by decide) rfl rfl rfl)
        · have B := HX6.out.other (p := ⟨cb, j * 16 + 14, none⟩) hcbb (.int .i64 (wrap64 (c.line + 1)))
          unfold planC at B ⊢
          simp only [List.length_set]
          exact B
      · -- the block
        have a9 := HCC.out 9 _ rfl
        have f9 := HCF.out (j * 16 + 9)
        go_wp2
        go_meet
        refine ⟨false, { r with charges := r.charges.set j { c with block := wrap64 (c.block + 1) } }, ma2, mc2, fa2, fc2, some ⟨cb, 0, none⟩, cc2, rfl, hid ⟨?_, ?_, ?_, B6.out.setCell hc3 _⟩⟩
        · exact ⟨(fun h => by cases h), fun e => absurd e (ch_ne HR.out HJ.out (fun x => wrap_ne c.block (congrArg Charge.block x)))⟩
        · obtain ⟨C1, C2, ⟨C3, C4, C5, C6, C7, C8⟩, C9, C10⟩ := HF.out.charges c (List.mem_of_getElem? HJ.out)
          exact lies_of (by simp [HL.out]) (fits_set HF.out ⟨C1, C2, ⟨C3, i64_wrap _, C5, C6, C7, C8⟩, C9, C10⟩) (set_c HO6.out HJ.out HD.out (by decide) rfl rfl rfl)
        · have B := HX6.out.other (p := ⟨cb, j * 16 + 9, none⟩) hcbb (.int .i64 (wrap64 (c.block + 1)))
          unfold planC at B ⊢
          simp only [List.length_set]
          exact B
    case rest =>
      obtain ⟨sm, q, mq, mcq, fq, fcq, cq, ccq, rfl, hcut⟩ := hcut
      obtain ⟨W, hW⟩ : ∃ W, W = wc := ⟨_, rfl⟩
      rw [← hW] at hcut ⊢
      clear hW c0 c1 c2 c3 c4 c5 c6 c7 c8 c9 c10 c11 c12 hx lx
      have BW := hcut.out.2.2.2
      have b1W := bel_on b3 BW
      have HB1W := hid (bel_on HB1.out b1W)
      have K26 : Hid (∀ w', Below W.heap.size W w' → w'.cell? ⟨w.heap.size, 0, none⟩ = some (.string p.name) ∧ w'.cell? ⟨w.heap.size, 1, none⟩ = some (.string p.cur) ∧ w'.cell? ⟨w.heap.size, 2, none⟩ = some (.int .i64 p.a.y) ∧ w'.cell? ⟨w.heap.size, 3, none⟩ = some (.int .i64 p.a.m) ∧ w'.cell? ⟨w.heap.size, 4, none⟩ = some (.int .i64 p.a.d) ∧ w'.cell? ⟨w.heap.size, 5, none⟩ = some (.int .i64 p.b.y) ∧ w'.cell? ⟨w.heap.size, 6, none⟩ = some (.int .i64 p.b.m) ∧ w'.cell? ⟨w.heap.size, 7, none⟩ = some (.int .i64 p.b.d) ∧ w'.cell? ⟨w.heap.size, 8, none⟩ = some (.slice ma p.meters.length mc) ∧ w'.cell? ⟨w.heap.size, 9, none⟩ = some (.slice fa p.fees.length fc) ∧ w'.cell? ⟨w.heap.size, 10, none⟩ = some (.slice ca p.charges.length cc) ∧ w'.cell? ⟨w.heap.size, 11, none⟩ = some (.int .i64 p.line) ∧ w'.cell? ⟨w.heap.size, 12, none⟩ = some (.int .i64 p.col) ∧ w'.cell? ⟨bb, 0, none⟩ = some (.string q.name) ∧ w'.cell? ⟨bb, 1, none⟩ = some (.string q.cur) ∧ w'.cell? ⟨bb, 2, none⟩ = some (.int .i64 q.a.y) ∧ w'.cell? ⟨bb, 3, none⟩ = some (.int .i64 q.a.m) ∧ w'.cell? ⟨bb, 4, none⟩ = some (.int .i64 q.a.d) ∧ w'.cell? ⟨bb, 5, none⟩ = some (.int .i64 q.b.y) ∧ w'.cell? ⟨bb, 6, none⟩ = some (.int .i64 q.b.m) ∧ w'.cell? ⟨bb, 7, none⟩ = some (.int .i64 q.b.d) ∧ w'.cell? ⟨bb, 8, none⟩ = some (.slice mq q.meters.length mcq) ∧ w'.cell? ⟨bb, 9, none⟩ = some (.slice fq q.fees.length fcq) ∧ w'.cell? ⟨bb, 10, none⟩ = some (.slice cq q.charges.length ccq) ∧ w'.cell? ⟨bb, 11, none⟩ = some (.int .i64 q.line) ∧ w'.cell? ⟨bb, 12, none⟩ = some (.int .i64 q.col)) := hid fun w' h => by
        obtain ⟨x0, x1, x2, x3, x4, x5, x6, x7, x8, x9, x10, x11, x12⟩ := CA.out w' (bel_on b1W h)
        have c := (hcut.out.2.2.1.on h).cell
        exact ⟨x0, x1, x2, x3, x4, x5, x6, x7, x8, x9, x10, x11, x12, c 0 _ rfl, c 1 _ rfl, c 2 _ rfl, c 3 _ rfl, c 4 _ rfl, c 5 _ rfl, c 6 _ rfl, c 7 _ rfl, c 8 _ rfl, c 9 _ rfl, c 10 _ rfl, c 11 _ rfl, c 12 _ rfl⟩
      have SPQ : Hid (∀ W', Below W.heap.size W W' → Calls Try.prog 12 #[.agg #[.string p.name, .string p.cur, .int .i64 p.a.y, .int .i64 p.a.m, .int .i64 p.a.d, .int .i64 p.b.y, .int .i64 p.b.m, .int .i64 p.b.d, .slice ma p.meters.length mc, .slice fa p.fees.length fc, .slice ca p.charges.length cc, .int .i64 p.line, .int .i64 p.col], .agg #[.string q.name, .string q.cur, .int .i64 q.a.y, .int .i64 q.a.m, .int .i64 q.a.d, .int .i64 q.b.y, .int .i64 q.b.m, .int .i64 q.b.d, .slice mq q.meters.length mcq, .slice fq q.fees.length fcq, .slice cq q.charges.length ccq, .int .i64 q.line, .int .i64 q.col]] W' fun e w' => e = .returned (.bool sm) ∧ Below W'.heap.size W' w') := hid fun W' hb =>
        (D.tr.same p q ma mc fa fc ca cc mq mcq fq fcq cq ccq W' (D.tr.keep k (bel_on HB1W.out hb)) (hp.on (bel_on HB1W.out hb)) (hcut.out.2.1.on hb)).mono fun e w' ⟨b, h1, h2, h3⟩ => ⟨by rw [h2, Bool.eq_iff_iff.2 (h1.trans hcut.out.1.symm)], h3⟩
      have SQP : Hid (∀ W', Below W.heap.size W W' → Calls Try.prog 12 #[.agg #[.string q.name, .string q.cur, .int .i64 q.a.y, .int .i64 q.a.m, .int .i64 q.a.d, .int .i64 q.b.y, .int .i64 q.b.m, .int .i64 q.b.d, .slice mq q.meters.length mcq, .slice fq q.fees.length fcq, .slice cq q.charges.length ccq, .int .i64 q.line, .int .i64 q.col], .agg #[.string p.name, .string p.cur, .int .i64 p.a.y, .int .i64 p.a.m, .int .i64 p.a.d, .int .i64 p.b.y, .int .i64 p.b.m, .int .i64 p.b.d, .slice ma p.meters.length mc, .slice fa p.fees.length fc, .slice ca p.charges.length cc, .int .i64 p.line, .int .i64 p.col]] W' fun e w' => e = .returned (.bool sm) ∧ Below W'.heap.size W' w') := hid fun W' hb =>
        (D.tr.same q p mq mcq fq fcq cq ccq ma mc fa fc ca cc W' (D.tr.keep k (bel_on HB1W.out hb)) (hcut.out.2.1.on hb) (hp.on (bel_on HB1W.out hb))).mono fun e w' ⟨b, h1, h2, h3⟩ => ⟨by rw [h2, Bool.eq_iff_iff.2 ((h1.trans eq_comm).trans hcut.out.1.symm)], h3⟩
      have BB : Hid (Below W.heap.size W W) := hid (Below.refl _ _)
      have l0 : w.heap.size < W.heap.size := Nat.lt_of_lt_of_le lt1.out b1W.size
      have l1 : bb < W.heap.size := hcut.out.2.2.1.lt
      clear b1W BW hcut HX HO HL L5 NB LT b35 CA GP PL HF HR HRN HW1 SM hsn hp k D
      obtain ⟨x0, x1, x2, x3, x4, x5, x6, x7, x8, x9, x10, x11, x12, y0, y1, y2, y3, y4, y5, y6, y7, y8, y9, y10, y11, y12⟩ := K26.out W BB.out
      rcases Bool.eq_false_or_eq_true sm with rfl | rfl
      all_goals
        go_wp2_with fail
        refine (SPQ.out _ BB.out).mono ?_
        rintro e w6 ⟨rfl, b6⟩
        have l06 : w.heap.size < w6.heap.size := Nat.lt_of_lt_of_le l0 b6.size
        have l16 : bb < w6.heap.size := Nat.lt_of_lt_of_le l1 b6.size
        clear x0 x1 x2 x3 x4 x5 x6 x7 x8 x9 x10 x11 x12 y0 y1 y2 y3 y4 y5 y6 y7 y8 y9 y10 y11 y12 l0 l1
        obtain ⟨x0, x1, x2, x3, x4, x5, x6, x7, x8, x9, x10, x11, x12, y0, y1, y2, y3, y4, y5, y6, y7, y8, y9, y10, y11, y12⟩ := K26.out w6 b6
        go_wp2_with fail
        refine (SQP.out _ b6).mono ?_
        rintro e w7 ⟨rfl, b7⟩
        go_wp2
        go_ret
        exact ⟨rfl, bel_on HB1W.out (bel_on b6 b7)⟩
end Go.Proofs.Ytfeccjcdpiopaaa.L06
