/- Package tree, walked: Plain. -/
import Derived.Test.YtfeccjcdpiopaaaTr11
namespace Go.Proofs.Ytfeccjcdpiopaaa.Te
open Go.RowKit Go.Sort P Mm R6 Tl L06

theorem Owns.below {w : World} {base : Nat} {ρ : Slot → Option R} (h : Owns w base ρ) {a : Addr} (ha : a.block < base) (u : Value) : Owns (w.setCell a u) base ρ := ⟨fun s r hs => ownsRow_setCell_below (h.own s r hs) ha u, h.apart⟩
theorem Owns.belows {w : World} {base : Nat} {ρ : Slot → Option R} (h : Owns w base ρ) {b : Nat} (hb : b < base) (vs : List Value) (o : Nat) : Owns (w.setCells b o vs) base ρ := ⟨fun s r hs => owns_setCells_below hb vs o w (h.own s r hs), h.apart⟩
theorem zip_unzip {α β : Type} : ∀ zs : List (α × β), (zs.map Prod.fst).zip (zs.map Prod.snd) = zs
  | [] => rfl
  | x :: r => by rw [List.map_cons, List.map_cons, List.zip_cons_cons, zip_unzip r]
/-- Meters, fees and charges that were made one behind the other are a plan's rows. -/
theorem owns_all {W : World} {B S3 S5 g n : Nat} {q : Plan} {ma : Option Addr} {mc : Nat} {fa : Option Addr} {fc : Nat} {zs : List (Charge × Hd)} (hz : zs.map Prod.fst = q.charges) (hn : q.charges.length = n)
    (om : W.ownsRow B 38 5 (.slice ma q.meters.length mc) q.meters.length (q.meters.flatMap meterC)) (lm : ∀ k, (Value.slice ma q.meters.length mc).ownBlock = some k → k < S3)
    (of : W.ownsRow S3 42 10 (.slice fa q.fees.length fc) q.fees.length (q.fees.flatMap feeC)) (lf : ∀ k, (Value.slice fa q.fees.length fc).ownBlock = some k → k < S5)
    (oc : Owns W S5 (rhoC g n zs [])) (h1 : B ≤ S3) (h2 : S3 ≤ S5) : Owns W B (rowOf q ma mc fa fc (some ⟨g, 0, none⟩) n (zs.map Prod.snd)) := by
  have hzip : q.charges.zip (zs.map Prod.snd) = zs := by rw [← hz]; exact zip_unzip zs
  have key : ∀ s r, rowOf q ma mc fa fc (some ⟨g, 0, none⟩) n (zs.map Prod.snd) s = some r → (s = .m ∧ r = ⟨38, 5, ma, q.meters.length, mc, q.meters.flatMap meterC⟩) ∨ (s = .f ∧ r = ⟨42, 10, fa, q.fees.length, fc, q.fees.flatMap feeC⟩) ∨ rhoC g n zs [] s = some r := by
    intro s r h
    cases s with
    | m => exact .inl ⟨rfl, (Option.some.inj h).symm⟩
    | f => exact .inr (.inl ⟨rfl, (Option.some.inj h).symm⟩)
    | c =>
      refine .inr (.inr ?_)
      have := (Option.some.inj h).symm
      rw [this, hzip, hn]
      show some _ = some _
      rw [List.append_nil]
    | t i =>
      refine .inr (.inr ?_)
      rw [← h]
      show Option.map _ (zs[i]?) = Option.map _ ((q.charges.zip (zs.map Prod.snd))[i]?)
      rw [hzip]
    | a i =>
      refine .inr (.inr ?_)
      rw [← h]
      show Option.map _ (zs[i]?) = Option.map _ ((q.charges.zip (zs.map Prod.snd))[i]?)
      rw [hzip]
  have lc : ∀ s r k, rhoC g n zs [] s = some r → r.v.ownBlock = some k → S5 ≤ k := fun s r k hs hk => ((oc.own s r hs).lt k hk).1
  refine ⟨fun s r hs => ?_, fun s t r r' k hs ht hk hk' => ?_⟩
  · rcases key s r hs with ⟨_, rfl⟩ | ⟨_, rfl⟩ | h
    · exact om
    · exact of.mono h1
    · exact (oc.own s r h).mono (Nat.le_trans h1 h2)
  · rcases key s r hs with ⟨rfl, rfl⟩ | ⟨rfl, rfl⟩ | h <;> rcases key t r' ht with ⟨rfl, rfl⟩ | ⟨rfl, rfl⟩ | h'
    · rfl
    · have := lm k hk
      have := (of.lt k hk').1
      omega
    · have := lm k hk
      have := lc t r' k h' hk'
      omega
    · have := lm k hk'
      have := (of.lt k hk).1
      omega
    · rfl
    · have := lf k hk
      have := lc t r' k h' hk'
      omega
    · have := lm k hk'
      have := lc s r k h hk
      omega
    · have := lf k hk'
      have := lc s r k h hk
      omega
    · exact oc.apart s t r r' k h h' hk hk'
set_option maxHeartbeats 4000000 in
set_option maxRecDepth 100000 in
theorem plain_any (p : Plan) (ma : Option Addr) (mc : Nat) (fa : Option Addr) (fc : Nat) (ca : Option Addr) (cc : Nat) (w : World) (hm : Mid p) (hp : PlanLies w (planC p ma mc fa fc ca cc) p ma mc fa fc ca cc) :
    Calls Try.prog 11 #[.agg (planC p ma mc fa fc ca cc).toArray] w fun e w' => ∃ ma' mc' fa' fc' ca' cc' hs, e = .returned (.agg (planC (noPl p) ma' mc' fa' fc' ca' cc').toArray) ∧
      hs.length = (noPl p).charges.length ∧ Owns w' w.heap.size (rowOf (noPl p) ma' mc' fa' fc' ca' cc' hs) ∧ Below w.heap.size w w' := by
  have cM := fun W (hb : Below w.heap.size w W) => turnedM_any p.meters ma mc W (hp.meters.on hb) hm.meters
  have cF := fun W (hb : Below w.heap.size w W) => turnedF_any p.fees fa fc W (hp.fees.on hb) hm.fees
  have cC := fun W (hb : Below w.heap.size w W) => turnedC_any p.charges ca cc W (hp.charges.on hb) hm.charges hm.parts
  clear hp hm
  unfold planC
  go_enter Try.func11, Try.ntmps11
  go_wp2_with fail
  obtain ⟨w1, hw1⟩ : ∃ w1, w1 = (w.alloc (.cells [.string p.name, .string p.cur, .int .i64 p.a.y, .int .i64 p.a.m, .int .i64 p.a.d, .int .i64 p.b.y, .int .i64 p.b.m, .int .i64 p.b.d, .slice ma p.meters.length mc, .slice fa p.fees.length fc, .slice ca p.charges.length cc, .int .i64 0, .int .i64 0].toArray 28)).alloc (.cells [.string ⟨#[]⟩, .string ⟨#[]⟩, .int .i64 0, .int .i64 0, .int .i64 0, .int .i64 0, .int .i64 0, .int .i64 0, .slice none 0 0, .slice none 0 0, .slice none 0 0, .int .i64 0, .int .i64 0].toArray 28) := ⟨_, rfl⟩
  rw [← hw1]
  obtain ⟨bx, bz⟩ := box_lies hw1
  have b1 : Below w.heap.size w w1 := by rw [hw1]; exact bel_alloc2 ..
  have s1 : w.heap.size + 1 < w1.heap.size := by rw [hw1]; simp
  clear hw1
  refine (cM _ b1).mono ?_
  rintro e w2 ⟨v, rfl, om, b2⟩
  obtain ⟨m2, c2, rfl⟩ := form_slice om
  have bx2 := hid (bx.on b2)
  have bz2 := hid (bz.on b2)
  have k8 := bx2.out.cell 8 _ rfl
  have k9 := bx2.out.cell 9 _ rfl
  have f8 := bx2.out.free 8
  have b12 := hid (bel_on b1 b2)
  have s2 := hid s1
  have lt2 : w.heap.size < w2.heap.size := Nat.lt_of_lt_of_le (by omega) b2.size
  have om' := hid om
  have sz2 := hid b2.size
  clear bx bz b1 b2 s1 cM om
  go_wp2_with fail
  obtain ⟨w3, hw3⟩ : ∃ w3, w3 = w2.setCell ⟨w.heap.size, 8, none⟩ (.slice m2 p.meters.length c2) := ⟨_, rfl⟩
  rw [← hw3]
  have bx3 := bx2.out.set 8 (.slice m2 p.meters.length c2)
  rw [← hw3] at bx3
  have bz3 := bz2.out.other (p := ⟨w.heap.size, 8, none⟩) (by simp) (.slice m2 p.meters.length c2)
  rw [← hw3] at bz3
  have b3 : Below w.heap.size w w3 := by rw [hw3]; exact b12.out.setCell (Nat.le_refl _) _
  have o3 := ownsRow_setCell_below (a := ⟨w.heap.size, 8, none⟩) om'.out (by have := s2.out; show w.heap.size < _; omega) (.slice m2 p.meters.length c2)
  rw [← hw3] at o3
  have s3 : w2.heap.size = w3.heap.size := by rw [hw3]; simp
  have LM : Hid (∀ k, (Value.slice m2 p.meters.length c2).ownBlock = some k → k < w3.heap.size) := hid fun k hk => by rw [← s3]; exact (om'.out.lt k hk).2
  have S3 := hid (show w1.heap.size ≤ w3.heap.size by rw [← s3]; exact sz2.out)
  clear hw3 k8 k9 f8 bx2 bz2 om' sz2 b12 lt2 s3
  refine (cF _ b3).mono ?_
  rintro e w4 ⟨v, rfl, of, b4⟩
  obtain ⟨f4, c4, rfl⟩ := form_slice of
  have bx4 := hid (bx3.on b4)
  have bz4 := hid (bz3.on b4)
  have k9 := bx4.out.cell 9 _ rfl
  have k10 := bx4.out.cell 10 _ rfl
  have f9 := bx4.out.free 9
  have b14 := hid (bel_on b3 b4)
  have lt4 : w.heap.size < w4.heap.size := Nat.lt_of_lt_of_le (by have := s2.out; have := S3.out; omega) b4.size
  have o4 := hid (owns_on o3 b4)
  have of' := hid of
  have sz4 := hid b4.size
  clear bx3 bz3 b3 b4 cF o3 of
  go_wp2_with fail
  obtain ⟨w5, hw5⟩ : ∃ w5, w5 = w4.setCell ⟨w.heap.size, 9, none⟩ (.slice f4 p.fees.length c4) := ⟨_, rfl⟩
  rw [← hw5]
  have bx5 := bx4.out.set 9 (.slice f4 p.fees.length c4)
  rw [← hw5] at bx5
  have bz5 := bz4.out.other (p := ⟨w.heap.size, 9, none⟩) (by simp) (.slice f4 p.fees.length c4)
  rw [← hw5] at bz5
  have b5 : Below w.heap.size w w5 := by rw [hw5]; exact b14.out.setCell (Nat.le_refl _) _
  have o5 := ownsRow_setCell_below (a := ⟨w.heap.size, 9, none⟩) o4.out (by have := s2.out; show w.heap.size < _; omega) (.slice f4 p.fees.length c4)
  rw [← hw5] at o5
  have o5f := ownsRow_setCell_below (a := ⟨w.heap.size, 9, none⟩) of'.out (by have := s2.out; have := S3.out; show w.heap.size < _; omega) (.slice f4 p.fees.length c4)
  rw [← hw5] at o5f
  have s5 : w4.heap.size = w5.heap.size := by rw [hw5]; simp
  have LF : Hid (∀ k, (Value.slice f4 p.fees.length c4).ownBlock = some k → k < w5.heap.size) := hid fun k hk => by rw [← s5]; exact (of'.out.lt k hk).2
  have S5 := hid (show w3.heap.size ≤ w5.heap.size by rw [← s5]; exact sz4.out)
  clear hw5 k9 k10 f9 bx4 bz4 o4 of' sz4 b14 lt4 s5
  refine (cC _ b5).mono ?_
  rintro e w6 ⟨zs, rfl, hz, oc, b6⟩
  obtain ⟨g, hg⟩ : ∃ g, g = w5.heap.size := ⟨_, rfl⟩
  rw [← hg]
  have OC : Hid (Owns w6 w5.heap.size (rhoC g p.charges.length zs [])) := hid (by rw [hg]; exact oc)
  have bx6 := hid (bx5.on b6)
  have bz6 := hid (bz5.on b6)
  have k10 := bx6.out.cell 10 _ rfl
  have f10 := bx6.out.free 10
  have b16 := hid (bel_on b5 b6)
  have lt6 : w.heap.size < w6.heap.size := Nat.lt_of_lt_of_le (by have := s2.out; have := S3.out; have := S5.out; omega) b6.size
  have o6 := hid (owns_on o5 b6)
  have o6f := hid (owns_on o5f b6)
  have HZ := hid hz
  clear bx5 bz5 b5 b6 cC o5 o5f oc hg hz
  go_upto_region 5 with fail
  obtain ⟨w7, hw7⟩ : ∃ w7, w7 = w6.setCell ⟨w.heap.size, 10, none⟩ (.slice (some ⟨g, 0, none⟩) p.charges.length p.charges.length) := ⟨_, rfl⟩
  rw [← hw7]
  have bx7 := bx6.out.set 10 (.slice (some ⟨g, 0, none⟩) p.charges.length p.charges.length)
  rw [← hw7] at bx7
  have bz7 := bz6.out.other (p := ⟨w.heap.size, 10, none⟩) (by simp) (.slice (some ⟨g, 0, none⟩) p.charges.length p.charges.length)
  rw [← hw7] at bz7
  have b7 : Below w.heap.size w w7 := by rw [hw7]; exact b16.out.setCell (Nat.le_refl _) _
  have o7 := ownsRow_setCell_below (a := ⟨w.heap.size, 10, none⟩) o6.out (by have := s2.out; show w.heap.size < _; omega) (.slice (some ⟨g, 0, none⟩) p.charges.length p.charges.length)
  rw [← hw7] at o7
  have o7f := ownsRow_setCell_below (a := ⟨w.heap.size, 10, none⟩) o6f.out (by have := s2.out; have := S3.out; show w.heap.size < _; omega) (.slice (some ⟨g, 0, none⟩) p.charges.length p.charges.length)
  rw [← hw7] at o7f
  have o7c := Owns.below (a := ⟨w.heap.size, 10, none⟩) OC.out (by have := s2.out; have := S3.out; have := S5.out; show w.heap.size < _; omega) (.slice (some ⟨g, 0, none⟩) p.charges.length p.charges.length)
  rw [← hw7] at o7c
  have rx : Hid (w7.rangeAt w.heap.size 0 [.string p.name, .string p.cur, .int .i64 p.a.y, .int .i64 p.a.m, .int .i64 p.a.d, .int .i64 p.b.y, .int .i64 p.b.m, .int .i64 p.b.d, .slice m2 p.meters.length c2, .slice f4 p.fees.length c4, .slice (some ⟨g, 0, none⟩) p.charges.length p.charges.length, .int .i64 0, .int .i64 0]) := hid (box_range bx7)
  have rz : Hid (w7.there (w.heap.size + 1) 0 13) := hid (box_there bz7 (n := 13) rfl)
  have B7 := hid b7
  have O7 := hid o7
  have O7f := hid o7f
  have O7c := hid o7c
  clear k10 f10 bx6 bz6 b16 o6 o6f OC hw7 bx7 bz7 b7 o7 o7f o7c lt6
  go_wp2_with (first
    | (with_reducible refine wpList_load_mid (op := Oper.mk (some 17) (Op.load 28 (Operand.tmp 1)) _ _ _ _) ?_ 28 (.tmp 1) ?_ w.heap.size 0 ?_ [.string p.name, .string p.cur, .int .i64 p.a.y, .int .i64 p.a.m, .int .i64 p.a.d, .int .i64 p.b.y, .int .i64 p.b.m, .int .i64 p.b.d, .slice m2 p.meters.length c2, .slice f4 p.fees.length c4, .slice (some ⟨g, 0, none⟩) p.charges.length p.charges.length, .int .i64 0, .int .i64 0] _ rx.out Try.underlying28 ?_ ?_ ?_; rfl; rfl; go_simp; rfl; kernel_rfl)
    | (with_reducible refine wpList_store_mid (op := Oper.mk none (Op.store 28 (Operand.tmp 2) (Operand.tmp 17)) _ _ _ _) ?_ 28 (.tmp 2) (.tmp 17) ?_ (w.heap.size + 1) 0 #[.string p.name, .string p.cur, .int .i64 p.a.y, .int .i64 p.a.m, .int .i64 p.a.d, .int .i64 p.b.y, .int .i64 p.b.m, .int .i64 p.b.d, .slice m2 p.meters.length c2, .slice f4 p.fees.length c4, .slice (some ⟨g, 0, none⟩) p.charges.length p.charges.length, .int .i64 0, .int .i64 0] ?_ ?_ ?_ ?_ ?_ ?_; rfl; rfl; go_simp; go_simp; (simpa using rz.out); kernel_rfl; (simp [Value.oneCell']))
    | fail)
  have rr : (w7.setCells (w.heap.size + 1) 0 [.string p.name, .string p.cur, .int .i64 p.a.y, .int .i64 p.a.m, .int .i64 p.a.d, .int .i64 p.b.y, .int .i64 p.b.m, .int .i64 p.b.d, .slice m2 p.meters.length c2, .slice f4 p.fees.length c4, .slice (some ⟨g, 0, none⟩) p.charges.length p.charges.length, .int .i64 0, .int .i64 0]).rangeAt (w.heap.size + 1) 0 [.string p.name, .string p.cur, .int .i64 p.a.y, .int .i64 p.a.m, .int .i64 p.a.d, .int .i64 p.b.y, .int .i64 p.b.m, .int .i64 p.b.d, .slice m2 p.meters.length c2, .slice f4 p.fees.length c4, .slice (some ⟨g, 0, none⟩) p.charges.length p.charges.length, .int .i64 0, .int .i64 0] := World.rangeAt_setCells_same _ _ _ _ rz.out
  refine bodyPost_ret (v := .agg #[.string p.name, .string p.cur, .int .i64 p.a.y, .int .i64 p.a.m, .int .i64 p.a.d, .int .i64 p.b.y, .int .i64 p.b.m, .int .i64 p.b.d, .slice m2 p.meters.length c2, .slice f4 p.fees.length c4, .slice (some ⟨g, 0, none⟩) p.charges.length p.charges.length, .int .i64 0, .int .i64 0]) ?_ rfl ?_
  · exact results_mid rfl _ _ (w.heap.size + 1) [.string p.name, .string p.cur, .int .i64 p.a.y, .int .i64 p.a.m, .int .i64 p.a.d, .int .i64 p.b.y, .int .i64 p.b.m, .int .i64 p.b.d, .slice m2 p.meters.length c2, .slice f4 p.fees.length c4, .slice (some ⟨g, 0, none⟩) p.charges.length p.charges.length, .int .i64 0, .int .i64 0] _ rfl rr Try.underlying28 rfl (by kernel_rfl)
  refine ⟨m2, c2, f4, c4, some ⟨g, 0, none⟩, p.charges.length, zs.map Prod.snd, ?_, ?_, ?_, Below.setRow _ _ _ B7.out (by omega)⟩
  · simp [noPl]
  · have := congrArg List.length HZ.out
    simpa [noPl] using this
  · have e1 : (noPl p).meters.length = p.meters.length := by simp [noPl]
    have e2 : (noPl p).fees.length = p.fees.length := by simp [noPl]
    have e3 : (noPl p).charges.length = p.charges.length := by simp [noPl]
    have h := owns_all (W := w7.setCells (w.heap.size + 1) 0 [.string p.name, .string p.cur, .int .i64 p.a.y, .int .i64 p.a.m, .int .i64 p.a.d, .int .i64 p.b.y, .int .i64 p.b.m, .int .i64 p.b.d, .slice m2 p.meters.length c2, .slice f4 p.fees.length c4, .slice (some ⟨g, 0, none⟩) p.charges.length p.charges.length, .int .i64 0, .int .i64 0]) (B := w1.heap.size) (S3 := w3.heap.size) (S5 := w5.heap.size) (g := g) (n := p.charges.length) (q := noPl p) (ma := m2) (mc := c2) (fa := f4) (fc := c4) (zs := zs) HZ.out e3
      (by rw [e1]; exact owns_setCells_below (by have := s2.out; omega) _ _ _ O7.out) (by rw [e1]; exact LM.out)
      (by rw [e2]; exact owns_setCells_below (by have := s2.out; have := S3.out; omega) _ _ _ O7f.out) (by rw [e2]; exact LF.out)
      (Owns.belows O7c.out (by have := s2.out; have := S3.out; have := S5.out; omega) _ _) S3.out S5.out
    exact ⟨fun s r hs => (h.own s r hs).mono (by have := s2.out; omega), h.apart⟩
end Go.Proofs.Ytfeccjcdpiopaaa.Te
