/- Package tree, walked: a charge without its place. -/
import Derived.Test.YtfeccjcdpiopaaaTr8
import Derived.Deep.CutBlock
import Derived.Deep.CutRange
import Derived.Deep.DeepCutAuto
namespace Go.Proofs.Ytfeccjcdpiopaaa.Te
open Go.RowKit Go.Sort P Mm R6 Tl L06

theorem box_lies {w : World} {t : TypeId} {cs ds : List Value} {W : World} (hW : W = (w.alloc (.cells cs.toArray t)).alloc (.cells ds.toArray t)) : Box W w.heap.size cs ∧ Box W (w.heap.size + 1) ds := by
  subst hW
  refine ⟨(Box.new w cs t).on (bel_alloc _ _), ?_⟩
  have := Box.new (w.alloc (.cells cs.toArray t)) ds t
  rwa [show (w.alloc (.cells cs.toArray t)).heap.size = w.heap.size + 1 by simp] at this
set_option maxHeartbeats 4000000 in
set_option maxRecDepth 100000 in
theorem plainCharge_any (c : Charge) (ta : Option Addr) (tc : Nat) (aa : Option Addr) (ac : Nat) (w : World) (h : ChargeLies w (chargeC c ta tc aa ac) c ta tc aa ac) (hlt : c.tiers.length ≤ 100000) (hla : c.adjusts.length ≤ 100000) :
    Calls Try.prog 27 #[.agg (chargeC c ta tc aa ac).toArray] w fun e w' => ∃ hd : Hd, e = .returned (.agg (chargeC (nC c) hd.ta hd.tc hd.aa hd.ac).toArray) ∧
      w'.ownsRow w.heap.size 49 2 (.slice hd.ta c.tiers.length hd.tc) c.tiers.length (c.tiers.flatMap tierC) ∧ w'.ownsRow w.heap.size 51 3 (.slice hd.aa c.adjusts.length hd.ac) c.adjusts.length (c.adjusts.flatMap adjC) ∧
      (∀ k, (Value.slice hd.ta c.tiers.length hd.tc).ownBlock = some k → (Value.slice hd.aa c.adjusts.length hd.ac).ownBlock ≠ some k) ∧ Below w.heap.size w w' := by
  have cT := fun W (hb : Below w.heap.size w W) => cloneT_any c.tiers ta tc W (h.tiers.on hb) hlt
  have cA := fun W (hb : Below w.heap.size w W) => cloneA_any c.adjusts aa ac W (h.adjusts.on hb) hla
  clear h
  unfold chargeC
  go_enter Try.func27, Try.ntmps27
  go_wp2_with fail
  obtain ⟨w1, hw1⟩ : ∃ w1, w1 = (w.alloc (.cells [.string c.meter, .bool c.win.has, .int .i64 c.win.a.y, .int .i64 c.win.a.m, .int .i64 c.win.a.d, .int .i64 c.win.b.y, .int .i64 c.win.b.m, .int .i64 c.win.b.d, .int .i64 c.allowance, .int .i64 c.block, .int .i64 c.kind, .slice ta c.tiers.length tc, .int .i64 c.mode, .slice aa c.adjusts.length ac, .int .i64 0, .int .i64 0].toArray 46)).alloc (.cells [.string ⟨#[]⟩, .bool false, .int .i64 0, .int .i64 0, .int .i64 0, .int .i64 0, .int .i64 0, .int .i64 0, .int .i64 0, .int .i64 0, .int .i64 0, .slice none 0 0, .int .i64 0, .slice none 0 0, .int .i64 0, .int .i64 0].toArray 46) := ⟨_, rfl⟩
  rw [← hw1]
  obtain ⟨bx, bz⟩ := box_lies hw1
  have b1 : Below w.heap.size w w1 := by rw [hw1]; exact bel_alloc2 ..
  have s1 : w.heap.size + 1 < w1.heap.size := by rw [hw1]; simp
  clear hw1
  refine (cT _ b1).mono ?_
  rintro e w2 ⟨v, rfl, o2, b2⟩
  obtain ⟨t2, c2, rfl⟩ := form_slice o2
  have bx2 := hid (bx.on b2)
  have bz2 := hid (bz.on b2)
  have k11 := bx2.out.cell 11 _ rfl
  have k13 := bx2.out.cell 13 _ rfl
  have f11 := bx2.out.free 11
  have b12 := hid (bel_on b1 b2)
  have s2 := hid s1
  have lt2 : w.heap.size < w2.heap.size := Nat.lt_of_lt_of_le (by omega) b2.size
  have o2' := hid o2
  have b2' := hid b2
  clear bx bz b1 b2 s1 cT o2
  go_wp2_with fail
  obtain ⟨w3, hw3⟩ : ∃ w3, w3 = w2.setCell ⟨w.heap.size, 11, none⟩ (.slice t2 c.tiers.length c2) := ⟨_, rfl⟩
  rw [← hw3]
  have bx3 := bx2.out.set 11 (.slice t2 c.tiers.length c2)
  rw [← hw3] at bx3
  have bz3 := bz2.out.other (p := ⟨w.heap.size, 11, none⟩) (by simp) (.slice t2 c.tiers.length c2)
  rw [← hw3] at bz3
  have b3 : Below w.heap.size w w3 := by rw [hw3]; exact b12.out.setCell (Nat.le_refl _) _
  have o3 := ownsRow_setCell_below (a := ⟨w.heap.size, 11, none⟩) o2'.out (by have := s2.out; show w.heap.size < _; omega) (.slice t2 c.tiers.length c2)
  rw [← hw3] at o3
  have s3 : w2.heap.size = w3.heap.size := by rw [hw3]; simp
  clear hw3 k11 k13 f11 bx2 bz2
  refine (cA _ b3).mono ?_
  rintro e w4 ⟨v, rfl, o4, b4⟩
  obtain ⟨t4, c4, rfl⟩ := form_slice o4
  have bx4 := hid (bx3.on b4)
  have bz4 := hid (bz3.on b4)
  have k13 := bx4.out.cell 13 _ rfl
  have f13 := bx4.out.free 13
  have lt4 : w.heap.size < w4.heap.size := Nat.lt_of_lt_of_le (by omega) b4.size
  have b14 := hid (bel_on b3 b4)
  have o3' := hid (owns_on o3 b4)
  have o4' := hid o4
  have ap : Hid (∀ k, (Value.slice t2 c.tiers.length c2).ownBlock = some k → (Value.slice t4 c.adjusts.length c4).ownBlock ≠ some k) := hid fun k h1 h2 => by
    have l1 := (o2'.out.lt k h1).2
    have l2 := (o4.lt k h2).1
    omega
  have s4 := hid (show w1.heap.size ≤ w3.heap.size by rw [← s3]; exact b2'.out.size)
  clear bx3 bz3 b3 b4 s3 cA o3 o4 o2' b2' b12 lt2
  go_upto_region 4 with fail
  obtain ⟨w5, hw5⟩ : ∃ w5, w5 = w4.setCell ⟨w.heap.size, 13, none⟩ (.slice t4 c.adjusts.length c4) := ⟨_, rfl⟩
  rw [← hw5]
  have bx5 := bx4.out.set 13 (.slice t4 c.adjusts.length c4)
  rw [← hw5] at bx5
  have bz5 := bz4.out.other (p := ⟨w.heap.size, 13, none⟩) (by simp) (.slice t4 c.adjusts.length c4)
  rw [← hw5] at bz5
  have b5 : Below w.heap.size w w5 := by rw [hw5]; exact b14.out.setCell (Nat.le_refl _) _
  have o5 := ownsRow_setCell_below (a := ⟨w.heap.size, 13, none⟩) o3'.out (by have := s2.out; show w.heap.size < _; omega) (.slice t4 c.adjusts.length c4)
  rw [← hw5] at o5
  have o6 := ownsRow_setCell_below (a := ⟨w.heap.size, 13, none⟩) o4'.out (by have := s2.out; have := s4.out; show w.heap.size < _; omega) (.slice t4 c.adjusts.length c4)
  rw [← hw5] at o6
  have rx : Hid (w5.rangeAt w.heap.size 0 [.string c.meter, .bool c.win.has, .int .i64 c.win.a.y, .int .i64 c.win.a.m, .int .i64 c.win.a.d, .int .i64 c.win.b.y, .int .i64 c.win.b.m, .int .i64 c.win.b.d, .int .i64 c.allowance, .int .i64 c.block, .int .i64 c.kind, .slice t2 c.tiers.length c2, .int .i64 c.mode, .slice t4 c.adjusts.length c4, .int .i64 0, .int .i64 0]) := hid (box_range bx5)
  have rz : Hid (w5.there (w.heap.size + 1) 0 16) := hid (box_there bz5 (n := 16) rfl)
  have B5 := hid b5
  have O5 := hid o5
  have O6 := hid o6
  clear k13 f13 bx4 bz4 b14 o3' o4' hw5 bx5 bz5 b5 o5 o6 lt4
  go_wp2_with (first
    | (with_reducible refine wpList_load_mid (op := Oper.mk (some 13) (Op.load 46 (Operand.tmp 1)) _ _ _ _) ?_ 46 (.tmp 1) ?_ w.heap.size 0 ?_ [.string c.meter, .bool c.win.has, .int .i64 c.win.a.y, .int .i64 c.win.a.m, .int .i64 c.win.a.d, .int .i64 c.win.b.y, .int .i64 c.win.b.m, .int .i64 c.win.b.d, .int .i64 c.allowance, .int .i64 c.block, .int .i64 c.kind, .slice t2 c.tiers.length c2, .int .i64 c.mode, .slice t4 c.adjusts.length c4, .int .i64 0, .int .i64 0] _ rx.out Try.underlying46 ?_ ?_ ?_; rfl; rfl; go_simp; rfl; kernel_rfl)
    | (with_reducible refine wpList_store_mid (op := Oper.mk none (Op.store 46 (Operand.tmp 2) (Operand.tmp 13)) _ _ _ _) ?_ 46 (.tmp 2) (.tmp 13) ?_ (w.heap.size + 1) 0 #[.string c.meter, .bool c.win.has, .int .i64 c.win.a.y, .int .i64 c.win.a.m, .int .i64 c.win.a.d, .int .i64 c.win.b.y, .int .i64 c.win.b.m, .int .i64 c.win.b.d, .int .i64 c.allowance, .int .i64 c.block, .int .i64 c.kind, .slice t2 c.tiers.length c2, .int .i64 c.mode, .slice t4 c.adjusts.length c4, .int .i64 0, .int .i64 0] ?_ ?_ ?_ ?_ ?_ ?_; rfl; rfl; go_simp; go_simp; (simpa using rz.out); kernel_rfl; (simp [Value.oneCell']))
    | fail)
  have rr : (w5.setCells (w.heap.size + 1) 0 [.string c.meter, .bool c.win.has, .int .i64 c.win.a.y, .int .i64 c.win.a.m, .int .i64 c.win.a.d, .int .i64 c.win.b.y, .int .i64 c.win.b.m, .int .i64 c.win.b.d, .int .i64 c.allowance, .int .i64 c.block, .int .i64 c.kind, .slice t2 c.tiers.length c2, .int .i64 c.mode, .slice t4 c.adjusts.length c4, .int .i64 0, .int .i64 0]).rangeAt (w.heap.size + 1) 0 [.string c.meter, .bool c.win.has, .int .i64 c.win.a.y, .int .i64 c.win.a.m, .int .i64 c.win.a.d, .int .i64 c.win.b.y, .int .i64 c.win.b.m, .int .i64 c.win.b.d, .int .i64 c.allowance, .int .i64 c.block, .int .i64 c.kind, .slice t2 c.tiers.length c2, .int .i64 c.mode, .slice t4 c.adjusts.length c4, .int .i64 0, .int .i64 0] := World.rangeAt_setCells_same _ _ _ _ rz.out
  refine bodyPost_ret (v := .agg #[.string c.meter, .bool c.win.has, .int .i64 c.win.a.y, .int .i64 c.win.a.m, .int .i64 c.win.a.d, .int .i64 c.win.b.y, .int .i64 c.win.b.m, .int .i64 c.win.b.d, .int .i64 c.allowance, .int .i64 c.block, .int .i64 c.kind, .slice t2 c.tiers.length c2, .int .i64 c.mode, .slice t4 c.adjusts.length c4, .int .i64 0, .int .i64 0]) ?_ rfl ?_
  · exact results_mid rfl _ _ (w.heap.size + 1) [.string c.meter, .bool c.win.has, .int .i64 c.win.a.y, .int .i64 c.win.a.m, .int .i64 c.win.a.d, .int .i64 c.win.b.y, .int .i64 c.win.b.m, .int .i64 c.win.b.d, .int .i64 c.allowance, .int .i64 c.block, .int .i64 c.kind, .slice t2 c.tiers.length c2, .int .i64 c.mode, .slice t4 c.adjusts.length c4, .int .i64 0, .int .i64 0] _ rfl rr Try.underlying46 rfl (by kernel_rfl)
  refine ⟨⟨t2, c2, t4, c4⟩, rfl, ?_, ?_, ap.out, ?_⟩
  · exact (owns_setCells_below (by have := s2.out; omega) _ _ _ O5.out).mono (by have := s2.out; omega)
  · exact (owns_setCells_below (by have := s2.out; have := s4.out; omega) _ _ _ O6.out).mono (by have := s2.out; have := s4.out; omega)
  · exact Below.setRow _ _ _ B5.out (by omega)
end Go.Proofs.Ytfeccjcdpiopaaa.Te
