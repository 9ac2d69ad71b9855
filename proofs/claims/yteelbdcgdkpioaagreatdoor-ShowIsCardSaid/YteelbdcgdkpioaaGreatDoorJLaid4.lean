/- The laws of layer 8: ShowBack. -/
import Derived.Test.YteelbdcgdkpioaaGreatDoorJDate4
import Derived.Test.YteelbdcgdkpioaaGreatDoorJL07a
import Derived.Lib.LaidTab
import Derived.MakeChecks
import Derived.Stop.LaidErr
import Derived.HandedShaped
import Derived.Lay
namespace Go.Proofs.YteelbdcgdkpioaaGreatDoor.L08
open Go.RowKit Go.Sort P Mm Md Sw L07 R6

/-- What the laws ask of the world's variables. -/
def K8 (w : World) : Prop := Kz w ∧ Pa.Ky w
theorem K8.later {w w' : World} (h : K8 w) (b : Below w.heap.size w w') : K8 w' := ⟨Kz.later h.1 b, Pa.Ky.later h.2 b⟩
theorem ok_fits {p : Plan} (h : Fits p) : PlanOk p :=
  ⟨h.days, fun m hm => (h.meters m hm).2.2.1, fun f hf => ⟨(h.fees f hf).1, (h.fees f hf).2.1⟩, fun c hc => by
    obtain ⟨_, k2, k3, k4, k5⟩ := h.charges c hc
    exact ⟨k2, ⟨k3.1, k3.2.1, k3.2.2.1, k3.2.2.2.1⟩, k4, k5⟩⟩
theorem row_same {l m : List UInt8} : row (parsed l).1 = row (parsed m).1 ↔ noPl (parsed l).1 = noPl (parsed m).1 := row_inj (ok_fits (parsed_fits l)) (ok_fits (parsed_fits m)) (parsed_small l) (parsed_small m)
theorem parsed_nought {l : List UInt8} (h : (parsed l).2.1 = 0) : (parsed l).2.2.1 = 0 ∧ (parsed l).2.2.2 = 0 := by
  unfold parsed at h ⊢
  simp only at h ⊢
  split
  · rename_i k
    rw [if_pos k] at h
    unfold planS at h ⊢
    simp only at h ⊢
    split
    · exact ⟨rfl, rfl⟩
    · rename_i k2; rw [if_neg k2] at h; exact absurd h k2
  · rename_i k
    rw [if_neg k] at h
    have h : ((lexed l).2.1 : Int) = 0 := h
    omega
theorem call_parse (s : ByteArray) (w : World) (k : K8 w) {p : Plan} {x y z : Int} (hp : p = (parsed s.data.toList).1) (hx : x = (parsed s.data.toList).2.1) (hy : y = (parsed s.data.toList).2.2.1) (hz : z = (parsed s.data.toList).2.2.2) :
    Calls Tryz.prog 14 #[.string s] w fun e w' => ∃ ma mc fa fc ca cc, e = .returned (.tuple #[.agg (planC p ma mc fa fc ca cc).toArray, .agg #[.int .i64 x, .int .i64 y, .int .i64 z]]) ∧ PlanLies w' (planC p ma mc fa fc ca cc) p ma mc fa fc ca cc ∧ Below w.heap.size w w' := by
  have := parse_lies s w k.2
  unfold fl3 at this
  rw [← hp, ← hx, ← hy, ← hz] at this
  exact this
theorem call_show (p : Plan) (S : ByteArray) (hS : S = ⟨(planT p).toArray⟩) (sp : Sh p) (w : World) (k : K8 w) {ma fa ca : Option Addr} {mc fc cc : Nat} (hl : PlanLies w (planC p ma mc fa fc ca cc) p ma mc fa fc ca cc) :
    Calls Tryz.prog 12 #[.agg (planC p ma mc fa fc ca cc).toArray] w fun e w' => e = .returned (.string S) ∧ Below w.heap.size w w' := by
  rw [hS]
  exact plan_any tx p ma mc fa fc ca cc w hl sp k.1
set_option maxHeartbeats 16000000 in
set_option maxRecDepth 100000 in
theorem back_walk (s : ByteArray) (w : World) (k : K8 w) : Calls Tryz.prog 4 #[.string s] w fun e w' => e = .returned (.bool true) ∧ Below w.heap.size w w' := by
  have cA := alive_any w k.1
  have K := hid k
  clear k
  by_cases hs : (8192 : Int) < (s.size : Int)
  · clear K
    go_enter Tryz.func4, Tryz.ntmps4
    go_wp2_with (go_at_call 8; refine cA.mono ?_; rintro e w1 ⟨rfl, b1⟩)
    go_ret
    exact ⟨rfl, b1⟩
  obtain ⟨p, hp⟩ : ∃ p, p = (parsed s.data.toList).1 := ⟨_, rfl⟩
  obtain ⟨x, hx⟩ : ∃ x, x = (parsed s.data.toList).2.1 := ⟨_, rfl⟩
  obtain ⟨y, hy⟩ : ∃ x, x = (parsed s.data.toList).2.2.1 := ⟨_, rfl⟩
  obtain ⟨z, hz⟩ : ∃ x, x = (parsed s.data.toList).2.2.2 := ⟨_, rfl⟩
  obtain ⟨S, hS⟩ : ∃ S : ByteArray, S = ⟨(planT p).toArray⟩ := ⟨_, rfl⟩
  have eS : S.data.toList = planT p := by rw [hS]
  obtain ⟨q, hq⟩ : ∃ p, p = (parsed S.data.toList).1 := ⟨_, rfl⟩
  obtain ⟨x', hx'⟩ : ∃ x, x = (parsed S.data.toList).2.1 := ⟨_, rfl⟩
  obtain ⟨y', hy'⟩ : ∃ x, x = (parsed S.data.toList).2.2.1 := ⟨_, rfl⟩
  obtain ⟨z', hz'⟩ : ∃ x, x = (parsed S.data.toList).2.2.2 := ⟨_, rfl⟩
  have XZ : Hid (x = 0 → y = 0 ∧ z = 0) := hid (by rw [hx, hy, hz]; exact parsed_nought)
  have HS : Hid (x = 0 → Sh p) := hid (by rw [hx, hp]; exact parsed_sh)
  have HQ : Hid (x = 0 → S.size ≤ 8192 → x' = 0 ∧ y' = 0 ∧ z' = 0 ∧ row p = row q ∧ Sh q ∧ S = ⟨(planT q).toArray⟩) := hid (fun h0 hl => by
    rw [hx] at h0
    have g := parsed_gd h0
    rw [← hp] at g
    have zl : (planT p).length ≤ 8192 := by rw [← eS, size_list]; exact hl
    obtain ⟨r1, r2⟩ := show_back g zl
    rw [← eS] at r1 r2
    rw [← hq] at r2
    obtain ⟨r3, r4⟩ := parsed_nought r1
    refine ⟨by rw [hx', r1], by rw [hy', r3], by rw [hz', r4], ?_, by rw [hq]; exact parsed_sh r1, ?_⟩
    · rw [hp, hq]
      rw [row_same, ← hp, ← hq]
      exact r2.symm
    · rw [hS, ← planT_noPl q, r2, planT_noPl])
  have CP : Hid (∀ W, K8 W → _) := hid fun W (k : K8 W) => call_parse s W k hp hx hy hz
  have CQ : Hid (∀ W, K8 W → _) := hid fun W (k : K8 W) => call_parse S W k hq hx' hy' hz'
  have SP := hid (show Small p by rw [hp]; exact parsed_small _)
  have SQ := hid (show Small q by rw [hq]; exact parsed_small _)
  have HSS := hid hS
  clear hp hx hy hz hq hx' hy' hz' hS eS
  go_enter Tryz.func4, Tryz.ntmps4
  go_wp2_with fail
  refine cA.mono ?_
  rintro e w1 ⟨rfl, b1⟩
  have BW := hid b1
  clear cA b1
  go_wp2_with fail
  refine (CP.out w1 (K.out.later BW.out)).mono ?_
  rintro e w2 ⟨ma, mc, fa, fc, ca, cc, rfl, lp, b2⟩
  have B2 := hid (BW.out.trans (b2.mono BW.out.size))
  have b2h := hid b2
  have T1 := hid (there_pf w2 29 37)
  have F1 := flt_pf w2 29 37 [.string p.name, .string p.cur, .int .i64 p.a.y, .int .i64 p.a.m, .int .i64 p.a.d, .int .i64 p.b.y, .int .i64 p.b.m, .int .i64 p.b.d, .slice ma p.meters.length mc, .slice fa p.fees.length fc, .slice ca p.charges.length cc, .int .i64 p.line, .int .i64 p.col]
  have z0 := F1.cell 0 _ rfl
  have z1 := F1.cell 1 _ rfl
  have z2 := F1.cell 2 _ rfl
  have f0 := F1.free 0
  have f1 := F1.free 1
  have f2 := F1.free 2
  have lz := F1.lt
  obtain ⟨PF, BF⟩ := pf_new (x := x) (y := y) (z := z) lp 29 37
  obtain ⟨wA, hwA⟩ : ∃ W, W = (((((w2.alloc (.cells #[.string ⟨#[]⟩, .string ⟨#[]⟩, .int .i64 0, .int .i64 0, .int .i64 0, .int .i64 0, .int .i64 0, .int .i64 0, .slice none 0 0, .slice none 0 0, .slice none 0 0, .int .i64 0, .int .i64 0] 29)).alloc (.cells #[.int .i64 0, .int .i64 0, .int .i64 0] 37)).setCells w2.heap.size 0 [.string p.name, .string p.cur, .int .i64 p.a.y, .int .i64 p.a.m, .int .i64 p.a.d, .int .i64 p.b.y, .int .i64 p.b.m, .int .i64 p.b.d, .slice ma p.meters.length mc, .slice fa p.fees.length fc, .slice ca p.charges.length cc, .int .i64 p.line, .int .i64 p.col]).setCell ⟨w2.heap.size + 1, 0, none⟩ (.int .i64 (x))).setCell ⟨w2.heap.size + 1, 1, none⟩ (.int .i64 (y))).setCell ⟨w2.heap.size + 1, 2, none⟩ (.int .i64 (z)) := ⟨_, rfl⟩
  obtain ⟨k1, hk1⟩ : ∃ k, k = w2.heap.size := ⟨_, rfl⟩
  have HPp : Hid (Pf wA k1 p ma mc fa fc ca cc x y z) := hid (by rw [hwA, hk1]; exact PF)
  have HB : Hid (Below w2.heap.size w2 wA) := hid (by rw [hwA]; exact BF)
  have HW := hid hwA
  have HK := hid hk1
  clear F1 PF BF hwA hk1 b2 lp
  unfold planC
  go_upto_region 6 with (first
    | (with_reducible refine wpList_store_mid (op := Oper.mk none (Op.store 29 (Operand.tmp 3) (Operand.tmp 16)) _ _ _ _) ?_ 29 (.tmp 3) (.tmp 16) ?_ w2.heap.size 0 #[.string p.name, .string p.cur, .int .i64 p.a.y, .int .i64 p.a.m, .int .i64 p.a.d, .int .i64 p.b.y, .int .i64 p.b.m, .int .i64 p.b.d, .slice ma p.meters.length mc, .slice fa p.fees.length fc, .slice ca p.charges.length cc, .int .i64 p.line, .int .i64 p.col] ?_ ?_ ?_ ?_ ?_ ?_; rfl; rfl; go_simp; go_simp; (simpa using T1.out); kernel_rfl; (simp [Value.oneCell']))
    | (fail))
  rw [← HW.out, ← HK.out]
  clear z0 z1 z2 f0 f1 f2 lz T1
  replace BW := hid (B2.out.trans (HB.out.mono B2.out.size))
  have HX := hid (bel_on b2h.out HB.out)
  clear B2 HW HK b2h HB
  clear HX CP
  have c0 := HPp.out.flt.cell 0 _ rfl
  have c1 := HPp.out.flt.cell 1 _ rfl
  have c2 := HPp.out.flt.cell 2 _ rfl
  by_cases hx0 : x = 0
  case neg =>
    clear HQ HS XZ CQ
    go_wp2
    go_ret
    exact ⟨rfl, BW.out⟩
  obtain ⟨rfl, rfl⟩ := XZ.out hx0
  have sp := HS.out hx0
  have HQ2 := hid (HQ.out hx0)
  subst hx0
  have RP : Hid (wA.rangeAt k1 0 [.string p.name, .string p.cur, .int .i64 p.a.y, .int .i64 p.a.m, .int .i64 p.a.d, .int .i64 p.b.y, .int .i64 p.b.m, .int .i64 p.b.d, .slice ma p.meters.length mc, .slice fa p.fees.length fc, .slice ca p.charges.length cc, .int .i64 p.line, .int .i64 p.col]) := hid (range_of HPp.out.box.cell)
  have NP := hid (call_show p S HSS.out sp wA (K.out.later BW.out) HPp.out.lies)
  unfold planC at NP
  clear sp HS HQ XZ
  go_upto_region 9 with (first
    | (with_reducible refine wpList_load_mid (op := Oper.mk (some 21) (Op.load 29 (Operand.tmp 3)) _ _ _ _) ?_ 29 (.tmp 3) ?_ k1 0 ?_ [.string p.name, .string p.cur, .int .i64 p.a.y, .int .i64 p.a.m, .int .i64 p.a.d, .int .i64 p.b.y, .int .i64 p.b.m, .int .i64 p.b.d, .slice ma p.meters.length mc, .slice fa p.fees.length fc, .slice ca p.charges.length cc, .int .i64 p.line, .int .i64 p.col] _ RP.out Tryz.underlying29 ?_ ?_ ?_; rfl; rfl; go_simp; rfl; kernel_rfl)
    | (go_at_call 12; refine NP.out.mono ?_; rintro e w4 ⟨rfl, b4⟩; have P4 := hid (HPp.out.on b4); replace BW := hid (BW.out.trans (b4.mono BW.out.size)); clear b4)
    | fail)
  clear c0 c1 c2 RP NP HPp
  by_cases hl : (8192 : Int) < (S.size : Int)
  · clear HQ2 CQ
    go_wp2
    go_ret
    exact ⟨rfl, BW.out⟩
  obtain ⟨g1, g2, g3, g4, g5, g6⟩ := HQ2.out (by omega)
  have G4 := hid g4
  have G5 := hid g5
  have G6 := hid g6
  have HG : Hid (x' = 0 ∧ y' = 0 ∧ z' = 0) := hid ⟨g1, g2, g3⟩
  clear g1 g2 g3 g4 g5 g6 HQ2
  go_wp2_with fail
  refine (CQ.out w4 (K.out.later BW.out)).mono ?_
  rintro e w5 ⟨maB, mcB, faB, fcB, caB, ccB, rfl, lq, b2⟩
  have B2 := hid (BW.out.trans (b2.mono BW.out.size))
  have b2h := hid b2
  have T1 := hid (there_pf w5 29 37)
  have F1 := flt_pf w5 29 37 [.string q.name, .string q.cur, .int .i64 q.a.y, .int .i64 q.a.m, .int .i64 q.a.d, .int .i64 q.b.y, .int .i64 q.b.m, .int .i64 q.b.d, .slice maB q.meters.length mcB, .slice faB q.fees.length fcB, .slice caB q.charges.length ccB, .int .i64 q.line, .int .i64 q.col]
  have z0 := F1.cell 0 _ rfl
  have z1 := F1.cell 1 _ rfl
  have z2 := F1.cell 2 _ rfl
  have f0 := F1.free 0
  have f1 := F1.free 1
  have f2 := F1.free 2
  have lz := F1.lt
  obtain ⟨PF, BF⟩ := pf_new (x := x') (y := y') (z := z') lq 29 37
  obtain ⟨wB, hwB⟩ : ∃ W, W = (((((w5.alloc (.cells #[.string ⟨#[]⟩, .string ⟨#[]⟩, .int .i64 0, .int .i64 0, .int .i64 0, .int .i64 0, .int .i64 0, .int .i64 0, .slice none 0 0, .slice none 0 0, .slice none 0 0, .int .i64 0, .int .i64 0] 29)).alloc (.cells #[.int .i64 0, .int .i64 0, .int .i64 0] 37)).setCells w5.heap.size 0 [.string q.name, .string q.cur, .int .i64 q.a.y, .int .i64 q.a.m, .int .i64 q.a.d, .int .i64 q.b.y, .int .i64 q.b.m, .int .i64 q.b.d, .slice maB q.meters.length mcB, .slice faB q.fees.length fcB, .slice caB q.charges.length ccB, .int .i64 q.line, .int .i64 q.col]).setCell ⟨w5.heap.size + 1, 0, none⟩ (.int .i64 (x'))).setCell ⟨w5.heap.size + 1, 1, none⟩ (.int .i64 (y'))).setCell ⟨w5.heap.size + 1, 2, none⟩ (.int .i64 (z')) := ⟨_, rfl⟩
  obtain ⟨k2, hk2⟩ : ∃ k, k = w5.heap.size := ⟨_, rfl⟩
  have HPq : Hid (Pf wB k2 q maB mcB faB fcB caB ccB x' y' z') := hid (by rw [hwB, hk2]; exact PF)
  have HB : Hid (Below w5.heap.size w5 wB) := hid (by rw [hwB]; exact BF)
  have HW := hid hwB
  have HK := hid hk2
  clear F1 PF BF hwB hk2 b2 lq
  unfold planC
  go_upto_region 12 with (first
    | (with_reducible refine wpList_store_mid (op := Oper.mk none (Op.store 29 (Operand.tmp 6) (Operand.tmp 29)) _ _ _ _) ?_ 29 (.tmp 6) (.tmp 29) ?_ w5.heap.size 0 #[.string q.name, .string q.cur, .int .i64 q.a.y, .int .i64 q.a.m, .int .i64 q.a.d, .int .i64 q.b.y, .int .i64 q.b.m, .int .i64 q.b.d, .slice maB q.meters.length mcB, .slice faB q.fees.length fcB, .slice caB q.charges.length ccB, .int .i64 q.line, .int .i64 q.col] ?_ ?_ ?_ ?_ ?_ ?_; rfl; rfl; go_simp; go_simp; (simpa using T1.out); kernel_rfl; (simp [Value.oneCell']))
    | (fail))
  rw [← HW.out, ← HK.out]
  clear z0 z1 z2 f0 f1 f2 lz T1
  replace BW := hid (B2.out.trans (HB.out.mono B2.out.size))
  have HX := hid (bel_on b2h.out HB.out)
  clear B2 HW HK b2h HB
  obtain ⟨rfl, rfl, rfl⟩ := HG.out
  have P5 := hid (P4.out.on HX.out)
  have d0 := HPq.out.flt.cell 0 _ rfl
  have d1 := HPq.out.flt.cell 1 _ rfl
  have d2 := HPq.out.flt.cell 2 _ rfl
  have RP : Hid (wB.rangeAt k1 0 [.string p.name, .string p.cur, .int .i64 p.a.y, .int .i64 p.a.m, .int .i64 p.a.d, .int .i64 p.b.y, .int .i64 p.b.m, .int .i64 p.b.d, .slice ma p.meters.length mc, .slice fa p.fees.length fc, .slice ca p.charges.length cc, .int .i64 p.line, .int .i64 p.col]) := hid (range_of P5.out.box.cell)
  have RQ : Hid (wB.rangeAt k2 0 [.string q.name, .string q.cur, .int .i64 q.a.y, .int .i64 q.a.m, .int .i64 q.a.d, .int .i64 q.b.y, .int .i64 q.b.m, .int .i64 q.b.d, .slice maB q.meters.length mcB, .slice faB q.fees.length fcB, .slice caB q.charges.length ccB, .int .i64 q.line, .int .i64 q.col]) := hid (range_of HPq.out.box.cell)
  have NS : Hid (Calls Tryz.prog 15 #[.agg #[.string p.name, .string p.cur, .int .i64 p.a.y, .int .i64 p.a.m, .int .i64 p.a.d, .int .i64 p.b.y, .int .i64 p.b.m, .int .i64 p.b.d, .slice ma p.meters.length mc, .slice fa p.fees.length fc, .slice ca p.charges.length cc, .int .i64 p.line, .int .i64 p.col], .agg #[.string q.name, .string q.cur, .int .i64 q.a.y, .int .i64 q.a.m, .int .i64 q.a.d, .int .i64 q.b.y, .int .i64 q.b.m, .int .i64 q.b.d, .slice maB q.meters.length mcB, .slice faB q.fees.length fcB, .slice caB q.charges.length ccB, .int .i64 q.line, .int .i64 q.col]] wB fun e w' => e = .returned (.bool true) ∧ Below wB.heap.size wB w') := hid (by
    have h := same_any p q ma mc fa fc ca cc maB mcB faB fcB caB ccB wB P5.out.lies HPq.out.lies SP.out SQ.out
    rw [decide_eq_true G4.out] at h
    exact h)
  have NQ : Hid (∀ W, Below wB.heap.size wB W → Calls Tryz.prog 12 #[.agg #[.string q.name, .string q.cur, .int .i64 q.a.y, .int .i64 q.a.m, .int .i64 q.a.d, .int .i64 q.b.y, .int .i64 q.b.m, .int .i64 q.b.d, .slice maB q.meters.length mcB, .slice faB q.fees.length fcB, .slice caB q.charges.length ccB, .int .i64 q.line, .int .i64 q.col]] W fun e w' => e = .returned (.string S) ∧ Below W.heap.size W w') := hid fun W b => call_show q S G6.out G5.out W (K.out.later (BW.out.trans (b.mono BW.out.size))) (HPq.out.lies.on b)
  have RX : Hid (∀ W, Below wB.heap.size wB W → W.rangeAt k2 0 [.string q.name, .string q.cur, .int .i64 q.a.y, .int .i64 q.a.m, .int .i64 q.a.d, .int .i64 q.b.y, .int .i64 q.b.m, .int .i64 q.b.d, .slice maB q.meters.length mcB, .slice faB q.fees.length fcB, .slice caB q.charges.length ccB, .int .i64 q.line, .int .i64 q.col]) := hid fun W b => range_of (HPq.out.on b).box.cell
  clear HG HX P4 G4 G5 G6 HSS SP SQ K P5 HPq
  go_wp2_with (first
    | (with_reducible refine wpList_load_midg (op := Oper.mk (some 35) (Op.load 29 (Operand.tmp 3)) _ _ _ _) ?_ 29 (.tmp 3) ?_ k1 0 ?_ [.string p.name, .string p.cur, .int .i64 p.a.y, .int .i64 p.a.m, .int .i64 p.a.d, .int .i64 p.b.y, .int .i64 p.b.m, .int .i64 p.b.d, .slice ma p.meters.length mc, .slice fa p.fees.length fc, .slice ca p.charges.length cc, .int .i64 p.line, .int .i64 p.col] _ RP.out Tryz.underlying29 ?_ ?_ ?_; (first | rfl | kernel_rfl | go_simp | (simp [Region.wanted, yielded])); rfl; go_simp; rfl; kernel_rfl)
    | (with_reducible refine wpList_load_midg (op := Oper.mk (some 36) (Op.load 29 (Operand.tmp 6)) _ _ _ _) ?_ 29 (.tmp 6) ?_ k2 0 ?_ [.string q.name, .string q.cur, .int .i64 q.a.y, .int .i64 q.a.m, .int .i64 q.a.d, .int .i64 q.b.y, .int .i64 q.b.m, .int .i64 q.b.d, .slice maB q.meters.length mcB, .slice faB q.fees.length fcB, .slice caB q.charges.length ccB, .int .i64 q.line, .int .i64 q.col] _ RQ.out Tryz.underlying29 ?_ ?_ ?_; (first | rfl | kernel_rfl | go_simp | (simp [Region.wanted, yielded])); rfl; go_simp; rfl; kernel_rfl)
    | (with_reducible refine wpList_load_midg (op := Oper.mk (some 40) (Op.load 29 (Operand.tmp 6)) _ _ _ _) ?_ 29 (.tmp 6) ?_ k2 0 ?_ [.string q.name, .string q.cur, .int .i64 q.a.y, .int .i64 q.a.m, .int .i64 q.a.d, .int .i64 q.b.y, .int .i64 q.b.m, .int .i64 q.b.d, .slice maB q.meters.length mcB, .slice faB q.fees.length fcB, .slice caB q.charges.length ccB, .int .i64 q.line, .int .i64 q.col] _ RZ.out Tryz.underlying29 ?_ ?_ ?_; (first | rfl | kernel_rfl | go_simp | (simp [Region.wanted, yielded])); rfl; go_simp; rfl; kernel_rfl)
    | (go_at_call 15; refine NS.out.mono ?_; rintro e w6 ⟨rfl, b6⟩; have NZ := hid (NQ.out w6 b6); have RZ := hid (RX.out w6 b6); replace BW := hid (BW.out.trans (b6.mono BW.out.size)); clear b6)
    | (go_at_call 12; refine NZ.out.mono ?_; rintro e w7 ⟨rfl, b7⟩; replace BW := hid (BW.out.trans (b7.mono BW.out.size)); clear b7))
  go_ret
  exact ⟨rfl, BW.out⟩
end Go.Proofs.YteelbdcgdkpioaaGreatDoor.L08
/- What the listed tables, and the world's shape, give the walks of layer 7: the modes' words, the powers of ten, and some number MaxLen. -/
namespace Go.Proofs.YteelbdcgdkpioaaGreatDoor.Ld
open Go.RowKit

theorem own : ownKnob Tryz.prog.godebug = none := by kernel_rfl
/-- An array of texts that reads as these letters holds these texts, cell for cell. -/
theorem cells_of_strs {H : Type} {enc : TypeId × Value → H} {P : Program} {w : World} {base : Nat} {sp : Nat → Bool} {held : Bool} {fuel : Nat} {t e : TypeId} {n : Nat} {cs : List Value} {zs : List (List UInt8)} {p : List MemPlace}
    (ht : P.underlying t = some (.array n e)) (he : P.underlying e = some .string) (hce : P.cellsOf e = 1) (hct : P.cellsOf t = n)
    (h : DataW.trod enc P w base sp held fuel t cs = some (.agg (zs.map fun z => .lit (.string z)), p)) : cs = zs.map fun z => Value.string ⟨z.toArray⟩ := by
  cases fuel with
  | zero => simp [DataW.trod] at h
  | succ fuel =>
    simp only [DataW.trod, ht, hce, hct, Nat.mul_one] at h
    split at h
    · rename_i hl
      obtain ⟨xs, hm, hx⟩ := Option.map_eq_some_iff.1 h
      have hxs : xs.map (·.1) = zs.map fun z => (DataW.lit (.string z) : DataW H) := by
        have := congrArg Prod.fst hx
        simpa using this
      have hxl : xs.length = n := by simpa using Lib.mapM_length hm
      have hzl : zs.length = n := by
        have := congrArg List.length hxs
        simp at this
        omega
      apply List.ext_getElem?
      intro i
      by_cases hi : i < n
      · obtain ⟨b, hb, hf⟩ := Lib.mapM_at hm i i (by simp [hi])
        obtain ⟨z, hc, rfl, _⟩ := DataW.trod_string he hf
        have h1 : cs[i]? = some (.string z) := by
          have := congrArg (·[0]?) hc
          simpa [List.getElem?_take, List.getElem?_drop] using this
        have h2 : (xs.map (·.1))[i]? = some (DataW.lit (.string z.data.toList) : DataW H) := by simp [hb]
        rw [hxs] at h2
        simp only [List.getElem?_map, Option.map_eq_some_iff, DataW.lit.injEq, Lit.string.injEq] at h2
        obtain ⟨z', hz', hzz⟩ := h2
        subst hzz
        simp [h1, hz']
      · rw [List.getElem?_eq_none (by omega), List.getElem?_eq_none (by simp; omega)]
    · cases h
theorem md_of {W : World} {rest : List (String × DataW Unit)} (h : laidMet Tryz.prog (("poundage/parse.modes", .agg (P.modes.map fun z => .lit (.string z))) :: rest) W) : Pa.Md W := by
  obtain ⟨ps, ⟨g', t', cs, fuel, p, q, hg', ht', hvar, hd, _, _⟩, _⟩ := h
  have hg : Tryz.prog.globalNamed "poundage/parse.modes" = some 2 := by kernel_rfl
  obtain rfl := Option.some.inj (hg.symm.trans hg')
  obtain rfl := Option.some.inj ((show (Tryz.prog.globals[2]?).map (·.type) = some 69 by kernel_rfl).symm.trans ht')
  have hca : cs = (P.modes.map fun z => Value.string ⟨z.toArray⟩).toArray := by rw [← cells_of_strs (e := 9) (n := 4) (by kernel_rfl) (by kernel_rfl) (by kernel_rfl) (by kernel_rfl) hd]
  rw [hca] at hvar
  intro j l hj
  have := World.var?_cell hg hvar j
  rw [this]
  simp [hj]
theorem ky_of {W : World} {a : String × DataW Unit} (ha : a = ("poundage/parse.modes", .agg (P.modes.map fun z => .lit (.string z)))) (hp : ([a].all fun x => x.2.handleName?.isNone) = true)
    (h : laidMetH Tryz.prog [a] W) (hs : W.ShapedOpen Tryz.prog) : Pa.Ky W := by
  rw [MakeChecks.laidMetH_plain _ _ _ hp] at h
  subst ha
  exact ⟨Dc.mx_of hs, md_of h⟩
set_option maxRecDepth 100000 in
/-- The wrap of a row that lists variables, with the world's shape kept for the contract. -/
theorem returns {H : Type} {enc : TypeId × Value → H} {os : Os} {f : FuncId} {fn : Func} {s : ChangeSpec} {conds : List PathCond} {apart fresh handsOn again : Bool} {X : World → Array Value → Prop}
    (hX : ∀ (w w' : World) (args : Array Value), w.heap = w'.heap → X w args → X w' args)
    (started : os.Started) (noInit : Tryz.checked.prog.inits.idxOf? f = none) (hfn : Tryz.checked.prog.funcs[f]? = some fn)
    (witness : ∃ (w : World) (tape : Tape) (i : Input), w.os = os ∧ (w.forCall tape i).Shaped Tryz.checked.prog ∧ i.vars = [] ∧ Input.okWide Tryz.checked.prog (w.forCall tape i) .any w.heap.size f i ∧
      ((s.pre enc Tryz.checked.prog fn conds apart (w.forCall tape i).memory i.args ∧ X (w.forCall tape i).memory i.args) ∧ sizedMet enc Tryz.checked.prog fn (OpenSpec.ofChange s) apart (w.forCall tape i).memory i.args) ∧ ({} : Assume).holds Tryz.checked.prog (lone (Frame.enter Tryz.checked.prog f i.args .normal) [] (w.forCall tape i)))
    (contract : ∀ (W : World) (base : Nat) (args : Array Value) (ds gs : List (DataW H)) (before : List MemPlace),
      (∀ (j : Nat) t v, fn.params[j]? = some t → args[j]? = some v → Value.okWide Tryz.checked.prog W .any base t v) →
      DataW.Whole enc Tryz.checked.prog fn.params.toList s.vars apart W args.toList ds gs before →
      (DataW.weightsEach Tryz.checked.prog (fn.params.toList ++ s.plain.varTypes Tryz.checked.prog) (ds ++ gs)).all (· ≤ reachBytes) = true → X W args → W.ShapedOpen Tryz.checked.prog →
      Calls Tryz.checked.prog f args W fun e W' => ∃ v, e = .returned v ∧ s.post enc Tryz.checked.prog fn apart fresh handsOn again W args v W') :
    ReturnsInHanded {} Tryz.checked os f .any (fun w args => (s.pre enc Tryz.checked.prog fn conds apart w args ∧ X w args) ∧ sizedMet enc Tryz.checked.prog fn (OpenSpec.ofChange s) apart w args) (s.post enc Tryz.checked.prog fn apart fresh handsOn again) := by
  refine returnsInHanded_of_calls own started noInit witness ?_
  intro w tape i _ hsh _ hok hpre _
  obtain ⟨_, _, _, fn', hfn', _, _, _, _, hval⟩ := hok
  obtain rfl : fn' = fn := Option.some.inj (hfn'.symm.trans hfn)
  obtain ⟨⟨⟨ds, gs, before, hw, _⟩, hx⟩, hz⟩ := hpre
  have hw' := DataW.Whole.of_heap (w' := w.forCall tape i) (by rfl) hw
  refine (contract (w.forCall tape i) w.heap.size i.args ds gs before hval hw' (hz.weights hw) (hX _ _ _ (by rfl) hx) hsh).mono fun e W' ⟨v, he, hp⟩ => ?_
  subst he
  exact ChangeSpec.post_blind hp
end Go.Proofs.YteelbdcgdkpioaaGreatDoor.Ld
/- What the listed tables, and the world's shape, give the walks of layer 8: the modes' words of parse and of show, the powers of ten, and some number MaxLen. -/
namespace Go.Proofs.YteelbdcgdkpioaaGreatDoor.Ld
open Go.RowKit

theorem pow_of {W : World} {rest : List (String × DataW Unit)} (h : laidMet Tryz.prog (("internal/strconv.uint64pow10", Lib.tabData .u64 Lib.pow10Tab) :: rest) W) : Dc.Tab W :=
  Lib.tabIs_of_head (g := 1) (t := 177) (e := 136) (n := 20) (by kernel_rfl) (by kernel_rfl) (by kernel_rfl) (by kernel_rfl) (by kernel_rfl) (by kernel_rfl) h
theorem sm_of {W : World} {rest : List (String × DataW Unit)} (h : laidMet Tryz.prog (("poundage/show.modes", .agg (P.modes.map fun z => .lit (.string z))) :: rest) W) : ∀ j l, P.modes[j]? = some l → W.cell? ⟨0, j, none⟩ = some (.string ⟨l.toArray⟩) := by
  obtain ⟨ps, ⟨g', t', cs, fuel, p, q, hg', ht', hvar, hd, _, _⟩, _⟩ := h
  have hg : Tryz.prog.globalNamed "poundage/show.modes" = some 0 := by kernel_rfl
  obtain rfl := Option.some.inj (hg.symm.trans hg')
  obtain rfl := Option.some.inj ((show (Tryz.prog.globals[0]?).map (·.type) = some 69 by kernel_rfl).symm.trans ht')
  have hca : cs = (P.modes.map fun z => Value.string ⟨z.toArray⟩).toArray := by rw [← cells_of_strs (e := 9) (n := 4) (by kernel_rfl) (by kernel_rfl) (by kernel_rfl) (by kernel_rfl) hd]
  rw [hca] at hvar
  intro j l hj
  have := World.var?_cell hg hvar j
  rw [this]
  simp [hj]
theorem kz_of {W : World} {a b c d e f : String × DataW Unit} (hc : c = ("internal/strconv.uint64pow10", Lib.tabData .u64 Lib.pow10Tab)) (he : e = ("poundage/show.modes", .agg (P.modes.map fun z => .lit (.string z)))) (hp : ([a, b, c, d, e, f].all fun x => x.2.handleName?.isNone) = true)
    (h : laidMetH Tryz.prog [a, b, c, d, e, f] W) (hs : W.ShapedOpen Tryz.prog) : Sw.Kz W := by
  rw [MakeChecks.laidMetH_plain _ _ _ hp] at h
  subst hc he
  exact ⟨⟨Dc.mx_of hs, pow_of h.tail.tail⟩, sm_of h.tail.tail.tail.tail⟩
theorem k8_of {W : World} {a b c d e f g : String × DataW Unit} (hc : c = ("internal/strconv.uint64pow10", Lib.tabData .u64 Lib.pow10Tab)) (he : e = ("poundage/parse.modes", .agg (P.modes.map fun z => .lit (.string z)))) (hf : f = ("poundage/show.modes", .agg (P.modes.map fun z => .lit (.string z)))) (hp : ([a, b, c, d, e, f, g].all fun x => x.2.handleName?.isNone) = true)
    (h : laidMetH Tryz.prog [a, b, c, d, e, f, g] W) (hs : W.ShapedOpen Tryz.prog) : L08.K8 W := by
  rw [MakeChecks.laidMetH_plain _ _ _ hp] at h
  subst hc he hf
  exact ⟨⟨⟨Dc.mx_of hs, pow_of h.tail.tail⟩, sm_of h.tail.tail.tail.tail.tail⟩, Dc.mx_of hs, md_of h.tail.tail.tail.tail⟩
end Go.Proofs.YteelbdcgdkpioaaGreatDoor.Ld
