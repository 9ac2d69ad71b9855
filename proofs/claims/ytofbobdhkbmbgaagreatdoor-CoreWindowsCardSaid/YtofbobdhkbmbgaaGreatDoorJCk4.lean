/- Package check, walked: meter, fee, charge, adjusted. -/
import Derived.Test.YtofbobdhkbmbgaaGreatDoorJCk1
set_option maxRecDepth 100000
set_option maxHeartbeats 8000000
namespace Go.Proofs.YtofbobdhkbmbgaaGreatDoor
namespace Cc
open Go.RowKit Go.Sort P Mm Md R6 L06 R9
theorem meter4 (p:Plan) (name:ByteArray) (ma:Option Addr) (mc:Nat) (fa:Option Addr) (fc:Nat) (ca:Option Addr) (cc:Nat) (w:World) (hp:PlanLies w (planC p ma mc fa fc ca cc) p ma mc fa fc ca cc) :
  Calls Tryz.prog 35 #[.agg #[p.name,p.cur,p.a.y,p.a.m,p.a.d,p.b.y,p.b.m,p.b.d,.slice ma p.meters.length mc,.slice fa p.fees.length fc,.slice ca p.charges.length cc,p.line,p.col],.string name] w fun e w'=>e=.returned (.int .i64 (mix p.meters name))∧Below w.heap.size w w':=by
 have:=Te.meter_any p name ma mc fa fc ca cc w hp;rw [←scan_all,←mix_scan] at this;exact this
theorem mix_at {ms:List Meter} {i:Nat} {m:Meter} (h:ms[i]?=some m):0≤mix ms m.name∧mix ms m.name≤i:=by
 unfold mix;cases hm:meterIx ms m.name with
 | none=>
   exfalso
   unfold meterIx at hm;rw [List.findIdx?_eq_none_iff] at hm;have:=hm m (List.mem_of_getElem? h);simp at this
 | some k=>
   unfold meterIx at hm;obtain ⟨hk,hk2,hk3⟩:=List.findIdx?_eq_some_iff_getElem.1 hm;show (0:Int)≤(k:Int)∧(k:Int)≤i
   refine ⟨by omega,?_⟩;rcases Nat.lt_or_ge i k with hlt|hge
   ·exfalso
    have:=hk3 i hlt;obtain ⟨hi,rfl⟩:=List.getElem?_eq_some_iff.1 h;simp at this
   ·omega
theorem meterE_mix {p:Plan} {i:Nat} {m:Meter} (h:p.meters[i]?=some m):meterE p i m=if 4≤i then 6 else if mix p.meters m.name<i then 5 else 0:=by
 unfold meterE;by_cases h4:4≤i
 ·rw [if_pos h4,if_pos h4]
 ·rw [if_neg h4,if_neg h4];have:=mix_at h;by_cases hl:mix p.meters m.name<i
  ·rw [if_pos hl,if_neg (fun e=>by rw [←mix_some] at e;omega)]
  ·rw [if_neg hl,if_pos (mix_some.1 (by omega))]
theorem checkM_any (p:Plan) (ma:Option Addr) (mc:Nat) (fa:Option Addr) (fc:Nat) (ca:Option Addr) (cc:Nat) (i:Nat) (m:Meter) (w:World) (hp:PlanLies w (planC p ma mc fa fc ca cc) p ma mc fa fc ca cc) (hti:p.meters[i]?=some m) (hl:p.meters.length≤100000) :
  Calls Tryz.prog 68 #[.agg #[p.name,p.cur,p.a.y,p.a.m,p.a.d,p.b.y,p.b.m,p.b.d,.slice ma p.meters.length mc,.slice fa p.fees.length fc,.slice ca p.charges.length cc,p.line,p.col],.int .i64 (i:Int)] w fun e w'=>e=.returned (.int .i64 (meterE p i m))∧Below w.heap.size w w':=by
 obtain ⟨w1,hw1⟩:∃W,W=w.alloc (.cells #[p.name,p.cur,p.a.y,p.a.m,p.a.d,p.b.y,p.b.m,p.b.d,.slice ma p.meters.length mc,.slice fa p.fees.length fc,.slice ca p.charges.length cc,p.line,p.col] 41):=⟨_,rfl⟩;obtain ⟨k1,hk1⟩:∃k,k=w.heap.size:=⟨_,rfl⟩;have X1:Box w1 k1 [p.name,p.cur,p.a.y,p.a.m,p.a.d,p.b.y,p.b.m,p.b.d,.slice ma p.meters.length mc,.slice fa p.fees.length fc,.slice ca p.charges.length cc,p.line,p.col]:=by rw [hw1,hk1];exact Box.new _ _ _
 have b1:Below w.heap.size w w1:=by rw [hw1];exact bel_alloc _ _
 obtain ⟨n,hn⟩:∃n,n=p.meters.length:=⟨_,rfl⟩;have hin:i<n:=by rw [hn];exact (List.getElem?_eq_some_iff.1 hti).1
 have n1:n≤mc:=by rw [hn];exact hp.meters.hcap
 have n2:n≤100000:=by rw [hn];exact hl
 have cM:=fun (W:World) (bw:Below w1.heap.size w1 W)=>meter4 p m.name ma mc fa fc ca cc W (hp.on (bel_on b1 bw));obtain ⟨IX,hIX⟩:∃z,z=mix p.meters m.name:=⟨_,rfl⟩;rw [←hIX] at cM;obtain ⟨E,hE⟩:∃E,E=meterE p i m:=⟨_,rfl⟩;have HE:Hid (E=if 4≤i then 6 else if IX<i then 5 else 0):=hid (by rw [hE,meterE_mix hti,hIX]);rw [←hE];obtain ⟨b,o,e,lb,a0,a1,a2,a3,a4,_⟩:=meter_at (hp.on b1).meters hti;have BF:=hid b1;have HW1:=hid hw1;have HK1:=hid hk1;have HN:=hid hn;by_cases h8:4≤i
 ·have K:Hid (E=6):=hid (by rw [HE.out,if_pos h8]);have h9:(4:Int)≤(i:Int):=by omega
  clear hIX hE cM a0 a1 a2 a3 a4 hw1 hk1 hn hp hti X1 b1 HE e;go_enter Tryz.func68,Tryz.ntmps68
  go_wp2;rw [←HW1.out];go_ret;exact ret_d K.out.symm BF.out
 have h9:(i:Int)<4:=by omega
 have HE2:Hid (E=if IX<i then 5 else 0):=hid (by rw [HE.out,if_neg h8]);have f0:=cell_regrown (X1.cell 0 _ rfl);have f1:=cell_regrown (X1.cell 1 _ rfl);have f2:=cell_regrown (X1.cell 2 _ rfl);have f3:=cell_regrown (X1.cell 3 _ rfl);have f4:=cell_regrown (X1.cell 4 _ rfl);have f5:=cell_regrown (X1.cell 5 _ rfl);have f6:=cell_regrown (X1.cell 6 _ rfl);have f7:=cell_regrown (X1.cell 7 _ rfl);have f8:=cell_regrown (X1.cell 8 _ rfl);have f9:=cell_regrown (X1.cell 9 _ rfl);have f10:=cell_regrown (X1.cell 10 _ rfl);have f11:=cell_regrown (X1.cell 11 _ rfl);have f12:=cell_regrown (X1.cell 12 _ rfl);have fm:=cell_regrown a0;have qM:=fun d os=>Calls.regrown_of (cM (grow (redrawn w1 d) os) (below_regrown w1 d os));rw [←hn] at f8;have ff8:=f8;clear hIX hE cM a0 a1 a2 a3 a4 hw1 hk1 hp hti X1 b1 HE h8 ff8;subst e;go_enter Tryz.func68,Tryz.ntmps68
 go_upto_region 3 with fail
 rw [←HW1.out,←HK1.out];rw [←hn] at qM ⊢;clear HW1 HK1 hn;refine wp_region_quiet_below (by kernel_rfl) (by kernel_rfl) ?_;repeat (go_big_quiet_step (first|(go_at_call 35;exact qM _ _)))
 refine wpQuiet_nil ?_;intro wv hw';obtain ⟨⟨dq,osq⟩,hw''⟩:=hw';have BV:Hid (Below w.heap.size w wv):=hid (by subst hw'';exact bel_on BF.out (below_regrown w1 dq osq));clear hw'' qM fm f0 f1 f2 f3 f4 f5 f6 f7 f8 f9 f10 f11 f12 BF;by_cases hg:IX<(i:Int)
 ·have K:Hid (E=5):=hid (by rw [HE2.out,if_pos hg]);have gg:decide (IX<(i:Int))=true:=decide_eq_true hg;go_wp2;go_ret;exact ret_d K.out.symm BV.out
 ·have K:Hid (E=0):=hid (by rw [HE2.out,if_neg hg]);have gg:decide (IX<(i:Int))=false:=decide_eq_false hg;go_wp2;go_ret;exact ret_d K.out.symm BV.out
theorem checkF_any (p:Plan) (ma:Option Addr) (mc:Nat) (fa:Option Addr) (fc:Nat) (ca:Option Addr) (cc:Nat) (i:Nat) (m:Fee) (w:World) (hp:PlanLies w (planC p ma mc fa fc ca cc) p ma mc fa fc ca cc) (hti:p.fees[i]?=some m) (gd:Gd p) (hl:p.fees.length≤100000) :
  Calls Tryz.prog 69 #[.agg #[p.name,p.cur,p.a.y,p.a.m,p.a.d,p.b.y,p.b.m,p.b.d,.slice ma p.meters.length mc,.slice fa p.fees.length fc,.slice ca p.charges.length cc,p.line,p.col],.int .i64 (i:Int)] w fun e w'=>e=.returned (.int .i64 (feeE p i m))∧Below w.heap.size w w':=by
 obtain ⟨w1,hw1⟩:∃W,W=w.alloc (.cells #[p.name,p.cur,p.a.y,p.a.m,p.a.d,p.b.y,p.b.m,p.b.d,.slice ma p.meters.length mc,.slice fa p.fees.length fc,.slice ca p.charges.length cc,p.line,p.col] 41):=⟨_,rfl⟩;obtain ⟨k1,hk1⟩:∃k,k=w.heap.size:=⟨_,rfl⟩;have X1:Box w1 k1 [p.name,p.cur,p.a.y,p.a.m,p.a.d,p.b.y,p.b.m,p.b.d,.slice ma p.meters.length mc,.slice fa p.fees.length fc,.slice ca p.charges.length cc,p.line,p.col]:=by rw [hw1,hk1];exact Box.new _ _ _
 have b1:Below w.heap.size w w1:=by rw [hw1];exact bel_alloc _ _
 obtain ⟨n,hn⟩:∃n,n=p.fees.length:=⟨_,rfl⟩;have hin:i<n:=by rw [hn];exact (List.getElem?_eq_some_iff.1 hti).1
 have n1:n≤fc:=by rw [hn];exact hp.fees.hcap
 have n2:n≤100000:=by rw [hn];exact hl
 have cM:=fun (W:World)=>holds_any p m.win ma mc fa fc ca cc W gd.days (gd.fees m (List.mem_of_getElem? hti)).2;obtain ⟨IX,hIX⟩:∃z,z=winIn p m.win:=⟨_,rfl⟩;rw [←hIX] at cM;obtain ⟨E,hE⟩:∃E,E=feeE p i m:=⟨_,rfl⟩;have HE:Hid (E=if 8≤i then 6 else if IX=true then 0 else 5):=hid (by rw [hE,hIX];rfl);rw [←hE];obtain ⟨b,o,e,lb,a0,a1,a2,a3,a4,a5,a6,a7,a8,a9,_⟩:=fee_at (hp.on b1).fees hti;have BF:=hid b1;have HW1:=hid hw1;have HK1:=hid hk1;have HN:=hid hn;by_cases h8:8≤i
 ·have K:Hid (E=6):=hid (by rw [HE.out,if_pos h8]);have h9:(8:Int)≤(i:Int):=by omega
  clear hIX hE cM a0 a1 a2 a3 a4 a5 a6 a7 a8 a9 hw1 hk1 hn hp hti X1 b1 HE e;go_enter Tryz.func69,Tryz.ntmps69
  go_wp2;rw [←HW1.out];go_ret;exact ret_d K.out.symm BF.out
 have h9:(i:Int)<8:=by omega
 have HE2:Hid (E=if IX=true then 0 else 5):=hid (by rw [HE.out,if_neg h8]);have f0:=cell_regrown (X1.cell 0 _ rfl);have f1:=cell_regrown (X1.cell 1 _ rfl);have f2:=cell_regrown (X1.cell 2 _ rfl);have f3:=cell_regrown (X1.cell 3 _ rfl);have f4:=cell_regrown (X1.cell 4 _ rfl);have f5:=cell_regrown (X1.cell 5 _ rfl);have f6:=cell_regrown (X1.cell 6 _ rfl);have f7:=cell_regrown (X1.cell 7 _ rfl);have f8:=cell_regrown (X1.cell 8 _ rfl);have f9:=cell_regrown (X1.cell 9 _ rfl);have f10:=cell_regrown (X1.cell 10 _ rfl);have f11:=cell_regrown (X1.cell 11 _ rfl);have f12:=cell_regrown (X1.cell 12 _ rfl);have g1:=cell_regrown a1;have g2:=cell_regrown a2;have g3:=cell_regrown a3;have g4:=cell_regrown a4;have g5:=cell_regrown a5;have g6:=cell_regrown a6;have g7:=cell_regrown a7;have qM:=fun d os=>Calls.regrown_of (cM (grow (redrawn w1 d) os));rw [←hn] at f9;clear hIX hE cM a0 a1 a2 a3 a4 a5 a6 a7 a8 a9 hw1 hk1 hp hti X1 b1 HE h8;subst e;go_enter Tryz.func69,Tryz.ntmps69
 go_upto_region 3 with fail
 rw [←HW1.out,←HK1.out];rw [←hn] at qM ⊢;clear HW1 HK1 hn;refine wp_region_quiet_below (by kernel_rfl) (by kernel_rfl) ?_;repeat (go_big_quiet_step (first|(go_at_call 116;exact qM _ _)))
 refine wpQuiet_nil ?_;intro wv hw';obtain ⟨⟨dq,osq⟩,hw''⟩:=hw';have BV:Hid (Below w.heap.size w wv):=hid (by subst hw'';exact bel_on BF.out (below_regrown w1 dq osq));clear hw'' qM g1 g2 g3 g4 g5 g6 g7 f0 f1 f2 f3 f4 f5 f6 f7 f8 f9 f10 f11 f12 BF;by_cases hg:IX=true
 ·have K:Hid (E=0):=hid (by rw [HE2.out,if_pos hg]);subst hg;go_wp2;go_ret;exact ret_d K.out.symm BV.out
 ·have K:Hid (E=5):=hid (by rw [HE2.out,if_neg hg]);obtain rfl:IX=false:=by simpa using hg
  go_wp2;go_ret;exact ret_d K.out.symm BV.out
theorem charge_any (p:Plan) (ma:Option Addr) (mc:Nat) (fa:Option Addr) (fc:Nat) (ca:Option Addr) (cc:Nat) (i:Nat) (c:Charge) (w:World) (hp:PlanLies w (planC p ma mc fa fc ca cc) p ma mc fa fc ca cc) (hti:p.charges[i]?=some c) (gd:Gd p) (hl:p.charges.length≤100000) (hq:c.tiers.length≤100000) :
  Calls Tryz.prog 70 #[.agg #[p.name,p.cur,p.a.y,p.a.m,p.a.d,p.b.y,p.b.m,p.b.d,.slice ma p.meters.length mc,.slice fa p.fees.length fc,.slice ca p.charges.length cc,p.line,p.col],.int .i64 (i:Int)] w fun e w'=>e=.returned (.int .i64 (chE p i c))∧Below w.heap.size w w':=by
 obtain ⟨w1,hw1⟩:∃W,W=w.alloc (.cells #[p.name,p.cur,p.a.y,p.a.m,p.a.d,p.b.y,p.b.m,p.b.d,.slice ma p.meters.length mc,.slice fa p.fees.length fc,.slice ca p.charges.length cc,p.line,p.col] 41):=⟨_,rfl⟩;obtain ⟨k1,hk1⟩:∃k,k=w.heap.size:=⟨_,rfl⟩;have X1:Box w1 k1 [p.name,p.cur,p.a.y,p.a.m,p.a.d,p.b.y,p.b.m,p.b.d,.slice ma p.meters.length mc,.slice fa p.fees.length fc,.slice ca p.charges.length cc,p.line,p.col]:=by rw [hw1,hk1];exact Box.new _ _ _
 have b1:Below w.heap.size w w1:=by rw [hw1];exact bel_alloc _ _
 obtain ⟨b,o,ta,tc,aa,ac,e,ax,lx0⟩:=charge_at (hp.on b1).charges hti;have r1:=hid (range_ch ax);unfold chargeC at r1;obtain ⟨w2,hw2⟩:∃W,W=w1.alloc (.cells #[c.meter,c.win.has,c.win.a.y,c.win.a.m,c.win.a.d,c.win.b.y,c.win.b.m,c.win.b.d,c.allowance,c.block,c.kind,.slice ta c.tiers.length tc,c.mode,.slice aa c.adjusts.length ac,c.line,c.col] 57):=⟨_,rfl⟩;obtain ⟨k2,hk2⟩:∃k,k=w1.heap.size:=⟨_,rfl⟩;have X2:Box w2 k2 [c.meter,c.win.has,c.win.a.y,c.win.a.m,c.win.a.d,c.win.b.y,c.win.b.m,c.win.b.d,c.allowance,c.block,c.kind,.slice ta c.tiers.length tc,c.mode,.slice aa c.adjusts.length ac,c.line,c.col]:=by rw [hw2,hk2];exact Box.new _ _ _
 have b2:Below w1.heap.size w1 w2:=by rw [hw2];exact bel_alloc _ _
 have X:=hid (fun (W:World) (bw:Below w2.heap.size w2 W)=>(⟨(X1.on b2).on bw,X2.on bw,hp.on (bel_on (bel_on b1 b2) bw),ch_on lx0 (bel_on b2 bw),bel_on (bel_on b1 b2) bw⟩:Box W k1 _∧Box W k2 _∧PlanLies W _ p ma mc fa fc ca cc∧ChargeLies W _ c ta tc aa ac∧Below w.heap.size w W));obtain ⟨n,hn⟩:∃n,n=p.charges.length:=⟨_,rfl⟩;have hin:i<n:=by rw [hn];exact (List.getElem?_eq_some_iff.1 hti).1
 have n1:n≤cc:=by rw [hn];exact hp.charges.hcap
 have n2:n≤100000:=by rw [hn];exact hl
 obtain ⟨nT,hnT⟩:∃n,n=c.tiers.length:=⟨_,rfl⟩;obtain ⟨nA,hnA⟩:∃n,n=c.adjusts.length:=⟨_,rfl⟩;have GC:=gd.charges c (List.mem_of_getElem? hti);have cM:=hid (fun (W:World) (bw:Below w2.heap.size w2 W)=>meter4 p c.meter ma mc fa fc ca cc W (hp.on (bel_on (bel_on b1 b2) bw)));have cW:=hid (fun (W:World)=>holds_any p c.win ma mc fa fc ca cc W gd.days GC.win);have cR:=hid (fun (W:World) (bw:Below w2.heap.size w2 W)=>rising_any c.tiers ta tc W (ch_on lx0 (bel_on b2 bw)).tiers hq);have d10:=X1.cell 10 _ rfl;obtain ⟨E,hE⟩:∃E,E=chE p i c:=⟨_,rfl⟩;rw [←hE];have HE:Hid (E=if 8≤i then 6 else if meterIx p.meters c.meter=none∨winIn p c.win=false∨c.block=0 then 5 else if 8<nT then 6 else if risesB 0 c.tiers=false then 5 else if 6<nA then 6 else 0):=hid (by rw [hE,hnT,hnA];rfl);obtain ⟨IX,hIX⟩:∃z,z=mix p.meters c.meter:=⟨_,rfl⟩;obtain ⟨WB,hWB⟩:∃z,z=winIn p c.win:=⟨_,rfl⟩;obtain ⟨RB,hRB⟩:∃z,z=risesB 0 c.tiers:=⟨_,rfl⟩;rw [←hIX] at cM;rw [←hWB] at cW HE;rw [←hRB] at cR HE;have HI:Hid (meterIx p.meters c.meter=none↔IX<0):=hid (by rw [hIX];exact mix_none.symm);rw [←hn] at d10;have HW1:=hid hw1;have HW2:=hid hw2;have HK1:=hid hk1;have HK2:=hid hk2;rw [←hnT] at cR;have HNT:=hid hnT;have HNA:=hid hnA;have HN:=hid hn;clear hIX hWB hRB hE hnT hnA GC gd hn X1 X2 hw1 hw2 hk1 hk2 b1 b2 hp ax lx0 hti hl hq;subst e;go_enter Tryz.func70,Tryz.ntmps70
 go_upto_region 1 with fail
 rw [←HW1.out,←HK1.out];clear HW1
 go_upto_region 2 with (first
  | (with_reducible refine wpList_load_mid (op:=Oper.mk (some 10) (Op.load 57 (Operand.tmp 9)) _ _ _ _) ?_ 57 (.tmp 9) ?_ b (o+i*16) ?_ [c.meter,c.win.has,c.win.a.y,c.win.a.m,c.win.a.d,c.win.b.y,c.win.b.m,c.win.b.d,c.allowance,c.block,c.kind,.slice ta c.tiers.length tc,c.mode,.slice aa c.adjusts.length ac,c.line,c.col] _ r1.out Tryz.underlying57 ?_ ?_ ?_;rfl;rfl;go_simp;rfl;kernel_rfl)
  | (with_reducible refine wpList_store_new (op:=Oper.mk none (Op.store 57 (Operand.tmp 5) (Operand.tmp 10)) _ _ _ _) ?_ 57 (.tmp 5) (.tmp 10) ?_ w1 _ #[c.meter,c.win.has,c.win.a.y,c.win.a.m,c.win.a.d,c.win.b.y,c.win.b.m,c.win.b.d,c.allowance,c.block,c.kind,.slice ta c.tiers.length tc,c.mode,.slice aa c.adjusts.length ac,c.line,c.col] ?_ ?_ ?_ ?_ ?_ ?_;rfl;rfl;go_simp;go_simp;kernel_rfl;rfl;(simp [Value.oneCell']))
  | fail)
 rw [←HW2.out,←HK2.out];clear HW2 r1 d10;by_cases h8:8≤i
 ·have K:Hid (E=6):=hid (by rw [HE.out,if_pos h8]);have h9:(8:Int)≤(i:Int):=by omega
  have BF:=hid (X.out w2 (Below.refl _ _)).2.2.2.2;go_wp2;go_ret;exact ⟨ret_i K.out.symm,BF.out⟩
 have HE2:Hid (E=if meterIx p.meters c.meter=none∨WB=false∨c.block=0 then 5 else if 8<nT then 6 else if RB=false then 5 else if 6<nA then 6 else 0):=hid (by rw [HE.out,if_neg h8]);have h9:(i:Int)<8:=by omega
 obtain ⟨Y1,Y2,_,_,BW⟩:=X.out w2 (Below.refl _ _);have RP:=hid (range_of Y1.cell);have d0:=Y2.cell 0 _ rfl;have BF:=hid BW;clear Y1 Y2 BW HE h8;go_upto_region 4 with fail
 by_cases hI:IX<0
 ·have K:Hid (E=5):=hid (by rw [HE2.out,if_pos (.inl (HI.out.2 hI))]);have gI:decide (IX<0)=true:=decide_eq_true hI;clear HE2 HI hI;go_wp2_with (first|(with_reducible refine wpList_load_mid (op:=Oper.mk (some 15) (Op.load 41 (Operand.tmp 2)) _ _ _ _) ?_ 41 (.tmp 2) ?_ k1 0 ?_ [p.name,p.cur,p.a.y,p.a.m,p.a.d,p.b.y,p.b.m,p.b.d,.slice ma p.meters.length mc,.slice fa p.fees.length fc,.slice (some ⟨b,o,none⟩) p.charges.length cc,p.line,p.col] _ RP.out Tryz.underlying41 ?_ ?_ ?_;rfl;rfl;go_simp;rfl;kernel_rfl)|fail)
  refine (cM.out w2 (Below.refl _ _)).mono ?_;rintro e w3 ⟨rfl,b3⟩;have B3:=hid b3;clear b3 d0 BF RP cM;obtain ⟨Y1,Y2,_,_,BW⟩:=X.out w3 B3.out;have RP:=hid (range_of Y1.cell);have d1:=Y2.cell 1 _ rfl;have d2:=Y2.cell 2 _ rfl;have d3:=Y2.cell 3 _ rfl;have d4:=Y2.cell 4 _ rfl;have d5:=Y2.cell 5 _ rfl;have d6:=Y2.cell 6 _ rfl;have d7:=Y2.cell 7 _ rfl;have BF:=hid BW;clear Y1 Y2 BW;clear RP d1 d2 d3 d4 d5 d6 d7;go_wp2;go_ret;exact ⟨ret_i K.out.symm,BF.out⟩
 have gI:decide (IX<0)=false:=decide_eq_false hI;have NI:Hid (¬ meterIx p.meters c.meter=none):=hid (fun h=>hI (HI.out.1 h));clear hI HI;go_wp2_with (first|(with_reducible refine wpList_load_mid (op:=Oper.mk (some 15) (Op.load 41 (Operand.tmp 2)) _ _ _ _) ?_ 41 (.tmp 2) ?_ k1 0 ?_ [p.name,p.cur,p.a.y,p.a.m,p.a.d,p.b.y,p.b.m,p.b.d,.slice ma p.meters.length mc,.slice fa p.fees.length fc,.slice (some ⟨b,o,none⟩) p.charges.length cc,p.line,p.col] _ RP.out Tryz.underlying41 ?_ ?_ ?_;rfl;rfl;go_simp;rfl;kernel_rfl)|fail)
 refine (cM.out w2 (Below.refl _ _)).mono ?_;rintro e w3 ⟨rfl,b3⟩;have B3:=hid b3;clear b3 d0 BF RP cM;obtain ⟨Y1,Y2,_,_,BW⟩:=X.out w3 B3.out;have RP:=hid (range_of Y1.cell);have d1:=Y2.cell 1 _ rfl;have d2:=Y2.cell 2 _ rfl;have d3:=Y2.cell 3 _ rfl;have d4:=Y2.cell 4 _ rfl;have d5:=Y2.cell 5 _ rfl;have d6:=Y2.cell 6 _ rfl;have d7:=Y2.cell 7 _ rfl;have BF:=hid BW;clear Y1 Y2 BW;go_wp2_with (first|((with_reducible refine wpList_load_midg (op:=Oper.mk (some 21) (Op.load 41 (Operand.tmp 2)) _ _ _ _) ?_ 41 (.tmp 2) ?_ k1 0 ?_ [p.name,p.cur,p.a.y,p.a.m,p.a.d,p.b.y,p.b.m,p.b.d,.slice ma p.meters.length mc,.slice fa p.fees.length fc,.slice (some ⟨b,o,none⟩) p.charges.length cc,p.line,p.col] _ RP.out Tryz.underlying41 ?_ ?_ ?_);(first|(exact wantg rfl (by kernel_rfl) rfl));rfl;go_simp;rfl;kernel_rfl)|fail)
 refine (cW.out w3).mono ?_;rintro e w4 ⟨rfl,b4⟩;have B4:=hid (bel_on B3.out b4);clear b4 BF RP cW d1 d2 d3 d4 d5 d6 d7 B3;obtain ⟨Y1,Y2,_,_,BW⟩:=X.out w4 B4.out;have d9:=Y2.cell 9 _ rfl;have d11:=Y2.cell 11 _ rfl;rw [←HNT.out] at d11;have BF:=hid BW;clear Y1 Y2 BW;by_cases hW:WB=false
 ·have K:Hid (E=5):=hid (by rw [HE2.out,if_pos (.inr (.inl hW))]);clear d11 HE2;subst hW;go_wp2;go_ret;exact ⟨ret_i K.out.symm,BF.out⟩
 obtain rfl:WB=true:=by simpa using hW
 by_cases h0:c.block=0
 ·have K:Hid (E=5):=hid (by rw [HE2.out,if_pos (.inr (.inr h0))]);have g0:(c.block==0)=true:=by rw [h0];rfl
  clear d11 HE2 h0;go_wp2;go_ret;exact ⟨ret_i K.out.symm,BF.out⟩
 have HE3:Hid (E=if 8<nT then 6 else if RB=false then 5 else if 6<nA then 6 else 0):=hid (by rw [HE2.out,if_neg];rintro (h|h|h);exact NI.out h;cases h;exact h0 h);have g0:(c.block==0)=false:=by simpa using h0
 clear h0 HE2 NI;by_cases h8:8<nT
 ·have K:Hid (E=6):=hid (by rw [HE3.out,if_pos h8]);have h8':(8:Int)<(nT:Int):=by omega
  clear HE3;go_wp2;go_ret;exact ⟨ret_i K.out.symm,BF.out⟩
 have HE4:Hid (E=if RB=false then 5 else if 6<nA then 6 else 0):=hid (by rw [HE3.out,if_neg h8]);have h8':(nT:Int)≤8:=by omega
 clear HE3 h8;go_wp2_with fail
 refine (cR.out w4 B4.out).mono ?_;rintro e w5 ⟨rfl,b5⟩;have B5:=hid (bel_on B4.out b5);clear b5 BF cR d9 d11 B4;obtain ⟨Y1,Y2,_,_,BW⟩:=X.out w5 B5.out;have d13:=Y2.cell 13 _ rfl;rw [←HNA.out] at d13;have BF:=hid BW;clear Y1 Y2 BW;by_cases hR:RB=false
 ·have K:Hid (E=5):=hid (by rw [HE4.out,if_pos hR]);subst hR;clear HE4 d13;go_wp2;go_ret;exact ⟨ret_i K.out.symm,BF.out⟩
 have HE5:Hid (E=if 6<nA then 6 else 0):=hid (by rw [HE4.out,if_neg hR]);obtain rfl:RB=true:=by simpa using hR
 clear HE4;by_cases h6:6<nA
 ·have K:Hid (E=6):=hid (by rw [HE5.out,if_pos h6]);have h6':(6:Int)<(nA:Int):=by omega
  go_wp2;go_ret;exact ⟨ret_i K.out.symm,BF.out⟩
 ·have K:Hid (E=0):=hid (by rw [HE5.out,if_neg h6]);have h6':(nA:Int)≤6:=by omega
  go_wp2;go_ret;exact ⟨ret_i K.out.symm,BF.out⟩
theorem bel_drewN (w:World) (n:Nat):Below w.heap.size w (w.drewN n):=⟨rfl,rfl,rfl,Nat.le_refl _,fun _ _=>rfl⟩
theorem least2 (n a:Int):bestOf ltB n [a]=if a<n then a else n:=by unfold bestOf bestOf ltB;simp
theorem most2 (n a:Int):bestOf gtB n [a]=if n<a then a else n:=by unfold bestOf bestOf gtB;simp
theorem cells2 (w:World) (n a:Int) (t:TypeId):Cells (w.alloc (.cells #[.int .i64 n,.int .i64 a] t)) w.heap.size 0 [n,a]:=by
 intro i hi;have hi2:i<2:=hi;rw [show (0+i)=i by omega,World.cell?_alloc_new]
 match i,hi2 with
 | 0,_=>rfl
 | 1,_=>rfl
theorem adjusted_any (a:Adj) (n:Int) (w:World) (h:AdjOk a) (hn:I64 n) :
  Calls Tryz.prog 159 #[.agg #[a.kind,a.num,a.mode],.int .i64 n] w fun e w'=>∃(v:Int) (k:Bool),(e=.returned (.tuple #[.int .i64 v,.bool k])∧Below w.heap.size w w')∧lim v k=adjStep n a∧I64 v:=by
 obtain ⟨kd,an,am⟩:=a;have g0:0≤an:=by rcases h with h|h;exact h.2.1.1;exact h.2.1.1
 have g1:an≤1000000000000:=by rcases h with h|h;have:=h.2.1.2;(show an≤_);(have:an≤100000000:=this);omega;exact h.2.1.2
 have g2:kd=1∨kd=2∨kd=3∨kd=4:=by rcases h with h|h;exact .inl h.1;exact .inr h.1
 have n0:=hn.1;have ia:I64 an:=by unfold I64;omega
 clear h;obtain ⟨w1,hw1⟩:∃W,W=w.alloc (.cells #[.int .i64 kd,.int .i64 an,.int .i64 am] 121):=⟨_,rfl⟩;have b1:=hid (show Below w.heap.size w w1 by rw [hw1];exact bel_alloc _ _);have X1:Box w1 w.heap.size [.int .i64 kd,.int .i64 an,.int .i64 am]:=by rw [hw1];exact Box.new _ _ _
 have d0:=X1.cell 0 _ rfl;have d1:=X1.cell 1 _ rfl;have HW:=hid hw1;clear hw1 X1;rcases g2 with rfl|rfl|rfl|rfl
 ·have c:=hid (fun W=>Rd.muldiv_any n an 100000 1 W hn ia (by unfold I64;omega));obtain ⟨N,hN⟩:∃N,N=mdn (n*an) 100000 1:=⟨_,rfl⟩;obtain ⟨K,hK⟩:∃N,N=mdb (n*an) 100000 1:=⟨_,rfl⟩;have SE:Hid (lim N K=adjStep n ⟨1,an,am⟩):=hid (by rw [hN,hK];rfl);have iN:=hid (show I64 N by rw [hN];exact i64_mul _ _ _);rw [←hN,←hK] at c;clear hN hK hn ia;go_enter Tryz.func159,Tryz.ntmps159
  go_upto_region 1 with fail
  rw [←HW.out];go_wp2_with fail
  refine (c.out w1).mono ?_;rintro e w2 ⟨rfl,dd,rfl⟩;have BF:=hid (show Below w.heap.size w (w1.drewN dd) from bel_on b1.out (bel_drewN w1 dd));clear d0 d1 c;go_wp2;go_ret2;exact ⟨N,K,⟨rfl,BF.out⟩,SE.out,iN.out⟩
 ·have c:=hid (Ex.least_any w1.heap.size 0 2 n [an] (w1.alloc (.cells #[.int .i64 n,.int .i64 an] 3)) (cells2 _ _ _ _) (by simp) (by simp));rw [least2] at c;obtain ⟨N,hN⟩:∃N,N=if an<n then an else n:=⟨_,rfl⟩;have SE:Hid (lim N true=adjStep n ⟨2,an,am⟩):=hid (by rw [hN];rfl);have iN:=hid (show I64 N by rw [hN];split;exact ia;exact hn);rw [←hN] at c;have BF:=hid (bel_on b1.out (bel_alloc w1 (.cells #[.int .i64 n,.int .i64 an] 3)));clear hN hn ia;go_enter Tryz.func159,Tryz.ntmps159
  go_upto_region 1 with fail
  rw [←HW.out];go_wp2_with fail
  refine c.out.mono ?_;rintro e w2 ⟨rfl,rfl⟩;clear d0 d1 c;go_wp2;go_ret2;exact ⟨N,true,⟨rfl,BF.out⟩,SE.out,iN.out⟩
 ·have c:=hid (Ex.most_any w1.heap.size 0 2 n [an] (w1.alloc (.cells #[.int .i64 n,.int .i64 an] 3)) (cells2 _ _ _ _) (by simp) (by simp));rw [most2] at c;obtain ⟨N,hN⟩:∃N,N=if n<an then an else n:=⟨_,rfl⟩;have SE:Hid (lim N true=adjStep n ⟨3,an,am⟩):=hid (by rw [hN];rfl);have iN:=hid (show I64 N by rw [hN];split;exact ia;exact hn);rw [←hN] at c;have BF:=hid (bel_on b1.out (bel_alloc w1 (.cells #[.int .i64 n,.int .i64 an] 3)));clear hN hn ia;go_enter Tryz.func159,Tryz.ntmps159
  go_upto_region 1 with fail
  rw [←HW.out];go_wp2_with fail
  refine c.out.mono ?_;rintro e w2 ⟨rfl,rfl⟩;clear d0 d1 c;go_wp2;go_ret2;exact ⟨N,true,⟨rfl,BF.out⟩,SE.out,iN.out⟩
 ·have c:=hid (fun W=>Ex.add_any n an W hn ia);obtain ⟨N,hN⟩:∃N,N=cut64 (n+an):=⟨_,rfl⟩;obtain ⟨K,hK⟩:∃N,N=ok64 (n+an):=⟨_,rfl⟩;have SE:Hid (lim N K=adjStep n ⟨4,an,am⟩):=hid (by rw [hN,hK];rfl);have iN:=hid (show I64 N by rw [hN];exact i64_cut _);rw [←hN,←hK] at c;clear hN hK hn ia;go_enter Tryz.func159,Tryz.ntmps159
  go_upto_region 1 with fail
  rw [←HW.out];go_wp2_with fail
  refine (c.out w1).mono ?_;rintro e w2 ⟨rfl,rfl⟩;clear d0 d1 c;go_wp2;go_ret2;exact ⟨N,K,⟨rfl,b1.out⟩,SE.out,iN.out⟩
theorem up_qty {mx al bl:Int} (h0:0<bl) (hb:bl≤1000000) (hm:mx-al≤2000):Rd.upb (max 0 (mx-al)) bl=true∧Rd.upn (max 0 (mx-al)) bl=qty mx al bl:=by
 obtain ⟨a,ha⟩:∃a,a=max 0 (mx-al):=⟨_,rfl⟩;rw [←ha];have a0:0≤a:=by omega
 have a1:a≤2000:=by omega
 obtain ⟨K,hK⟩:∃K,K=rnd a bl 1:=⟨_,rfl⟩;have e:=Int.mul_ediv_add_emod a bl;have q0:0≤a / bl:=Int.ediv_nonneg a0 (by omega);have r0:=Int.emod_nonneg a (show bl≠0 by omega);have r1:=Int.emod_lt_of_pos a h0
 have k1:K=a / bl+(if 0<a % bl then 1 else 0):=by
  rw [hK];unfold rnd;rw [rup1];by_cases hr:0<a % bl<;>simp [hr]
 obtain ⟨q,hq⟩:∃q,q=a / bl:=⟨_,rfl⟩;obtain ⟨r,hr⟩:∃r,r=a % bl:=⟨_,rfl⟩;rw [←hq] at e q0 k1;rw [←hr] at e r0 r1 k1;obtain ⟨pq,hpq⟩:∃z,z=bl*q:=⟨_,rfl⟩;rw [←hpq] at e;have qa:q≤pq:=by rw [hpq];have:=Int.mul_le_mul_of_nonneg_right (show 1≤bl by omega) q0;omega
 have kb:K*bl=if 0<r then pq+bl else pq:=by
  rw [k1];split
  ·rw [Int.add_mul,Int.one_mul,hpq,Int.mul_comm]
  ·rw [Int.add_zero,hpq,Int.mul_comm]
 have K0:0≤K:=by rw [k1];split<;>omega
 have K1:K≤2001:=by rw [k1];split<;>omega
 have kz:K=0→a=0:=by
  intro hh;rw [k1] at hh;by_cases hr:0<r
  ·rw [if_pos hr] at hh;omega
  ·rw [if_neg hr,Int.add_zero] at hh;have:pq=0:=by rw [hpq,hh,Int.mul_zero]
   omega
 have B0:0≤K*bl:=by rw [kb];split<;>omega
 have B1:K*bl≤1100000:=by rw [kb];split<;>omega
 have B2:a≤K*bl:=by rw [kb];split<;>omega
 have B3:0<a→K*bl-bl<a:=by
  intro _;rw [kb];by_cases hh:0<r
  ·rw [if_pos hh];omega
  ·rw [if_neg hh];omega
 have g1:goodm 1=true:=by decide
 have M1:mdn a bl 1=K:=by rw [mdn_good h0 g1,←hK,cut64_t (by unfold I64;omega)]
 have M2:mdb a bl 1=true:=by rw [mdb_good h0 g1,←hK,ok64_t (by unfold I64;omega)]
 have I:I64 (K*bl):=by unfold I64;omega
 unfold Rd.upb Rd.upn;rw [M1,M2,ok64_t I,if_pos rfl,cut64_t I];refine ⟨rfl,?_⟩
 have:=qty_count (mx:=mx) (al:=al) (bl:=bl) (k:=K.toNat) h0 (by rw [Int.toNat_of_nonneg K0];omega) (by
  rw [Int.toNat_of_nonneg K0];by_cases hz:K=0
  ·left;omega
  ·right
   have ap:0<a:=by
    rcases Int.lt_or_eq_of_le a0 with hh|hh
    ·exact hh
    ·exfalso
     have:q=0:=by
      have:pq+r=0:=by omega
      omega
     rw [k1] at hz;have:¬ 0<r:=by omega
     rw [if_neg this] at hz;omega
   have:=B3 ap
   omega)
 rw [this,Int.toNat_of_nonneg K0]
def bareO (c:Charge) (mx:Int):Option Int:=lim (mdn (topRate c.tiers*qty mx c.allowance c.block) 1000000 1) (mdb (topRate c.tiers*qty mx c.allowance c.block) 1000000 1)
theorem bare_any (p:Plan) (ma:Option Addr) (mc:Nat) (fa:Option Addr) (fc:Nat) (ca:Option Addr) (cc:Nat) (c:Charge) (ta:Option Addr) (tc:Nat) (aa:Option Addr) (ac:Nat) (k:Nat) (m:Meter) (w:World)
  (hp:PlanLies w (planC p ma mc fa fc ca cc) p ma mc fa fc ca cc) (hc:ChargeLies w (chargeC c ta tc aa ac) c ta tc aa ac) (g:ChOk c) (hb0:c.block≠0) (hk:meterIx p.meters c.meter=some k) (htm:p.meters[k]?=some m) (hm:NumOk m.max 2000) (hl:p.meters.length≤100000) :
  Calls Tryz.prog 158 #[.agg #[p.name,p.cur,p.a.y,p.a.m,p.a.d,p.b.y,p.b.m,p.b.d,.slice ma p.meters.length mc,.slice fa p.fees.length fc,.slice ca p.charges.length cc,p.line,p.col],.agg #[c.meter,c.win.has,c.win.a.y,c.win.a.m,c.win.a.d,c.win.b.y,c.win.b.m,c.win.b.d,c.allowance,c.block,c.kind,.slice ta c.tiers.length tc,c.mode,.slice aa c.adjusts.length ac,c.line,c.col]] w fun e w'=>e=.returned (.tuple #[.int .i64 ((bareO c m.max).getD 0),.bool (bareO c m.max).isSome])∧Below w.heap.size w w':=by
 obtain ⟨w1,hw1⟩:∃W,W=w.alloc (.cells #[p.name,p.cur,p.a.y,p.a.m,p.a.d,p.b.y,p.b.m,p.b.d,.slice ma p.meters.length mc,.slice fa p.fees.length fc,.slice ca p.charges.length cc,p.line,p.col] 41):=⟨_,rfl⟩;obtain ⟨k1,hk1⟩:∃k,k=w.heap.size:=⟨_,rfl⟩;have X1:Box w1 k1 [p.name,p.cur,p.a.y,p.a.m,p.a.d,p.b.y,p.b.m,p.b.d,.slice ma p.meters.length mc,.slice fa p.fees.length fc,.slice ca p.charges.length cc,p.line,p.col]:=by rw [hw1,hk1];exact Box.new _ _ _
 have b1:Below w.heap.size w w1:=by rw [hw1];exact bel_alloc _ _
 obtain ⟨w2,hw2⟩:∃W,W=w1.alloc (.cells #[c.meter,c.win.has,c.win.a.y,c.win.a.m,c.win.a.d,c.win.b.y,c.win.b.m,c.win.b.d,c.allowance,c.block,c.kind,.slice ta c.tiers.length tc,c.mode,.slice aa c.adjusts.length ac,c.line,c.col] 57):=⟨_,rfl⟩;obtain ⟨k2,hk2⟩:∃k,k=w1.heap.size:=⟨_,rfl⟩;have X2:Box w2 k2 [c.meter,c.win.has,c.win.a.y,c.win.a.m,c.win.a.d,c.win.b.y,c.win.b.m,c.win.b.d,c.allowance,c.block,c.kind,.slice ta c.tiers.length tc,c.mode,.slice aa c.adjusts.length ac,c.line,c.col]:=by rw [hw2,hk2];exact Box.new _ _ _
 have b2:Below w1.heap.size w1 w2:=by rw [hw2];exact bel_alloc _ _
 have hk3:k2=w.heap.size+1:=by rw [hk2,hw1];simp
 have X:=hid (fun (W:World) (bw:Below w2.heap.size w2 W)=>(⟨(X1.on b2).on bw,X2.on bw,hp.on (bel_on (bel_on b1 b2) bw),ch_on hc (bel_on (bel_on b1 b2) bw),bel_on (bel_on b1 b2) bw⟩:Box W k1 _∧Box W k2 _∧PlanLies W _ p ma mc fa fc ca cc∧ChargeLies W _ c ta tc aa ac∧Below w.heap.size w W));obtain ⟨nM,hnM⟩:∃n,n=p.meters.length:=⟨_,rfl⟩;have km:k<nM:=by rw [hnM];exact (List.getElem?_eq_some_iff.1 htm).1
 have u1:nM≤mc:=by rw [hnM];exact hp.meters.hcap
 have u2:nM≤100000:=by rw [hnM];exact hl
 have MK:mix p.meters c.meter=(k:Int):=mix_some.2 hk;have cM:=meter4 p c.meter ma mc fa fc ca cc w2 (hp.on (bel_on b1 b2));rw [MK] at cM;obtain ⟨al,hal⟩:∃al,al=c.allowance:=⟨_,rfl⟩;obtain ⟨bl,hbl⟩:∃bl,bl=c.block:=⟨_,rfl⟩;obtain ⟨mx,hmx⟩:∃x,x=m.max:=⟨_,rfl⟩;obtain ⟨nT,hnT⟩:∃n,n=c.tiers.length:=⟨_,rfl⟩;have a0:0≤al:=by rw [hal];exact g.allow.1
 have a1:al≤1000000:=by rw [hal];exact g.allow.2
 have l0:0<bl:=by have:=g.block.1;rw [hbl];omega
 have l1:bl≤1000000:=by rw [hbl];exact g.block.2
 have m0:0≤mx:=by rw [hmx];exact hm.1
 have m1:mx≤2000:=by rw [hmx];exact hm.2
 obtain ⟨UQ1,UQ2⟩:=up_qty (mx:=mx) (al:=al) l0 l1 (by omega);obtain ⟨q,hq⟩:∃q,q=qty mx al bl:=⟨_,rfl⟩;have q0:0≤q:=by rw [hq];exact qty_nn (by omega)
 have q1:q≤9223372036854775807:=by rw [hq,←UQ2];unfold Rd.upn;split;exact (i64_cut _).2;decide
 have cU:=hid (fun (W:World)=>(Rd.up_any (max 0 (mx-al)) bl W (by unfold I64;omega) (by unfold I64;omega)).mono (fun e w' h=>(⟨h.1,by obtain ⟨n,hn⟩:=h.2;rw [hn];exact bel_drewN _ _⟩:e=.returned (.tuple #[.int .i64 (Rd.upn (max 0 (mx-al)) bl),.bool (Rd.upb (max 0 (mx-al)) bl)])∧Below W.heap.size W w')));rw [UQ1,UQ2,←hq] at cU;have cG:=hid (fun (W:World) (bw:Below w2.heap.size w2 W)=>greatest_any c.tiers ta tc W (ch_on hc (bel_on (bel_on b1 b2) bw)).tiers);obtain ⟨tr,htr⟩:∃x,x=topRate c.tiers:=⟨_,rfl⟩;have tr0:=top_i64 (rates_of g) c.tiers.length;rw [List.take_length,←htr] at tr0;rw [←hnT,←htr] at cG;have cD:=hid (fun (W:World)=>Rd.muldiv_any tr q 1000000 1 W (by unfold I64;omega) (by unfold I64;omega) (by unfold I64;omega));obtain ⟨N,hN⟩:∃N,N=mdn (tr*q) 1000000 1:=⟨_,rfl⟩;obtain ⟨K,hK⟩:∃N,N=mdb (tr*q) 1000000 1:=⟨_,rfl⟩;have BO:bareO c m.max=lim N K:=by unfold bareO;rw [hN,hK,htr,hq,hal,hbl,hmx]
 rw [←hN,←hK] at cD;rw [BO];obtain ⟨O,hO⟩:∃O,O=lim N K:=⟨_,rfl⟩;have cB:=hid (fun (W:World)=>below_any N K W);rw [←hO] at cB ⊢;have RP:=hid (range_of (X.out w2 (Below.refl _ _)).1.cell);have d0:=X2.cell 0 _ rfl;have HK3:=hid hk3;have HK1:=hid hk1;have HW:=hid (show w2=(w.alloc (.cells #[p.name,p.cur,p.a.y,p.a.m,p.a.d,p.b.y,p.b.m,p.b.d,.slice ma p.meters.length mc,.slice fa p.fees.length fc,.slice ca p.charges.length cc,p.line,p.col] 41)).alloc (.cells #[c.meter,c.win.has,c.win.a.y,c.win.a.m,c.win.a.d,c.win.b.y,c.win.b.m,c.win.b.d,c.allowance,c.block,c.kind,.slice ta c.tiers.length tc,c.mode,.slice aa c.adjusts.length ac,c.line,c.col] 57) by rw [hw2,hw1]);have HTM:=hid htm;have HNM:=hid hnM;have HAL:=hid hal;have HBL:=hid hbl;have HMX:=hid hmx;have HNT:=hid hnT;obtain ⟨XV,hXV⟩:∃x,x=O.getD 0:=⟨_,rfl⟩;obtain ⟨XB,hXB⟩:∃x,x=O.isSome:=⟨_,rfl⟩;rw [←hXV,←hXB] at cB ⊢;clear hXV hXB hN hK BO hO htr hq UQ1 UQ2 hnM hal hbl hmx hnT MK hk htm hm hl hb0 g hp hc X1 X2 b1 b2 hw1 hw2 hk1 hk2 hk3;go_enter Tryz.func158,Tryz.ntmps158
 go_upto_region 1 with fail
 rw [←HW.out,←HK3.out,←HK1.out];clear HW HK1 HK3;go_wp2_with (first|(with_reducible refine wpList_load_mid (op:=Oper.mk (some 9) (Op.load 41 (Operand.tmp 2)) _ _ _ _) ?_ 41 (.tmp 2) ?_ k1 0 ?_ [p.name,p.cur,p.a.y,p.a.m,p.a.d,p.b.y,p.b.m,p.b.d,.slice ma p.meters.length mc,.slice fa p.fees.length fc,.slice ca p.charges.length cc,p.line,p.col] _ RP.out Tryz.underlying41 ?_ ?_ ?_;rfl;rfl;go_simp;rfl;kernel_rfl)|fail)
 refine cM.mono ?_;rintro e w3 ⟨rfl,b3⟩;have B3:=hid b3;clear b3 cM d0 RP;obtain ⟨Y1,Y2,LP,_,_⟩:=X.out w3 B3.out;obtain ⟨b,o,e,lb,y0,y1,y2,y3,y4,_⟩:=meter_at LP.meters HTM.out;have f8:=cell_regrown (Y1.cell 8 _ rfl);rw [←HNM.out] at f8;rw [←HMX.out] at y2;have fm:=cell_regrown y2;have c8:=cell_regrown (Y2.cell 8 _ rfl);have c9:=cell_regrown (Y2.cell 9 _ rfl);rw [←HAL.out] at c8;rw [←HBL.out] at c9;have qU:=fun d os=>Calls.regrown_of (cU.out (grow (redrawn w3 d) os));clear Y1 Y2 LP y0 y1 y2 y3 y4 cU;subst e;go_upto_region 4 with fail
 refine wp_region_quiet_below (by kernel_rfl) (by kernel_rfl) ?_;repeat (go_big_quiet_step (first|(go_at_call 200;exact qU _ _)))
 refine wpQuiet_nil ?_;intro w4 hw';obtain ⟨⟨dq,osq⟩,hw''⟩:=hw';have B4:Hid (Below w2.heap.size w2 w4):=hid (by subst hw'';exact bel_on B3.out (below_regrown w3 dq osq));clear hw'' qU f8 fm c8 c9 B3;obtain ⟨Y1,Y2,LP,_,_⟩:=X.out w4 B4.out;have c11:=Y2.cell 11 _ rfl;rw [←HNT.out] at c11;clear Y1 Y2 LP;go_wp2_with fail
 refine (cG.out w4 B4.out).mono ?_;rintro e w5 ⟨rfl,b5⟩;have B5:=hid (X.out _ (bel_on B4.out b5)).2.2.2.2;clear b5 c11 cG B4;go_wp2_with fail
 refine (cD.out w5).mono ?_;rintro e w6 ⟨rfl,dd,rfl⟩;have B6:=hid (bel_on B5.out (bel_drewN w5 dd));clear B5 cD;go_wp2_with fail
 refine (cB.out _).mono ?_;rintro e w7 ⟨rfl,rfl⟩;clear cB;go_wp2;go_ret2;exact ⟨rfl,B6.out⟩
theorem lim_i64 {v:Int} {k:Bool} {n:Int} (h:I64 v) (e:lim v k=some n):I64 n∧n<1152921504606846976:=by
 obtain ⟨_,h1,rfl⟩:=lim_some e;exact ⟨h,h1⟩
theorem most_any (p:Plan) (ma:Option Addr) (mc:Nat) (fa:Option Addr) (fc:Nat) (ca:Option Addr) (cc:Nat) (c:Charge) (ta:Option Addr) (tc:Nat) (aa:Option Addr) (ac:Nat) (k:Nat) (m:Meter) (w:World)
  (hp:PlanLies w (planC p ma mc fa fc ca cc) p ma mc fa fc ca cc) (hc:ChargeLies w (chargeC c ta tc aa ac) c ta tc aa ac) (g:ChOk c) (hb0:c.block≠0) (hk:meterIx p.meters c.meter=some k) (htm:p.meters[k]?=some m) (hm:NumOk m.max 2000) (hl:p.meters.length≤100000) (hq:c.adjusts.length≤100000) :
  Calls Tryz.prog 121 #[.agg #[p.name,p.cur,p.a.y,p.a.m,p.a.d,p.b.y,p.b.m,p.b.d,.slice ma p.meters.length mc,.slice fa p.fees.length fc,.slice ca p.charges.length cc,p.line,p.col],.agg #[c.meter,c.win.has,c.win.a.y,c.win.a.m,c.win.a.d,c.win.b.y,c.win.b.m,c.win.b.d,c.allowance,c.block,c.kind,.slice ta c.tiers.length tc,c.mode,.slice aa c.adjusts.length ac,c.line,c.col]] w fun e w'=>e=.returned (.tuple #[.int .i64 ((mostOf c m.max).getD 0),.bool (mostOf c m.max).isSome])∧Below w.heap.size w w':=by
 obtain ⟨w1,hw1⟩:∃W,W=w.alloc (.cells #[p.name,p.cur,p.a.y,p.a.m,p.a.d,p.b.y,p.b.m,p.b.d,.slice ma p.meters.length mc,.slice fa p.fees.length fc,.slice ca p.charges.length cc,p.line,p.col] 41):=⟨_,rfl⟩;obtain ⟨k1,hk1⟩:∃k,k=w.heap.size:=⟨_,rfl⟩;have X1:Box w1 k1 [p.name,p.cur,p.a.y,p.a.m,p.a.d,p.b.y,p.b.m,p.b.d,.slice ma p.meters.length mc,.slice fa p.fees.length fc,.slice ca p.charges.length cc,p.line,p.col]:=by rw [hw1,hk1];exact Box.new _ _ _
 have b1:Below w.heap.size w w1:=by rw [hw1];exact bel_alloc _ _
 obtain ⟨w2,hw2⟩:∃W,W=w1.alloc (.cells #[c.meter,c.win.has,c.win.a.y,c.win.a.m,c.win.a.d,c.win.b.y,c.win.b.m,c.win.b.d,c.allowance,c.block,c.kind,.slice ta c.tiers.length tc,c.mode,.slice aa c.adjusts.length ac,c.line,c.col] 57):=⟨_,rfl⟩;obtain ⟨k2,hk2⟩:∃k,k=w1.heap.size:=⟨_,rfl⟩;have X2:Box w2 k2 [c.meter,c.win.has,c.win.a.y,c.win.a.m,c.win.a.d,c.win.b.y,c.win.b.m,c.win.b.d,c.allowance,c.block,c.kind,.slice ta c.tiers.length tc,c.mode,.slice aa c.adjusts.length ac,c.line,c.col]:=by rw [hw2,hk2];exact Box.new _ _ _
 have b2:Below w1.heap.size w1 w2:=by rw [hw2];exact bel_alloc _ _
 have hk3:k2=w.heap.size+1:=by rw [hk2,hw1];simp
 obtain ⟨nA,hnA⟩:∃n,n=c.adjusts.length:=⟨_,rfl⟩;have qA:nA≤100000:=by rw [hnA];exact hq
 have uA:nA≤ac:=by rw [hnA];exact hc.adjusts.hcap
 have X:=hid (fun (W:World) (bw:Below w2.heap.size w2 W)=>(⟨(X1.on b2).on bw,X2.on bw,ch_on hc (bel_on (bel_on b1 b2) bw),bel_on (bel_on b1 b2) bw⟩:Box W k1 _∧Box W k2 _∧ChargeLies W _ c ta tc aa ac∧Below w.heap.size w W));have cB0:=bare_any p ma mc fa fc ca cc c ta tc aa ac k m w2 (hp.on (bel_on b1 b2)) (ch_on hc (bel_on b1 b2)) g hb0 hk htm hm hl;obtain ⟨O,hO⟩:∃O,O=bareO c m.max:=⟨_,rfl⟩;obtain ⟨M,hM⟩:∃M,M=mostOf c m.max:=⟨_,rfl⟩;have HM:Hid (M=O.bind fun n=>adjAll n c.adjusts):=hid (by rw [hM,hO];rfl);have HO:Hid (∀n,O=some n→I64 n∧n<1152921504606846976):=hid (fun n e=>lim_i64 (i64_mul _ _ _) (by rw [←e,hO];rfl));rw [←hO] at cB0;rw [←hM];have RP:=hid (range_of (X.out w2 (Below.refl _ _)).1.cell);have RC:=hid (range_of (X.out w2 (Below.refl _ _)).2.1.cell);have HK3:=hid hk3;have HK1:=hid hk1;have HW:=hid (show w2=(w.alloc (.cells #[p.name,p.cur,p.a.y,p.a.m,p.a.d,p.b.y,p.b.m,p.b.d,.slice ma p.meters.length mc,.slice fa p.fees.length fc,.slice ca p.charges.length cc,p.line,p.col] 41)).alloc (.cells #[c.meter,c.win.has,c.win.a.y,c.win.a.m,c.win.a.d,c.win.b.y,c.win.b.m,c.win.b.d,c.allowance,c.block,c.kind,.slice ta c.tiers.length tc,c.mode,.slice aa c.adjusts.length ac,c.line,c.col] 57) by rw [hw2,hw1]);have HnA:=hid hnA;have GA:=hid g.adjs;clear hM hO hnA hk htm hm hl hq hb0 g hp hc X1 X2 b1 b2 hw1 hw2 hk1 hk2 hk3;go_enter Tryz.func121,Tryz.ntmps121
 go_upto_region 1 with fail
 rw [←HW.out,←HK3.out,←HK1.out];clear HW HK1 HK3;go_wp2_with (first|(with_reducible refine wpList_load_mid (op:=Oper.mk (some 11) (Op.load 41 (Operand.tmp 2)) _ _ _ _) ?_ 41 (.tmp 2) ?_ k1 0 ?_ [p.name,p.cur,p.a.y,p.a.m,p.a.d,p.b.y,p.b.m,p.b.d,.slice ma p.meters.length mc,.slice fa p.fees.length fc,.slice ca p.charges.length cc,p.line,p.col] _ RP.out Tryz.underlying41 ?_ ?_ ?_;rfl;rfl;go_simp;rfl;kernel_rfl)|(with_reducible refine wpList_load_mid (op:=Oper.mk (some 12) (Op.load 57 (Operand.tmp 3)) _ _ _ _) ?_ 57 (.tmp 3) ?_ k2 0 ?_ [c.meter,c.win.has,c.win.a.y,c.win.a.m,c.win.a.d,c.win.b.y,c.win.b.m,c.win.b.d,c.allowance,c.block,c.kind,.slice ta c.tiers.length tc,c.mode,.slice aa c.adjusts.length ac,c.line,c.col] _ RC.out Tryz.underlying57 ?_ ?_ ?_;rfl;rfl;go_simp;rfl;kernel_rfl)|fail)
 refine cB0.mono ?_;rintro e w3 ⟨rfl,b3⟩;have B3:=hid b3;clear b3 cB0 RP RC;obtain ⟨_,Y2,_,_⟩:=X.out w3 B3.out;have c13:=Y2.cell 13 _ rfl;rw [←HnA.out] at c13;clear Y2;have HM0:Hid (M=O.bind fun n=>adjAll n (c.adjusts.drop 0)):=hid (by rw [List.drop_zero];exact HM.out);obtain ⟨n0,hn0⟩:∃x,x=O.getD 0:=⟨_,rfl⟩;obtain ⟨k0,hk0⟩:∃x,x=O.isSome:=⟨_,rfl⟩;rw [←hn0,←hk0];have HN0:=hid hn0;have HK0:=hid hk0;clear HM hn0 hk0;go_wp2;clear c13;go_loopw [6,7,19] (fun n b i wx=>∃(i':Nat) (n':Int) (b':Bool) (o:Option Int),n=.int .i64 n'∧b=.bool b'∧i=.int .i64 (i':Int)∧i'≤nA∧Hid (n'=o.getD 0)∧Hid (b'=o.isSome)∧Hid (M=o.bind fun n=>adjAll n (c.adjusts.drop i'))∧Hid (∀n,o=some n→I64 n∧n<1152921504606846976)∧Hid (Below w2.heap.size w2 wx)) (fun _ _ i _=>nA-(intOf i).toNat)
 case atStart=>exact ⟨0,n0,k0,O,rfl,rfl,rfl,Nat.zero_le _,HN0,HK0,HM0,HO,B3⟩
 case round=>
  clear HN0 HK0 HM0 HO B3;obtain ⟨i',n',b',o,rfl,rfl,rfl,hi,hn,hb,hM,hO,hB⟩:=hrel;by_cases hlt:i'<nA
  ·obtain ⟨a,hti⟩:∃m,c.adjusts[i']?=some m:=⟨_,List.getElem?_eq_getElem (by have:=HnA.out;omega)⟩;have ST:=hid (fun n=>adjAll_step (n:=n) hti);have ga:=GA.out a (List.mem_of_getElem? hti);obtain ⟨b,oo,e,lb,a0,a1,a2,_⟩:=adj_at (X.out _ hB.out).2.2.1.adjusts hti;obtain ⟨wt,hwt⟩:∃W,W=wr.alloc (.cells #[a.kind,a.num,a.mode] 121):=⟨_,rfl⟩;have xt:Box wt wr.heap.size [a.kind,a.num,a.mode]:=by rw [hwt];exact Box.new _ _ _
   have BT:=hid (show Below w2.heap.size w2 wt by rw [hwt];exact bel_on hB.out (bel_alloc _ _));have HWT:=hid hwt;have XT:=hid xt;by_cases hbb:b'=false
   ·have E:Hid (M=none):=hid (by
     rw [hM.out];have:=hb.out;rw [hbb] at this;cases o with
     | none=>rfl
     | some _=>cases this)
    have BF:=hid (X.out _ BT.out).2.2.2;subst hbb;clear hn hb hM hO ST hti ga hwt xt;subst e;go_upto_region 5 with fail
    rw [←HWT.out];clear HWT a0 a1 a2;go_wp2;go_ret2;exact ⟨ret_n E.out,BF.out⟩
   obtain rfl:b'=true:=by simpa using hbb
   obtain ⟨x,hx⟩:∃x,o=some x:=by
    have:=hb.out;cases o with
    | none=>cases this
    | some x=>exact ⟨x,rfl⟩
   have hn':n'=x:=by rw [hn.out,hx];rfl
   subst hn';obtain ⟨i64x,ltx⟩:=hO.out n' hx;have HM2:Hid (M=(adjStep n' a).bind fun m=>adjAll m (c.adjusts.drop (i'+1))):=hid (by rw [hM.out,hx];exact ST.out n');have cA:=hid (fun W=>adjusted_any a n' W ga i64x);clear hx hn hb hM hO ST hti ga hwt xt hbb i64x;subst e;go_upto_region 5 with fail
   rw [←HWT.out];clear HWT a0 a1 a2;have t0:=XT.out.cell 0 _ rfl;have t1:=XT.out.cell 1 _ rfl;have t2:=XT.out.cell 2 _ rfl;go_wp2_with fail
   refine (cA.out wt).mono ?_;rintro e wu ⟨v,kk,⟨rfl,bu⟩,hlim,iv⟩;have BU:=hid (bel_on BT.out bu);have HL:=hid (fun n (e:lim v kk=some n)=>lim_i64 iv e);obtain ⟨O2,hO2⟩:∃O,O=lim v kk:=⟨_,rfl⟩;have cB:=hid (fun (W:World)=>below_any v kk W);rw [←hO2] at cB HL hlim;have HM3:Hid (M=O2.bind fun m=>adjAll m (c.adjusts.drop (i'+1))):=hid (by rw [HM2.out,←hlim]);obtain ⟨n2,hn2⟩:∃x,x=O2.getD 0:=⟨_,rfl⟩;obtain ⟨k2',hk2⟩:∃x,x=O2.isSome:=⟨_,rfl⟩;rw [←hn2,←hk2] at cB;have HN2:=hid hn2;have HK2:=hid hk2;clear bu cA t0 t1 t2 XT BT hlim iv hO2 hn2 hk2 HM2;go_wp2_with fail
   refine (cB.out wu).mono ?_;rintro e wv ⟨rfl,rfl⟩;clear cB;go_wp2;go_roundw
   case rel=>exact ⟨i'+1,n2,k2',O2,rfl,rfl,by simp,by omega,HN2,HK2,HM3,HL,BU⟩
   case measure=>simp [intOf];omega
  ·obtain rfl:i'=nA:=by omega
   have E:Hid (M=o):=hid (by
    rw [hM.out,List.drop_of_length_le (by have:=HnA.out;omega)]
    cases o<;>rfl)
   have BF:=hid (X.out _ hB.out).2.2.2;have R1:=hid (show n'=M.getD 0 by rw [E.out];exact hn.out);have R2:=hid (show b'=M.isSome by rw [E.out];exact hb.out);clear hM hO hn hb E;go_wp2;go_ret2;exact ⟨ret_m R1.out R2.out,BF.out⟩
end Cc
end Go.Proofs.YtofbobdhkbmbgaaGreatDoor
