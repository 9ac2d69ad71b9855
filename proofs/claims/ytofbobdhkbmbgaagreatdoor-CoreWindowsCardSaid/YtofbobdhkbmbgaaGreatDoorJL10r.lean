/- The document's answers for layer 8 (poundageref08): plans. -/
import Derived.Test.YtofbobdhkbmbgaaGreatDoorJRef8b
import Derived.Test.YtofbobdhkbmbgaaGreatDoorJSh9
import Derived.Test.YtofbobdhkbmbgaaGreatDoorJCoR
import Derived.Test.YtofbobdhkbmbgaaGreatDoorJRef10d
set_option maxRecDepth 100000
set_option maxHeartbeats 16000000
namespace Go.Proofs.YtofbobdhkbmbgaaGreatDoor
namespace R8
open Go.RowKit Go.Sort P Mm Md Sw
theorem lies_on {w w':World} {c:Charge} {ta:Option Addr} {tc:Nat} {aa:Option Addr} {ac:Nat} (h:ChargeLies w (chargeC c ta tc aa ac) c ta tc aa ac) (b:Below w.heap.size w w'):ChargeLies w' (chargeC c ta tc aa ac) c ta tc aa ac:=⟨h.cells,h.tiers.on b,h.adjusts.on b,h.meter,h.win,h.nums⟩
theorem meter_text (m:Meter):meterT m=([109,101,116,101,114,32]++m.name.data.toList++[32,117,110,105,116,32]++m.unit.data.toList++[32,109,97,120,32])++(nmbT m.max++[59,10]):=by
 unfold meterT tellT ln;rw [join6];simp [wMeter,wUnit,wMax]
theorem fee_text (f:Fee):feeT f=([102,101,101,32]++nmbT f.amount)++(winT f.win++[59,10]):=by
 unfold feeT tellT ln;rw [join2];simp [wFee]
theorem top_text (p:Plan):headT8 p=[112,108,97,110,32]++(p.name.data.toList++[32,99,117,114,114,101,110,99,121,32]++p.cur.data.toList++[59,10,104,111,114,105,122,111,110,32]++dayT p.a)++([32]++dayT p.b++[59,10]):=by
 unfold headT8 tellT ln;rw [join4,join3];simp [wPlan,wCurrency,wHorizon]
theorem plan_any (p:Plan) (ma:Option Addr) (mc:Nat) (fa:Option Addr) (fc:Nat) (ca:Option Addr) (cc:Nat) (w:World) (hp:PlanLies w (planC p ma mc fa fc ca cc) p ma mc fa fc ca cc) (sp:Sh p) (hK:Kz w) :
  Calls Tryz.prog 17 #[.agg (planC p ma mc fa fc ca cc).toArray] w fun e w'=>e=.returned (.string ⟨(planT p).toArray⟩)∧Below w.heap.size w w':=by
 have zH:=headT8_len sp.name;have zN:=sp.name;obtain ⟨X,hX⟩:∃S:ByteArray,S=⟨(dayT p.a).toArray⟩:=⟨_,rfl⟩;obtain ⟨Y,hY⟩:∃S:ByteArray,S=⟨(dayT p.b).toArray⟩:=⟨_,rfl⟩;have zX:X.size≤10:=by rw [hX,ba_size];exact dayT_len _
 have zY:Y.size≤10:=by rw [hY,ba_size];exact dayT_len _
 have cX:=fun W=>day3 p.a W;have cY:=fun W=>day3 p.b W;rw [←hX] at cX;rw [←hY] at cY;unfold dC at cX cY;obtain ⟨w1,hw1⟩:∃W,W=w.alloc (.cells (planC p ma mc fa fc ca cc).toArray 41):=⟨_,rfl⟩;have b1:Below w.heap.size w w1:=by rw [hw1];exact bel_alloc _ _
 obtain ⟨k1,hk1⟩:∃k,k=w.heap.size:=⟨_,rfl⟩;have X1:Box w1 k1 (planC p ma mc fa fc ca cc):=by rw [hw1,hk1];exact Box.new _ _ _
 have C:Hid (∀W,Below w1.heap.size w1 W→W.cell? ⟨k1,8,none⟩=some (.slice ma p.meters.length mc)∧W.cell? ⟨k1,9,none⟩=some (.slice fa p.fees.length fc)∧W.cell? ⟨k1,10,none⟩=some (.slice ca p.charges.length cc)):=
  hid fun W b=>⟨(X1.on b).cell 8 _ rfl,(X1.on b).cell 9 _ rfl,(X1.on b).cell 10 _ rfl⟩
 have L0:Hid (∀W,Below w1.heap.size w1 W→PlanLies W (planC p ma mc fa fc ca cc) p ma mc fa fc ca cc∧Kz W∧Below w.heap.size w W):=
  hid fun W b=>⟨hp.on (bel_on b1 b),hK.later (bel_on b1 b),bel_on b1 b⟩
 obtain ⟨T,hT⟩:∃L,L=headT8 p:=⟨_,rfl⟩;have HT:Hid (planT p=T++p.meters.flatMap meterT++p.fees.flatMap feeT++p.charges.flatMap chargeT):=hid (by rw [hT];rfl)
 have hV0:Hid ((⟨#[112,108,97,110,32]⟩:ByteArray)++p.name++⟨#[32,99,117,114,114,101,110,99,121,32]⟩++p.cur++⟨#[59,10,104,111,114,105,122,111,110,32]⟩++X++⟨#[32]⟩++Y++⟨#[59,10]⟩=⟨T.toArray⟩):=hid (by
  rw [hT,top_text,put4 (put6 (V:=⟨#[112,108,97,110,32]⟩) (L:=[112,108,97,110,32]) rfl (A:=p.name) rfl (B:=⟨#[32,99,117,114,114,101,110,99,121,32]⟩) rfl (C:=p.cur) rfl (D:=⟨#[59,10,104,111,114,105,122,111,110,32]⟩) rfl (show X.data.toList=dayT p.a by rw [hX])) (A:=⟨#[32]⟩) rfl (show Y.data.toList=dayT p.b by rw [hY]) (X:=⟨#[59,10]⟩) rfl])
 rw [←hT] at zH;have d0:=X1.cell 0 _ rfl;have d1:=X1.cell 1 _ rfl;have d2:=X1.cell 2 _ rfl;have d3:=X1.cell 3 _ rfl;have d4:=X1.cell 4 _ rfl;have d5:=X1.cell 5 _ rfl;have d6:=X1.cell 6 _ rfl;have d7:=X1.cell 7 _ rfl;have HW:=hid hw1;have HK1:=hid hk1;have SP:=hid sp;clear hX hY hw1 b1 hk1 X1 hp hK hT sp;unfold planC at HW ⊢;go_enter Tryz.func17,Tryz.ntmps17
 go_upto_region 1 with fail
 rw [←HW.out,←HK1.out];clear HW HK1;have x0:=cell_regrown d0;have x1:=cell_regrown d1;have x2:=cell_regrown d2;have x3:=cell_regrown d3;have x4:=cell_regrown d4;have x5:=cell_regrown d5;have x6:=cell_regrown d6;have x7:=cell_regrown d7;have qX:=fun d os=>Calls.regrown_of (cX (grow (redrawn w1 d) os));have qY:=fun d os=>Calls.regrown_of (cY (grow (redrawn w1 d) os));clear cX cY d0 d1 d2 d3 d4 d5 d6 d7;refine wp_region_quiet_below (by kernel_rfl) (by kernel_rfl) ?_;repeat (go_big_quiet_step (first|(go_at_call_of 49 (Value.agg #[Value.int IntKind.i64 p.a.y,Value.int IntKind.i64 p.a.m,Value.int IntKind.i64 p.a.d]);exact qX _ _)|(go_at_call 49;exact qY _ _)))
 refine wpQuiet_nil ?_;intro w2 hw';obtain ⟨⟨dq,osq⟩,hw''⟩:=hw';have B2:Hid (Below w1.heap.size w1 w2):=hid (by subst hw'';exact below_regrown w1 dq osq);clear hw'' qX qY x0 x1 x2 x3 x4 x5 x6 x7;obtain ⟨V0,hVV⟩:∃V,V=(⟨#[112,108,97,110,32]⟩:ByteArray)++p.name++⟨#[32,99,117,114,114,101,110,99,121,32]⟩++p.cur++⟨#[59,10,104,111,114,105,122,111,110,32]⟩++X++⟨#[32]⟩++Y++⟨#[59,10]⟩:=⟨_,rfl⟩;rw [←hVV] at hV0 ⊢;have zV:V0.size≤300000:=by rw [hV0.out,ba_size];exact zH
 clear hVV zX zY zN zH;obtain ⟨nM,hnM⟩:∃n,n=p.meters.length:=⟨_,rfl⟩;obtain ⟨nF,hnF⟩:∃n,n=p.fees.length:=⟨_,rfl⟩;obtain ⟨nC,hnC⟩:∃n,n=p.charges.length:=⟨_,rfl⟩;have qM:nM≤20000:=by rw [hnM];exact SP.out.cnt.1
 have qF:nF≤20000:=by rw [hnF];exact SP.out.cnt.2.1
 have qC:nC≤20000:=by rw [hnC];exact SP.out.cnt.2.2
 rw [←hnM,←hnF,←hnC] at C;have HnM:=hid hnM;have HnF:=hid hnF;have HnC:=hid hnC;clear hnM hnF hnC;obtain ⟨e8,e9,e10⟩:=C.out _ B2.out;clear e9 e10;go_wp2;clear e8;go_loopw [3,31] (fun v i wr=>∃(i':Nat) (V:ByteArray),v=.string V∧i=.int .i64 (i':Int)∧i'≤nM∧V.size≤300000+i'*5000000∧Hid (V=⟨(T++(p.meters.take i').flatMap meterT).toArray⟩)∧Hid (Below w1.heap.size w1 wr)) (fun _ i _=>nM-(intOf i).toNat)
 case atStart=>exact ⟨0,V0,rfl,rfl,Nat.zero_le _,by omega,hid (by rw [List.take_zero,List.flatMap_nil,List.append_nil];exact hV0.out),B2⟩
 case round=>
  obtain ⟨i',V,rfl,rfl,hi,hv,hV,hB⟩:=hrel;by_cases hlt:i'<nM
  ·obtain ⟨m,hti⟩:∃m,p.meters[i']?=some m:=⟨_,List.getElem?_eq_getElem (by have:=HnM.out;omega)⟩;have g:=SP.out.meters m (List.mem_of_getElem? hti);have ST:=hid (rows_take (f:=meterT) hti);obtain ⟨b,o,e,lb,a0,a1,a2,a3,a4,_⟩:=R6.meter_at (L0.out _ hB.out).1.meters hti;obtain ⟨X,hX⟩:∃S:ByteArray,S=⟨(nmbT m.max).toArray⟩:=⟨_,rfl⟩;have zX:X.size≤20:=by rw [hX,ba_size];exact nmbT_len g.2.2
   have zn:=g.1;have cI:=fun W k=>tx.itoa m.max W k g.2.1 g.2.2;rw [←hX] at cI;have F:=hid (put3 (put6 hV.out (A:=⟨#[109,101,116,101,114,32]⟩) rfl (B:=m.name) rfl (C:=⟨#[32,117,110,105,116,32]⟩) rfl (D:=m.unit) rfl (X:=⟨#[32,109,97,120,32]⟩) rfl) (show X.data.toList=nmbT m.max by rw [hX]) (X:=⟨#[59,10]⟩) rfl);obtain ⟨wt,hwt⟩:∃W,W=wr.alloc (.cells #[m.name,m.unit,m.max,m.line,m.col] 49):=⟨_,rfl⟩;have xt:Box wt wr.heap.size [m.name,m.unit,m.max,m.line,m.col]:=by rw [hwt];exact Box.new _ _ _
   have bt:Below wr.heap.size wr wt:=by rw [hwt];exact bel_alloc _ _
   have BT:=hid (bel_on hB.out bt);have HWT:=hid hwt;have t0:=cell_regrown (xt.cell 0 _ rfl);have t1:=cell_regrown (xt.cell 1 _ rfl);have t2:=cell_regrown (xt.cell 2 _ rfl);have qI:=fun d os=>Calls.regrown_of (cI (grow (redrawn wt d) os) (L0.out _ (bel_on BT.out (below_regrown wt d os))).2.1);clear hti cI hX hwt bt xt g;subst e;go_upto_region 5 with fail
   rw [←HWT.out];clear HWT a0 a1 a2 a3 a4;refine wp_region_quiet_below (by kernel_rfl) (by kernel_rfl) ?_;repeat (go_big_quiet_step (first|(go_at_call 50;exact qI _ _)))
   refine wpQuiet_nil ?_;intro w7 hw';obtain ⟨⟨dq,osq⟩,hw''⟩:=hw';have B7:Hid (Below w1.heap.size w1 w7):=hid (by subst hw'';exact bel_on BT.out (below_regrown wt dq osq));clear hw'' qI t0 t1 t2;go_wp2;go_roundw
   case rel=>exact ⟨i'+1,_,rfl,by simp,by omega,by rw [ByteArray.size_append,ByteArray.size_append,ByteArray.size_append,ByteArray.size_append,ByteArray.size_append,ByteArray.size_append,ByteArray.size_append];show _+6+_+6+_+5+_+2≤_;omega,hid (by rw [ST.out,meter_text,←List.append_assoc T,←List.append_assoc (T++_)];exact F.out),B7⟩
   case measure=>simp [intOf];omega
  ·obtain rfl:i'=nM:=by omega
   obtain ⟨V1,hV1⟩:∃X,X=V:=⟨_,rfl⟩;obtain ⟨T',hT'⟩:∃X,X=T++p.meters.flatMap meterT:=⟨_,rfl⟩;have HV1:Hid (V1=⟨T'.toArray⟩):=hid (by rw [hV1,hV.out,hT',HnM.out,List.take_length]);have zV1:V1.size≤100000300000:=by rw [hV1];omega
   replace HT:Hid (planT p=T'++p.fees.flatMap feeT++p.charges.flatMap chargeT):=hid (by rw [HT.out,hT']);rw [←hV1];have BBV1:=hB;clear hlt hi hB hV hv hV1 hT' zV hV0 B2;obtain ⟨e8,e9,e10⟩:=C.out _ BBV1.out;clear e8 e10;go_wp2;clear e9;go_loopw [3,54] (fun v i wr=>∃(i':Nat) (V:ByteArray),v=.string V∧i=.int .i64 (i':Int)∧i'≤nF∧V.size≤100000300000+i'*5000000∧Hid (V=⟨(T'++(p.fees.take i').flatMap feeT).toArray⟩)∧Hid (Below w1.heap.size w1 wr)) (fun _ i _=>nF-(intOf i).toNat)
   case atStart=>exact ⟨0,V1,rfl,rfl,Nat.zero_le _,by omega,hid (by rw [List.take_zero,List.flatMap_nil,List.append_nil];exact HV1.out),BBV1⟩
   case round=>
    obtain ⟨i',V,rfl,rfl,hi,hv,hV,hB⟩:=hrel;by_cases hlt:i'<nF
    ·obtain ⟨f,hti⟩:∃m,p.fees[i']?=some m:=⟨_,List.getElem?_eq_getElem (by have:=HnF.out;omega)⟩;have g:=SP.out.fees f (List.mem_of_getElem? hti);have ST:=hid (rows_take (f:=feeT) hti);obtain ⟨b,o,e,lb,a0,a1,a2,a3,a4,a5,a6,a7,a8,a9,_⟩:=R6.fee_at (L0.out _ hB.out).1.fees hti;obtain ⟨X,hX⟩:∃S:ByteArray,S=⟨(nmbT f.amount).toArray⟩:=⟨_,rfl⟩;obtain ⟨Y,hY⟩:∃S:ByteArray,S=⟨(winT f.win).toArray⟩:=⟨_,rfl⟩;have zX:X.size≤20:=by rw [hX,ba_size];exact nmbT_len g.1.2
     have zY:Y.size≤30:=by rw [hY,ba_size];exact winT_len _
     have cI:=fun W k=>tx.itoa f.amount W k g.1.1 g.1.2;have cW:=fun W=>window_any f.win W;rw [←hX] at cI;rw [←hY] at cW;unfold wC at cW;have F:=hid (put3 (put3 hV.out (A:=⟨#[102,101,101,32]⟩) rfl (show X.data.toList=nmbT f.amount by rw [hX])) (show Y.data.toList=winT f.win by rw [hY]) (X:=⟨#[59,10]⟩) rfl);obtain ⟨wt,hwt⟩:∃W,W=wr.alloc (.cells #[f.amount,f.win.has,f.win.a.y,f.win.a.m,f.win.a.d,f.win.b.y,f.win.b.m,f.win.b.d,f.line,f.col] 53):=⟨_,rfl⟩;have xt:Box wt wr.heap.size [f.amount,f.win.has,f.win.a.y,f.win.a.m,f.win.a.d,f.win.b.y,f.win.b.m,f.win.b.d,f.line,f.col]:=by rw [hwt];exact Box.new _ _ _
     have bt:Below wr.heap.size wr wt:=by rw [hwt];exact bel_alloc _ _
     have BT:=hid (bel_on hB.out bt);have HWT:=hid hwt;have t0:=cell_regrown (xt.cell 0 _ rfl);have t1:=cell_regrown (xt.cell 1 _ rfl);have t2:=cell_regrown (xt.cell 2 _ rfl);have t3:=cell_regrown (xt.cell 3 _ rfl);have t4:=cell_regrown (xt.cell 4 _ rfl);have t5:=cell_regrown (xt.cell 5 _ rfl);have t6:=cell_regrown (xt.cell 6 _ rfl);have t7:=cell_regrown (xt.cell 7 _ rfl);have qI:=fun d os=>Calls.regrown_of (cI (grow (redrawn wt d) os) (L0.out _ (bel_on BT.out (below_regrown wt d os))).2.1);have qW:=fun d os=>Calls.regrown_of (cW (grow (redrawn wt d) os));clear hti cI cW hX hY hwt bt xt g;subst e;go_upto_region 10 with fail
     rw [←HWT.out];clear HWT a0 a1 a2 a3 a4 a5 a6 a7 a8 a9;refine wp_region_quiet_below (by kernel_rfl) (by kernel_rfl) ?_;repeat (go_big_quiet_step (first|(go_at_call 50;exact qI _ _)|(go_at_call 51;exact qW _ _)))
     refine wpQuiet_nil ?_;intro w7 hw';obtain ⟨⟨dq,osq⟩,hw''⟩:=hw';have B7:Hid (Below w1.heap.size w1 w7):=hid (by subst hw'';exact bel_on BT.out (below_regrown wt dq osq));clear hw'' qI qW t0 t1 t2 t3 t4 t5 t6 t7;go_wp2;go_roundw
     case rel=>exact ⟨i'+1,_,rfl,by simp,by omega,by rw [ByteArray.size_append,ByteArray.size_append,ByteArray.size_append,ByteArray.size_append];show _+4+_+_+2≤_;omega,hid (by rw [ST.out,fee_text,←List.append_assoc T',←List.append_assoc (T'++_)];exact F.out),B7⟩
     case measure=>simp [intOf];omega
    ·obtain rfl:i'=nF:=by omega
     obtain ⟨V2,hV2⟩:∃X,X=V:=⟨_,rfl⟩;obtain ⟨T'',hT''⟩:∃X,X=T'++p.fees.flatMap feeT:=⟨_,rfl⟩;have HV2:Hid (V2=⟨T''.toArray⟩):=hid (by rw [hV2,hV.out,hT'',HnF.out,List.take_length]);have zV2:V2.size≤200000300000:=by rw [hV2];omega
     replace HT:Hid (planT p=T''++p.charges.flatMap chargeT):=hid (by rw [HT.out,hT'']);rw [←hV2];have BBV2:=hB;clear hlt hi hB hV hv hV2 hT'' zV1 HV1 BBV1;obtain ⟨e8,e9,e10⟩:=C.out _ BBV2.out;clear e8 e9;go_wp2;clear e10;go_loopw [3,73] (fun v i wr=>∃(i':Nat) (V:ByteArray),v=.string V∧i=.int .i64 (i':Int)∧i'≤nC∧V.size≤200000300000+i'*5000000∧Hid (V=⟨(T''++(p.charges.take i').flatMap chargeT).toArray⟩)∧Hid (Below w1.heap.size w1 wr)) (fun _ i _=>nC-(intOf i).toNat)
     case atStart=>exact ⟨0,V2,rfl,rfl,Nat.zero_le _,by omega,hid (by rw [List.take_zero,List.flatMap_nil,List.append_nil];exact HV2.out),BBV2⟩
     case round=>
      obtain ⟨i',V,rfl,rfl,hi,hv,hV,hB⟩:=hrel;by_cases hlt:i'<nC
      ·obtain ⟨c,hti⟩:∃m,p.charges[i']?=some m:=⟨_,List.getElem?_eq_getElem (by have:=HnC.out;omega)⟩;have g:=SP.out.charges c (List.mem_of_getElem? hti);have ST:=hid (rows_take (f:=chargeT) hti);obtain ⟨b,o,ta,tc,aa,ac,e,ax,lx0⟩:=R6.charge_at (L0.out _ hB.out).1.charges hti;have r1:=hid (range_at ax);unfold chargeC at r1;obtain ⟨D,hD⟩:∃Q:ByteArray,Q=⟨(chargeT c).toArray⟩:=⟨_,rfl⟩;have zD:D.size≤5000000:=by rw [hD,ba_size];exact chargeT_len g
       have F:=hid (put2 hV.out (show D.data.toList=chargeT c by rw [hD]));obtain ⟨wt,hwt⟩:∃W,W=wr.alloc (.cells #[c.meter,c.win.has,c.win.a.y,c.win.a.m,c.win.a.d,c.win.b.y,c.win.b.m,c.win.b.d,c.allowance,c.block,c.kind,.slice ta c.tiers.length tc,c.mode,.slice aa c.adjusts.length ac,c.line,c.col] 57):=⟨_,rfl⟩;have xt:Box wt wr.heap.size [c.meter,c.win.has,c.win.a.y,c.win.a.m,c.win.a.d,c.win.b.y,c.win.b.m,c.win.b.d,c.allowance,c.block,c.kind,.slice ta c.tiers.length tc,c.mode,.slice aa c.adjusts.length ac,c.line,c.col]:=by rw [hwt];exact Box.new _ _ _
       have bt:Below wr.heap.size wr wt:=by rw [hwt];exact bel_alloc _ _
       have BT:=hid (bel_on hB.out bt);have HWT:=hid hwt;have RT:Hid (wt.rangeAt wr.heap.size 0 [c.meter,c.win.has,c.win.a.y,c.win.a.m,c.win.a.d,c.win.b.y,c.win.b.m,c.win.b.d,c.allowance,c.block,c.kind,.slice ta c.tiers.length tc,c.mode,.slice aa c.adjusts.length ac,c.line,c.col]):=hid (range_of xt.cell)
       have NC:Hid (Calls Tryz.prog 52 #[.agg #[c.meter,c.win.has,c.win.a.y,c.win.a.m,c.win.a.d,c.win.b.y,c.win.b.m,c.win.b.d,c.allowance,c.block,c.kind,.slice ta c.tiers.length tc,c.mode,.slice aa c.adjusts.length ac,c.line,c.col]] wt fun e w'=>e=.returned (.string D)∧Below wt.heap.size wt w'):=hid (by
        have:=charge_any c ta tc aa ac wt (lies_on lx0 bt) g (L0.out _ BT.out).2.1;rw [←hD] at this
        exact this)
       clear hti hD hwt bt xt g lx0;subst e;go_upto_region 15 with (first|(with_reducible refine wpList_load_mid (op:=Oper.mk (some 76) (Op.load 57 (Operand.tmp 75)) _ _ _ _) ?_ 57 (.tmp 75) ?_ b (o+i'*16) ?_ [c.meter,c.win.has,c.win.a.y,c.win.a.m,c.win.a.d,c.win.b.y,c.win.b.m,c.win.b.d,c.allowance,c.block,c.kind,.slice ta c.tiers.length tc,c.mode,.slice aa c.adjusts.length ac,c.line,c.col] _ r1.out Tryz.underlying57 ?_ ?_ ?_;rfl;rfl;go_simp;rfl;kernel_rfl)|(with_reducible refine wpList_store_new (op:=Oper.mk none (Op.store 57 (Operand.tmp 9) (Operand.tmp 76)) _ _ _ _) ?_ 57 (.tmp 9) (.tmp 76) ?_ wr _ #[c.meter,c.win.has,c.win.a.y,c.win.a.m,c.win.a.d,c.win.b.y,c.win.b.m,c.win.b.d,c.allowance,c.block,c.kind,.slice ta c.tiers.length tc,c.mode,.slice aa c.adjusts.length ac,c.line,c.col] ?_ ?_ ?_ ?_ ?_ ?_;rfl;rfl;go_simp;go_simp;kernel_rfl;rfl;(simp [Value.oneCell']))|fail)
       rw [←HWT.out];clear HWT r1 ax
       go_wp2_with (first
        | (with_reducible refine wpList_load_mid (op:=Oper.mk (some 78) (Op.load 57 (Operand.tmp 9)) _ _ _ _) ?_ 57 (.tmp 9) ?_ wr.heap.size 0 ?_ [c.meter,c.win.has,c.win.a.y,c.win.a.m,c.win.a.d,c.win.b.y,c.win.b.m,c.win.b.d,c.allowance,c.block,c.kind,.slice ta c.tiers.length tc,c.mode,.slice aa c.adjusts.length ac,c.line,c.col] _ RT.out Tryz.underlying57 ?_ ?_ ?_;rfl;rfl;go_simp;rfl;kernel_rfl)
        | (go_at_call 52;refine NC.out.mono ?_;rintro e w5 ⟨rfl,b5⟩;have B5:=hid (bel_on BT.out b5);clear b5))
       go_roundw
       case rel=>exact ⟨i'+1,V++D,rfl,by simp,by omega,by rw [ByteArray.size_append];omega,hid (by rw [ST.out,←List.append_assoc];exact F.out),B5⟩
       case measure=>simp [intOf];omega
      ·obtain rfl:i'=nC:=by omega
       have fin:V=⟨(planT p).toArray⟩:=by rw [hV.out,HT.out,HnC.out,List.take_length]
       have FI:=hid fin;have BF:=hid (L0.out _ hB.out).2.2;clear fin hV hv;go_wp2;go_ret;exact ⟨ret_s FI.out,BF.out⟩
end R8
namespace L10
open Go.RowKit Go.Sort P Mm Md R6 Co
structure K10 (w:World):Prop where
 ky:Pa.Ky w
 kz:Sw.Kz w
theorem read_ok {l:List UInt8} (h:(readF l).1=0):(parsed l).2.1=0∧(wrongOf (parsed l).1).1=0∧readF l=(0,0,0)∧readC l=coreOf (parsed l).1:=by
 unfold readF at h ⊢;unfold readC;by_cases e:(parsed l).2.1=0
 ·rw [if_pos e] at h ⊢;rw [if_pos e];unfold coreAns;rw [if_pos h];exact ⟨e,h,wrong_nought h,rfl⟩
 ·rw [if_neg e] at h;exact absurd h e
theorem read_bad {l:List UInt8} (h:(readF l).1≠0):readC l=zeroC:=by
 unfold readF at h;unfold readC;by_cases e:(parsed l).2.1=0
 ·rw [if_pos e] at h ⊢;unfold coreAns;rw [if_neg h]
 ·rw [if_neg e]
theorem read_text {q:Plan} (g:Gd q) (h:(wrongOf q).1=0) {t:List UInt8} (ht:t=planT q) (hl:t.length≤8192):readF t=(0,0,0)∧readC t=coreOf q:=by
 subst ht;obtain ⟨e,n⟩:=show_back g hl;have hw:(wrongOf (parsed (planT q)).1).1=0:=by rw [wrong_same n];exact h
 unfold readF readC;rw [if_pos e,if_pos e];unfold coreAns;rw [if_pos hw];exact ⟨wrong_nought hw,core_same n⟩
theorem fit_zero:R10.Fit10 zeroC:=⟨by decide,by decide,by decide,fun x hx=>by cases hx⟩
theorem fit_core {p:Plan} (h:(wrongOf p).1=0):R10.Fit10 (coreOf p):=by
 refine ⟨?_,?_,?_,fun x hx=>?_⟩
 ·show (srt p.meters).length≤20000
  rw [srt_len];have:=meters_few h;omega
 ·show (p.fees.map _).length≤20000
  rw [List.length_map];have:=fees_few h;omega
 ·show (p.charges.map _).length≤1000
  rw [List.length_map];have:=charges_few h;omega
 ·obtain ⟨c,hc,rfl⟩:=List.mem_map.1 hx;have k:=charge_in h hc;have a:=k.few;have b:=k.adjs;exact ⟨show c.tiers.length≤1000 by omega,show c.adjusts.length≤1000 by omega⟩
theorem fit_read (l:List UInt8):R10.Fit10 (readC l):=by
 by_cases h:(readF l).1=0
 ·rw [(read_ok h).2.2.2];exact fit_core (read_ok h).2.1
 ·rw [read_bad h];exact fit_zero
theorem ref8t (p:Plan) (ma:Option Addr) (mc:Nat) (fa:Option Addr) (fc:Nat) (ca:Option Addr) (cc:Nat) (w:World) (hp:PlanLies w (planC p ma mc fa fc ca cc) p ma mc fa fc ca cc) (sp:Sh p) (hK:Sw.Kz w) :
  Calls Tryz.prog 17 #[.agg #[p.name,p.cur,p.a.y,p.a.m,p.a.d,p.b.y,p.b.m,p.b.d,.slice ma p.meters.length mc,.slice fa p.fees.length fc,.slice ca p.charges.length cc,p.line,p.col]] w fun e w'=>e=.returned (.string ⟨(planT p).toArray⟩)∧Below w.heap.size w w':=R8.plan_any p ma mc fa fc ca cc w hp sp hK
theorem ref7t (l:ByteArray) (w:World) {p:Plan} {x y z:Int} (hp:p=(parsed l.data.toList).1) (hx:x=(parsed l.data.toList).2.1) (hy:y=(parsed l.data.toList).2.2.1) (hz:z=(parsed l.data.toList).2.2.2):Calls Tryz.prog 12 #[.string l] w fun e w'=>∃ma mc fa fc ca cc,e=.returned (.tuple #[.agg #[p.name,p.cur,p.a.y,p.a.m,p.a.d,p.b.y,p.b.m,p.b.d,.slice ma p.meters.length mc,.slice fa p.fees.length fc,.slice ca p.charges.length cc,p.line,p.col],.int .i64 x,.int .i64 y,.int .i64 z])∧PlanLies w' [p.name,p.cur,p.a.y,p.a.m,p.a.d,p.b.y,p.b.m,p.b.d,.slice ma p.meters.length mc,.slice fa p.fees.length fc,.slice ca p.charges.length cc,p.line,p.col] p ma mc fa fc ca cc∧Below w.heap.size w w':=by
 subst hp hx hy hz;exact R7.ref_lies l w
end L10
namespace Mm
open Go.RowKit Go.Deep Go.ChangeShapes P
theorem fl_len {β:Type} {n:Nat} : ∀(css:List (List β)),(∀cs∈css,cs.length=n)→css.flatten.length=css.length*n
 | [],_=>by simp
 | a::r,h=>by
   have e:=fl_len r (fun cs hc=>h cs (List.mem_cons_of_mem _ hc));have ha:=h a (List.mem_cons_self ..);rw [List.flatten_cons,List.length_append,e,ha,List.length_cons,Nat.succ_mul];omega
theorem fl_get {β:Type} {n:Nat} : ∀(css:List (List β)),(∀cs∈css,cs.length=n)→∀(j:Nat) (cs:List β) (i:Nat) (u:β),css[j]?=some cs→cs[i]?=some u→css.flatten[j*n+i]?=some u
 | [],_,j,_,_,_,hj,_=>by cases j<;>cases hj
 | a::r,h,0,cs,i,u,hj,hi=>by
   obtain rfl:a=cs:=by simpa using hj
   rw [List.flatten_cons,Nat.zero_mul,Nat.zero_add,List.getElem?_append_left (List.getElem?_eq_some_iff.1 hi).1];exact hi
 | a::r,h,j+1,cs,i,u,hj,hi=>by
   have ha:=h a (List.mem_cons_self ..);rw [List.flatten_cons,List.getElem?_append_right (by rw [ha,Nat.succ_mul];omega),ha,show (j+1)*n+i-n=j*n+i by rw [Nat.succ_mul];omega];exact fl_get r (fun cs hc=>h cs (List.mem_cons_of_mem _ hc)) j cs i u (by simpa using hj) hi
theorem fl_split {β:Type} {n:Nat} : ∀(css:List (List β)),(∀cs∈css,cs.length=n)→∀(j:Nat) (u:β),css.flatten[j]?=some u→∃q cs i,css[q]?=some cs∧cs[i]?=some u∧j=q*n+i
 | [],_,j,u,h=>by simp at h
 | a::r,hh,j,u,h=>by
   have ha:=hh a (List.mem_cons_self ..);rw [List.flatten_cons] at h;by_cases hj:j<n
   ·rw [List.getElem?_append_left (by rw [ha];exact hj)] at h;exact ⟨0,a,j,rfl,h,by omega⟩
   ·rw [List.getElem?_append_right (by rw [ha];omega),ha] at h;obtain ⟨q,x,i,h1,h2,h3⟩:=fl_split r (fun cs hc=>hh cs (List.mem_cons_of_mem _ hc)) (j-n) u h;refine ⟨q+1,x,i,by simpa using h1,h2,?_⟩;rw [Nat.succ_mul];omega
structure Ch {α:Type} (T:Ty α) (w:World) (css:List (List Value)) (xs:List α):Prop where
 len:css.length=xs.length
 lies:∀(j:Nat) (cs:List Value) (x:α),css[j]?=some cs→xs[j]?=some x→T.lies w cs x
section
variable {α:Type} {T:Ty α} {w w':World}
theorem Ch.on {css:List (List Value)} {xs:List α} (h:Ch T w css xs) (b:Below w.heap.size w w'):Ch T w' css xs:=⟨h.len,fun j cs x h1 h2=>T.keep (h.lies j cs x h1 h2) b⟩
theorem Ch.sizes {css:List (List Value)} {xs:List α} (h:Ch T w css xs):∀cs∈css,cs.length=T.n:=fun cs hc=>by
 obtain ⟨j,hj,e⟩:=List.getElem_of_mem hc;have hjx:j<xs.length:=by rw [←h.len];exact hj
 exact T.len (h.lies j cs (xs[j]'hjx) (by rw [List.getElem?_eq_getElem hj,e]) (List.getElem?_eq_getElem hjx))
theorem Ch.ones {css:List (List Value)} {xs:List α} (h:Ch T w css xs) (one:∀cs x,T.lies w cs x→∀u∈cs,u.oneCell'=true):∀u∈css.flatten,u.oneCell'=true:=fun u hu=>by
 obtain ⟨cs,hc,h2⟩:=List.mem_flatten.1 hu;obtain ⟨j,hj,e⟩:=List.getElem_of_mem hc;have hjx:j<xs.length:=by rw [←h.len];exact hj
 exact one cs _ (h.lies j cs (xs[j]'hjx) (by rw [List.getElem?_eq_getElem hj,e]) (List.getElem?_eq_getElem hjx)) u h2
theorem choose_list {β:Type} {p:Nat→β→Prop} : ∀(n:Nat),(∀i,i<n→∃y,p i y)→∃l:List β,l.length=n∧∀i y,l[i]?=some y→p i y
 | 0,_=>⟨[],rfl,fun i y h=>by simp at h⟩
 | n+1,h=>by
   obtain ⟨l,h1,h2⟩:=choose_list n (fun i hi=>h i (by omega));obtain ⟨y,hy⟩:=h n (by omega);refine ⟨l++[y],by simp [h1],fun i z hz=>?_⟩;by_cases hi:i<l.length
   ·rw [List.getElem?_append_left hi] at hz;exact h2 i z hz
   ·have hl:=(List.getElem?_eq_some_iff.1 hz).1;simp only [List.length_append,List.length_singleton] at hl;obtain rfl:i=l.length:=by omega
    simp only [List.getElem?_append_right (Nat.le_refl _),Nat.sub_self,List.getElem?_cons_zero,Option.some.injEq] at hz;subst hz;rw [h1];exact hy
theorem row_chunks {ao:Option Addr} {len cap:Nat} {xs:List α} (h:Row T w ao len cap xs) :
  ∃css,Ch T w css xs∧css.flatten.length=len*T.n∧(ao=none→len=0)∧(∀ad,ao=some ad→0<len→ad.block<w.heap.size)∧∀ad,ao=some ad→∀j u,css.flatten[j]?=some u→w.cell? (ad.add j)=some u:=by
 by_cases hx:xs=[]
 ·subst hx;have hl:len=0:=by rw [←h.hlen];rfl
  subst hl;exact ⟨[],⟨rfl,fun j cs x h1 _=>by simp at h1⟩,by simp,fun _=>rfl,fun _ _ k=>absurd k (Nat.lt_irrefl _),fun _ _ j u h1=>by simp at h1⟩
 ·obtain ⟨b,o,rfl,hb,hl⟩:=h.lie hx
  obtain ⟨css,h1,h2⟩:=choose_list (p:=fun j cs=>∃x,xs[j]?=some x∧T.lies w cs x∧∀i v,cs[i]?=some v→w.cell? ⟨b,o+j*T.n+i,none⟩=some v) xs.length (fun j hj=>by
   obtain ⟨cs,h1,h2⟩:=hl j _ (List.getElem?_eq_getElem hj)
   exact ⟨cs,_,List.getElem?_eq_getElem hj,h1,h2⟩)
  have hc:Ch T w css xs:=⟨h1,fun j cs x k1 k2=>by
   obtain ⟨x',e,k3,_⟩:=h2 j cs k1;rw [k2] at e;obtain rfl:=Option.some.inj e
   exact k3⟩
  refine ⟨css,hc,by rw [fl_len css hc.sizes,h1,h.hlen],(fun e=>by cases e),(fun ad e _=>by obtain rfl:=Option.some.inj e;exact hb),fun ad e j u hj=>?_⟩;obtain rfl:=Option.some.inj e;obtain ⟨q,cs,i,k1,k2,rfl⟩:=fl_split css hc.sizes j u hj;obtain ⟨_,_,_,k3⟩:=h2 q cs k1;rw [add_plain,←Nat.add_assoc];exact k3 i u k2
theorem own_row {base:Nat} {e:TypeId} {ao:Option Addr} {cap n:Nat} {css:List (List Value)} {xs:List α} (h:w.ownsRow base e T.n (.slice ao n cap) n css.flatten) (hn:n=xs.length) (hc:Ch T w css xs) :
  Row T w ao n cap xs:=by
 subst hn;rcases h.2 with ⟨h1,h2⟩|⟨g,cap',cur,h1,_,h3,h4,h5,_,_⟩
 ·simp only [Value.slice.injEq] at h1;obtain ⟨rfl,_,rfl⟩:=h1;exact ⟨rfl,Nat.le_of_eq h2,Nat.zero_le _,fun k=>absurd (List.eq_nil_of_length_eq_zero h2) k⟩
 ·simp only [Value.slice.injEq] at h1;obtain ⟨rfl,_,rfl⟩:=h1
  have hg:g<w.heap.size:=by
   rcases Nat.lt_or_ge g w.heap.size with k|k
   ·exact k
   ·rw [Array.getElem?_eq_none k] at h3;cases h3
  refine ⟨rfl,h4,by unfold maxLen at h5;omega,fun _=>⟨g,0,rfl,hg,fun j x hj=>?_⟩⟩;have hjl:=(List.getElem?_eq_some_iff.1 hj).1;obtain ⟨cs,hcs⟩:∃cs,css[j]?=some cs:=⟨_,List.getElem?_eq_getElem (by rw [hc.len];exact hjl)⟩;have lie:=hc.lies j cs x hcs hj;refine ⟨cs,lie,fun i u hi=>?_⟩;have hil:i<T.n:=by rw [←T.len lie];exact (List.getElem?_eq_some_iff.1 hi).1
  have hlt:j*T.n+i<xs.length*T.n:=by
   have:=Nat.mul_le_mul_right T.n (Nat.succ_le_of_lt hjl);rw [Nat.succ_mul] at this;omega
  show w.cell? ⟨g,0+j*T.n+i,none⟩=some u
  rw [Nat.zero_add,h.cellAt _ hlt];exact fl_get css hc.sizes j cs i u hcs hi
end
theorem own_slice {w:World} {base:Nat} {e:TypeId} {size n:Nat} {v:Value} {xs:List Value} (h:w.ownsRow base e size v n xs):∃ao cap,v=.slice ao n cap:=by
 rcases h.2 with ⟨rfl,rfl⟩|⟨g,cap,cur,rfl,_⟩
 ·exact ⟨_,_,rfl⟩
 ·exact ⟨_,_,rfl⟩
theorem one_meter:∀{w:World} (cs:List Value) (x:Meter),tMeter.lies w cs x→∀u∈cs,u.oneCell'=true:=fun cs x ⟨h,_⟩ u hu=>by
 subst h;simp only [meterC,List.mem_cons,List.not_mem_nil,or_false] at hu;rcases hu with rfl|rfl|rfl|rfl|rfl<;>rfl
theorem one_fee:∀{w:World} (cs:List Value) (x:Fee),tFee.lies w cs x→∀u∈cs,u.oneCell'=true:=fun cs x ⟨h,_⟩ u hu=>by
 subst h;simp only [feeC,List.mem_cons,List.not_mem_nil,or_false] at hu;rcases hu with rfl|rfl|rfl|rfl|rfl|rfl|rfl|rfl|rfl|rfl<;>rfl
theorem one_charge:∀{w:World} (cs:List Value) (x:Charge),tCharge.lies w cs x→∀u∈cs,u.oneCell'=true:=fun cs x ⟨ta,tc,aa,ac,h⟩ u hu=>by
 obtain rfl:=h.cells;simp only [chargeC,List.mem_cons,List.not_mem_nil,or_false] at hu;rcases hu with rfl|rfl|rfl|rfl|rfl|rfl|rfl|rfl|rfl|rfl|rfl|rfl|rfl|rfl|rfl|rfl<;>rfl
theorem run_append_none {Pr:Program} {w:World} {base:Nat} {t ty e:TypeId} {i:TypeInfo} {size:Nat} (ht:Pr.underlying t=some (.slice e)) (hi:Pr.info? e=some i)
  {v:Value} {n:Nat} {xs:List Value} (hown:w.ownsRow base e size v n xs) (c:Nat) :
  (Builtin.append_ #[t,t] ty #[v,.slice none 0 c]).run Pr w=.ok v w:=by
 rcases hown.2 with ⟨rfl,rfl⟩|⟨g,cap,cur,rfl,hbg,hg,hnc,hcm,hcs,htake⟩
 ·simp [Builtin.append_,run_underlying ht,sizeOf,typeInfo,hi,Builtin.lenOf,run_firstCells_none]
 ·simp [Builtin.append_,run_underlying ht,sizeOf,typeInfo,hi,Builtin.lenOf,hnc,run_firstCells_none,Addr.add_lit,storeCells]
theorem step_join {Pr:Program} {ops:Array Oper} {o:Oper} {a:Act} {K:Act→World→Prop} {Q:Exit→Act→World→Prop} {E:Prop} {W:World} {base:Nat} (d:Tmp) (hd:o.dst=some d) (hgd:o.guard=none) (s x:Operand) (t e:TypeId) (z:Value) (size bytes:Nat)
  (ho:o.op=.call { callee:=.builtin .append,args:=#[s,x],argTypes:=#[t,t] }) (hu:Pr.underlying t=some (.slice e)) (hinfo:(Pr.info? e).map (fun i=>(i.zero,i.size,i.bytes))=some (some z,size,bytes)) (hzs:z.cells.size=size) (hsz:0<size)
  (v:Value) (n:Nat) (xs:List Value) (hs:a.eval s=v) (hown:W.ownsRow base e size v n xs) (ao:Option Addr) (m c:Nat) (news:List Value) (hx:a.eval x=.slice ao m c) (hl:news.length=m*size)
  (h0:ao=none→m=0) (hnews:∀ad,ao=some ad→∀j u,news[j]?=some u→W.cell? (ad.add j)=some u) (h1:∀u∈news,u.oneCell'=true) (hn:n+m≤1000000000) (hb:bytes≤1000) (N:Nat) (hN:n+m=N) (hbase:base≤W.heap.size)
  (h:∀ao' cap w',w'.ownsRow base e size (.slice ao' N cap) N (xs++news)→W.grownBy w' v.ownBlock→K (a.put (some d) (.slice ao' N cap)) w') :
  if Region.wanted o (yielded ops a.tmps)=true then Oper.wp Pr o a W K Q else E:=by
 have hw:Region.wanted o (yielded ops a.tmps)=true:=by simp [Region.wanted,hgd]
 rw [if_pos hw];subst hN;obtain ⟨i0,hi,hz0,hz1,hz2⟩:=info_parts hinfo;have hby:(n+m)*bytes≤140737488355328:=Nat.le_trans (Nat.mul_le_mul hn hb) (by decide);cases ao with
 | some ad=>
   refine wp_append_own W s x t ho base e i0 z size bytes hu hi hz0 hz1 hz2 hzs hsz v n xs hs hown ad m c news hx hl (hnews ad rfl) h1 (by unfold maxLen;omega) hby hbase ?_;intro v' w' k1 k2 _;obtain ⟨ao',cap,rfl⟩:=own_slice k1;rw [hd];exact h ao' cap w' k1 k2
 | none=>
   obtain rfl:=h0 rfl;obtain rfl:news=[]:=List.eq_nil_of_length_eq_zero (by rw [hl,Nat.zero_mul]);have hr:=run_append_none (ty:=o.type) hu hi hown c;obtain ⟨ao',cap,rfl⟩:=own_slice hown;unfold Oper.wp execOp;simp only [ho,resolve,invoke,builtin,Sem.run_bind,Sem.run_pure,Result.andThen_ok,List.map_toArray,List.map_cons,List.map_nil,hs,hx,hr];show K (a.put o.dst (.slice ao' n cap)) W
   rw [hd];exact h ao' cap W (by simpa using hown) ⟨rfl,rfl,rfl,Nat.le_refl _,fun _ _ _=>rfl⟩
section
variable {w w' w2:World} {k:Nat}
end
end Mm
namespace Mm
open Go.RowKit Go.Deep Go.ChangeShapes P Md
theorem wpList_join {Pr:Program} {ops:Array Oper} {rest:List Oper} {o:Oper} {a:Act} {Q:Exit→Act→World→Prop} {W:World} {base:Nat} (d:Tmp) (hd:o.dst=some d) (hgd:o.guard=none) (s x:Operand) (t e:TypeId) (z:Value) (size bytes:Nat)
  (ho:o.op=.call { callee:=.builtin .append,args:=#[s,x],argTypes:=#[t,t] }) (hu:Pr.underlying t=some (.slice e)) (hinfo:(Pr.info? e).map (fun i=>(i.zero,i.size,i.bytes))=some (some z,size,bytes)) (hzs:z.cells.size=size) (hsz:0<size)
  (v:Value) (n:Nat) (xs:List Value) (hs:a.eval s=v) (hown:W.ownsRow base e size v n xs) (ao:Option Addr) (m c:Nat) (news:List Value) (hx:a.eval x=.slice ao m c) (hl:news.length=m*size)
  (h0:ao=none→m=0) (hnews:∀ad,ao=some ad→∀j u,news[j]?=some u→W.cell? (ad.add j)=some u) (h1:∀u∈news,u.oneCell'=true) (hn:n+m≤1000000000) (hb:bytes≤1000) (N:Nat) (hN:n+m=N) (hbase:base≤W.heap.size)
  (h:∀ao' cap w',w'.ownsRow base e size (.slice ao' N cap) N (xs++news)→W.grownBy w' v.ownBlock→wpList Pr ops Q rest (a.put o.dst (.slice ao' N cap)) w'):wpList Pr ops Q (o::rest) a W:=
 wpList_step fun _ hK=>step_join d hd hgd s x t e z size bytes ho hu hinfo hzs hsz v n xs hs hown ao m c news hx hl h0 hnews h1 hn hb N hN hbase fun ao' cap w' k1 k2=>hK _ _ (by rw [←hd];exact h ao' cap w' k1 k2)
section
variable {α:Type} {T:Ty α}
theorem chunks_at {w:World} {ao:Option Addr} {len cap:Nat} {xs:List α} (h:Row T w ao len cap xs) :
  ∃css,Ch T w css xs∧css.flatten.length=len*T.n∧(ao=none→len=0)∧∀W,Below w.heap.size w W→∀ad,ao=some ad→∀j u,css.flatten[j]?=some u→W.cell? (ad.add j)=some u:=by
 obtain ⟨css,h1,h2,h3,h4,h5⟩:=row_chunks h;refine ⟨css,h1,h2,h3,fun W b ad e j u hj=>?_⟩
 have hp:0<len:=by
  rcases Nat.eq_zero_or_pos len with q|q
  ·rw [q,Nat.zero_mul] at h2;have:=(List.getElem?_eq_some_iff.1 hj).1;omega
  ·exact q
 have hb:=h4 ad e hp;have eb:(ad.add j).block=ad.block:=by unfold Addr.add;split<;>rfl
 rw [b.cell (by rw [eb];exact hb)];exact h5 ad e j u hj
theorem ch_store {w W:World} {base:Nat} {e:TypeId} {g n cap:Nat} {css:List (List Value)} {xs:List α} (hc:Ch T w css xs) (ho:W.ownsRow base e T.n (.slice (some ⟨g,0,none⟩) n cap) n css.flatten) {i:Nat} {A M B vs:List Value} (hi:css[i]?=some (A++M++B)) (hl:M.length=vs.length) {y:α} (hy:T.lies w (A++vs++B) y) :
  Ch T w (css.set i (A++vs++B)) (xs.set i y)∧(W.setCells g (i*T.n+A.length) vs).ownsRow base e T.n (.slice (some ⟨g,0,none⟩) n cap) n (css.set i (A++vs++B)).flatten∧W.grownBy (W.setCells g (i*T.n+A.length) vs) (some g):=by
 have il:=(List.getElem?_eq_some_iff.1 hi).1
 have e1:css=css.take i++(A++M++B)::css.drop (i+1):=by
  have:=List.drop_eq_getElem_cons il;rw [(List.getElem?_eq_some_iff.1 hi).2] at this;rw [←this,List.take_append_drop]
 have ll:(css.take i).length=i:=by rw [List.length_take];omega
 have e2:css.set i (A++vs++B)=css.take i++(A++vs++B)::css.drop (i+1):=by
  rw [List.set_eq_take_append_cons_drop,if_pos il]
 have lt:(css.take i).flatten.length=i*T.n:=by
  rw [fl_len (n:=T.n) _ (fun cs h=>hc.sizes cs (List.mem_of_mem_take h)),ll]
 obtain ⟨o1,o2⟩:=owns_setCells vs (i*T.n+A.length) W css.flatten ho;refine ⟨⟨by rw [List.length_set,List.length_set,hc.len],fun j cs x h1 h2=>?_⟩,?_,o2⟩
 ·rw [List.getElem?_set] at h1 h2;by_cases q:i=j
  ·rw [if_pos q] at h1 h2;have x1:i<xs.length:=by rw [←hc.len];exact il
   rw [if_pos il] at h1;rw [if_pos x1] at h2;obtain rfl:=Option.some.inj h1;obtain rfl:=Option.some.inj h2;exact hy
  ·rw [if_neg q] at h1 h2;exact hc.lies j cs x h1 h2
 ·have e3:setAt css.flatten (i*T.n+A.length) vs=(css.set i (A++vs++B)).flatten:=by
   rw [e2,List.flatten_append,List.flatten_cons]
   have e4:css.flatten=((css.take i).flatten++A)++M++(B++(css.drop (i+1)).flatten):=by
    have:=congrArg List.flatten e1;rw [List.flatten_append,List.flatten_cons] at this;rw [this];simp only [List.append_assoc]
   have e5:i*T.n+A.length=((css.take i).flatten++A).length:=by rw [List.length_append,lt]
   rw [e4,e5,setAt_mid vs _ M _ hl];simp only [List.append_assoc]
  rw [←e3];exact o1
def part (F:α→α) (l:List α) (i:Nat):List α:=(l.take i).map F++l.drop i
theorem part_zero (F:α→α) (l:List α):part F l 0=l:=by unfold part;simp
theorem part_all (F:α→α) (l:List α):part F l l.length=l.map F:=by unfold part;simp
theorem part_len (F:α→α) (l:List α) (i:Nat):(part F l i).length=l.length:=by
 unfold part;rw [List.length_append,List.length_map,List.length_take,List.length_drop];omega
theorem part_at {F:α→α} {l:List α} {i:Nat} {x:α} (h:l[i]?=some x):(part F l i)[i]?=some x:=by
 have il:=(List.getElem?_eq_some_iff.1 h).1;have ll:((l.take i).map F).length=i:=by rw [List.length_map,List.length_take];omega
 unfold part;rw [List.getElem?_append_right (by omega),ll,Nat.sub_self,drop_at h];rfl
theorem part_set {F:α→α} {l:List α} {i:Nat} {x:α} (h:l[i]?=some x):(part F l i).set i (F x)=part F l (i+1):=by
 have il:=(List.getElem?_eq_some_iff.1 h).1;have ll:((l.take i).map F).length=i:=by rw [List.length_map,List.length_take];omega
 unfold part;rw [List.set_append_right _ _ (by omega),ll,Nat.sub_self,drop_at h,List.take_add_one,h];simp
theorem part_same {F:α→α} {l:List α} {i:Nat} {x:α} (h:l[i]?=some x) (e:F x=x):part F l i=part F l (i+1):=by
 rw [←part_set h,e];obtain ⟨hi,e2⟩:=List.getElem?_eq_some_iff.1 (part_at (F:=F) h);have:=List.set_getElem_self hi;rw [e2] at this;exact this.symm
end
end Mm
end Go.Proofs.YtofbobdhkbmbgaaGreatDoor
