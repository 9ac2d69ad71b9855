/- The document's answers for layer 8 (poundageref08): plans. -/
import Derived.Test.YtofbobdhkbmbgaaGreatDoorJRef8b
import Derived.Test.YtofbobdhkbmbgaaGreatDoorJSh9
import Derived.Test.YtofbobdhkbmbgaaGreatDoorJCo1
import Derived.Test.YtofbobdhkbmbgaaGreatDoorJCoR
import Derived.Test.YtofbobdhkbmbgaaGreatDoorJRef10d
import Derived.Test.YtofbobdhkbmbgaaGreatDoorJKz
import Derived.Test.YtofbobdhkbmbgaaGreatDoorJRef9c
import Derived.Test.YtofbobdhkbmbgaaGreatDoorJOwn2
import Derived.Test.YtofbobdhkbmbgaaGreatDoorJDate2
import Derived.Lib.LaidTab
import Derived.MakeChecks
import Derived.Stop.LaidErr
import Derived.HandedShaped
import Derived.Lay
set_option maxRecDepth 100000
set_option maxHeartbeats 16000000
namespace Go.Proofs.YtofbobdhkbmbgaaGreatDoor
namespace R8
open Go.RowKit Go.Sort P Mm Md Sw
theorem lies_on {w w':World} {c:Charge} {ta:Option Addr} {tc:Nat} {aa:Option Addr} {ac:Nat} (h:ChargeLies w (chargeC c ta tc aa ac) c ta tc aa ac) (b:Below w.heap.size w w'):ChargeLies w' (chargeC c ta tc aa ac) c ta tc aa ac:=⟨h.cells,h.tiers.on b,h.adjusts.on b,h.meter,h.win,h.nums⟩
theorem meter_text (m:Meter):meterT m=([109,101,116,101,114,32]++m.name.data.toList++[32,117,110,105,116,32]++m.unit.data.toList++[32,109,97,120,32])++(nmbT m.max++[59,10]):=by
 unfold meterT tellT ln
 rw [join6]
 simp [wMeter,wUnit,wMax]
theorem fee_text (f:Fee):feeT f=([102,101,101,32]++nmbT f.amount)++(winT f.win++[59,10]):=by
 unfold feeT tellT ln
 rw [join2]
 simp [wFee]
theorem top_text (p:Plan):headT8 p=[112,108,97,110,32]++(p.name.data.toList++[32,99,117,114,114,101,110,99,121,32]++p.cur.data.toList++[59,10,104,111,114,105,122,111,110,32]++dayT p.a)++([32]++dayT p.b++[59,10]):=by
 unfold headT8 tellT ln
 rw [join4,join3]
 simp [wPlan,wCurrency,wHorizon]
theorem plan_any (p:Plan) (ma:Option Addr) (mc:Nat) (fa:Option Addr) (fc:Nat) (ca:Option Addr) (cc:Nat) (w:World) (hp:PlanLies w (planC p ma mc fa fc ca cc) p ma mc fa fc ca cc) (sp:Sh p) (hK:Kz w) :
  Calls Tryz.prog 17 #[.agg (planC p ma mc fa fc ca cc).toArray] w fun e w'=>e=.returned (.string ⟨(planT p).toArray⟩)∧Below w.heap.size w w':=by
 have zH:=headT8_len sp.name
 have zN:=sp.name
 obtain ⟨X,hX⟩:∃S:ByteArray,S=⟨(dayT p.a).toArray⟩:=⟨_,rfl⟩
 obtain ⟨Y,hY⟩:∃S:ByteArray,S=⟨(dayT p.b).toArray⟩:=⟨_,rfl⟩
 have zX:X.size≤10:=by rw [hX,ba_size];exact dayT_len _
 have zY:Y.size≤10:=by rw [hY,ba_size];exact dayT_len _
 have cX:=fun W=>day3 p.a W
 have cY:=fun W=>day3 p.b W
 rw [←hX] at cX
 rw [←hY] at cY
 unfold dC at cX cY
 obtain ⟨w1,hw1⟩:∃W,W=w.alloc (.cells (planC p ma mc fa fc ca cc).toArray 41):=⟨_,rfl⟩
 have b1:Below w.heap.size w w1:=by rw [hw1];exact bel_alloc _ _
 obtain ⟨k1,hk1⟩:∃k,k=w.heap.size:=⟨_,rfl⟩
 have X1:Box w1 k1 (planC p ma mc fa fc ca cc):=by rw [hw1,hk1];exact Box.new _ _ _
 have C:Hid (∀W,Below w1.heap.size w1 W→W.cell? ⟨k1,8,none⟩=some (.slice ma p.meters.length mc)∧W.cell? ⟨k1,9,none⟩=some (.slice fa p.fees.length fc)∧W.cell? ⟨k1,10,none⟩=some (.slice ca p.charges.length cc)):=
  hid fun W b=>⟨(X1.on b).cell 8 _ rfl,(X1.on b).cell 9 _ rfl,(X1.on b).cell 10 _ rfl⟩
 have L0:Hid (∀W,Below w1.heap.size w1 W→PlanLies W (planC p ma mc fa fc ca cc) p ma mc fa fc ca cc∧Kz W∧Below w.heap.size w W):=
  hid fun W b=>⟨hp.on (bel_on b1 b),hK.later (bel_on b1 b),bel_on b1 b⟩
 obtain ⟨T,hT⟩:∃L,L=headT8 p:=⟨_,rfl⟩
 have HT:Hid (planT p=T++p.meters.flatMap meterT++p.fees.flatMap feeT++p.charges.flatMap chargeT):=hid (by rw [hT];rfl)
 have hV0:Hid ((⟨#[112,108,97,110,32]⟩:ByteArray)++p.name++⟨#[32,99,117,114,114,101,110,99,121,32]⟩++p.cur++⟨#[59,10,104,111,114,105,122,111,110,32]⟩++X++⟨#[32]⟩++Y++⟨#[59,10]⟩=⟨T.toArray⟩):=hid (by
  rw [hT,top_text,put4 (put6 (V:=⟨#[112,108,97,110,32]⟩) (L:=[112,108,97,110,32]) rfl (A:=p.name) rfl (B:=⟨#[32,99,117,114,114,101,110,99,121,32]⟩) rfl (C:=p.cur) rfl (D:=⟨#[59,10,104,111,114,105,122,111,110,32]⟩) rfl (show X.data.toList=dayT p.a by rw [hX])) (A:=⟨#[32]⟩) rfl (show Y.data.toList=dayT p.b by rw [hY]) (X:=⟨#[59,10]⟩) rfl])
 rw [←hT] at zH
 have d0:=X1.cell 0 _ rfl
 have d1:=X1.cell 1 _ rfl
 have d2:=X1.cell 2 _ rfl
 have d3:=X1.cell 3 _ rfl
 have d4:=X1.cell 4 _ rfl
 have d5:=X1.cell 5 _ rfl
 have d6:=X1.cell 6 _ rfl
 have d7:=X1.cell 7 _ rfl
 have HW:=hid hw1
 have HK1:=hid hk1
 have SP:=hid sp
 clear hX hY hw1 b1 hk1 X1 hp hK hT sp
 unfold planC at HW ⊢
 go_enter Tryz.func17,Tryz.ntmps17
 go_upto_region 1 with fail
 rw [←HW.out,←HK1.out]
 clear HW HK1
 have x0:=cell_regrown d0
 have x1:=cell_regrown d1
 have x2:=cell_regrown d2
 have x3:=cell_regrown d3
 have x4:=cell_regrown d4
 have x5:=cell_regrown d5
 have x6:=cell_regrown d6
 have x7:=cell_regrown d7
 have qX:=fun d os=>Calls.regrown_of (cX (grow (redrawn w1 d) os))
 have qY:=fun d os=>Calls.regrown_of (cY (grow (redrawn w1 d) os))
 clear cX cY d0 d1 d2 d3 d4 d5 d6 d7
 refine wp_region_quiet_below (by kernel_rfl) (by kernel_rfl) ?_
 repeat (go_big_quiet_step (first|(go_at_call_of 49 (Value.agg #[Value.int IntKind.i64 p.a.y,Value.int IntKind.i64 p.a.m,Value.int IntKind.i64 p.a.d]);exact qX _ _)|(go_at_call 49;exact qY _ _)))
 refine wpQuiet_nil ?_
 intro w2 hw'
 obtain ⟨⟨dq,osq⟩,hw''⟩:=hw'
 have B2:Hid (Below w1.heap.size w1 w2):=hid (by subst hw'';exact below_regrown w1 dq osq)
 clear hw'' qX qY x0 x1 x2 x3 x4 x5 x6 x7
 obtain ⟨V0,hVV⟩:∃V,V=(⟨#[112,108,97,110,32]⟩:ByteArray)++p.name++⟨#[32,99,117,114,114,101,110,99,121,32]⟩++p.cur++⟨#[59,10,104,111,114,105,122,111,110,32]⟩++X++⟨#[32]⟩++Y++⟨#[59,10]⟩:=⟨_,rfl⟩
 rw [←hVV] at hV0 ⊢
 have zV:V0.size≤300000:=by rw [hV0.out,ba_size];exact zH
 clear hVV zX zY zN zH
 obtain ⟨nM,hnM⟩:∃n,n=p.meters.length:=⟨_,rfl⟩
 obtain ⟨nF,hnF⟩:∃n,n=p.fees.length:=⟨_,rfl⟩
 obtain ⟨nC,hnC⟩:∃n,n=p.charges.length:=⟨_,rfl⟩
 have qM:nM≤20000:=by rw [hnM];exact SP.out.cnt.1
 have qF:nF≤20000:=by rw [hnF];exact SP.out.cnt.2.1
 have qC:nC≤20000:=by rw [hnC];exact SP.out.cnt.2.2
 rw [←hnM,←hnF,←hnC] at C
 have HnM:=hid hnM
 have HnF:=hid hnF
 have HnC:=hid hnC
 clear hnM hnF hnC
 obtain ⟨e8,e9,e10⟩:=C.out _ B2.out
 clear e9 e10
 go_wp2
 clear e8
 go_loopw [3,31] (fun v i wr=>∃(i':Nat) (V:ByteArray),v=.string V∧i=.int .i64 (i':Int)∧i'≤nM∧V.size≤300000+i'*5000000∧Hid (V=⟨(T++(p.meters.take i').flatMap meterT).toArray⟩)∧Hid (Below w1.heap.size w1 wr)) (fun _ i _=>nM-(intOf i).toNat)
 case atStart=>exact ⟨0,V0,rfl,rfl,Nat.zero_le _,by omega,hid (by rw [List.take_zero,List.flatMap_nil,List.append_nil];exact hV0.out),B2⟩
 case round=>
  obtain ⟨i',V,rfl,rfl,hi,hv,hV,hB⟩:=hrel
  by_cases hlt:i'<nM
  ·obtain ⟨m,hti⟩:∃m,p.meters[i']?=some m:=⟨_,List.getElem?_eq_getElem (by have:=HnM.out;omega)⟩
   have g:=SP.out.meters m (List.mem_of_getElem? hti)
   have ST:=hid (rows_take (f:=meterT) hti)
   obtain ⟨b,o,e,lb,a0,a1,a2,a3,a4,_⟩:=R6.meter_at (L0.out _ hB.out).1.meters hti
   obtain ⟨X,hX⟩:∃S:ByteArray,S=⟨(nmbT m.max).toArray⟩:=⟨_,rfl⟩
   have zX:X.size≤20:=by rw [hX,ba_size];exact nmbT_len g.2.2
   have zn:=g.1
   have cI:=fun W k=>tx.itoa m.max W k g.2.1 g.2.2
   rw [←hX] at cI
   have F:=hid (put3 (put6 hV.out (A:=⟨#[109,101,116,101,114,32]⟩) rfl (B:=m.name) rfl (C:=⟨#[32,117,110,105,116,32]⟩) rfl (D:=m.unit) rfl (X:=⟨#[32,109,97,120,32]⟩) rfl) (show X.data.toList=nmbT m.max by rw [hX]) (X:=⟨#[59,10]⟩) rfl)
   obtain ⟨wt,hwt⟩:∃W,W=wr.alloc (.cells #[.string m.name,.string m.unit,.int .i64 m.max,.int .i64 m.line,.int .i64 m.col] 49):=⟨_,rfl⟩
   have xt:Box wt wr.heap.size [.string m.name,.string m.unit,.int .i64 m.max,.int .i64 m.line,.int .i64 m.col]:=by rw [hwt];exact Box.new _ _ _
   have bt:Below wr.heap.size wr wt:=by rw [hwt];exact bel_alloc _ _
   have BT:=hid (bel_on hB.out bt)
   have HWT:=hid hwt
   have t0:=cell_regrown (xt.cell 0 _ rfl)
   have t1:=cell_regrown (xt.cell 1 _ rfl)
   have t2:=cell_regrown (xt.cell 2 _ rfl)
   have qI:=fun d os=>Calls.regrown_of (cI (grow (redrawn wt d) os) (L0.out _ (bel_on BT.out (below_regrown wt d os))).2.1)
   clear hti cI hX hwt bt xt g
   subst e
   go_upto_region 5 with fail
   rw [←HWT.out]
   clear HWT a0 a1 a2 a3 a4
   refine wp_region_quiet_below (by kernel_rfl) (by kernel_rfl) ?_
   repeat (go_big_quiet_step (first|(go_at_call 50;exact qI _ _)))
   refine wpQuiet_nil ?_
   intro w7 hw'
   obtain ⟨⟨dq,osq⟩,hw''⟩:=hw'
   have B7:Hid (Below w1.heap.size w1 w7):=hid (by subst hw'';exact bel_on BT.out (below_regrown wt dq osq))
   clear hw'' qI t0 t1 t2
   go_wp2
   go_roundw
   case rel=>exact ⟨i'+1,_,rfl,by simp,by omega,by rw [ByteArray.size_append,ByteArray.size_append,ByteArray.size_append,ByteArray.size_append,ByteArray.size_append,ByteArray.size_append,ByteArray.size_append];show _+6+_+6+_+5+_+2≤_;omega,hid (by rw [ST.out,meter_text,←List.append_assoc T,←List.append_assoc (T++_)];exact F.out),B7⟩
   case measure=>simp [intOf];omega
  ·obtain rfl:i'=nM:=by omega
   obtain ⟨V1,hV1⟩:∃X,X=V:=⟨_,rfl⟩
   obtain ⟨T',hT'⟩:∃X,X=T++p.meters.flatMap meterT:=⟨_,rfl⟩
   have HV1:Hid (V1=⟨T'.toArray⟩):=hid (by rw [hV1,hV.out,hT',HnM.out,List.take_length])
   have zV1:V1.size≤100000300000:=by rw [hV1];omega
   replace HT:Hid (planT p=T'++p.fees.flatMap feeT++p.charges.flatMap chargeT):=hid (by rw [HT.out,hT'])
   rw [←hV1]
   have BBV1:=hB
   clear hlt hi hB hV hv hV1 hT' zV hV0 B2
   obtain ⟨e8,e9,e10⟩:=C.out _ BBV1.out
   clear e8 e10
   go_wp2
   clear e9
   go_loopw [3,54] (fun v i wr=>∃(i':Nat) (V:ByteArray),v=.string V∧i=.int .i64 (i':Int)∧i'≤nF∧V.size≤100000300000+i'*5000000∧Hid (V=⟨(T'++(p.fees.take i').flatMap feeT).toArray⟩)∧Hid (Below w1.heap.size w1 wr)) (fun _ i _=>nF-(intOf i).toNat)
   case atStart=>exact ⟨0,V1,rfl,rfl,Nat.zero_le _,by omega,hid (by rw [List.take_zero,List.flatMap_nil,List.append_nil];exact HV1.out),BBV1⟩
   case round=>
    obtain ⟨i',V,rfl,rfl,hi,hv,hV,hB⟩:=hrel
    by_cases hlt:i'<nF
    ·obtain ⟨f,hti⟩:∃m,p.fees[i']?=some m:=⟨_,List.getElem?_eq_getElem (by have:=HnF.out;omega)⟩
     have g:=SP.out.fees f (List.mem_of_getElem? hti)
     have ST:=hid (rows_take (f:=feeT) hti)
     obtain ⟨b,o,e,lb,a0,a1,a2,a3,a4,a5,a6,a7,a8,a9,_⟩:=R6.fee_at (L0.out _ hB.out).1.fees hti
     obtain ⟨X,hX⟩:∃S:ByteArray,S=⟨(nmbT f.amount).toArray⟩:=⟨_,rfl⟩
     obtain ⟨Y,hY⟩:∃S:ByteArray,S=⟨(winT f.win).toArray⟩:=⟨_,rfl⟩
     have zX:X.size≤20:=by rw [hX,ba_size];exact nmbT_len g.1.2
     have zY:Y.size≤30:=by rw [hY,ba_size];exact winT_len _
     have cI:=fun W k=>tx.itoa f.amount W k g.1.1 g.1.2
     have cW:=fun W=>window_any f.win W
     rw [←hX] at cI
     rw [←hY] at cW
     unfold wC at cW
     have F:=hid (put3 (put3 hV.out (A:=⟨#[102,101,101,32]⟩) rfl (show X.data.toList=nmbT f.amount by rw [hX])) (show Y.data.toList=winT f.win by rw [hY]) (X:=⟨#[59,10]⟩) rfl)
     obtain ⟨wt,hwt⟩:∃W,W=wr.alloc (.cells #[.int .i64 f.amount,.bool f.win.has,.int .i64 f.win.a.y,.int .i64 f.win.a.m,.int .i64 f.win.a.d,.int .i64 f.win.b.y,.int .i64 f.win.b.m,.int .i64 f.win.b.d,.int .i64 f.line,.int .i64 f.col] 53):=⟨_,rfl⟩
     have xt:Box wt wr.heap.size [.int .i64 f.amount,.bool f.win.has,.int .i64 f.win.a.y,.int .i64 f.win.a.m,.int .i64 f.win.a.d,.int .i64 f.win.b.y,.int .i64 f.win.b.m,.int .i64 f.win.b.d,.int .i64 f.line,.int .i64 f.col]:=by rw [hwt];exact Box.new _ _ _
     have bt:Below wr.heap.size wr wt:=by rw [hwt];exact bel_alloc _ _
     have BT:=hid (bel_on hB.out bt)
     have HWT:=hid hwt
     have t0:=cell_regrown (xt.cell 0 _ rfl)
     have t1:=cell_regrown (xt.cell 1 _ rfl)
     have t2:=cell_regrown (xt.cell 2 _ rfl)
     have t3:=cell_regrown (xt.cell 3 _ rfl)
     have t4:=cell_regrown (xt.cell 4 _ rfl)
     have t5:=cell_regrown (xt.cell 5 _ rfl)
     have t6:=cell_regrown (xt.cell 6 _ rfl)
     have t7:=cell_regrown (xt.cell 7 _ rfl)
     have qI:=fun d os=>Calls.regrown_of (cI (grow (redrawn wt d) os) (L0.out _ (bel_on BT.out (below_regrown wt d os))).2.1)
     have qW:=fun d os=>Calls.regrown_of (cW (grow (redrawn wt d) os))
     clear hti cI cW hX hY hwt bt xt g
     subst e
     go_upto_region 10 with fail
     rw [←HWT.out]
     clear HWT a0 a1 a2 a3 a4 a5 a6 a7 a8 a9
     refine wp_region_quiet_below (by kernel_rfl) (by kernel_rfl) ?_
     repeat (go_big_quiet_step (first|(go_at_call 50;exact qI _ _)|(go_at_call 51;exact qW _ _)))
     refine wpQuiet_nil ?_
     intro w7 hw'
     obtain ⟨⟨dq,osq⟩,hw''⟩:=hw'
     have B7:Hid (Below w1.heap.size w1 w7):=hid (by subst hw'';exact bel_on BT.out (below_regrown wt dq osq))
     clear hw'' qI qW t0 t1 t2 t3 t4 t5 t6 t7
     go_wp2
     go_roundw
     case rel=>exact ⟨i'+1,_,rfl,by simp,by omega,by rw [ByteArray.size_append,ByteArray.size_append,ByteArray.size_append,ByteArray.size_append];show _+4+_+_+2≤_;omega,hid (by rw [ST.out,fee_text,←List.append_assoc T',←List.append_assoc (T'++_)];exact F.out),B7⟩
     case measure=>simp [intOf];omega
    ·obtain rfl:i'=nF:=by omega
     obtain ⟨V2,hV2⟩:∃X,X=V:=⟨_,rfl⟩
     obtain ⟨T'',hT''⟩:∃X,X=T'++p.fees.flatMap feeT:=⟨_,rfl⟩
     have HV2:Hid (V2=⟨T''.toArray⟩):=hid (by rw [hV2,hV.out,hT'',HnF.out,List.take_length])
     have zV2:V2.size≤200000300000:=by rw [hV2];omega
     replace HT:Hid (planT p=T''++p.charges.flatMap chargeT):=hid (by rw [HT.out,hT''])
     rw [←hV2]
     have BBV2:=hB
     clear hlt hi hB hV hv hV2 hT'' zV1 HV1 BBV1
     obtain ⟨e8,e9,e10⟩:=C.out _ BBV2.out
     clear e8 e9
     go_wp2
     clear e10
     go_loopw [3,73] (fun v i wr=>∃(i':Nat) (V:ByteArray),v=.string V∧i=.int .i64 (i':Int)∧i'≤nC∧V.size≤200000300000+i'*5000000∧Hid (V=⟨(T''++(p.charges.take i').flatMap chargeT).toArray⟩)∧Hid (Below w1.heap.size w1 wr)) (fun _ i _=>nC-(intOf i).toNat)
     case atStart=>exact ⟨0,V2,rfl,rfl,Nat.zero_le _,by omega,hid (by rw [List.take_zero,List.flatMap_nil,List.append_nil];exact HV2.out),BBV2⟩
     case round=>
      obtain ⟨i',V,rfl,rfl,hi,hv,hV,hB⟩:=hrel
      by_cases hlt:i'<nC
      ·obtain ⟨c,hti⟩:∃m,p.charges[i']?=some m:=⟨_,List.getElem?_eq_getElem (by have:=HnC.out;omega)⟩
       have g:=SP.out.charges c (List.mem_of_getElem? hti)
       have ST:=hid (rows_take (f:=chargeT) hti)
       obtain ⟨b,o,ta,tc,aa,ac,e,ax,lx0⟩:=R6.charge_at (L0.out _ hB.out).1.charges hti
       have r1:=hid (range_at ax)
       unfold chargeC at r1
       obtain ⟨D,hD⟩:∃Q:ByteArray,Q=⟨(chargeT c).toArray⟩:=⟨_,rfl⟩
       have zD:D.size≤5000000:=by rw [hD,ba_size];exact chargeT_len g
       have F:=hid (put2 hV.out (show D.data.toList=chargeT c by rw [hD]))
       obtain ⟨wt,hwt⟩:∃W,W=wr.alloc (.cells #[.string c.meter,.bool c.win.has,.int .i64 c.win.a.y,.int .i64 c.win.a.m,.int .i64 c.win.a.d,.int .i64 c.win.b.y,.int .i64 c.win.b.m,.int .i64 c.win.b.d,.int .i64 c.allowance,.int .i64 c.block,.int .i64 c.kind,.slice ta c.tiers.length tc,.int .i64 c.mode,.slice aa c.adjusts.length ac,.int .i64 c.line,.int .i64 c.col] 57):=⟨_,rfl⟩
       have xt:Box wt wr.heap.size [.string c.meter,.bool c.win.has,.int .i64 c.win.a.y,.int .i64 c.win.a.m,.int .i64 c.win.a.d,.int .i64 c.win.b.y,.int .i64 c.win.b.m,.int .i64 c.win.b.d,.int .i64 c.allowance,.int .i64 c.block,.int .i64 c.kind,.slice ta c.tiers.length tc,.int .i64 c.mode,.slice aa c.adjusts.length ac,.int .i64 c.line,.int .i64 c.col]:=by rw [hwt];exact Box.new _ _ _
       have bt:Below wr.heap.size wr wt:=by rw [hwt];exact bel_alloc _ _
       have BT:=hid (bel_on hB.out bt)
       have HWT:=hid hwt
       have RT:Hid (wt.rangeAt wr.heap.size 0 [.string c.meter,.bool c.win.has,.int .i64 c.win.a.y,.int .i64 c.win.a.m,.int .i64 c.win.a.d,.int .i64 c.win.b.y,.int .i64 c.win.b.m,.int .i64 c.win.b.d,.int .i64 c.allowance,.int .i64 c.block,.int .i64 c.kind,.slice ta c.tiers.length tc,.int .i64 c.mode,.slice aa c.adjusts.length ac,.int .i64 c.line,.int .i64 c.col]):=hid (range_of xt.cell)
       have NC:Hid (Calls Tryz.prog 52 #[.agg #[.string c.meter,.bool c.win.has,.int .i64 c.win.a.y,.int .i64 c.win.a.m,.int .i64 c.win.a.d,.int .i64 c.win.b.y,.int .i64 c.win.b.m,.int .i64 c.win.b.d,.int .i64 c.allowance,.int .i64 c.block,.int .i64 c.kind,.slice ta c.tiers.length tc,.int .i64 c.mode,.slice aa c.adjusts.length ac,.int .i64 c.line,.int .i64 c.col]] wt fun e w'=>e=.returned (.string D)∧Below wt.heap.size wt w'):=hid (by
        have:=charge_any c ta tc aa ac wt (lies_on lx0 bt) g (L0.out _ BT.out).2.1
        rw [←hD] at this
        exact this)
       clear hti hD hwt bt xt g lx0
       subst e
       go_upto_region 15 with (first|(with_reducible refine wpList_load_mid (op:=Oper.mk (some 76) (Op.load 57 (Operand.tmp 75)) _ _ _ _) ?_ 57 (.tmp 75) ?_ b (o+i'*16) ?_ [.string c.meter,.bool c.win.has,.int .i64 c.win.a.y,.int .i64 c.win.a.m,.int .i64 c.win.a.d,.int .i64 c.win.b.y,.int .i64 c.win.b.m,.int .i64 c.win.b.d,.int .i64 c.allowance,.int .i64 c.block,.int .i64 c.kind,.slice ta c.tiers.length tc,.int .i64 c.mode,.slice aa c.adjusts.length ac,.int .i64 c.line,.int .i64 c.col] _ r1.out Tryz.underlying57 ?_ ?_ ?_;rfl;rfl;go_simp;rfl;kernel_rfl)|(with_reducible refine wpList_store_new (op:=Oper.mk none (Op.store 57 (Operand.tmp 9) (Operand.tmp 76)) _ _ _ _) ?_ 57 (.tmp 9) (.tmp 76) ?_ wr _ #[.string c.meter,.bool c.win.has,.int .i64 c.win.a.y,.int .i64 c.win.a.m,.int .i64 c.win.a.d,.int .i64 c.win.b.y,.int .i64 c.win.b.m,.int .i64 c.win.b.d,.int .i64 c.allowance,.int .i64 c.block,.int .i64 c.kind,.slice ta c.tiers.length tc,.int .i64 c.mode,.slice aa c.adjusts.length ac,.int .i64 c.line,.int .i64 c.col] ?_ ?_ ?_ ?_ ?_ ?_;rfl;rfl;go_simp;go_simp;kernel_rfl;rfl;(simp [Value.oneCell']))|fail)
       rw [←HWT.out]
       clear HWT r1 ax
       go_wp2_with (first
        | (with_reducible refine wpList_load_mid (op:=Oper.mk (some 78) (Op.load 57 (Operand.tmp 9)) _ _ _ _) ?_ 57 (.tmp 9) ?_ wr.heap.size 0 ?_ [.string c.meter,.bool c.win.has,.int .i64 c.win.a.y,.int .i64 c.win.a.m,.int .i64 c.win.a.d,.int .i64 c.win.b.y,.int .i64 c.win.b.m,.int .i64 c.win.b.d,.int .i64 c.allowance,.int .i64 c.block,.int .i64 c.kind,.slice ta c.tiers.length tc,.int .i64 c.mode,.slice aa c.adjusts.length ac,.int .i64 c.line,.int .i64 c.col] _ RT.out Tryz.underlying57 ?_ ?_ ?_;rfl;rfl;go_simp;rfl;kernel_rfl)
        | (go_at_call 52;refine NC.out.mono ?_;rintro e w5 ⟨rfl,b5⟩;have B5:=hid (bel_on BT.out b5);clear b5))
       go_roundw
       case rel=>exact ⟨i'+1,V++D,rfl,by simp,by omega,by rw [ByteArray.size_append];omega,hid (by rw [ST.out,←List.append_assoc];exact F.out),B5⟩
       case measure=>simp [intOf];omega
      ·obtain rfl:i'=nC:=by omega
       have fin:V=⟨(planT p).toArray⟩:=by rw [hV.out,HT.out,HnC.out,List.take_length]
       have FI:=hid fin
       have BF:=hid (L0.out _ hB.out).2.2
       clear fin hV hv
       go_wp2
       go_ret
       exact ⟨ret_s FI.out,BF.out⟩
end R8
namespace L10
open Go.RowKit Go.Sort P Mm Md R6 Co
structure K10 (w:World):Prop where
 ky:Pa.Ky w
 kz:Sw.Kz w
theorem read_ok {l:List UInt8} (h:(readF l).1=0):(parsed l).2.1=0∧(wrongOf (parsed l).1).1=0∧readF l=(0,0,0)∧readC l=coreOf (parsed l).1:=by
 unfold readF at h ⊢
 unfold readC
 by_cases e:(parsed l).2.1=0
 ·rw [if_pos e] at h ⊢
  rw [if_pos e]
  unfold coreAns
  rw [if_pos h]
  exact ⟨e,h,wrong_nought h,rfl⟩
 ·rw [if_neg e] at h
  exact absurd h e
theorem read_bad {l:List UInt8} (h:(readF l).1≠0):readC l=zeroC:=by
 unfold readF at h
 unfold readC
 by_cases e:(parsed l).2.1=0
 ·rw [if_pos e] at h ⊢
  unfold coreAns
  rw [if_neg h]
 ·rw [if_neg e]
theorem read_text {q:Plan} (g:Gd q) (h:(wrongOf q).1=0) {t:List UInt8} (ht:t=planT q) (hl:t.length≤8192):readF t=(0,0,0)∧readC t=coreOf q:=by
 subst ht
 obtain ⟨e,n⟩:=show_back g hl
 have hw:(wrongOf (parsed (planT q)).1).1=0:=by rw [wrong_same n];exact h
 unfold readF readC
 rw [if_pos e,if_pos e]
 unfold coreAns
 rw [if_pos hw]
 exact ⟨wrong_nought hw,core_same n⟩
theorem fit_zero:R10.Fit10 zeroC:=⟨by decide,by decide,by decide,fun x hx=>by cases hx⟩
theorem fit_core {p:Plan} (h:(wrongOf p).1=0):R10.Fit10 (coreOf p):=by
 refine ⟨?_,?_,?_,fun x hx=>?_⟩
 ·show (srt p.meters).length≤20000
  rw [srt_len]
  have:=meters_few h
  omega
 ·show (p.fees.map _).length≤20000
  rw [List.length_map]
  have:=fees_few h
  omega
 ·show (p.charges.map _).length≤1000
  rw [List.length_map]
  have:=charges_few h
  omega
 ·obtain ⟨c,hc,rfl⟩:=List.mem_map.1 hx
  have k:=charge_in h hc
  have a:=k.few
  have b:=k.adjs
  exact ⟨show c.tiers.length≤1000 by omega,show c.adjusts.length≤1000 by omega⟩
theorem fit_read (l:List UInt8):R10.Fit10 (readC l):=by
 by_cases h:(readF l).1=0
 ·rw [(read_ok h).2.2.2]
  exact fit_core (read_ok h).2.1
 ·rw [read_bad h]
  exact fit_zero
end L10
namespace L10
open Go.RowKit Go.Sort P Mm Md R6 Co
theorem ref8t (p:Plan) (ma:Option Addr) (mc:Nat) (fa:Option Addr) (fc:Nat) (ca:Option Addr) (cc:Nat) (w:World) (hp:PlanLies w (planC p ma mc fa fc ca cc) p ma mc fa fc ca cc) (sp:Sh p) (hK:Sw.Kz w) :
  Calls Tryz.prog 17 #[.agg #[.string p.name,.string p.cur,.int .i64 p.a.y,.int .i64 p.a.m,.int .i64 p.a.d,.int .i64 p.b.y,.int .i64 p.b.m,.int .i64 p.b.d,.slice ma p.meters.length mc,.slice fa p.fees.length fc,.slice ca p.charges.length cc,.int .i64 p.line,.int .i64 p.col]] w fun e w'=>e=.returned (.string ⟨(planT p).toArray⟩)∧Below w.heap.size w w':=R8.plan_any p ma mc fa fc ca cc w hp sp hK
theorem ref7t (l:ByteArray) (w:World) {p:Plan} {x y z:Int} (hp:p=(parsed l.data.toList).1) (hx:x=(parsed l.data.toList).2.1) (hy:y=(parsed l.data.toList).2.2.1) (hz:z=(parsed l.data.toList).2.2.2):Calls Tryz.prog 12 #[.string l] w fun e w'=>∃ma mc fa fc ca cc,e=.returned (.tuple #[.agg #[.string p.name,.string p.cur,.int .i64 p.a.y,.int .i64 p.a.m,.int .i64 p.a.d,.int .i64 p.b.y,.int .i64 p.b.m,.int .i64 p.b.d,.slice ma p.meters.length mc,.slice fa p.fees.length fc,.slice ca p.charges.length cc,.int .i64 p.line,.int .i64 p.col],.int .i64 x,.int .i64 y,.int .i64 z])∧PlanLies w' [.string p.name,.string p.cur,.int .i64 p.a.y,.int .i64 p.a.m,.int .i64 p.a.d,.int .i64 p.b.y,.int .i64 p.b.m,.int .i64 p.b.d,.slice ma p.meters.length mc,.slice fa p.fees.length fc,.slice ca p.charges.length cc,.int .i64 p.line,.int .i64 p.col] p ma mc fa fc ca cc∧Below w.heap.size w w':=by
 subst hp hx hy hz
 exact R7.ref_lies l w
end L10
namespace L10
open Go.RowKit Go.Sort P Mm Md R6 Co
theorem info_meterL:(Tryz.prog.info? 49).map (fun i=>(i.zero,i.size,i.bytes))=some (some (.agg (meterC ⟨⟨#[]⟩,⟨#[]⟩,0,0,0⟩).toArray),5,56):=by kernel_rfl
theorem small_turn {p:Plan} (h:Small p):Small (turnP p):=⟨by show p.meters.reverse.length≤20000;rw [List.length_reverse];exact h.meters,h.fees,h.charges,h.parts⟩
theorem names_walk (s:ByteArray) (w:World) (k10:K10 w):Calls Tryz.prog 6 #[.string s] w fun e w'=>e=.returned (.bool true)∧Below w.heap.size w w':=by
 have cA:=hid (alive_any w k10.ky)
 have KK:=hid k10
 have cR:=hid (fun (W:World) (b:Below w.heap.size w W)=>read_any s W (k10.ky.later b))
 obtain ⟨c,hc⟩:∃c,c=readC s.data.toList:=⟨_,rfl⟩
 obtain ⟨x,hx⟩:∃x,x=(readF s.data.toList).1:=⟨_,rfl⟩
 obtain ⟨y,hy⟩:∃x,x=(readF s.data.toList).2.1:=⟨_,rfl⟩
 obtain ⟨z,hz⟩:∃x,x=(readF s.data.toList).2.2:=⟨_,rfl⟩
 rw [←hc,←hx,←hy,←hz] at cR
 unfold corC at cR
 obtain ⟨p,hp⟩:∃p,p=(parsed s.data.toList).1:=⟨_,rfl⟩
 obtain ⟨x7,hx7⟩:∃x,x=(parsed s.data.toList).2.1:=⟨_,rfl⟩
 obtain ⟨y7,hy7⟩:∃x,x=(parsed s.data.toList).2.2.1:=⟨_,rfl⟩
 obtain ⟨z7,hz7⟩:∃x,x=(parsed s.data.toList).2.2.2:=⟨_,rfl⟩
 obtain ⟨T,hT⟩:∃T:ByteArray,T=⟨(planT (turnP p)).toArray⟩:=⟨_,rfl⟩
 have hTl:T.data.toList=planT (turnP p):=by rw [hT]
 have hTs:T.size=T.data.toList.length:=by simp
 obtain ⟨c',hc'⟩:∃c,c=readC T.data.toList:=⟨_,rfl⟩
 obtain ⟨x',hx'⟩:∃x,x=(readF T.data.toList).1:=⟨_,rfl⟩
 obtain ⟨y',hy'⟩:∃x,x=(readF T.data.toList).2.1:=⟨_,rfl⟩
 obtain ⟨z',hz'⟩:∃x,x=(readF T.data.toList).2.2:=⟨_,rfl⟩
 have cT:=hid (fun (W:World) (b:Below w.heap.size w W)=>read_any T W (k10.ky.later b))
 rw [←hc',←hx',←hy',←hz'] at cT
 unfold corC at cT
 have OK:=hid (show x=0→y=0∧z=0∧Sh (turnP p)∧R10.Fit10 c∧R10.Fit10 c'∧(p.meters.length≤4∧p.fees.length≤8∧p.charges.length≤8)∧(T.size≤8192→x'=0∧y'=0∧z'=0∧R10.rowN c=R10.rowN c'∧R10.rowT c=R10.rowT c') from fun h=>by
  obtain ⟨e,hw,hf,hr⟩:=read_ok (l:=s.data.toList) (by rw [←hx];exact h)
  have gp:=parsed_gd e
  rw [hf] at hy hz
  rw [hr] at hc
  refine ⟨hy,hz,by rw [hp];exact gd_sh (gd_turn gp) (small_turn (parsed_small _)),by rw [hc];exact fit_core hw,by rw [hc'];exact fit_read _,by rw [hp];exact ⟨meters_few hw,fees_few hw,charges_few hw⟩,fun hl=>?_⟩
  rw [←hp] at gp hw hc
  obtain ⟨a,b⟩:=read_text (gd_turn gp) (wrong_turn hw) hTl (by omega)
  rw [a] at hx' hy' hz'
  rw [b,core_turn hw,←hc] at hc'
  refine ⟨hx',hy',hz',by rw [hc'],by rw [hc']⟩)
 have c7:=hid (fun (W:World)=>ref7t s W hp hx7 hy7 hz7)
 have HT:=hid hT
 clear hc hx hy hz hp hx7 hy7 hz7 hT hTl hTs hc' hx' hy' hz' k10
 go_enter Tryz.func6,Tryz.ntmps6
 go_wp2_with fail
 refine cA.out.mono ?_
 rintro e w0 ⟨rfl,b0⟩
 have B0:=hid b0
 clear cA b0
 by_cases hs:(8192:Int)<(s.size:Int)
 ·go_wp2
  go_ret
  exact ⟨rfl,B0.out⟩
 have cR0:=hid (cR.out w0 B0.out)
 clear cR
 go_wp2_with fail
 refine cR0.out.mono ?_
 rintro e w1 ⟨m2,c2,s2,d2,p2,e2,rfl,hl,b1⟩
 have B1:=hid (bel_on B0.out b1)
 clear cR0 b1 B0
 obtain ⟨wx,hwx⟩:∃W,W=w1.alloc (.cells ([.string ⟨#[]⟩,.int .i64 0,.int .i64 0,.slice none 0 0,.slice none 0 0,.slice none 0 0]:List Value).toArray 27):=⟨_,rfl⟩
 obtain ⟨wy,hwy⟩:∃W,W=wx.alloc (.cells ([.int .i64 0,.int .i64 0,.int .i64 0]:List Value).toArray 30):=⟨_,rfl⟩
 obtain ⟨k1,hk1⟩:∃k,k=w1.heap.size:=⟨_,rfl⟩
 obtain ⟨k2,hk2⟩:∃k,k=k1+1:=⟨_,rfl⟩
 have s2':wx.heap.size=k2:=by rw [hwx,hk2,hk1];simp
 have b2:Below w1.heap.size w1 wx:=by rw [hwx];exact bel_alloc _ _
 have b3:Below wx.heap.size wx wy:=by rw [hwy];exact bel_alloc _ _
 have X1:Box wy k1 [.string ⟨#[]⟩,.int .i64 0,.int .i64 0,.slice none 0 0,.slice none 0 0,.slice none 0 0]:=by
  have:=Box.new w1 [.string ⟨#[]⟩,.int .i64 0,.int .i64 0,.slice none 0 0,.slice none 0 0,.slice none 0 0] 27
  rw [←hwx,←hk1] at this
  exact this.on b3
 have X2:Box wy k2 [.int .i64 0,.int .i64 0,.int .i64 0]:=by
  have:=Box.new wx [.int .i64 0,.int .i64 0,.int .i64 0] 30
  rw [←hwy,s2'] at this
  exact this
 have n12:k1≠k2:=by omega
 have U1:Box (wy.setCells k1 0 [.string c.cur,.int .i64 c.a,.int .i64 c.b,.slice m2 c.meters.length c2,.slice s2 c.sums.length d2,.slice p2 c.parts.length e2]) k1 [.string c.cur,.int .i64 c.a,.int .i64 c.b,.slice m2 c.meters.length c2,.slice s2 c.sums.length d2,.slice p2 c.parts.length e2]:=Box.sets (W:=wy) [.string c.cur,.int .i64 c.a,.int .i64 c.b,.slice m2 c.meters.length c2,.slice s2 c.sums.length d2,.slice p2 c.parts.length e2] 0 X1
 have U2:Box (wy.setCells k1 0 [.string c.cur,.int .i64 c.a,.int .i64 c.b,.slice m2 c.meters.length c2,.slice s2 c.sums.length d2,.slice p2 c.parts.length e2]) k2 [.int .i64 0,.int .i64 0,.int .i64 0]:=Box.others (W:=wy) (Ne.symm n12) [.string c.cur,.int .i64 c.a,.int .i64 c.b,.slice m2 c.meters.length c2,.slice s2 c.sums.length d2,.slice p2 c.parts.length e2] 0 X2
 obtain ⟨w4,hwb⟩:∃W,W=(wy.setCells k1 0 [.string c.cur,.int .i64 c.a,.int .i64 c.b,.slice m2 c.meters.length c2,.slice s2 c.sums.length d2,.slice p2 c.parts.length e2]).setCells k2 0 [.int .i64 x,.int .i64 y,.int .i64 z]:=⟨_,rfl⟩
 have V2a:=hid (show Box w4 k1 [.string c.cur,.int .i64 c.a,.int .i64 c.b,.slice m2 c.meters.length c2,.slice s2 c.sums.length d2,.slice p2 c.parts.length e2] by rw [hwb];exact Box.others (W:=wy) n12 [.int .i64 x,.int .i64 y,.int .i64 z] 0 U1)
 have V2b:=hid (show Box w4 k2 [.int .i64 x,.int .i64 y,.int .i64 z] by rw [hwb];exact Box.sets (W:=wy) [.int .i64 x,.int .i64 y,.int .i64 z] 0 U2)
 have b14:Below w1.heap.size w1 w4:=by
  rw [hwb]
  exact below_setCells (by omega) _ _ _ (below_setCells (by omega) _ _ _ (bel_on b2 b3))
 have L2:=hid (hl.on b14)
 have B2:=hid b14
 have HW3:=hid (show wy=(w1.alloc (.cells #[.string ⟨#[]⟩,.int .i64 0,.int .i64 0,.slice none 0 0,.slice none 0 0,.slice none 0 0] 27)).alloc (.cells #[.int .i64 0,.int .i64 0,.int .i64 0] 30) by rw [hwy,hwx])
 have HK2:=hid (show k2=w1.heap.size+1 by omega)
 have HK1:=hid hk1
 have HW4:=hid hwb
 have RS1:=hid (show ((w1.alloc (.cells #[.string ⟨#[]⟩,.int .i64 0,.int .i64 0,.slice none 0 0,.slice none 0 0,.slice none 0 0] 27)).alloc (.cells #[.int .i64 0,.int .i64 0,.int .i64 0] 30)).there w1.heap.size 0 6 by rw [←HW3.out,←hk1];exact Te.box_there X1 rfl)
 have RS2:=hid (show (((w1.alloc (.cells #[.string ⟨#[]⟩,.int .i64 0,.int .i64 0,.slice none 0 0,.slice none 0 0,.slice none 0 0] 27)).alloc (.cells #[.int .i64 0,.int .i64 0,.int .i64 0] 30)).setCells w1.heap.size 0 [.string c.cur,.int .i64 c.a,.int .i64 c.b,.slice m2 c.meters.length c2,.slice s2 c.sums.length d2,.slice p2 c.parts.length e2]).there (w1.heap.size+1) 0 3 by rw [←HW3.out,←HK2.out,←hk1];exact Te.box_there U2 rfl)
 clear hwx hwy hk1 hk2 s2' b2 b3 X1 X2 n12 U1 U2 hwb b14 hl
 go_upto_region 6 with (first
  | (with_reducible refine wpList_store_mid (op:=Oper.mk none (Op.store 27 (Operand.tmp 3) (Operand.tmp 22)) _ _ _ _) ?_ 27 (.tmp 3) (.tmp 22) ?_ w1.heap.size 0 #[.string c.cur,.int .i64 c.a,.int .i64 c.b,.slice m2 c.meters.length c2,.slice s2 c.sums.length d2,.slice p2 c.parts.length e2] ?_ ?_ ?_ ?_ ?_ ?_;rfl;rfl;go_simp;go_simp;(simpa using RS1.out);kernel_rfl;(simp [Value.oneCell']))
  | (with_reducible refine wpList_store_mid (op:=Oper.mk none (Op.store 30 (Operand.tmp 4) (Operand.tmp 23)) _ _ _ _) ?_ 30 (.tmp 4) (.tmp 23) ?_ (w1.heap.size+1) 0 #[.int .i64 x,.int .i64 y,.int .i64 z] ?_ ?_ ?_ ?_ ?_ ?_;rfl;rfl;go_simp;go_simp;(simpa using RS2.out);kernel_rfl;(simp [Value.oneCell']))
  | fail)
 rw [←HW3.out,←HK2.out,←HK1.out,←HW4.out]
 try dsimp only [Act.put]
 clear HW3 HK2 HK1 HW4 RS1 RS2
 have B4:=hid (bel_on B1.out B2.out)
 clear B1 B2
 have a0:=V2b.out.cell 0 _ rfl;have a1:=V2b.out.cell 1 _ rfl;have a2:=V2b.out.cell 2 _ rfl
 by_cases hx:x=0
 rotate_left
 ·have gx:(x==0)=false:=by simpa using hx
  clear OK
  go_wp2
  go_ret
  exact ⟨rfl,B4.out⟩
 obtain ⟨rfl,rfl,sp,f1,f2,ml,O8⟩:=OK.out hx
 subst hx
 have SP:=hid sp
 have F1:=hid f1
 have F2:=hid f2
 obtain ⟨l1,l2,l3⟩:=ml
 have HO:=hid O8
 clear OK sp f1 f2 O8
 go_upto_region 8 with fail
 clear a0 a1 a2
 have c7':=hid (c7.out w4)
 clear c7
 go_wp2_with fail
 refine c7'.out.mono ?_
 rintro e w5 ⟨ma,mc,fa,fc,ca,cc,rfl,lp,b5⟩
 obtain ⟨wA,hwA⟩:∃W,W=w5.alloc (.cells [.string p.name,.string p.cur,.int .i64 p.a.y,.int .i64 p.a.m,.int .i64 p.a.d,.int .i64 p.b.y,.int .i64 p.b.m,.int .i64 p.b.d,.slice ma p.meters.length mc,.slice fa p.fees.length fc,.slice ca p.charges.length cc,.int .i64 p.line,.int .i64 p.col].toArray 41):=⟨_,rfl⟩
 have bA:Below w5.heap.size w5 wA:=by rw [hwA];exact bel_alloc _ _
 obtain ⟨kA,hkA⟩:∃k,k=w5.heap.size:=⟨_,rfl⟩
 have XA:=hid (show Box wA kA [.string p.name,.string p.cur,.int .i64 p.a.y,.int .i64 p.a.m,.int .i64 p.a.d,.int .i64 p.b.y,.int .i64 p.b.m,.int .i64 p.b.d,.slice ma p.meters.length mc,.slice fa p.fees.length fc,.slice ca p.charges.length cc,.int .i64 p.line,.int .i64 p.col] by rw [hwA,hkA];exact Box.new _ _ _)
 have LP:=hid (fun (W:World) (b:Below w5.heap.size w5 W)=>lp.on b)
 have FT:=hid (fits_of lp)
 have B45:=hid b5
 have B5A:=hid bA
 have HWA:=hid hwA
 have HKA:=hid hkA
 clear b5 bA lp hwA hkA c7'
 go_upto_region 9 with (first|(with_reducible refine wpList_store_new (op:=Oper.mk none (Op.store 41 (Operand.tmp 5) (Operand.tmp 30)) _ _ _ _) ?_ 41 (.tmp 5) (.tmp 30) ?_ w5 #[.string ⟨#[]⟩,.string ⟨#[]⟩,.int .i64 0,.int .i64 0,.int .i64 0,.int .i64 0,.int .i64 0,.int .i64 0,.slice none 0 0,.slice none 0 0,.slice none 0 0,.int .i64 0,.int .i64 0] #[.string p.name,.string p.cur,.int .i64 p.a.y,.int .i64 p.a.m,.int .i64 p.a.d,.int .i64 p.b.y,.int .i64 p.b.m,.int .i64 p.b.d,.slice ma p.meters.length mc,.slice fa p.fees.length fc,.slice ca p.charges.length cc,.int .i64 p.line,.int .i64 p.col] ?_ ?_ ?_ ?_ ?_ ?_;rfl;rfl;go_simp;go_simp;kernel_rfl;rfl;(simp [Value.oneCell']))|fail)
 rw [←HWA.out,←HKA.out]
 have lkA:w5.heap.size≤kA∧kA<wA.heap.size:=⟨Nat.le_of_eq HKA.out.symm,XA.out.lt⟩
 clear HWA HKA
 obtain ⟨wB,hwB⟩:∃W,W=wA.setCell ⟨kA,0,none⟩ (.string ⟨#[111,116,104,101,114]⟩):=⟨_,rfl⟩
 have XB:=hid (show Box wB kA [.string ⟨#[111,116,104,101,114]⟩,.string p.cur,.int .i64 p.a.y,.int .i64 p.a.m,.int .i64 p.a.d,.int .i64 p.b.y,.int .i64 p.b.m,.int .i64 p.b.d,.slice ma p.meters.length mc,.slice fa p.fees.length fc,.slice ca p.charges.length cc,.int .i64 p.line,.int .i64 p.col] by rw [hwB];exact XA.out.set 0 _)
 have B5B:=hid (show Below w5.heap.size w5 wB by rw [hwB];exact B5A.out.setCell lkA.1 _)
 have HWB:=hid hwB
 have a0:=XA.out.cell 0 _ rfl
 have f0:=XA.out.free 0
 have lkB:=XB.out.lt
 clear hwB B5A
 go_upto_region 11 with fail
 rw [←HWB.out]
 clear HWB a0 f0 XA
 have m8:=XB.out.cell 8 _ rfl
 have B0:=hid (Below.refl wB.heap.size wB)
 have O0:=hid (World.ownsRow_nil wB wB.heap.size 49 5)
 obtain ⟨ti,hi,hz0,hz1,hz2⟩:=info_parts info_meterL
 have HZ:=hid lkA
 have HZB:=hid lkB
 clear lkA
 go_wp2
 clear m8 lkB
 go_loopw [9,38] (fun v i wr=>∃i':Nat,i=.int .i64 (i':Int)∧i'≤p.meters.length∧Hid (wr.ownsRow wB.heap.size 49 5 v i' ((p.meters.reverse.take i').flatMap meterC))∧Hid (Below wB.heap.size wB wr)) (fun _ i _=>p.meters.length-(intOf i).toNat)
 case atStart=>exact ⟨0,rfl,Nat.zero_le _,by rw [List.take_zero];exact O0,B0⟩
 case round=>
  clear B0 O0
  obtain ⟨i',rfl,hi2,hO,hb⟩:=hrel
  by_cases hlt:i'<p.meters.length
  ·obtain ⟨x,tx⟩:∃x,p.meters.reverse[i']?=some x:=⟨_,List.getElem?_eq_getElem (by rw [List.length_reverse];exact hlt)⟩
   obtain ⟨j,hj⟩:∃j,j=p.meters.length-1-i':=⟨_,rfl⟩
   have tj:p.meters[j]?=some x:=by rw [hj,←List.getElem?_reverse hlt];exact tx
   have TX:=hid tx
   obtain ⟨bx,ox,e,lbx,x0,x1,x2,x3,x4,_⟩:=meter_at (LP.out _ (bel_on B5B.out hb.out)).meters tj
   subst e
   have m8:=(XB.out.on hb.out).cell 8 _ rfl
   have lk:=(XB.out.on hb.out).lt
   have wr1:IntKind.i64.wrap ((p.meters.length:Int)-1)=(p.meters.length:Int)-1:=wrap_i (by unfold I64;omega)
   have wr2:IntKind.i64.wrap ((p.meters.length:Int)-1-(i':Int))=(j:Int):=by rw [show (p.meters.length:Int)-1-(i':Int)=(j:Int) by omega];exact wrap_i (by unfold I64;omega)
   have jl:(j:Int)<(p.meters.length:Int):=by omega
   have jl2:j<p.meters.length:=by omega
   clear hj tx tj
   go_wp2_with (first|(at_builtin;refine wpList_append_own_at _ rfl _ _ 23 rfl wB.heap.size 49 ti (.agg (meterC ⟨⟨#[]⟩,⟨#[]⟩,0,0,0⟩).toArray) 5 56 Tryz.underlying23 hi hz0 hz1 hz2 rfl (by decide) _ _ _ rfl (hO.out.alloc _) ⟨wr.heap.size,0,none⟩ 1 1 (meterC x) rfl rfl (news_new wr (meterC x) _) (by simp [meterC,Value.oneCell']) (by unfold maxLen;omega) (by omega) (hb.out.alloc hb.out.size _).size ?_;intro v' w3 hown hgrow _ _;have hO3:=hid (show w3.ownsRow wB.heap.size 49 5 v' (i'+1) ((p.meters.reverse.take (i'+1)).flatMap meterC) by rw [flat_take TX.out];exact hown);have hB3:=hid ((hb.out.alloc hb.out.size _).grown hgrow (hb.out.alloc hb.out.size _).size (fun k hk=>(hO.out.lt k hk).1));clear hown hgrow)|fail)
   go_roundw
   case rel=>exact ⟨i'+1,by simp,by omega,hO3,hB3⟩
   case measure=>simp [intOf];omega
  ·obtain rfl:i'=p.meters.length:=by omega
   have own:=hO.out
   rw [show p.meters.reverse.take p.meters.length=p.meters.reverse from List.take_of_length_le (by rw [List.length_reverse];exact Nat.le_refl _)] at own
   obtain ⟨wq,hwq⟩:∃W,W=wr:=⟨_,rfl⟩
   rw [←hwq] at own hb ⊢
   clear hO hwq hlt hi2
   have ne:u9.ownBlock≠some kA:=fun e=>by
    have:=(own.lt _ e).1
    have:=HZB.out
    omega
   have nz:(Value.slice ma p.meters.length mc).ownBlock=(Value.slice ma p.meters.length mc).ownBlock:=rfl
   obtain ⟨wD,hwD⟩:∃W,W=wq.setCell ⟨kA,8,none⟩ u9:=⟨_,rfl⟩
   have own2:wD.ownsRow wB.heap.size 49 5 u9 p.meters.length (p.meters.reverse.flatMap meterC):=by rw [hwD];exact ownsRow_setCell_other own ne _
   have er:p.meters.reverse.length=p.meters.length:=List.length_reverse
   rw [←er] at own2
   obtain ⟨ao,cap,ev,row⟩:∃ao cap,u9=.slice ao p.meters.reverse.length cap∧Row tMeter wD ao p.meters.reverse.length cap p.meters.reverse:=row_own own2 (fun m hm=>FT.out.meters m (List.mem_reverse.1 hm))
   rw [List.length_reverse] at ev
   have XC:=XB.out.on hb.out
   have B5C:=bel_on B5B.out hb.out
   subst ev
   have XD:=hid (show Box wD kA [.string ⟨#[111,116,104,101,114]⟩,.string p.cur,.int .i64 p.a.y,.int .i64 p.a.m,.int .i64 p.a.d,.int .i64 p.b.y,.int .i64 p.b.m,.int .i64 p.b.d,.slice ao p.meters.length cap,.slice fa p.fees.length fc,.slice ca p.charges.length cc,.int .i64 p.line,.int .i64 p.col] by rw [hwD];exact XC.set 8 _)
   have B5D:=hid (show Below w5.heap.size w5 wD by rw [hwD];exact B5C.setCell HZ.out.1 _)
   have L0:=LP.out wD B5D.out
   have lq:PlanLies wD [.string wOther,.string p.cur,.int .i64 p.a.y,.int .i64 p.a.m,.int .i64 p.a.d,.int .i64 p.b.y,.int .i64 p.b.m,.int .i64 p.b.d,.slice ao (turnP p).meters.length cap,.slice fa (turnP p).fees.length fc,.slice ca (turnP p).charges.length cc,.int .i64 p.line,.int .i64 p.col] (turnP p) ao cap fa fc ca cc:=⟨rfl,row,L0.fees,L0.charges,⟨show wOther.size≤9223372036854775807 from by decide,L0.name.2⟩,L0.days,L0.place⟩
   have cP:=ref8t (turnP p) ao cap fa fc ca cc wD lq SP.out (KK.out.kz.later (bel_on B4.out (bel_on B45.out B5D.out)))
   rw [show (turnP p).meters.length=p.meters.length from List.length_reverse,←HT.out] at cP
   have CP:=hid (show Calls Tryz.prog 17 #[.agg #[.string ⟨#[111,116,104,101,114]⟩,.string p.cur,.int .i64 p.a.y,.int .i64 p.a.m,.int .i64 p.a.d,.int .i64 p.b.y,.int .i64 p.b.m,.int .i64 p.b.d,.slice ao p.meters.length cap,.slice fa p.fees.length fc,.slice ca p.charges.length cc,.int .i64 p.line,.int .i64 p.col]] wD fun e w'=>e=.returned (.string T)∧Below wD.heap.size wD w' from cP)
   have HWD:=hid hwD
   have a8:=XC.cell 8 _ rfl
   have f8:=XC.free 8
   have lk:=XC.lt
   have RP:=hid (range_of XD.out.cell)
   have B4D:=hid (bel_on B45.out B5D.out)
   clear er hwD own own2 row XC B5C L0 lq cP nz ne hb XB B5B HZ HZB FT LP
   go_upto_region 17 with fail
   rw [←HWD.out]
   clear HWD a8 f8 lk
   go_wp2_with (first|(with_reducible refine wpList_load_mid (op:=Oper.mk (some 57) (Op.load 41 (Operand.tmp 5)) _ _ _ _) ?_ 41 (.tmp 5) ?_ kA 0 ?_ [.string ⟨#[111,116,104,101,114]⟩,.string p.cur,.int .i64 p.a.y,.int .i64 p.a.m,.int .i64 p.a.d,.int .i64 p.b.y,.int .i64 p.b.m,.int .i64 p.b.d,.slice ao p.meters.length cap,.slice fa p.fees.length fc,.slice ca p.charges.length cc,.int .i64 p.line,.int .i64 p.col] _ RP.out Tryz.underlying41 ?_ ?_ ?_;rfl;rfl;go_simp;rfl;kernel_rfl)|fail)
   refine CP.out.mono ?_
   rintro e w6 ⟨rfl,b6⟩
   have B46:=hid (bel_on B4D.out b6)
   clear CP RP b6 B4D XD B5D HT SP B45
   have cR0:=hid (cT.out w6 (bel_on B4.out B46.out))
   clear cT
   go_wp2_with fail
   refine cR0.out.mono ?_
   rintro e w7 ⟨m3,c3,s3,d3,p3,e3,rfl,hl,b7⟩
   have B47:=hid (bel_on B46.out b7)
   clear cR0 b7 B46
   obtain ⟨wx,hwx⟩:∃W,W=w7.alloc (.cells ([.string ⟨#[]⟩,.int .i64 0,.int .i64 0,.slice none 0 0,.slice none 0 0,.slice none 0 0]:List Value).toArray 27):=⟨_,rfl⟩
   obtain ⟨wy,hwy⟩:∃W,W=wx.alloc (.cells ([.int .i64 0,.int .i64 0,.int .i64 0]:List Value).toArray 30):=⟨_,rfl⟩
   obtain ⟨k3,hk1⟩:∃k,k=w7.heap.size:=⟨_,rfl⟩
   obtain ⟨k4,hk2⟩:∃k,k=k3+1:=⟨_,rfl⟩
   have s2':wx.heap.size=k4:=by rw [hwx,hk2,hk1];simp
   have b2:Below w7.heap.size w7 wx:=by rw [hwx];exact bel_alloc _ _
   have b3:Below wx.heap.size wx wy:=by rw [hwy];exact bel_alloc _ _
   have X1:Box wy k3 [.string ⟨#[]⟩,.int .i64 0,.int .i64 0,.slice none 0 0,.slice none 0 0,.slice none 0 0]:=by
    have:=Box.new w7 [.string ⟨#[]⟩,.int .i64 0,.int .i64 0,.slice none 0 0,.slice none 0 0,.slice none 0 0] 27
    rw [←hwx,←hk1] at this
    exact this.on b3
   have X2:Box wy k4 [.int .i64 0,.int .i64 0,.int .i64 0]:=by
    have:=Box.new wx [.int .i64 0,.int .i64 0,.int .i64 0] 30
    rw [←hwy,s2'] at this
    exact this
   have n12:k3≠k4:=by omega
   have U1:Box (wy.setCells k3 0 [.string c'.cur,.int .i64 c'.a,.int .i64 c'.b,.slice m3 c'.meters.length c3,.slice s3 c'.sums.length d3,.slice p3 c'.parts.length e3]) k3 [.string c'.cur,.int .i64 c'.a,.int .i64 c'.b,.slice m3 c'.meters.length c3,.slice s3 c'.sums.length d3,.slice p3 c'.parts.length e3]:=Box.sets (W:=wy) [.string c'.cur,.int .i64 c'.a,.int .i64 c'.b,.slice m3 c'.meters.length c3,.slice s3 c'.sums.length d3,.slice p3 c'.parts.length e3] 0 X1
   have U2:Box (wy.setCells k3 0 [.string c'.cur,.int .i64 c'.a,.int .i64 c'.b,.slice m3 c'.meters.length c3,.slice s3 c'.sums.length d3,.slice p3 c'.parts.length e3]) k4 [.int .i64 0,.int .i64 0,.int .i64 0]:=Box.others (W:=wy) (Ne.symm n12) [.string c'.cur,.int .i64 c'.a,.int .i64 c'.b,.slice m3 c'.meters.length c3,.slice s3 c'.sums.length d3,.slice p3 c'.parts.length e3] 0 X2
   obtain ⟨w8,hwb⟩:∃W,W=(wy.setCells k3 0 [.string c'.cur,.int .i64 c'.a,.int .i64 c'.b,.slice m3 c'.meters.length c3,.slice s3 c'.sums.length d3,.slice p3 c'.parts.length e3]).setCells k4 0 [.int .i64 x',.int .i64 y',.int .i64 z']:=⟨_,rfl⟩
   have V3a:=hid (show Box w8 k3 [.string c'.cur,.int .i64 c'.a,.int .i64 c'.b,.slice m3 c'.meters.length c3,.slice s3 c'.sums.length d3,.slice p3 c'.parts.length e3] by rw [hwb];exact Box.others (W:=wy) n12 [.int .i64 x',.int .i64 y',.int .i64 z'] 0 U1)
   have V3b:=hid (show Box w8 k4 [.int .i64 x',.int .i64 y',.int .i64 z'] by rw [hwb];exact Box.sets (W:=wy) [.int .i64 x',.int .i64 y',.int .i64 z'] 0 U2)
   have b14:Below w7.heap.size w7 w8:=by
    rw [hwb]
    exact below_setCells (by omega) _ _ _ (below_setCells (by omega) _ _ _ (bel_on b2 b3))
   have L3:=hid (hl.on b14)
   have B3:=hid b14
   have HW3:=hid (show wy=(w7.alloc (.cells #[.string ⟨#[]⟩,.int .i64 0,.int .i64 0,.slice none 0 0,.slice none 0 0,.slice none 0 0] 27)).alloc (.cells #[.int .i64 0,.int .i64 0,.int .i64 0] 30) by rw [hwy,hwx])
   have HK2:=hid (show k4=w7.heap.size+1 by omega)
   have HK1:=hid hk1
   have HW4:=hid hwb
   have RS1:=hid (show ((w7.alloc (.cells #[.string ⟨#[]⟩,.int .i64 0,.int .i64 0,.slice none 0 0,.slice none 0 0,.slice none 0 0] 27)).alloc (.cells #[.int .i64 0,.int .i64 0,.int .i64 0] 30)).there w7.heap.size 0 6 by rw [←HW3.out,←hk1];exact Te.box_there X1 rfl)
   have RS2:=hid (show (((w7.alloc (.cells #[.string ⟨#[]⟩,.int .i64 0,.int .i64 0,.slice none 0 0,.slice none 0 0,.slice none 0 0] 27)).alloc (.cells #[.int .i64 0,.int .i64 0,.int .i64 0] 30)).setCells w7.heap.size 0 [.string c'.cur,.int .i64 c'.a,.int .i64 c'.b,.slice m3 c'.meters.length c3,.slice s3 c'.sums.length d3,.slice p3 c'.parts.length e3]).there (w7.heap.size+1) 0 3 by rw [←HW3.out,←HK2.out,←hk1];exact Te.box_there U2 rfl)
   clear hwx hwy hk1 hk2 s2' b2 b3 X1 X2 n12 U1 U2 hwb b14 hl
   go_upto_region 19 with (first
    | (with_reducible refine wpList_store_mid (op:=Oper.mk none (Op.store 27 (Operand.tmp 12) (Operand.tmp 62)) _ _ _ _) ?_ 27 (.tmp 12) (.tmp 62) ?_ w7.heap.size 0 #[.string c'.cur,.int .i64 c'.a,.int .i64 c'.b,.slice m3 c'.meters.length c3,.slice s3 c'.sums.length d3,.slice p3 c'.parts.length e3] ?_ ?_ ?_ ?_ ?_ ?_;rfl;rfl;go_simp;go_simp;(simpa using RS1.out);kernel_rfl;(simp [Value.oneCell']))
    | (with_reducible refine wpList_store_mid (op:=Oper.mk none (Op.store 30 (Operand.tmp 13) (Operand.tmp 63)) _ _ _ _) ?_ 30 (.tmp 13) (.tmp 63) ?_ (w7.heap.size+1) 0 #[.int .i64 x',.int .i64 y',.int .i64 z'] ?_ ?_ ?_ ?_ ?_ ?_;rfl;rfl;go_simp;go_simp;(simpa using RS2.out);kernel_rfl;(simp [Value.oneCell']))
    | fail)
   rw [←HW3.out,←HK2.out,←HK1.out,←HW4.out]
   try dsimp only [Act.put]
   clear HW3 HK2 HK1 HW4 RS1 RS2
   have B48:=hid (bel_on B47.out B3.out)
   clear B47 B3
   by_cases hz:(8192:Int)<(T.size:Int)
   ·have BF:=hid (bel_on B4.out B48.out)
    have gz:decide ((8192:Int)<(T.size:Int))=true:=decide_eq_true hz
    have hz2:8192<T.size:=by omega
    have gz2:decide (8192<T.size)=true:=decide_eq_true hz2
    clear HO
    go_wp2
    go_ret
    exact ⟨rfl,BF.out⟩
   obtain ⟨rfl,rfl,rfl,eN,eT⟩:=HO.out (by omega)
   have gz:decide ((8192:Int)<(T.size:Int))=false:=decide_eq_false hz
   have hz2:¬ 8192<T.size:=by omega
   have gz2:decide (8192<T.size)=false:=decide_eq_false hz2
   have a0:=V3b.out.cell 0 _ rfl;have a1:=V3b.out.cell 1 _ rfl;have a2:=V3b.out.cell 2 _ rfl
   have RC:=hid (range_of (V2a.out.on B48.out).cell)
   have RD:=hid (range_of V3a.out.cell)
   have cS:=hid (R10.same_any c c' m2 c2 s2 d2 p2 e2 m3 c3 s3 d3 p3 e3 w8 (L2.out.on B48.out) L3.out F1.out F2.out eN eT)
   clear HO eN eT
   go_wp2_with (first|((with_reducible refine R9.wpList_load_midg (op:=Oper.mk (some 72) (Op.load 27 (Operand.tmp 3)) _ _ _ _) ?_ 27 (.tmp 3) ?_ k1 0 ?_ [.string c.cur,.int .i64 c.a,.int .i64 c.b,.slice m2 c.meters.length c2,.slice s2 c.sums.length d2,.slice p2 c.parts.length e2] _ RC.out Tryz.underlying27 ?_ ?_ ?_);(first|(exact R9.wantg rfl (by kernel_rfl) rfl));rfl;go_simp;rfl;kernel_rfl)|((with_reducible refine R9.wpList_load_midg (op:=Oper.mk (some 73) (Op.load 27 (Operand.tmp 12)) _ _ _ _) ?_ 27 (.tmp 12) ?_ k3 0 ?_ [.string c'.cur,.int .i64 c'.a,.int .i64 c'.b,.slice m3 c'.meters.length c3,.slice s3 c'.sums.length d3,.slice p3 c'.parts.length e3] _ RD.out Tryz.underlying27 ?_ ?_ ?_);(first|(exact R9.wantg rfl (by kernel_rfl) rfl));rfl;go_simp;rfl;kernel_rfl)|fail)
   refine cS.out.mono ?_
   rintro e wz ⟨rfl,bz⟩
   have BF:=hid (bel_on B4.out (bel_on B48.out bz))
   clear cS RC RD bz a0 a1 a2
   go_wp2
   go_ret
   exact ⟨rfl,BF.out⟩
end L10
namespace Ld
open Go.RowKit
theorem own:ownKnob Tryz.prog.godebug=none:=by kernel_rfl
theorem cells_of_strs {H:Type} {enc:TypeId×Value→H} {P:Program} {w:World} {base:Nat} {sp:Nat→Bool} {held:Bool} {fuel:Nat} {t e:TypeId} {n:Nat} {cs:List Value} {zs:List (List UInt8)} {p:List MemPlace}
  (ht:P.underlying t=some (.array n e)) (he:P.underlying e=some .string) (hce:P.cellsOf e=1) (hct:P.cellsOf t=n)
  (h:DataW.trod enc P w base sp held fuel t cs=some (.agg (zs.map fun z=>.lit (.string z)),p)):cs=zs.map fun z=>Value.string ⟨z.toArray⟩:=by
 cases fuel with
 | zero=>simp [DataW.trod] at h
 | succ fuel=>
   simp only [DataW.trod,ht,hce,hct,Nat.mul_one] at h
   split at h
   ·rename_i hl
    obtain ⟨xs,hm,hx⟩:=Option.map_eq_some_iff.1 h
    have hxs:xs.map (·.1)=zs.map fun z=>(DataW.lit (.string z):DataW H):=by
     have:=congrArg Prod.fst hx
     simpa using this
    have hxl:xs.length=n:=by simpa using Lib.mapM_length hm
    have hzl:zs.length=n:=by
     have:=congrArg List.length hxs
     simp at this
     omega
    apply List.ext_getElem?
    intro i
    by_cases hi:i<n
    ·obtain ⟨b,hb,hf⟩:=Lib.mapM_at hm i i (by simp [hi])
     obtain ⟨z,hc,rfl,_⟩:=DataW.trod_string he hf
     have h1:cs[i]?=some (.string z):=by
      have:=congrArg (·[0]?) hc
      simpa [List.getElem?_take,List.getElem?_drop] using this
     have h2:(xs.map (·.1))[i]?=some (DataW.lit (.string z.data.toList):DataW H):=by simp [hb]
     rw [hxs] at h2
     simp only [List.getElem?_map,Option.map_eq_some_iff,DataW.lit.injEq,Lit.string.injEq] at h2
     obtain ⟨z',hz',hzz⟩:=h2
     subst hzz
     simp [h1,hz']
    ·rw [List.getElem?_eq_none (by omega),List.getElem?_eq_none (by simp;omega)]
   ·cases h
theorem md_of {W : World} {rest : List (String × DataW Unit)} (h : laidMet Tryz.prog (("poundage/parse.modes", .agg (P.modes.map fun z => .lit (.string z))) :: rest) W) : Pa.Md W := by
 obtain ⟨ps,⟨g',t',cs,fuel,p,q,hg',ht',hvar,hd,_,_⟩,_⟩:=h
 have hg : Tryz.prog.globalNamed "poundage/parse.modes" = some 1 := by kernel_rfl
 obtain rfl:=Option.some.inj (hg.symm.trans hg')
 obtain rfl:=Option.some.inj ((show (Tryz.prog.globals[1]?).map (·.type)=some 237 by kernel_rfl).symm.trans ht')
 have hca:cs=(P.modes.map fun z=>Value.string ⟨z.toArray⟩).toArray:=by rw [←cells_of_strs (e:=9) (n:=4) (by kernel_rfl) (by kernel_rfl) (by kernel_rfl) (by kernel_rfl) hd]
 rw [hca] at hvar
 intro j l hj
 have:=World.var?_cell hg hvar j
 rw [this]
 simp [hj]
theorem returns {H:Type} {enc:TypeId×Value→H} {os:Os} {f:FuncId} {fn:Func} {s:ChangeSpec} {conds:List PathCond} {apart fresh handsOn again:Bool} {X:World→Array Value→Prop}
  (hX:∀(w w':World) (args:Array Value),w.heap=w'.heap→X w args→X w' args)
  (started:os.Started) (noInit:Tryz.checked.prog.inits.idxOf? f=none) (hfn:Tryz.checked.prog.funcs[f]?=some fn)
  (witness:∃(w:World) (tape:Tape) (i:Input),w.os=os∧(w.forCall tape i).Shaped Tryz.checked.prog∧i.vars=[]∧Input.okWide Tryz.checked.prog (w.forCall tape i) .any w.heap.size f i∧
   ((s.pre enc Tryz.checked.prog fn conds apart (w.forCall tape i).memory i.args∧X (w.forCall tape i).memory i.args)∧sizedMet enc Tryz.checked.prog fn (OpenSpec.ofChange s) apart (w.forCall tape i).memory i.args)∧({} : Assume).holds Tryz.checked.prog (lone (Frame.enter Tryz.checked.prog f i.args .normal) [] (w.forCall tape i)))
  (contract:∀(W:World) (base:Nat) (args:Array Value) (ds gs:List (DataW H)) (before:List MemPlace),
   (∀(j:Nat) t v,fn.params[j]?=some t→args[j]?=some v→Value.okWide Tryz.checked.prog W .any base t v)→
   DataW.Whole enc Tryz.checked.prog fn.params.toList s.vars apart W args.toList ds gs before→
   (DataW.weightsEach Tryz.checked.prog (fn.params.toList++s.plain.varTypes Tryz.checked.prog) (ds++gs)).all (·≤reachBytes)=true→X W args→W.ShapedOpen Tryz.checked.prog→
   Calls Tryz.checked.prog f args W fun e W'=>∃v,e=.returned v∧s.post enc Tryz.checked.prog fn apart fresh handsOn again W args v W') :
  ReturnsInHanded {} Tryz.checked os f .any (fun w args=>(s.pre enc Tryz.checked.prog fn conds apart w args∧X w args)∧sizedMet enc Tryz.checked.prog fn (OpenSpec.ofChange s) apart w args) (s.post enc Tryz.checked.prog fn apart fresh handsOn again):=by
 refine returnsInHanded_of_calls own started noInit witness ?_
 intro w tape i _ hsh _ hok hpre _
 obtain ⟨_,_,_,fn',hfn',_,_,_,_,hval⟩:=hok
 obtain rfl:fn'=fn:=Option.some.inj (hfn'.symm.trans hfn)
 obtain ⟨⟨⟨ds,gs,before,hw,_⟩,hx⟩,hz⟩:=hpre
 have hw':=DataW.Whole.of_heap (w':=w.forCall tape i) (by rfl) hw
 refine (contract (w.forCall tape i) w.heap.size i.args ds gs before hval hw' (hz.weights hw) (hX _ _ _ (by rfl) hx) hsh).mono fun e W' ⟨v,he,hp⟩=>?_
 subst he
 exact ChangeSpec.post_blind hp
end Ld
namespace Ld
open Go.RowKit
theorem pow_at {W : World} {rest : List (String × DataW Unit)} (h : laidMet Tryz.prog (("internal/strconv.uint64pow10", Lib.tabData .u64 Lib.pow10Tab) :: rest) W) : Dt.Tab W :=
 Lib.tabIs_of_head (g:=0) (t:=234) (e:=187) (n:=20) (by kernel_rfl) (by kernel_rfl) (by kernel_rfl) (by kernel_rfl) (by kernel_rfl) (by kernel_rfl) h
theorem k10_of {W : World} {a b c d : String × DataW Unit} (hc : c = ("internal/strconv.uint64pow10", Lib.tabData .u64 Lib.pow10Tab)) (hd : d = ("poundage/parse.modes", .agg (P.modes.map fun z => .lit (.string z)))) (hp : ([a, b, c, d].all fun x => x.2.handleName?.isNone) = true)
  (h:laidMetH Tryz.prog [a,b,c,d] W) (hs:W.ShapedOpen Tryz.prog):L10.K10 W:=by
 rw [MakeChecks.laidMetH_plain _ _ _ hp] at h
 subst hc hd
 exact ⟨⟨Dc.mx_of hs,md_of h.tail.tail.tail⟩,pow_at h.tail.tail⟩
end Ld
end Go.Proofs.YtofbobdhkbmbgaaGreatDoor
