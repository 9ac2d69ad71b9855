/- The document's answers for layer 9 (poundageref09): Plan. -/
import Derived.Test.YtofbobdhkbmbgaaGreatDoorJRef9e
set_option maxRecDepth 100000
set_option maxHeartbeats 16000000
namespace Go.Proofs.YtofbobdhkbmbgaaGreatDoor
namespace P
open Go.RowKit Mm
def zC (p:Plan):Int×Int×Int:=if boundOf p=none then (6,p.line,p.col) else (0,0,0)
def zF9 (p:Plan):Int×Int×Int:=(firstE (chE p) (fun c=>(c.line,c.col)) 0 p.charges).getD (zC p)
def zM (p:Plan):Int×Int×Int:=(firstE (feeE p) (fun f=>(f.line,f.col)) 0 p.fees).getD (zF9 p)
theorem wrong_getD (p:Plan):wrongOf p=if headE p=0 then (firstE (meterE p) (fun m=>(m.line,m.col)) 0 p.meters).getD (zM p) else (headE p,p.line,p.col):=by
 unfold wrongOf zM zF9 zC;by_cases h:headE p=0
 ·rw [if_pos h,if_pos h];cases firstE (meterE p) (fun m=>(m.line,m.col)) 0 p.meters with
  | some e=>rfl
  | none=>
    show _=(firstE (feeE p) (fun f=>(f.line,f.col)) 0 p.fees).getD _
    cases firstE (feeE p) (fun f=>(f.line,f.col)) 0 p.fees with
    | some e=>rfl
    | none=>
      show _=(firstE (chE p) (fun c=>(c.line,c.col)) 0 p.charges).getD _
      cases firstE (chE p) (fun c=>(c.line,c.col)) 0 p.charges<;>rfl
 ·rw [if_neg h,if_neg h]
theorem num_range {d:Day} (h:DayOk d):0≤dn d∧dn d≤3652058:=by
 have:=num_bound h;unfold dn;omega
end P
namespace R9
open Go.RowKit Go.Sort P Mm Md R6 L06
theorem ret_t {R:Int×Int×Int} {a b c:Int} (h:R=(a,b,c)):(Ending.returned (.tuple #[.int .i64 a,.int .i64 b,.int .i64 c]):Ending)=.returned (.tuple #[.int .i64 R.1,.int .i64 R.2.1,.int .i64 R.2.2]):=by rw [h]
structure Pl9 (p:Plan):Prop where
 gd:Gd p
 cnt:p.meters.length≤20000∧p.fees.length≤20000∧p.charges.length≤20000
 parts:∀c∈p.charges,c.tiers.length≤100000∧c.adjusts.length≤100000
theorem chs_of {p:Plan} (h:Pl9 p) (e:firstE (chE p) (fun c=>(c.line,c.col)) 0 p.charges=none):Chs p:=by
 rw [firstE_none] at e
 have key:∀c∈p.charges,(∃i,meterIx p.meters c.meter=some i)∧c.block≠0:=by
  intro c hc;obtain ⟨j,hj,ej⟩:=List.getElem_of_mem hc;have:=e j c (by rw [List.getElem?_eq_getElem hj,ej]);unfold chE at this;split at this
  ·cases this
  ·split at this
   ·cases this
   ·rename_i h2
    refine ⟨?_,fun h0=>h2 (.inr (.inr h0))⟩;cases hm:meterIx p.meters c.meter with
    | none=>exact absurd (.inl hm) h2
    | some i=>exact ⟨i,rfl⟩
 exact ⟨h.gd,h.cnt,h.parts,fun c hc=>(key c hc).1,fun c hc=>(key c hc).2⟩
theorem plan_any (p:Plan) (ma:Option Addr) (mc:Nat) (fa:Option Addr) (fc:Nat) (ca:Option Addr) (cc:Nat) (w:World) (hp:PlanLies w (planC p ma mc fa fc ca cc) p ma mc fa fc ca cc) (h:Pl9 p) :
  Calls Tryz.prog 19 #[.agg #[p.name,p.cur,p.a.y,p.a.m,p.a.d,p.b.y,p.b.m,p.b.d,.slice ma p.meters.length mc,.slice fa p.fees.length fc,.slice ca p.charges.length cc,p.line,p.col]] w fun e w'=>e=.returned (.tuple #[.int .i64 (wrongOf p).1,.int .i64 (wrongOf p).2.1,.int .i64 (wrongOf p).2.2])∧Below w.heap.size w w':=by
 obtain ⟨w1,hw1⟩:∃W,W=w.alloc (.cells #[p.name,p.cur,p.a.y,p.a.m,p.a.d,p.b.y,p.b.m,p.b.d,.slice ma p.meters.length mc,.slice fa p.fees.length fc,.slice ca p.charges.length cc,p.line,p.col] 41):=⟨_,rfl⟩;have b1:Below w.heap.size w w1:=by rw [hw1];exact bel_alloc _ _
 obtain ⟨k1,hk1⟩:∃k,k=w.heap.size:=⟨_,rfl⟩;have X1:Box w1 k1 [p.name,p.cur,p.a.y,p.a.m,p.a.d,p.b.y,p.b.m,p.b.d,.slice ma p.meters.length mc,.slice fa p.fees.length fc,.slice ca p.charges.length cc,p.line,p.col]:=by rw [hw1,hk1];exact Box.new _ _ _
 obtain ⟨nM,hnM⟩:∃n,n=p.meters.length:=⟨_,rfl⟩;obtain ⟨nF,hnF⟩:∃n,n=p.fees.length:=⟨_,rfl⟩;obtain ⟨nC,hnC⟩:∃n,n=p.charges.length:=⟨_,rfl⟩;have C:Hid (∀W,Below w1.heap.size w1 W→Box W k1 [p.name,p.cur,p.a.y,p.a.m,p.a.d,p.b.y,p.b.m,p.b.d,.slice ma p.meters.length mc,.slice fa p.fees.length fc,.slice ca p.charges.length cc,p.line,p.col]):=hid fun W b=>X1.on b
 have C2:Hid (∀W,Below w1.heap.size w1 W→W.cell? ⟨k1,8,none⟩=some (.slice ma nM mc)∧W.cell? ⟨k1,9,none⟩=some (.slice fa nF fc)∧W.cell? ⟨k1,10,none⟩=some (.slice ca nC cc)∧W.cell? ⟨k1,11,none⟩=some (.int .i64 p.line)∧W.cell? ⟨k1,12,none⟩=some (.int .i64 p.col)):=hid fun W b=>by
  rw [hnM,hnF,hnC];exact ⟨(X1.on b).cell 8 _ rfl,(X1.on b).cell 9 _ rfl,(X1.on b).cell 10 _ rfl,(X1.on b).cell 11 _ rfl,(X1.on b).cell 12 _ rfl⟩
 have L0:Hid (∀W,Below w1.heap.size w1 W→PlanLies W (planC p ma mc fa fc ca cc) p ma mc fa fc ca cc∧Below w.heap.size w W):=
  hid fun W b=>⟨hp.on (bel_on b1 b),bel_on b1 b⟩
 have qM:nM≤20000:=by rw [hnM];exact h.cnt.1
 have qF:nF≤20000:=by rw [hnF];exact h.cnt.2.1
 have qC:nC≤20000:=by rw [hnC];exact h.cnt.2.2
 have uM:nM≤mc:=by rw [hnM];exact hp.meters.hcap
 have uF:nF≤fc:=by rw [hnF];exact hp.fees.hcap
 have uC:nC≤cc:=by rw [hnC];exact hp.charges.hcap
 obtain ⟨R,hR⟩:∃R,R=wrongOf p:=⟨_,rfl⟩;rw [←hR];obtain ⟨HD,hHD⟩:∃H,H=hzn p:=⟨_,rfl⟩;have HR:Hid (R=if headE p=0 then (firstE (meterE p) (fun m=>(m.line,m.col)) 0 p.meters).getD (zM p) else (headE p,p.line,p.col)):=hid (by rw [hR,wrong_getD]);have HH:Hid (headE p=if HD<1 then 5 else if 4000<HD then 6 else 0):=hid (by rw [hHD];rfl);have cM:=hid (fun (W:World) (name:ByteArray) (bw:Below w1.heap.size w1 W)=>meter_any p name ma mc fa fc ca cc W (hp.on (bel_on b1 bw)));unfold planC at cM;have cW:=hid (fun (W:World) (x:Win) (gx:WinOk x)=>window_any p x ma mc fa fc ca cc W h.gd.days gx);have cC:=hid (fun (W:World) (i:Nat) (c:Charge) (hti:p.charges[i]?=some c) (bw:Below w1.heap.size w1 W)=>charge_any p ma mc fa fc ca cc i c W (hp.on (bel_on b1 bw)) hti h.gd (by have:=h.cnt.2.2;omega) (h.parts c (List.mem_of_getElem? hti)).1);have cB:=hid (fun (W:World) (hc:Chs p) (bw:Below w1.heap.size w1 W)=>bound_any p ma mc fa fc ca cc W (hp.on (bel_on b1 bw)) hc);obtain ⟨NA,hNA⟩:∃x,x=dn p.a:=⟨_,rfl⟩;obtain ⟨NB,hNB⟩:∃x,x=dn p.b:=⟨_,rfl⟩;have cA:=fun W=>num3 p.a h.gd.days.1 W;have cE:=fun W=>num3 p.b h.gd.days.2 W;have ra:=num_range h.gd.days.1;have rb:=num_range h.gd.days.2;rw [←hNA] at cA ra;rw [←hNB] at cE rb;have eHD:HD=NB-NA+1:=by rw [hHD,hNA,hNB];rfl
 have HnM:=hid hnM;have HnF:=hid hnF;have HnC:=hid hnC;have H:=hid h;have HW:=hid hw1;have HK:=hid hk1;have d2:=X1.cell 2 _ rfl;have d3:=X1.cell 3 _ rfl;have d4:=X1.cell 4 _ rfl;have d5:=X1.cell 5 _ rfl;have d6:=X1.cell 6 _ rfl;have d7:=X1.cell 7 _ rfl;clear hR hnM hnF hnC hp b1 X1 hw1 hk1 h hHD hNA hNB;go_enter Tryz.func19,Tryz.ntmps19
 go_upto_region 1 with fail
 rw [←HW.out,←HK.out];clear HW HK;have f2:=cell_regrown d2;have f3:=cell_regrown d3;have f4:=cell_regrown d4;have f5:=cell_regrown d5;have f6:=cell_regrown d6;have f7:=cell_regrown d7;have qA:=fun d os=>Calls.regrown_of (cA (grow (redrawn w1 d) os));have qE:=fun d os=>Calls.regrown_of (cE (grow (redrawn w1 d) os));clear cA cE d2 d3 d4 d5 d6 d7;refine wp_region_quiet_below (by kernel_rfl) (by kernel_rfl) ?_;repeat (go_big_quiet_step (first|(go_at_call_of 55 (Value.agg #[p.b.y,p.b.m,p.b.d]);exact qE _ _)|(go_at_call 55;exact qA _ _)))
 refine wpQuiet_nil ?_;intro w2 hw';obtain ⟨⟨dq,osq⟩,hw''⟩:=hw';have BV:Hid (Below w1.heap.size w1 w2):=hid (by subst hw'';exact bel_on (Below.refl _ _) (below_regrown w1 dq osq));clear hw'';clear qA qE f2 f3 f4 f5 f6 f7;rw [←eHD];have hd0 : -4000000≤HD:=by omega
 have hd1:HD≤4000000:=by omega
 clear eHD ra rb;obtain ⟨c8,c9,c10,c11,c12⟩:=C2.out w2 BV.out;have k11:=cell_regrown c11;have k12:=cell_regrown c12;clear c9 c10 c11 c12;by_cases g1:HD<1
 ·have E:Hid (R=(5,p.line,p.col)):=hid (by rw [HR.out,if_neg (by rw [HH.out,if_pos g1];decide),HH.out,if_pos g1]);clear HR HH c8;have BVX:=BV;clear BV;go_upto_region 3 with fail
  refine wp_region_quiet_below (by kernel_rfl) (by kernel_rfl) ?_;repeat (go_big_quiet_step (fail))
  refine wpQuiet_nil ?_;intro w3 hw';obtain ⟨⟨dq,osq⟩,hw''⟩:=hw';have BV:Hid (Below w1.heap.size w1 w3):=hid (by subst hw'';exact bel_on BVX.out (below_regrown w2 dq osq));clear hw'';have BF:=hid (L0.out _ BV.out).2;clear k11 k12;go_wp2
  go_ret3
  exact ⟨ret_t E.out,BF.out⟩
 by_cases g2:4000<HD
 ·have E:Hid (R=(6,p.line,p.col)):=hid (by rw [HR.out,if_neg (by rw [HH.out,if_neg g1,if_pos g2];decide),HH.out,if_neg g1,if_pos g2]);clear HR HH c8;have BVX:=BV;clear BV;go_upto_region 5 with fail
  refine wp_region_quiet_below (by kernel_rfl) (by kernel_rfl) ?_;repeat (go_big_quiet_step (fail))
  refine wpQuiet_nil ?_;intro w3 hw';obtain ⟨⟨dq,osq⟩,hw''⟩:=hw';have BV:Hid (Below w1.heap.size w1 w3):=hid (by subst hw'';exact bel_on BVX.out (below_regrown w2 dq osq));clear hw'';have BF:=hid (L0.out _ BV.out).2;clear k11 k12;go_wp2
  go_ret3
  exact ⟨ret_t E.out,BF.out⟩
 have E0:Hid (R=(firstE (meterE p) (fun m=>(m.line,m.col)) 0 (p.meters.drop 0)).getD (zM p)):=hid (by rw [HR.out,if_pos (by rw [HH.out,if_neg g1,if_neg g2]),List.drop_zero]);have B2:=BV;clear HR HH k11 k12 BV;go_wp2;clear c8;go_loopw [38] (fun i wx=>∃(i':Nat),i=.int .i64 (i':Int)∧i'≤nM∧Hid (R=(firstE (meterE p) (fun m=>(m.line,m.col)) i' (p.meters.drop i')).getD (zM p))∧Hid (Below w1.heap.size w1 wx)) (fun i _=>nM-(intOf i).toNat)
 case atStart=>exact ⟨0,rfl,Nat.zero_le _,E0,B2⟩
 case round=>
  clear E0 B2;obtain ⟨i',rfl,hi,hE,hB⟩:=hrel;by_cases hlt:i'<nM
  ·obtain ⟨x,hti⟩:∃m,p.meters[i']?=some m:=⟨_,List.getElem?_eq_getElem (by have:=HnM.out;omega)⟩;have ST:=hid (firstE_step (f:=meterE p) (pl:=fun m=>(m.line,m.col)) hti);obtain ⟨b,o,e,lb,a0,a1,a2,a3,a4,_⟩:=meter_at (L0.out _ hB.out).1.meters hti;obtain ⟨wt,hwt⟩:∃W,W=wr.alloc (.cells #[x.name,x.unit,x.max,x.line,x.col] 49):=⟨_,rfl⟩;have xt:Box wt wr.heap.size [x.name,x.unit,x.max,x.line,x.col]:=by rw [hwt];exact Box.new _ _ _
   have bt:Below wr.heap.size wr wt:=by rw [hwt];exact bel_alloc _ _
   have BT:=hid (bel_on hB.out bt);obtain ⟨kx,hkx⟩:∃k,k=wr.heap.size:=⟨_,rfl⟩;rw [←hkx] at xt;have XT:=hid xt;have HWT:=hid hwt;have HKX:=hid hkx;clear hti xt hwt bt hkx hB;subst e;go_upto_region 9 with fail
   rw [←HWT.out,←HKX.out];clear HWT HKX a0 a1 a2 a3 a4 lb;have Y:=XT;have BW:=BT;by_cases g4:4≤i'
   ·have E:Hid (R=(6,x.line,x.col)):=hid (by rw [hE.out,ST.out];unfold meterE;rw [if_pos g4,if_neg (by decide)];rfl);have h4:(4:Int)≤(i':Int):=by omega
    clear hE ST;have t1:=cell_regrown (Y.out.cell 3 _ rfl);have t2:=cell_regrown (Y.out.cell 4 _ rfl);go_upto_region 10 with fail
    refine wp_region_quiet_below (by kernel_rfl) (by kernel_rfl) ?_;repeat (go_big_quiet_step (fail))
    refine wpQuiet_nil ?_;intro wv hw';obtain ⟨⟨dq,osq⟩,hw''⟩:=hw';have BV:Hid (Below w1.heap.size w1 wv):=hid (by subst hw'';exact bel_on BW.out (below_regrown wt dq osq));clear hw'';have BF:=hid (L0.out _ BV.out).2;clear t1 t2 BV;go_wp2
    go_ret3
    exact ⟨ret_t E.out,BF.out⟩
   have h4:(i':Int)<4:=by omega
   have RP:=hid (range_of (C.out wt BT.out).cell);have d0:=Y.out.cell 0 _ rfl;have cMx:=cM.out wt x.name BT.out;obtain ⟨IX,hIX⟩:∃z,z=mix p.meters x.name:=⟨_,rfl⟩;rw [←hIX] at cMx;have HIX:=hid hIX;clear hIX Y BW;go_wp2_with (first|(with_reducible refine wpList_load_mid (op:=Oper.mk (some 49) (Op.load 41 (Operand.tmp 1)) _ _ _ _) ?_ 41 (.tmp 1) ?_ k1 0 ?_ [p.name,p.cur,p.a.y,p.a.m,p.a.d,p.b.y,p.b.m,p.b.d,.slice (some ⟨b,o,none⟩) p.meters.length mc,.slice fa p.fees.length fc,.slice ca p.charges.length cc,p.line,p.col] _ RP.out Tryz.underlying41 ?_ ?_ ?_;rfl;rfl;go_simp;rfl;kernel_rfl)|fail)
   refine cMx.mono ?_;rintro e wu ⟨rfl,bu⟩;have Y:=hid (XT.out.on bu);have BW:=hid (bel_on BT.out bu);clear bu cMx d0 RP XT BT;by_cases gx:IX=(i':Int)
   ·have E:Hid (R=(firstE (meterE p) (fun m=>(m.line,m.col)) (i'+1) (p.meters.drop (i'+1))).getD (zM p)):=hid (by rw [hE.out,ST.out,if_pos];unfold meterE;rw [if_neg g4,if_pos (mix_some.1 (by rw [←HIX.out,gx]))]);clear hE ST HIX;subst gx;go_wp2;go_roundw
    case rel=>exact ⟨i'+1,by simp,by omega,E,BW⟩
    case measure=>simp [intOf];omega
   ·have mE:meterE p i' x=5:=by unfold meterE;rw [if_neg g4,if_neg (fun h=>gx (by rw [HIX.out];exact mix_some.2 h))]
    have E:Hid (R=(5,x.line,x.col)):=hid (by rw [hE.out,ST.out,mE,if_neg (by decide)];rfl);have gb:(IX==(i':Int))=false:=by simpa using gx
    clear hE ST HIX mE;have t1:=cell_regrown (Y.out.cell 3 _ rfl);have t2:=cell_regrown (Y.out.cell 4 _ rfl);go_upto_region 12 with fail
    refine wp_region_quiet_below (by kernel_rfl) (by kernel_rfl) ?_;repeat (go_big_quiet_step (fail))
    refine wpQuiet_nil ?_;intro wv hw';obtain ⟨⟨dq,osq⟩,hw''⟩:=hw';have BV:Hid (Below w1.heap.size w1 wv):=hid (by subst hw'';exact bel_on BW.out (below_regrown wu dq osq));clear hw'';have BF:=hid (L0.out _ BV.out).2;clear t1 t2 BV;go_wp2
    go_ret3
    exact ⟨ret_t E.out,BF.out⟩
  ·obtain rfl:i'=nM:=by omega
   have E0:Hid (R=(firstE (feeE p) (fun m=>(m.line,m.col)) 0 (p.fees.drop 0)).getD (zF9 p)):=hid (by rw [hE.out,firstE_end (by have:=HnM.out;omega),List.drop_zero];rfl);obtain ⟨c8,c9,c10,c11,c12⟩:=C2.out _ hB.out;clear c8 c10 c11 c12 hE hlt hi;obtain ⟨wq,hwq⟩:∃W,W=wr:=⟨_,rfl⟩;rw [←hwq] at hB c9 ⊢;have B2:=hB;clear hwq hB;go_wp2;clear c9;go_loopw [63] (fun i wx=>∃(j':Nat),i=.int .i64 (j':Int)∧j'≤nF∧Hid (R=(firstE (feeE p) (fun m=>(m.line,m.col)) j' (p.fees.drop j')).getD (zF9 p))∧Hid (Below w1.heap.size w1 wx)) (fun i _=>nF-(intOf i).toNat)
   case atStart=>exact ⟨0,rfl,Nat.zero_le _,E0,B2⟩
   case round=>
    clear E0 B2;obtain ⟨j',rfl,hi,hE,hB⟩:=hrel;by_cases hlt:j'<nF
    ·obtain ⟨x,hti⟩:∃m,p.fees[j']?=some m:=⟨_,List.getElem?_eq_getElem (by have:=HnF.out;omega)⟩;have ST:=hid (firstE_step (f:=feeE p) (pl:=fun m=>(m.line,m.col)) hti);have gx:=(H.out.gd.fees x (List.mem_of_getElem? hti)).2;obtain ⟨b,o,e,lb,a0,a1,a2,a3,a4,a5,a6,a7,a8,a9,_⟩:=fee_at (L0.out _ hB.out).1.fees hti;obtain ⟨wt,hwt⟩:∃W,W=wr.alloc (.cells #[x.amount,x.win.has,x.win.a.y,x.win.a.m,x.win.a.d,x.win.b.y,x.win.b.m,x.win.b.d,x.line,x.col] 53):=⟨_,rfl⟩;have xt:Box wt wr.heap.size [x.amount,x.win.has,x.win.a.y,x.win.a.m,x.win.a.d,x.win.b.y,x.win.b.m,x.win.b.d,x.line,x.col]:=by rw [hwt];exact Box.new _ _ _
     have bt:Below wr.heap.size wr wt:=by rw [hwt];exact bel_alloc _ _
     have BT:=hid (bel_on hB.out bt);obtain ⟨kx,hkx⟩:∃k,k=wr.heap.size:=⟨_,rfl⟩;rw [←hkx] at xt;have XT:=hid xt;have HWT:=hid hwt;have HKX:=hid hkx;have cWx:=cW.out wt x.win gx;clear hti xt hwt bt hkx hB gx;subst e;go_upto_region 17 with fail
     rw [←HWT.out,←HKX.out];clear HWT HKX a0 a1 a2 a3 a4 a5 a6 a7 a8 a9 lb;have Y:=XT;have BW:=BT;by_cases g4:8≤j'
     ·have E:Hid (R=(6,x.line,x.col)):=hid (by rw [hE.out,ST.out];unfold feeE;rw [if_pos g4,if_neg (by decide)];rfl);have h4:(8:Int)≤(j':Int):=by omega
      clear hE ST cWx;have t1:=cell_regrown (Y.out.cell 8 _ rfl);have t2:=cell_regrown (Y.out.cell 9 _ rfl);go_upto_region 18 with fail
      refine wp_region_quiet_below (by kernel_rfl) (by kernel_rfl) ?_;repeat (go_big_quiet_step (fail))
      refine wpQuiet_nil ?_;intro wv hw';obtain ⟨⟨dq,osq⟩,hw''⟩:=hw';have BV:Hid (Below w1.heap.size w1 wv):=hid (by subst hw'';exact bel_on BW.out (below_regrown wt dq osq));clear hw'';have BF:=hid (L0.out _ BV.out).2;clear t1 t2 BV;go_wp2
      go_ret3
      exact ⟨ret_t E.out,BF.out⟩
     have h4:(j':Int)<8:=by omega
     have RP:=hid (range_of (C.out wt BT.out).cell);have d1:=Y.out.cell 1 _ rfl;have d2:=Y.out.cell 2 _ rfl;have d3:=Y.out.cell 3 _ rfl;have d4:=Y.out.cell 4 _ rfl;have d5:=Y.out.cell 5 _ rfl;have d6:=Y.out.cell 6 _ rfl;have d7:=Y.out.cell 7 _ rfl;obtain ⟨WB,hWB⟩:∃z,z=winIn p x.win:=⟨_,rfl⟩;rw [←hWB] at cWx;have HWB:=hid hWB;clear hWB Y BW;go_wp2_with (first|(with_reducible refine wpList_load_mid (op:=Oper.mk (some 74) (Op.load 41 (Operand.tmp 1)) _ _ _ _) ?_ 41 (.tmp 1) ?_ k1 0 ?_ [p.name,p.cur,p.a.y,p.a.m,p.a.d,p.b.y,p.b.m,p.b.d,.slice ma p.meters.length mc,.slice (some ⟨b,o,none⟩) p.fees.length fc,.slice ca p.charges.length cc,p.line,p.col] _ RP.out Tryz.underlying41 ?_ ?_ ?_;rfl;rfl;go_simp;rfl;kernel_rfl)|fail)
     refine cWx.mono ?_;rintro e wu ⟨rfl,bu⟩;have Y:=hid (XT.out.on bu);have BW:=hid (bel_on BT.out bu);clear bu cWx d1 d2 d3 d4 d5 d6 d7 RP XT BT;by_cases gx:WB=true
     ·have E:Hid (R=(firstE (feeE p) (fun m=>(m.line,m.col)) (j'+1) (p.fees.drop (j'+1))).getD (zF9 p)):=hid (by rw [hE.out,ST.out,if_pos];unfold feeE;rw [if_neg g4,if_pos (by rw [←HWB.out,gx])]);clear hE ST HWB;subst gx;go_wp2;go_roundw
      case rel=>exact ⟨j'+1,by simp,by omega,E,BW⟩
      case measure=>simp [intOf];omega
     ·have mE:feeE p j' x=5:=by unfold feeE;rw [if_neg g4,if_neg (by rw [←HWB.out];exact gx)]
      have E:Hid (R=(5,x.line,x.col)):=hid (by rw [hE.out,ST.out,mE,if_neg (by decide)];rfl);obtain rfl:WB=false:=by simpa using gx
      clear hE ST HWB mE gx;have t1:=cell_regrown (Y.out.cell 8 _ rfl);have t2:=cell_regrown (Y.out.cell 9 _ rfl);go_upto_region 20 with fail
      refine wp_region_quiet_below (by kernel_rfl) (by kernel_rfl) ?_;repeat (go_big_quiet_step (fail))
      refine wpQuiet_nil ?_;intro wv hw';obtain ⟨⟨dq,osq⟩,hw''⟩:=hw';have BV:Hid (Below w1.heap.size w1 wv):=hid (by subst hw'';exact bel_on BW.out (below_regrown wu dq osq));clear hw'';have BF:=hid (L0.out _ BV.out).2;clear t1 t2 BV;go_wp2
      go_ret3
      exact ⟨ret_t E.out,BF.out⟩
    ·obtain rfl:j'=nF:=by omega
     have E0:Hid (R=(firstE (chE p) (fun m=>(m.line,m.col)) 0 (p.charges.drop 0)).getD (zC p)):=hid (by rw [hE.out,firstE_end (by have:=HnF.out;omega),List.drop_zero];rfl);have E00:Hid (firstE (chE p) (fun m=>(m.line,m.col)) 0 (p.charges.drop 0)=firstE (chE p) (fun m=>(m.line,m.col)) 0 p.charges):=hid (by rw [List.drop_zero]);obtain ⟨c8,c9,c10,c11,c12⟩:=C2.out _ hB.out;clear c8 c9 c11 c12 hE hlt hi;obtain ⟨wz,hwz⟩:∃W,W=wr:=⟨_,rfl⟩;rw [←hwz] at hB c10 ⊢;have B2:=hB;clear hwz hB;go_wp2;clear c10;go_loopw [87] (fun i wx=>∃(l':Nat),i=.int .i64 (l':Int)∧l'≤nC∧Hid (R=(firstE (chE p) (fun m=>(m.line,m.col)) l' (p.charges.drop l')).getD (zC p))∧Hid (firstE (chE p) (fun m=>(m.line,m.col)) l' (p.charges.drop l')=firstE (chE p) (fun m=>(m.line,m.col)) 0 p.charges)∧Hid (Below w1.heap.size w1 wx)) (fun i _=>nC-(intOf i).toNat)
     case atStart=>exact ⟨0,rfl,Nat.zero_le _,E0,E00,B2⟩
     case round=>
      clear E0 E00 B2;obtain ⟨l',rfl,hi,hE,hF,hB⟩:=hrel;by_cases hlt:l'<nC
      ·obtain ⟨x,hti⟩:∃m,p.charges[l']?=some m:=⟨_,List.getElem?_eq_getElem (by have:=HnC.out;omega)⟩;have ST:=hid (firstE_step (f:=chE p) (pl:=fun m=>(m.line,m.col)) hti);obtain ⟨b,o,ta,tc,aa,ac,e,ax,lx0⟩:=charge_at (L0.out _ hB.out).1.charges hti;have r1:=hid (range_ch ax);unfold chargeC at r1;obtain ⟨wt,hwt⟩:∃W,W=wr.alloc (.cells #[x.meter,x.win.has,x.win.a.y,x.win.a.m,x.win.a.d,x.win.b.y,x.win.b.m,x.win.b.d,x.allowance,x.block,x.kind,.slice ta x.tiers.length tc,x.mode,.slice aa x.adjusts.length ac,x.line,x.col] 57):=⟨_,rfl⟩;have xt:Box wt wr.heap.size [x.meter,x.win.has,x.win.a.y,x.win.a.m,x.win.a.d,x.win.b.y,x.win.b.m,x.win.b.d,x.allowance,x.block,x.kind,.slice ta x.tiers.length tc,x.mode,.slice aa x.adjusts.length ac,x.line,x.col]:=by rw [hwt];exact Box.new _ _ _
       have bt:Below wr.heap.size wr wt:=by rw [hwt];exact bel_alloc _ _
       have BT:=hid (bel_on hB.out bt);obtain ⟨kx,hkx⟩:∃k,k=wr.heap.size:=⟨_,rfl⟩;rw [←hkx] at xt;have XT:=hid xt;have HWT:=hid hwt;have HKX:=hid hkx;have cCx:=cC.out wt l' x hti BT.out;clear hti xt hwt bt hkx hB ax lx0;subst e
       go_upto_region 25 with (first
        | (with_reducible refine wpList_load_mid (op:=Oper.mk (some 91) (Op.load 57 (Operand.tmp 90)) _ _ _ _) ?_ 57 (.tmp 90) ?_ b (o+l'*16) ?_ [x.meter,x.win.has,x.win.a.y,x.win.a.m,x.win.a.d,x.win.b.y,x.win.b.m,x.win.b.d,x.allowance,x.block,x.kind,.slice ta x.tiers.length tc,x.mode,.slice aa x.adjusts.length ac,x.line,x.col] _ r1.out Tryz.underlying57 ?_ ?_ ?_;rfl;rfl;go_simp;rfl;kernel_rfl)
        | (with_reducible refine wpList_store_new (op:=Oper.mk none (Op.store 57 (Operand.tmp 11) (Operand.tmp 91)) _ _ _ _) ?_ 57 (.tmp 11) (.tmp 91) ?_ wr _ #[x.meter,x.win.has,x.win.a.y,x.win.a.m,x.win.a.d,x.win.b.y,x.win.b.m,x.win.b.d,x.allowance,x.block,x.kind,.slice ta x.tiers.length tc,x.mode,.slice aa x.adjusts.length ac,x.line,x.col] ?_ ?_ ?_ ?_ ?_ ?_;rfl;rfl;go_simp;go_simp;kernel_rfl;rfl;(simp [Value.oneCell']))
        | fail)
       rw [←HWT.out,←HKX.out];clear HWT HKX r1;have RP:=hid (range_of (C.out wt BT.out).cell);obtain ⟨CE,hCE⟩:∃z,z=chE p l' x:=⟨_,rfl⟩;rw [←hCE] at cCx ST;clear hCE;go_wp2_with (first|(with_reducible refine wpList_load_mid (op:=Oper.mk (some 92) (Op.load 41 (Operand.tmp 1)) _ _ _ _) ?_ 41 (.tmp 1) ?_ k1 0 ?_ [p.name,p.cur,p.a.y,p.a.m,p.a.d,p.b.y,p.b.m,p.b.d,.slice ma p.meters.length mc,.slice fa p.fees.length fc,.slice (some ⟨b,o,none⟩) p.charges.length cc,p.line,p.col] _ RP.out Tryz.underlying41 ?_ ?_ ?_;rfl;rfl;go_simp;rfl;kernel_rfl)|fail)
       refine cCx.mono ?_;rintro e wu ⟨rfl,bu⟩;have Y:=hid (XT.out.on bu);have BW:=hid (bel_on BT.out bu);clear bu cCx RP XT BT;by_cases gx:CE=0
       ·have E:Hid (R=(firstE (chE p) (fun m=>(m.line,m.col)) (l'+1) (p.charges.drop (l'+1))).getD (zC p)):=hid (by rw [hE.out,ST.out,if_pos gx]);have F:Hid (firstE (chE p) (fun m=>(m.line,m.col)) (l'+1) (p.charges.drop (l'+1))=firstE (chE p) (fun m=>(m.line,m.col)) 0 p.charges):=hid (by rw [←hF.out,ST.out,if_pos gx]);clear hE hF ST;subst gx;go_wp2;go_roundw
        case rel=>exact ⟨l'+1,by simp,by omega,E,F,BW⟩
        case measure=>simp [intOf];omega
       ·have E:Hid (R=(CE,x.line,x.col)):=hid (by rw [hE.out,ST.out,if_neg gx];rfl);have gb:(CE==0)=false:=by simpa using gx
        clear hE hF ST;have t1:=cell_regrown (Y.out.cell 14 _ rfl);have t2:=cell_regrown (Y.out.cell 15 _ rfl);go_upto_region 27 with fail
        refine wp_region_quiet_below (by kernel_rfl) (by kernel_rfl) ?_;repeat (go_big_quiet_step (fail))
        refine wpQuiet_nil ?_;intro wv hw';obtain ⟨⟨dq,osq⟩,hw''⟩:=hw';have BV:Hid (Below w1.heap.size w1 wv):=hid (by subst hw'';exact bel_on BW.out (below_regrown wu dq osq));clear hw'';have BF:=hid (L0.out _ BV.out).2;clear t1 t2 BV;go_wp2
        go_ret3
        exact ⟨ret_t E.out,BF.out⟩
      ·obtain rfl:l'=nC:=by omega
       have EN:firstE (chE p) (fun m=>(m.line,m.col)) 0 p.charges=none:=by rw [←hF.out,firstE_end (by have:=HnC.out;omega)]
       have E0:Hid (R=zC p):=hid (by rw [hE.out,firstE_end (by have:=HnC.out;omega)];rfl);have cBx:=cB.out wr (chs_of H.out EN) hB.out;have RP:=hid (range_of (C.out _ hB.out).cell);obtain ⟨O,hO⟩:∃O,O=boundOf p:=⟨_,rfl⟩;rw [←hO] at cBx;have E1:Hid (R=if O=none then (6,p.line,p.col) else (0,0,0)):=hid (by rw [E0.out,hO];rfl);obtain ⟨XV,hXV⟩:∃x,x=O.getD 0:=⟨_,rfl⟩;obtain ⟨XB,hXB⟩:∃x,x=O.isSome:=⟨_,rfl⟩;rw [←hXV,←hXB] at cBx;have HXB:=hid hXB;clear EN E0 hO hE hF hlt hi hXV hXB;go_wp2_with (first|(with_reducible refine wpList_load_mid (op:=Oper.mk (some 104) (Op.load 41 (Operand.tmp 1)) _ _ _ _) ?_ 41 (.tmp 1) ?_ k1 0 ?_ [p.name,p.cur,p.a.y,p.a.m,p.a.d,p.b.y,p.b.m,p.b.d,.slice ma p.meters.length mc,.slice fa p.fees.length fc,.slice ca p.charges.length cc,p.line,p.col] _ RP.out Tryz.underlying41 ?_ ?_ ?_;rfl;rfl;go_simp;rfl;kernel_rfl)|fail)
       refine cBx.mono ?_;rintro e wu ⟨rfl,bu⟩;have BW:=hid (bel_on hB.out bu);have Y:=hid (C.out _ BW.out);clear bu cBx RP hB;by_cases gx:XB=false
       ·have E:Hid (R=(6,p.line,p.col)):=hid (by rw [E1.out,if_pos];have:=HXB.out;rw [gx] at this;cases O with|none=>rfl|some y=>cases this);subst gx;clear E1 HXB;have t1:=cell_regrown (Y.out.cell 11 _ rfl);have t2:=cell_regrown (Y.out.cell 12 _ rfl);go_upto_region 31 with fail
        refine wp_region_quiet_below (by kernel_rfl) (by kernel_rfl) ?_;repeat (go_big_quiet_step (fail))
        refine wpQuiet_nil ?_;intro wv hw';obtain ⟨⟨dq,osq⟩,hw''⟩:=hw';have BV:Hid (Below w1.heap.size w1 wv):=hid (by subst hw'';exact bel_on BW.out (below_regrown wu dq osq));clear hw'';have BF:=hid (L0.out _ BV.out).2;clear t1 t2 BV;go_wp2
        go_ret3
        exact ⟨ret_t E.out,BF.out⟩
       obtain rfl:XB=true:=by simpa using gx
       have E:Hid (R=(0,0,0)):=hid (by rw [E1.out,if_neg];intro hn;have:=HXB.out;rw [hn] at this;cases this);have BF:=hid (L0.out _ BW.out).2;clear E1 HXB;go_wp2
       go_ret3
       exact ⟨ret_t E.out,BF.out⟩
end R9
namespace P
open Go.RowKit Go.Sort Mm R6
theorem kle_tr {a b c:ByteArray} (h:klt b a=false) (k:klt c b=false):klt c a=false:=by
 rcases Bool.eq_false_or_eq_true (klt c a) with q|q
 ·rcases Decidable.em (b=a) with e|e
  ·subst e;rw [q] at k;cases k
  ·have:=klt_tr q (klt_tot h e);rw [this] at k;cases k
 ·exact q
theorem rising_pair:∀l:List ByteArray,L06.Rising l→l.Pairwise fun a b=>klt b a=false
 | [],_=>List.Pairwise.nil
 | [a],_=>List.pairwise_singleton ..
 | a::b::r,h=>by
   have ih:=rising_pair (b::r) (fun i x y hx hy=>h (i+1) x y (by simpa using hx) (by simpa using hy));have h0:=h 0 a b rfl rfl;rw [klt_eq] at h0;refine List.pairwise_cons.2 ⟨fun c hc=>?_,ih⟩;rcases List.mem_cons.1 hc with rfl|hc
   ·exact h0
   ·exact kle_tr h0 (List.rel_of_pairwise_cons ih hc)
theorem names_srt {ms:List Meter} {l:List ByteArray} (h:Apart ms) (hp:l.Perm (ms.map fun m=>m.name)) (hr:L06.Rising l):l=(srt ms).map fun m=>m.name:=by
 have hn:l.Pairwise fun a b=>a≠b:=by
  have:(ms.map fun m=>m.name).Pairwise fun a b=>a≠b:=by
   rw [List.pairwise_map];exact h
  exact hp.symm.pairwise this (fun a=>a.symm)
 have hl:l.Pairwise fun a b=>klt a b=true:=by
  have h1:=rising_pair l hr;rw [List.pairwise_iff_getElem] at h1 hn ⊢;intro i j hi hj hij;exact klt_tot (h1 i j hi hj hij) (Ne.symm (hn i j hi hj hij))
 refine perm_one (r:=fun a b=>klt a b=true) (fun x y a b=>by rw [klt_as a] at b;cases b) _ _ ?_ hl ?_
 ·refine hp.trans ?_;have:=(srt_perm ms).map (fun m:Meter=>m.name);rw [List.map_map] at this;exact this.symm
 ·rw [List.pairwise_map];exact srt_asc h
theorem name_at {ms:List Meter} {l:List ByteArray} (h:Apart (ms.map nM)) (hp:l.Perm ((ms.map nM).map fun m=>m.name)) (hr:L06.Rising l) {i:Nat} {n:ByteArray} (hi:l[i]?=some n) :
  ∃j x,(ms.map nM)[j]?=some x∧meterIx (ms.map nM) n=some j∧(srt (ms.map nM))[i]?=some x:=by
 rw [names_srt h hp hr,List.getElem?_map] at hi;obtain ⟨x,hx,rfl⟩:=Option.map_eq_some_iff.1 hi
 have hm:x∈ms.map nM:=by
  have:=(srt_perm (ms.map nM)).mem_iff.1 (List.mem_of_getElem? hx)
  rwa [nM_nM] at this
 obtain ⟨j,hj,e⟩:=List.getElem_of_mem hm;have hj':(ms.map nM)[j]?=some x:=by rw [List.getElem?_eq_getElem hj,e]
 exact ⟨j,x,hj',ix_of h hj',hx⟩
theorem ix_mem {ms:List Meter} {n:ByteArray} : (∃i,meterIx ms n=some i)↔∃m∈ms,m.name=n:=by
 constructor
 ·rintro ⟨i,hi⟩;obtain ⟨m,hm,e⟩:=ix_some hi;exact ⟨m,List.mem_of_getElem? hm,e⟩
 ·rintro ⟨m,hm,e⟩;cases hx:meterIx ms n with
  | some i=>exact ⟨i,rfl⟩
  | none=>
    unfold meterIx at hx;rw [List.findIdx?_eq_none_iff] at hx;have:=hx m hm;rw [e] at this;simp at this
theorem ix_srt {ms:List Meter} {n:ByteArray} (h:∃i,meterIx ms n=some i):∃i,meterIx (srt ms) n=some i:=by
 obtain ⟨m,hm,e⟩:=ix_mem.1 h;refine ix_mem.2 ⟨nM m,(srt_perm ms).mem_iff.2 (List.mem_map.2 ⟨m,hm,rfl⟩),e⟩
theorem ix_lt {ms:List Meter} {n:ByteArray} {i:Nat} (h:meterIx ms n=some i):i<ms.length:=by
 obtain ⟨m,hm,_⟩:=ix_some h;exact (List.getElem?_eq_some_iff.1 hm).1
theorem mix_at {ms:List Meter} {n:ByteArray} {i:Nat} (h:meterIx ms n=some i):mix ms n=i:=by
 unfold mix;rw [h]
theorem findM_ix {p:Plan} {n:ByteArray} {i:Nat} (h:meterIx p.meters n=some i):L06.findM p n=i:=by
 obtain ⟨m,hm,e⟩:=ix_some h;unfold meterIx at h;obtain ⟨hi,h1,h2⟩:=List.findIdx?_eq_some_iff_getElem.1 h;unfold L06.findM
 have:p.meters.findIdx? (fun m=>decide (m.name=n))=some i:=by
  rw [List.findIdx?_eq_some_iff_getElem];refine ⟨hi,?_,fun j hj=>?_⟩
  ·have:=(List.getElem?_eq_some_iff.1 hm).2;rw [this];simpa using e
  ·have:=h2 j hj;simp only [Bool.not_eq_true,decide_eq_false_iff_not] at this ⊢;intro e2;rw [e2] at this;simp at this
 rw [this]
end P
namespace P
open Go.RowKit
def Cells (w:World) (b off:Nat) (xs:List Int):Prop:=∀i,i<xs.length→w.cell? ⟨b,off+i,none⟩=some (.int .i64 (xs.getD i 0))
def sumTo (t:Int):List Int→Int×Bool
 | []=>(t,true)
 | x::r=>if ok64 (t+x)=true then sumTo (t+x) r else (0,false)
theorem drop_step {xs:List Int} {k:Nat} (h:k<xs.length):xs.drop k=xs.getD k 0::xs.drop (k+1):=by
 rw [List.drop_eq_getElem_cons h,List.getD_eq_getElem?_getD,List.getElem?_eq_getElem h];rfl
def bestOf (lt:Int→Int→Bool) (m:Int):List Int→Int
 | []=>m
 | x::r=>bestOf lt (if lt x m=true then x else m) r
def ltB (a b:Int):Bool:=decide (a<b)
def gtB (a b:Int):Bool:=decide (b<a)
theorem bestOf_end (lt:Int→Int→Bool) (m:Int) {xs:List Int} {k:Nat} (h:xs.length≤k):bestOf lt m (xs.drop k)=m:=by
 rw [List.drop_eq_nil_of_le h];rfl
theorem bestOf_yes {lt:Int→Int→Bool} {m:Int} {xs:List Int} {k:Nat} (h:k<xs.length) (hi:lt (xs.getD k 0) m=true):bestOf lt m (xs.drop k)=bestOf lt (xs.getD k 0) (xs.drop (k+1)):=by
 rw [drop_step h];simp only [bestOf,if_pos hi]
theorem bestOf_no {lt:Int→Int→Bool} {m:Int} {xs:List Int} {k:Nat} (h:k<xs.length) (hi:lt (xs.getD k 0) m=false):bestOf lt m (xs.drop k)=bestOf lt m (xs.drop (k+1)):=by
 rw [drop_step h];simp only [bestOf,hi];rfl
end P
namespace Ex
open Go.RowKit P
theorem least_better (a b:Int) (w:World) :
  Calls Tryz.prog 231 #[.int .i64 a,.int .i64 b] w fun e w'=>e=.returned (.bool (ltB a b))∧w=w':=by
 go_enter Tryz.func231,Tryz.ntmps231
 go_wp2;go_ret;exact ⟨rfl,rfl⟩
theorem most_better (a b:Int) (w:World) :
  Calls Tryz.prog 232 #[.int .i64 a,.int .i64 b] w fun e w'=>e=.returned (.bool (gtB a b))∧w=w':=by
 go_enter Tryz.func232,Tryz.ntmps232
 go_wp2;go_ret;exact ⟨rfl,rfl⟩
theorem best_many_least (b off cap:Nat) (x:Int) (r:List Int) (w:World) (hc:Cells w b off (x::r)) (hl:r.length≤1000000) (_hcap:r.length+1≤cap) (h1:¬ cap=1) :
  Calls Tryz.prog 230 #[.func (.func 231) #[] #[],.slice (some ⟨b,off,none⟩) (r.length+1) cap] w fun e w'=>e=.returned (.tuple #[.int .i64 (bestOf ltB x r),.bool true])∧w=w':=by
 have HC:Hid (Cells w b (off+1) r):=fun i hi=>by
  have:=hc (i+1) (by simpa using hi);rw [show off+(i+1)=off+1+i by omega] at this;simpa using this
 have hc0:w.cell? ⟨b,off,none⟩=some (.int .i64 x):=hc 0 (by simp);clear hc;have e0:(((r.length:Nat):Int)+1==0)=false:=by simp;omega
 go_enter Tryz.func230,Tryz.ntmps230
 go_wp2
 go_loop [6,18] (fun t i=>∃k:Nat,∃n:Int,k≤r.length∧i=.int .i64 k∧t=.int .i64 n∧Hid (bestOf ltB x r=bestOf ltB n (r.drop k))) (fun _ i=>r.length-(intOf i).toNat)
 case atStart=>exact ⟨0,x,Nat.zero_le _,rfl,rfl,rfl⟩
 case round=>
  obtain ⟨k,n,hk,rfl,rfl,H⟩:=hrel;by_cases hlt:k<r.length
  ·have hcell:=HC.out k hlt;generalize hv:r.getD k 0=v at *;have HV:=hid hv;clear hv;rcases Bool.eq_false_or_eq_true (ltB v n) with hb|hb
   ·have HB:=hid hb;clear hb;go_wp2_with fail
    refine (least_better _ _ _).mono ?_;rintro e w' ⟨rfl,rfl⟩;rw [HB.out];go_wp2
    go_round
    case rel=>exact ⟨k+1,v,by omega,by go_num,rfl,by show _=_;rw [H.out,bestOf_yes hlt (by rw [HV.out];exact HB.out),HV.out]⟩
    case measure=>simp [intOf];omega
   ·have HB:=hid hb;clear hb;go_wp2_with fail
    refine (least_better _ _ _).mono ?_;rintro e w' ⟨rfl,rfl⟩;rw [HB.out];go_wp2
    go_round
    case rel=>exact ⟨k+1,n,by omega,by go_num,rfl,by show _=_;rw [H.out,bestOf_no hlt (by rw [HV.out];exact HB.out)]⟩
    case measure=>simp [intOf];omega
  ·go_wp2;go_ret2;exact ⟨ret_2 (by rw [H.out];exact (bestOf_end ltB n (by omega)).symm) rfl,rfl⟩
theorem best_one_least (b off:Nat) (x:Int) (w:World) (hc0:w.cell? ⟨b,off,none⟩=some (.int .i64 x)) :
  Calls Tryz.prog 230 #[.func (.func 231) #[] #[],.slice (some ⟨b,off,none⟩) 1 1] w fun e w'=>e=.returned (.tuple #[.int .i64 x,.bool true])∧w=w':=by
 go_enter Tryz.func230,Tryz.ntmps230
 go_wp2;refine wp_loop_rounds 1 ?_;rw [rounds_succ];go_wp2;go_ret2;exact ⟨rfl,rfl⟩
theorem best_any_least (b off cap:Nat) (x:Int) (r:List Int) (w:World) (hc:Cells w b off (x::r)) (hl:r.length≤1000000) (hcap:r.length+1≤cap) :
  Calls Tryz.prog 230 #[.func (.func 231) #[] #[],.slice (some ⟨b,off,none⟩) (r.length+1) cap] w fun e w'=>e=.returned (.tuple #[.int .i64 (bestOf ltB x r),.bool true])∧w=w':=by
 by_cases h1:cap=1
 ·have hr:r=[]:=List.eq_nil_of_length_eq_zero (by omega);subst h1 hr;exact best_one_least b off x w (hc 0 (by simp))
 ·exact best_many_least b off cap x r w hc hl hcap h1
theorem best_many_most (b off cap:Nat) (x:Int) (r:List Int) (w:World) (hc:Cells w b off (x::r)) (hl:r.length≤1000000) (_hcap:r.length+1≤cap) (h1:¬ cap=1) :
  Calls Tryz.prog 230 #[.func (.func 232) #[] #[],.slice (some ⟨b,off,none⟩) (r.length+1) cap] w fun e w'=>e=.returned (.tuple #[.int .i64 (bestOf gtB x r),.bool true])∧w=w':=by
 have HC:Hid (Cells w b (off+1) r):=fun i hi=>by
  have:=hc (i+1) (by simpa using hi);rw [show off+(i+1)=off+1+i by omega] at this;simpa using this
 have hc0:w.cell? ⟨b,off,none⟩=some (.int .i64 x):=hc 0 (by simp);clear hc;have e0:(((r.length:Nat):Int)+1==0)=false:=by simp;omega
 go_enter Tryz.func230,Tryz.ntmps230
 go_wp2
 go_loop [6,18] (fun t i=>∃k:Nat,∃n:Int,k≤r.length∧i=.int .i64 k∧t=.int .i64 n∧Hid (bestOf gtB x r=bestOf gtB n (r.drop k))) (fun _ i=>r.length-(intOf i).toNat)
 case atStart=>exact ⟨0,x,Nat.zero_le _,rfl,rfl,rfl⟩
 case round=>
  obtain ⟨k,n,hk,rfl,rfl,H⟩:=hrel;by_cases hlt:k<r.length
  ·have hcell:=HC.out k hlt;generalize hv:r.getD k 0=v at *;have HV:=hid hv;clear hv;rcases Bool.eq_false_or_eq_true (gtB v n) with hb|hb
   ·have HB:=hid hb;clear hb;go_wp2_with fail
    refine (most_better _ _ _).mono ?_;rintro e w' ⟨rfl,rfl⟩;rw [HB.out];go_wp2
    go_round
    case rel=>exact ⟨k+1,v,by omega,by go_num,rfl,by show _=_;rw [H.out,bestOf_yes hlt (by rw [HV.out];exact HB.out),HV.out]⟩
    case measure=>simp [intOf];omega
   ·have HB:=hid hb;clear hb;go_wp2_with fail
    refine (most_better _ _ _).mono ?_;rintro e w' ⟨rfl,rfl⟩;rw [HB.out];go_wp2
    go_round
    case rel=>exact ⟨k+1,n,by omega,by go_num,rfl,by show _=_;rw [H.out,bestOf_no hlt (by rw [HV.out];exact HB.out)]⟩
    case measure=>simp [intOf];omega
  ·go_wp2;go_ret2;exact ⟨ret_2 (by rw [H.out];exact (bestOf_end gtB n (by omega)).symm) rfl,rfl⟩
theorem best_one_most (b off:Nat) (x:Int) (w:World) (hc0:w.cell? ⟨b,off,none⟩=some (.int .i64 x)) :
  Calls Tryz.prog 230 #[.func (.func 232) #[] #[],.slice (some ⟨b,off,none⟩) 1 1] w fun e w'=>e=.returned (.tuple #[.int .i64 x,.bool true])∧w=w':=by
 go_enter Tryz.func230,Tryz.ntmps230
 go_wp2;refine wp_loop_rounds 1 ?_;rw [rounds_succ];go_wp2;go_ret2;exact ⟨rfl,rfl⟩
theorem best_any_most (b off cap:Nat) (x:Int) (r:List Int) (w:World) (hc:Cells w b off (x::r)) (hl:r.length≤1000000) (hcap:r.length+1≤cap) :
  Calls Tryz.prog 230 #[.func (.func 232) #[] #[],.slice (some ⟨b,off,none⟩) (r.length+1) cap] w fun e w'=>e=.returned (.tuple #[.int .i64 (bestOf gtB x r),.bool true])∧w=w':=by
 by_cases h1:cap=1
 ·have hr:r=[]:=List.eq_nil_of_length_eq_zero (by omega);subst h1 hr;exact best_one_most b off x w (hc 0 (by simp))
 ·exact best_many_most b off cap x r w hc hl hcap h1
theorem least_any (b off cap:Nat) (x:Int) (r:List Int) (w:World) (hc:Cells w b off (x::r)) (hl:r.length≤1000000) (hcap:r.length+1≤cap) :
  Calls Tryz.prog 203 #[.slice (some ⟨b,off,none⟩) (r.length+1) cap] w fun e w'=>e=.returned (.tuple #[.int .i64 (bestOf ltB x r),.bool true])∧w=w':=by
 have HC:=hid hc;clear hc;go_enter Tryz.func203,Tryz.ntmps203
 go_wp2_with fail
 refine (best_any_least _ _ _ x r _ HC.out hl hcap).mono ?_;rintro e w' ⟨rfl,rfl⟩;go_wp2;go_ret2;exact ⟨rfl,rfl⟩
theorem most_any (b off cap:Nat) (x:Int) (r:List Int) (w:World) (hc:Cells w b off (x::r)) (hl:r.length≤1000000) (hcap:r.length+1≤cap) :
  Calls Tryz.prog 204 #[.slice (some ⟨b,off,none⟩) (r.length+1) cap] w fun e w'=>e=.returned (.tuple #[.int .i64 (bestOf gtB x r),.bool true])∧w=w':=by
 have HC:=hid hc;clear hc;go_enter Tryz.func204,Tryz.ntmps204
 go_wp2_with fail
 refine (best_any_most _ _ _ x r _ HC.out hl hcap).mono ?_;rintro e w' ⟨rfl,rfl⟩;go_wp2;go_ret2;exact ⟨rfl,rfl⟩
end Ex
namespace Bt
open Go.RowKit P
theorem mask_any {n:Int} : bits .and .u64 (IntKind.u64.wrap n) 4294967295=IntKind.u64.wrap n % 4294967296:=and32 (by rw [u64_mod];omega) (by rw [u64_mod];omega)
theorem upper_half (X Y:Int) (x0:0≤X) (x1:X<18446744073709551616) (y0:0≤Y) (y1:Y<18446744073709551616) :
  IntKind.u64.wrap (IntKind.u64.wrap (IntKind.u64.wrap (X / 4294967296*(Y / 4294967296))+IntKind.u64.wrap (IntKind.u64.wrap (X / 4294967296*(Y % 4294967296))+IntKind.u64.wrap (X % 4294967296*(Y % 4294967296)) / 4294967296) / 4294967296) +
   IntKind.u64.wrap (IntKind.u64.wrap (IntKind.u64.wrap (X / 4294967296*(Y % 4294967296))+IntKind.u64.wrap (X % 4294967296*(Y % 4294967296)) / 4294967296) % 4294967296+IntKind.u64.wrap (X % 4294967296*(Y / 4294967296))) / 4294967296)=X*Y / 18446744073709551616:=by
 have le:∀a b:Int,0≤a→a≤4294967295→0≤b→b≤4294967295→0≤a*b∧a*b≤18446744065119617025:=fun a b h1 h2 h3 h4=>by
  have h5:=Int.mul_le_mul h2 h4 h3 (by omega:(0:Int)≤4294967295);exact ⟨Int.mul_nonneg h1 h3,by omega⟩
 have e:X*Y=X / 4294967296*(Y / 4294967296)*18446744073709551616+(X / 4294967296*(Y % 4294967296)+X % 4294967296*(Y / 4294967296))*4294967296+X % 4294967296*(Y % 4294967296):=by
  have hx:=Int.mul_ediv_add_emod X 4294967296;have hy:=Int.mul_ediv_add_emod Y 4294967296;have key:∀a b c d:Int,(4294967296*a+b)*(4294967296*c+d)=a*c*18446744073709551616+(a*d+b*c)*4294967296+b*d:=by intro a b c d;grind
  have:=key (X / 4294967296) (X % 4294967296) (Y / 4294967296) (Y % 4294967296);rw [hx,hy] at this;exact this
 have p1:=le (X / 4294967296) (Y / 4294967296) (by omega) (by omega) (by omega) (by omega);have p2:=le (X / 4294967296) (Y % 4294967296) (by omega) (by omega) (by omega) (by omega);have p3:=le (X % 4294967296) (Y / 4294967296) (by omega) (by omega) (by omega) (by omega);have p4:=le (X % 4294967296) (Y % 4294967296) (by omega) (by omega) (by omega) (by omega);rw [e];generalize X / 4294967296*(Y / 4294967296)=A at *;generalize X / 4294967296*(Y % 4294967296)=B at *;generalize X % 4294967296*(Y / 4294967296)=C at *;generalize X % 4294967296*(Y % 4294967296)=D at *;simp only [u64_mod];clear e le x0 x1 y0 y1;omega
theorem mul64_int (X Y:Int) (x0:0≤X) (x1:X<18446744073709551616) (y0:0≤Y) (y1:Y<18446744073709551616) (w:World) :
  Calls Tryz.prog 225 #[.int .u64 X,.int .u64 Y] w fun e w'=>e=.returned (.tuple #[.int .u64 (X*Y / 18446744073709551616),.int .u64 (IntKind.u64.wrap (X*Y))])∧w=w':=by
 have E:=hid (upper_half X Y x0 x1 y0 y1);have EX:=hid (and32 x0 x1);have EY:=hid (and32 y0 y1);clear x0 x1 y0 y1;go_enter Tryz.func225,Tryz.ntmps225
 go_wp2;rw [EX.out,EY.out,mask_any,E.out];go_ret2;exact ⟨rfl,rfl⟩
theorem mul64_any (x y:Nat) (hx:x<18446744073709551616) (hy:y<18446744073709551616) (w:World) :
  Calls Tryz.prog 225 #[.int .u64 x,.int .u64 y] w fun e w'=>e=.returned (.tuple #[.int .u64 (hiN (x*y)),.int .u64 (loN (x*y))])∧w=w':=by
 have h:=mul64_int x y (by omega) (by omega) (by omega) (by omega) w;have e1:(x:Int)*y / 18446744073709551616=(hiN (x*y):Int):=by rw [←Int.natCast_mul];unfold hiN;omega
 have e2:IntKind.u64.wrap ((x:Int)*y)=(loN (x*y):Int):=by rw [←Int.natCast_mul,u64_mod];unfold loN;omega
 rw [e1,e2] at h;exact h
theorem tab_len (n:Nat) (h:n<Lib.len8tab.size):(Lib.len8tab[n]'h).toNat=Lib.bitLen n:=by
 have h2:n<256:=by rw [Lib.len8tab_size] at h;exact h
 have e:=Lib.len8_eq ⟨n,h2⟩;simp only [Lib.len8,Int.toNat_natCast,ByteArray.getElem?_lt' _ _ h,Option.getD_some] at e;omega
theorem tab_le (n:Nat) (h:n<Lib.len8tab.size):Lib.bitLen n≤8:=by
 have h2:n<256:=by rw [Lib.len8tab_size] at h;exact h
 exact Lib.bitLen_le8 ⟨n,h2⟩
theorem len_close {k:Nat} {x d:Int} {e:Int} (h:d.toNat<Lib.len8tab.size) (hk:e=k) (h1:x≤18446744073709551615) (h0:0≤x) (hx:2 ^ k≤x.toNat) (hd:d.toNat=x.toNat / 2 ^ k) (k56:k≤56) :
  wrap64 (e+wrap64 ((Lib.len8tab[d.toNat]'h).toNat:Int))=(Lib.bitLen x.toNat:Int):=by
 rw [tab_len,Lib.bitLen_shift k x.toNat hx (by omega),←hd];have:=tab_le _ h;unfold wrap64;omega
theorem len_close0 {x:Int} (h:x.toNat<Lib.len8tab.size):wrap64 (wrap64 ((Lib.len8tab[x.toNat]'h).toNat:Int))=(Lib.bitLen x.toNat:Int):=by
 rw [tab_len];have:=tab_le _ h;unfold wrap64;omega
theorem len64_int (x:Int) (w:World) (h0:0≤x) (h1:x≤18446744073709551615) :
  Calls Tryz.prog 171 #[.int .u64 x] w fun e w'=>e=.returned (.int .i64 (Lib.bitLen x.toNat))∧w=w':=by
 have hs:=Lib.len8tab_size;go_enter Tryz.func171,Tryz.ntmps171
 go_wp2
 all_goals first
  | (exfalso;omega)
  | (go_ret
     refine ⟨congrArg Ending.returned (congrArg (Value.int IntKind.i64) ?_),rfl⟩
     first
      | exact len_close0 _
      | exact len_close (k:=56) _ rfl h1 h0 (by omega) (by omega) (by omega)
      | exact len_close (k:=48) _ rfl h1 h0 (by omega) (by omega) (by omega)
      | exact len_close (k:=40) _ rfl h1 h0 (by omega) (by omega) (by omega)
      | exact len_close (k:=32) _ rfl h1 h0 (by omega) (by omega) (by omega)
      | exact len_close (k:=24) _ rfl h1 h0 (by omega) (by omega) (by omega)
      | exact len_close (k:=16) _ rfl h1 h0 (by omega) (by omega) (by omega)
      | exact len_close (k:=8) _ rfl h1 h0 (by omega) (by omega) (by omega))
theorem len_bounds (x:Nat) (hx:x<2 ^ 64) (h0:x≠0):∃k,Lib.bitLen x=k+1∧2 ^ k≤x∧x<2 ^ (k+1):=by
 induction x using Nat.strongRecOn with
 | ind x ih=>
   by_cases h1:x=1
   ·subst h1;exact ⟨0,by decide,by decide,by decide⟩
   ·obtain ⟨k,e,l,u⟩:=ih (x / 2) (by omega) (by omega) (by omega);refine ⟨k+1,by rw [Lib.bitLen_half x h0 hx,e];omega,?_,?_⟩
    ·rw [Nat.pow_succ] at *;omega
    ·rw [Nat.pow_succ] at *;omega
def lz (x:Nat):Nat:=64-Lib.bitLen x
theorem lz_le (x:Nat) (hx:x<2 ^ 64) (h0:x≠0):lz x≤63:=by
 obtain ⟨k,e,_,_⟩:=len_bounds x hx h0;unfold lz;omega
theorem lz_norm (x:Nat) (hx:x<2 ^ 64) (h0:x≠0):2 ^ 63≤x*2 ^ lz x∧x*2 ^ lz x<2 ^ 64:=by
 obtain ⟨k,e,l,u⟩:=len_bounds x hx h0
 have hk:k<64:=by
  rcases Nat.lt_or_ge k 64 with h|h
  ·exact h
  ·exact absurd (Nat.le_trans (Nat.pow_le_pow_right (by omega) h) l) (by omega)
 have e1:lz x=63-k:=by unfold lz;omega
 rw [e1];have p1:(2:Nat) ^ 63=2 ^ k*2 ^ (63-k):=by rw [←Nat.pow_add];congr 1;omega
 have p2:(2:Nat) ^ 64=2 ^ (k+1)*2 ^ (63-k):=by rw [←Nat.pow_add];congr 1;omega
 rw [p1,p2];exact ⟨Nat.mul_le_mul_right _ l,Nat.mul_lt_mul_of_pos_right u (Nat.pow_pos (by omega))⟩
theorem lead_any (x:Int) (w:World) (h0:0≤x) (h1:x≤18446744073709551615) :
  Calls Tryz.prog 240 #[.int .u64 x] w fun e w'=>e=.returned (.int .i64 (64-(Lib.bitLen x.toNat:Int)))∧w=w':=by
 have hl:Lib.bitLen x.toNat≤64:=Lib.bitLen_le _ _ (Nat.le_refl _) (by omega);have E:Hid (wrap64 (64-(Lib.bitLen x.toNat:Int))=64-(Lib.bitLen x.toNat:Int)):=by show _=_;unfold wrap64;omega
 clear hl;go_enter Tryz.func240,Tryz.ntmps240
 go_wp2_with (go_at_call 171;refine (len64_int _ _ h0 h1).mono ?_;rintro e w' ⟨rfl,rfl⟩)
 go_ret;exact ⟨by rw [E.out];rfl,rfl⟩
theorem lead_ex (x:Int) (w:World) (h0:0<x) (h1:x≤18446744073709551615) :
  Calls Tryz.prog 240 #[.int .u64 x] w fun e w'=>∃s:Nat,s≤63∧9223372036854775808≤x*2 ^ s∧x*2 ^ s<18446744073709551616∧e=.returned (.int .i64 s)∧w=w':=by
 have hx:x.toNat<2 ^ 64:=by omega
 have hn:x.toNat≠0:=by omega
 have hl:Lib.bitLen x.toNat≤64:=Lib.bitLen_le _ _ (Nat.le_refl _) hx;have h2:=lz_norm x.toNat hx hn
 have e2:((x.toNat*2 ^ lz x.toNat:Nat):Int)=x*2 ^ lz x.toNat:=by
  rw [Int.natCast_mul,Int.natCast_pow,Int.toNat_of_nonneg (by omega)];rfl
 refine (lead_any x w (by omega) h1).mono ?_;rintro e w' ⟨rfl,rfl⟩;refine ⟨lz x.toNat,lz_le _ hx hn,by omega,by omega,?_,rfl⟩;rw [show ((lz x.toNat:Nat):Int)=64-(Lib.bitLen x.toNat:Int) by unfold lz;omega]
end Bt
end Go.Proofs.YtofbobdhkbmbgaaGreatDoor
