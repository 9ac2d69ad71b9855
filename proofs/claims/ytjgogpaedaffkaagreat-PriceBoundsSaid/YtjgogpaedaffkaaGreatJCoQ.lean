/- The document's answers for layer 9 (poundageref09): Bound. -/
import Derived.Test.YtjgogpaedaffkaaGreatJRef9d
set_option maxRecDepth 100000
set_option maxHeartbeats 16000000
namespace Go.Proofs.YtjgogpaedaffkaaGreat
namespace P
end P
namespace Mm
end Mm
namespace Md
end Md
namespace R6
end R6
namespace L06
end L06
namespace R9
open Go.RowKit Go.Sort P Mm Md R6 L06
structure Chs (p:Plan):Prop where
 gd:Gd p
 cnt:p.meters.length≤20000∧p.fees.length≤20000∧p.charges.length≤20000
 parts:∀c∈p.charges,c.tiers.length≤100000∧c.adjusts.length≤100000
 named:∀c∈p.charges,∃i,meterIx p.meters c.meter=some i
 block:∀c∈p.charges,c.block≠0
theorem go_bind {ms:List Meter} {cs:List Charge} {i k:Nat} {c:Charge} {L:List Int} {x:Int} (h:cs[i]?=some c) (e:meterIx ms c.meter=some k) (hx:mostOf c (ms.getD k default).max=some x) :
  ((mosts ms (cs.drop i)).bind fun l=>sumUp 0 (L++l))=(mosts ms (cs.drop (i+1))).bind fun l=>sumUp 0 ((L++[x])++l):=by
 rw [mosts_some h e,hx];show (((mosts ms (cs.drop (i+1))).map (x::·)).bind fun l=>sumUp 0 (L++l))=_
 cases mosts ms (cs.drop (i+1)) with
 | none=>rfl
 | some l=>show sumUp 0 (L++x::l)=sumUp 0 ((L++[x])++l);rw [List.append_assoc];rfl
theorem go_none {ms:List Meter} {cs:List Charge} {i k:Nat} {c:Charge} {L:List Int} (h:cs[i]?=some c) (e:meterIx ms c.meter=some k) (hx:mostOf c (ms.getD k default).max=none) :
  ((mosts ms (cs.drop i)).bind fun l=>sumUp 0 (L++l))=none:=by
 rw [mosts_some h e,hx];rfl
def I60 (x:Int):Prop:=0≤x∧x≤9223372036854775807
theorem most_i60 {c:Charge} {mx x:Int} (g:ChOk c) (h:mostOf c mx=some x) (hb:x≤9223372036854775807):I60 x:=⟨mostOf_nn (fun a ha=>by rcases g.adjs a ha with k|k<;>exact k.2.1.1) g.block.1 h,hb⟩
theorem adjAll_lt:∀{l:List Adj} {n k:Int},n<maxBound→adjAll n l=some k→k<maxBound
 | [],n,k,hn,e=>by
   unfold adjAll at e;obtain rfl:=Option.some.inj e;exact hn
 | a::r,n,k,hn,e=>by
   unfold adjAll at e;obtain ⟨m,hm,e2⟩:=Option.bind_eq_some_iff.1 e;refine adjAll_lt ?_ e2;unfold adjStep at hm;split at hm
   ·exact (lim_some hm).2.2 ▸ (lim_some hm).2.1
   ·split at hm
    ·exact (lim_some hm).2.2 ▸ (lim_some hm).2.1
    ·split at hm
     ·exact (lim_some hm).2.2 ▸ (lim_some hm).2.1
     ·split at hm<;>exact (lim_some hm).2.2 ▸ (lim_some hm).2.1
theorem mostOf_lt {c:Charge} {mx k:Int} (h:mostOf c mx=some k):k<maxBound:=by
 unfold mostOf at h;obtain ⟨n,hn,e⟩:=Option.bind_eq_some_iff.1 h;exact adjAll_lt ((lim_some hn).2.2 ▸ (lim_some hn).2.1) e
theorem i60_app {L:List Int} {x:Int} (h:∀y∈L,I60 y) (hx:I60 x):∀y∈L++[x],I60 y:=by
 intro y hy;rcases List.mem_append.1 hy with hy|hy
 ·exact h y hy
 ·obtain rfl:y=x:=by simpa using hy
  exact hx
theorem bound_any (p:Plan) (ma:Option Addr) (mc:Nat) (fa:Option Addr) (fc:Nat) (ca:Option Addr) (cc:Nat) (w:World) (hp:PlanLies w (planC p ma mc fa fc ca cc) p ma mc fa fc ca cc) (h:Chs p) :
  Calls Tryz.prog 11 #[.agg #[p.name,p.cur,p.a.y,p.a.m,p.a.d,p.b.y,p.b.m,p.b.d,.slice ma p.meters.length mc,.slice fa p.fees.length fc,.slice ca p.charges.length cc,p.line,p.col]] w fun e w'=>e=.returned (.tuple #[.int .i64 ((boundOf p).getD 0),.bool (boundOf p).isSome])∧Below w.heap.size w w':=by
 obtain ⟨i0,hi,hz0,hz1,hz2⟩:=info_parts info_int;obtain ⟨w1,hw1⟩:∃W,W=w.alloc (.cells #[p.name,p.cur,p.a.y,p.a.m,p.a.d,p.b.y,p.b.m,p.b.d,.slice ma p.meters.length mc,.slice fa p.fees.length fc,.slice ca p.charges.length cc,p.line,p.col] 45):=⟨_,rfl⟩;have b1:Below w.heap.size w w1:=by rw [hw1];exact bel_alloc _ _
 obtain ⟨k1,hk1⟩:∃k,k=w.heap.size:=⟨_,rfl⟩;have X1:Box w1 k1 [p.name,p.cur,p.a.y,p.a.m,p.a.d,p.b.y,p.b.m,p.b.d,.slice ma p.meters.length mc,.slice fa p.fees.length fc,.slice ca p.charges.length cc,p.line,p.col]:=by rw [hw1,hk1];exact Box.new _ _ _
 obtain ⟨nM,hnM⟩:∃n,n=p.meters.length:=⟨_,rfl⟩;obtain ⟨nF,hnF⟩:∃n,n=p.fees.length:=⟨_,rfl⟩;obtain ⟨nC,hnC⟩:∃n,n=p.charges.length:=⟨_,rfl⟩;have C:Hid (∀W,Below w1.heap.size w1 W→Box W k1 [p.name,p.cur,p.a.y,p.a.m,p.a.d,p.b.y,p.b.m,p.b.d,.slice ma p.meters.length mc,.slice fa p.fees.length fc,.slice ca p.charges.length cc,p.line,p.col]):=hid fun W b=>X1.on b
 have C2:Hid (∀W,Below w1.heap.size w1 W→W.cell? ⟨k1,8,none⟩=some (.slice ma nM mc)∧W.cell? ⟨k1,9,none⟩=some (.slice fa nF fc)∧W.cell? ⟨k1,10,none⟩=some (.slice ca nC cc)):=hid fun W b=>by
  rw [hnM,hnF,hnC];exact ⟨(X1.on b).cell 8 _ rfl,(X1.on b).cell 9 _ rfl,(X1.on b).cell 10 _ rfl⟩
 have L0:Hid (∀W,Below w1.heap.size w1 W→PlanLies W (planC p ma mc fa fc ca cc) p ma mc fa fc ca cc∧Below w.heap.size w W):=
  hid fun W b=>⟨hp.on (bel_on b1 b),bel_on b1 b⟩
 have qM:nM≤20000:=by rw [hnM];exact h.cnt.1
 have qF:nF≤20000:=by rw [hnF];exact h.cnt.2.1
 have qC:nC≤20000:=by rw [hnC];exact h.cnt.2.2
 have uM:nM≤mc:=by rw [hnM];exact hp.meters.hcap
 have uF:nF≤fc:=by rw [hnF];exact hp.fees.hcap
 have uC:nC≤cc:=by rw [hnC];exact hp.charges.hcap
 obtain ⟨M,hM⟩:∃M,M=boundOf p:=⟨_,rfl⟩;rw [←hM];have HM:Hid (M=(mosts p.meters p.charges).bind fun l=>sumUp 0 (p.fees.map (·.amount)++l)):=hid hM;have cM:=hid (fun (W:World) (name:ByteArray) (bw:Below w1.heap.size w1 W)=>meter_any p name ma mc fa fc ca cc W (hp.on (bel_on b1 bw)));unfold planC at cM;have HnM:=hid hnM;have HnF:=hid hnF;have HnC:=hid hnC;have H:=hid h;have HW:=hid hw1;have HK:=hid hk1;clear hM hnM hnF hnC hp b1 X1 hw1 hk1 h;go_enter Tryz.func11,Tryz.ntmps11
 go_upto_region 1 with fail
 rw [←HW.out,←HK.out];clear HW HK;obtain ⟨c8,c9,c10⟩:=C2.out w1 (Below.refl _ _);clear c8 c10;go_wp2;clear c9;go_loopw [5,18] (fun v i wx=>∃(i':Nat) (L:List Int),i=.int .i64 (i':Int)∧i'≤nF∧Hid (L=(p.fees.take i').map (·.amount))∧Hid (wx.ownsRow w1.heap.size 3 1 v i' (ints L))∧Hid (Below w1.heap.size w1 wx)) (fun _ i _=>nF-(intOf i).toNat)
 case atStart=>exact ⟨0,[],rfl,Nat.zero_le _,hid rfl,hid ⟨rfl,.inl ⟨rfl,rfl⟩⟩,hid (Below.refl _ _)⟩
 case round=>
  obtain ⟨i',L,rfl,hi',hL,hO,hB⟩:=hrel;by_cases hlt:i'<nF
  ·obtain ⟨f,hti⟩:∃m,p.fees[i']?=some m:=⟨_,List.getElem?_eq_getElem (by have:=HnF.out;omega)⟩;obtain ⟨b,o,e,lb,a0,a1,a2,a3,a4,a5,a6,a7,a8,a9,_⟩:=fee_at (L0.out _ hB.out).1.fees hti;have ST:Hid (L++[f.amount]=(p.fees.take (i'+1)).map (·.amount)):=hid (by rw [hL.out,List.take_add_one,hti,List.map_append];rfl);have B2:=hid (bel_on hB.out (bel_alloc _ (.cells #[f.amount,f.win.has,f.win.a.y,f.win.a.m,f.win.a.d,f.win.b.y,f.win.b.m,f.win.b.d,f.line,f.col] 84)));have hsz:=hB.out.size;subst e;clear hti hL HM;go_wp2_with (at_builtin;refine wpList_append_own _ rfl _ _ 27 rfl w1.heap.size 3 i0 (.int .i64 0) 1 8 und_ints hi hz0 hz1 hz2 rfl (by decide) _ _ _ rfl ((hO.out.alloc _).alloc _) ⟨wr.heap.size+1,0,none⟩ 1 1 [f.amount] rfl rfl ?c1 ?c2 ?c3 ?c4 ?c5 ?_)
   case c1=>
    intro j u hj
    match j,hj with
    | 0,hj=>simp at hj;subst hj;simp [Addr.add]
   case c2=>simp [Value.oneCell']
   case c3=>unfold maxLen;omega
   case c4=>omega
   case c5=>simp;omega
   intro v' w2 hown hgrow _;go_wp2;go_roundw
   case rel=>exact ⟨i'+1,L++[f.amount],by simp,by omega,ST,hid (by rw [ints_app];exact hown),hid (((hB.out.alloc hB.out.size _).alloc (hB.out.alloc hB.out.size _).size _).grown hgrow (by simp;omega) (fun k hk=>(hO.out.lt k hk).1))⟩
   case measure=>simp [intOf];omega
  ·obtain rfl:i'=nF:=by omega
   have HM2:Hid (M=(mosts p.meters (p.charges.drop 0)).bind fun l=>sumUp 0 (L++l)):=hid (by
    rw [HM.out,hL.out,List.drop_zero,HnF.out,List.take_length])
   have HL:Hid (∀x∈L,I60 x):=hid (by
    rw [hL.out];intro x hx;obtain ⟨f,hf,rfl⟩:=List.mem_map.1 hx;have:=(H.out.gd.fees f (List.mem_of_mem_take hf)).1
    exact ⟨this.1,by have:=this.2;omega⟩)
   have hlen:Hid (L.length=i'):=hid (by have:=HnF.out;rw [hL.out,List.length_map,List.length_take];omega);obtain ⟨wq,hwq⟩:∃wq,wq=wr:=⟨_,rfl⟩;rw [←hwq] at hO hB ⊢;clear hwq hL hlt hi' HM;obtain ⟨c8,c9,c10⟩:=C2.out wq hB.out;clear c8 c9;go_wp2;clear c10;go_loopw [5,31] (fun v j wx=>∃(j' N:Nat) (L:List Int),j=.int .i64 (j':Int)∧j'≤nC∧N≤20000+j'∧Hid (L.length=N)∧Hid (∀x∈L,I60 x)∧Hid (M=(mosts p.meters (p.charges.drop j')).bind fun l=>sumUp 0 (L++l))∧Hid (wx.ownsRow w1.heap.size 3 1 v N (ints L))∧Hid (Below w1.heap.size w1 wx)) (fun _ j _=>nC-(intOf j).toNat)
   case atStart=>exact ⟨0,i',L,rfl,Nat.zero_le _,by omega,hlen,HL,HM2,hO,hB⟩
   case round=>
    clear HM2 HL hO hB hlen;obtain ⟨j',N,L,rfl,hj',hN,hlen,HL,HM,hO,hB⟩:=hrel;by_cases hlt:j'<nC
    ·obtain ⟨c,hti⟩:∃m,p.charges[j']?=some m:=⟨_,List.getElem?_eq_getElem (by have:=HnC.out;omega)⟩;have hmem:=List.mem_of_getElem? hti;obtain ⟨b,o,ta,tc,aa,ac,e,ax,lx0⟩:=charge_at (L0.out _ hB.out).1.charges hti;have r1:=hid (range_ch ax);unfold chargeC at r1;obtain ⟨wt,hwt⟩:∃W,W=wr.alloc (.cells #[c.meter,c.win.has,c.win.a.y,c.win.a.m,c.win.a.d,c.win.b.y,c.win.b.m,c.win.b.d,c.allowance,c.block,c.kind,.slice ta c.tiers.length tc,c.mode,.slice aa c.adjusts.length ac,c.line,c.col] 87):=⟨_,rfl⟩;have xt:Box wt wr.heap.size [c.meter,c.win.has,c.win.a.y,c.win.a.m,c.win.a.d,c.win.b.y,c.win.b.m,c.win.b.d,c.allowance,c.block,c.kind,.slice ta c.tiers.length tc,c.mode,.slice aa c.adjusts.length ac,c.line,c.col]:=by rw [hwt];exact Box.new _ _ _
     have bt:Below wr.heap.size wr wt:=by rw [hwt];exact bel_alloc _ _
     have BT:=hid (bel_on hB.out bt);obtain ⟨kx,hkx⟩:∃k,k=wr.heap.size:=⟨_,rfl⟩;rw [←hkx] at xt;have XT:=hid (fun (W:World) (bw:Below wt.heap.size wt W)=>(⟨xt.on bw,ch_on lx0 (bel_on bt bw)⟩:Box W kx _∧ChargeLies W _ c ta tc aa ac));have OT:=hid (hO.out.alloc (.cells #[c.meter,c.win.has,c.win.a.y,c.win.a.m,c.win.a.d,c.win.b.y,c.win.b.m,c.win.b.d,c.allowance,c.block,c.kind,.slice ta c.tiers.length tc,c.mode,.slice aa c.adjusts.length ac,c.line,c.col] 87));rw [←hwt] at OT;obtain ⟨k,hk⟩:=H.out.named c hmem
     have km:k<nM:=by
      unfold meterIx at hk;have:=(List.findIdx?_eq_some_iff_getElem.1 hk).1;have:=HnM.out;omega
     obtain ⟨m,htm⟩:∃m,p.meters[k]?=some m:=⟨_,List.getElem?_eq_getElem (by have:=HnM.out;omega)⟩;have gm:=H.out.gd.meters m (List.mem_of_getElem? htm);have gD:(p.meters.getD k default).max=m.max:=by rw [List.getD_eq_getElem?_getD,htm];rfl
     have MK:mix p.meters c.meter=(k:Int):=mix_some.2 hk;have cMk:=cM.out wt c.meter BT.out;rw [MK] at cMk;obtain ⟨O,hOO⟩:∃O,O=mostOf c m.max:=⟨_,rfl⟩;have HO1:Hid (O=none→M=none):=hid (fun e=>by rw [HM.out];exact go_none hti hk (by rw [gD,←hOO];exact e));have HO2:Hid (∀x,O=some x→M=(mosts p.meters (p.charges.drop (j'+1))).bind fun l=>sumUp 0 ((L++[x])++l)):=hid (fun x e=>by rw [HM.out];exact go_bind hti hk (by rw [gD,←hOO];exact e))
     have HO3:Hid (∀x,O=some x→I60 x):=hid (fun x e=>by
      have e2:mostOf c m.max=some x:=by rw [←hOO];exact e
      have:=mostOf_lt e2
      exact most_i60 (H.out.gd.charges c hmem) e2 (by unfold maxBound at this;omega))
     have cO:=hid (fun (W:World) (bw:Below wt.heap.size wt W)=>most_any c ta tc aa ac m.max W (XT.out W bw).2 (H.out.gd.charges c hmem) (H.out.block c hmem) gm.2.2.1 gm.2.2.2 (H.out.parts c hmem));rw [←hOO] at cO;obtain ⟨XV,hXV⟩:∃x,x=O.getD 0:=⟨_,rfl⟩;obtain ⟨XB,hXB⟩:∃x,x=O.isSome:=⟨_,rfl⟩;rw [←hXV,←hXB] at cO;have HXV:=hid hXV;have HXB:=hid hXB;have HTM:=hid htm;have HWT:=hid hwt;have HKX:=hid hkx;have RP:=hid (range_of (C.out wt BT.out).cell);have d0:=(XT.out wt (Below.refl _ _)).1.cell 0 _ rfl;clear hti hmem ax lx0 hwt xt bt hkx hO hk htm gm gD MK hOO hXV hXB HM;subst e
     go_upto_region 11 with (first
      | (with_reducible refine wpList_load_mid (op:=Oper.mk (some 34) (Op.load 87 (Operand.tmp 33)) _ _ _ _) ?_ 87 (.tmp 33) ?_ b (o+j'*16) ?_ [c.meter,c.win.has,c.win.a.y,c.win.a.m,c.win.a.d,c.win.b.y,c.win.b.m,c.win.b.d,c.allowance,c.block,c.kind,.slice ta c.tiers.length tc,c.mode,.slice aa c.adjusts.length ac,c.line,c.col] _ r1.out Tryz.underlying87 ?_ ?_ ?_;rfl;rfl;go_simp;rfl;kernel_rfl)
      | (with_reducible refine wpList_store_new (op:=Oper.mk none (Op.store 87 (Operand.tmp 9) (Operand.tmp 34)) _ _ _ _) ?_ 87 (.tmp 9) (.tmp 34) ?_ wr _ #[c.meter,c.win.has,c.win.a.y,c.win.a.m,c.win.a.d,c.win.b.y,c.win.b.m,c.win.b.d,c.allowance,c.block,c.kind,.slice ta c.tiers.length tc,c.mode,.slice aa c.adjusts.length ac,c.line,c.col] ?_ ?_ ?_ ?_ ?_ ?_;rfl;rfl;go_simp;go_simp;kernel_rfl;rfl;(simp [Value.oneCell']))
      | fail)
     rw [←HWT.out,←HKX.out];clear HWT HKX r1;go_wp2_with (first|(with_reducible refine wpList_load_mid (op:=Oper.mk (some 35) (Op.load 45 (Operand.tmp 1)) _ _ _ _) ?_ 45 (.tmp 1) ?_ k1 0 ?_ [p.name,p.cur,p.a.y,p.a.m,p.a.d,p.b.y,p.b.m,p.b.d,.slice ma p.meters.length mc,.slice fa p.fees.length fc,.slice (some ⟨b,o,none⟩) p.charges.length cc,p.line,p.col] _ RP.out Tryz.underlying45 ?_ ?_ ?_;rfl;rfl;go_simp;rfl;kernel_rfl)|fail)
     refine cMk.mono ?_;rintro e wu ⟨rfl,bu⟩;have BU:=hid (bel_on BT.out bu);have OU:=hid (owns_on OT.out bu);have Yc:=hid (XT.out wu bu).1;have XU:=hid (fun (W:World) (bw:Below wu.heap.size wu W)=>(bel_on bu bw:Below wt.heap.size wt W));clear bu cMk d0 RP OT BT;obtain ⟨b2,o2,e2,lb2,y0,y1,y2,y3,y4,_⟩:=meter_at (L0.out _ BU.out).1.meters HTM.out;obtain ⟨c8,c9,c10⟩:=C2.out wu BU.out;have k8:=cell_regrown c8;have ky:=cell_regrown y2;have f0:=cell_regrown (Yc.out.cell 0 _ rfl);have f1:=cell_regrown (Yc.out.cell 1 _ rfl);have f2:=cell_regrown (Yc.out.cell 2 _ rfl);have f3:=cell_regrown (Yc.out.cell 3 _ rfl);have f4:=cell_regrown (Yc.out.cell 4 _ rfl);have f5:=cell_regrown (Yc.out.cell 5 _ rfl);have f6:=cell_regrown (Yc.out.cell 6 _ rfl);have f7:=cell_regrown (Yc.out.cell 7 _ rfl);have f8:=cell_regrown (Yc.out.cell 8 _ rfl);have f9:=cell_regrown (Yc.out.cell 9 _ rfl);have f10:=cell_regrown (Yc.out.cell 10 _ rfl);have f11:=cell_regrown (Yc.out.cell 11 _ rfl);have f12:=cell_regrown (Yc.out.cell 12 _ rfl);have f13:=cell_regrown (Yc.out.cell 13 _ rfl);have f14:=cell_regrown (Yc.out.cell 14 _ rfl);have f15:=cell_regrown (Yc.out.cell 15 _ rfl);have qO:=fun d os=>Calls.regrown_of (cO.out (grow (redrawn wu d) os) (XU.out _ (below_regrown wu d os)));clear cO Yc XU c8 c9 c10 y0 y1 y2 y3 y4;subst e2;go_upto_region 13 with fail
     refine wp_region_quiet_below (by kernel_rfl) (by kernel_rfl) ?_;repeat (go_big_quiet_step (first|(go_at_call 31;exact qO _ _)))
     refine wpQuiet_nil ?_;intro wv hw';obtain ⟨⟨dq,osq⟩,hw''⟩:=hw';have BV:Hid (Below w1.heap.size w1 wv):=hid (by subst hw'';exact bel_on BU.out (below_regrown wu dq osq));have OV:=hid (owns_on OU.out (show Below wu.heap.size wu wv by subst hw'';exact below_regrown wu dq osq));clear hw'' qO k8 ky BU OU f0 f1 f2 f3 f4 f5 f6 f7 f8 f9 f10 f11 f12 f13 f14 f15;rcases Option.eq_none_or_eq_some O with hn|⟨x,hs⟩
     ·have E:=hid (HO1.out hn);have e1:XV=0:=by rw [HXV.out,hn];rfl
      have e2:XB=false:=by rw [HXB.out,hn];rfl
      have BF:=hid (L0.out _ BV.out).2;clear HO1 HO2 HO3 HXV HXB OV;subst e1;subst e2;go_wp2;go_ret2;exact ⟨ret_n E.out,BF.out⟩
     ·have E:=hid (HO2.out x hs);have e1:XV=x:=by rw [HXV.out,hs];rfl
      have e2:XB=true:=by rw [HXB.out,hs];rfl
      have HL2:=hid (i60_app HL.out (HO3.out x hs));have hlen2:Hid ((L++[x]).length=N+1):=hid (by rw [List.length_append,hlen.out];rfl);have hsz:=BV.out.size;clear HO1 HO2 HO3 HXV HXB HL hlen;subst e1;subst e2;go_wp2_with (at_builtin;refine wpList_append_own _ rfl _ _ 27 rfl w1.heap.size 3 i0 (.int .i64 0) 1 8 und_ints hi hz0 hz1 hz2 rfl (by decide) _ _ _ rfl (OV.out.alloc _) ⟨wv.heap.size,0,none⟩ 1 1 [.int .i64 XV] rfl rfl ?c1 ?c2 ?c3 ?c4 ?c5 ?_)
      case c1=>
       intro j u hj
       match j,hj with
       | 0,hj=>simp at hj;subst hj;simp [Addr.add]
      case c2=>simp [Value.oneCell']
      case c3=>unfold maxLen;omega
      case c4=>omega
      case c5=>simp;omega
      intro v' w2 hown hgrow _;go_wp2;go_roundw
      case rel=>exact ⟨j'+1,N+1,L++[XV],by simp,by omega,by omega,hlen2,HL2,E,hid (by rw [ints_app];exact hown),hid ((BV.out.alloc BV.out.size _).grown hgrow (by simp;omega) (fun k hk=>(OV.out.lt k hk).1))⟩
      case measure=>simp [intOf];omega
    ·obtain rfl:j'=nC:=by omega
     have E:Hid (M=sumUp 0 L):=hid (by
      rw [HM.out,mosts_end (by have:=HnC.out;omega)];show sumUp 0 (L++[])=_
      rw [List.append_nil])
     have hrow:=row_own (α:=Int) (n:=1) (cells:=fun x=>[.int .i64 x]) (ok:=I64) (hn:=fun _=>rfl) (xs:=L) (by have:=hO.out;rw [←hlen.out] at this;exact this) (fun x hx=>by have:=HL.out x hx;unfold I60 at this;unfold I64;omega);obtain ⟨ao,cap,hv,hrow⟩:=hrow;rw [hlen.out] at hv hrow;have HR:=hid hrow;have uN:=hrow.hcap;have uN2:=hrow.hmax;obtain ⟨wz,hwz⟩:∃wz,wz=wr:=⟨_,rfl⟩;rw [←hwz] at hB HR ⊢;clear hwz hO hrow HM hlt;subst hv;go_wp2;go_loopw [4,61] (fun n j wx=>∃(l':Nat) (n':Int),n=.int .i64 n'∧j=.int .i64 (l':Int)∧l'≤N∧0≤n'∧n'<1152921504606846976∧Hid (M=sumUp n' (L.drop l'))∧wx=wz) (fun _ j _=>N-(intOf j).toNat)
     case atStart=>exact ⟨0,0,rfl,rfl,Nat.zero_le _,by omega,by omega,E,rfl⟩
     case round=>
      clear E;obtain ⟨l',n',rfl,rfl,hl,n0,n1,E,hwr⟩:=hrel;have hwr':=hwr.symm;clear hwr;subst hwr';by_cases hlt:l'<N
      ·obtain ⟨x,hti⟩:∃x,L[l']?=some x:=⟨_,List.getElem?_eq_getElem (by have:=hlen.out;omega)⟩;have ST:=hid (sumUp_step (n:=n') hti);obtain ⟨x0,x1⟩:=HL.out x (List.mem_of_getElem? hti);obtain ⟨b3,o3,cs,e3,lb3,⟨h5,_⟩,h6⟩:=HR.out.at hti;subst h5;have z0:wz.cell? ⟨b3,o3+l',none⟩=some (.int .i64 x):=by simpa [leaf] using h6 0 _ rfl
       clear h6 hti;subst e3;have BF:=hid (L0.out _ hB.out).2;by_cases g1:1152921504606846976≤x
       ·have F:Hid (M=none):=hid (by rw [E.out,ST.out,if_pos (.inl (show maxBound≤x from g1))]);clear E ST;go_wp2;go_ret2;exact ⟨ret_n F.out,BF.out⟩
       by_cases g2:1152921504606846976≤n'+x
       ·have F:Hid (M=none):=hid (by rw [E.out,ST.out,if_pos (.inr (show maxBound≤n'+x from g2))]);clear E ST;go_wp2;go_ret2;exact ⟨ret_n F.out,BF.out⟩
       have F:Hid (M=sumUp (n'+x) (L.drop (l'+1))):=hid (by rw [E.out,ST.out,if_neg (by rintro (h|h);exact g1 h;exact g2 h)]);clear E ST;go_wp2;go_roundw
       case rel=>exact ⟨l'+1,n'+x,rfl,by simp,by omega,by omega,by omega,F,trivial⟩
       case measure=>simp [intOf];omega
      ·obtain rfl:l'=N:=by omega
       have F:Hid (M=some n'):=hid (by rw [E.out,sumUp_end (by have:=hlen.out;omega)]);have BF:=hid (L0.out _ hB.out).2;clear E;go_wp2;go_ret2;exact ⟨ret_v F.out,BF.out⟩
end R9
namespace P
open Go.RowKit Mm
def zC (p:Plan):Int×Int×Int:=if boundOf p=none then (6,p.line,p.col) else (0,0,0)
def zF9 (p:Plan):Int×Int×Int:=(firstE (chE p) (fun c=>(c.line,c.col)) 0 p.charges).getD (zC p)
def zM (p:Plan):Int×Int×Int:=(firstE (feeE p) (fun f=>(f.line,f.col)) 0 p.fees).getD (zF9 p)
theorem wrong_getD (p:Plan):wrongOf p=if headE p=0 then (firstE (meterE p) (fun m=>(m.line,m.col)) 0 p.meters).getD (zM p) else (headE p,p.line,p.col):=by
 unfold wrongOf zM zF9 zC;by_cases h:headE p=0
 ·rw [if_pos h,if_pos h];cases firstE (meterE p) (fun m=>(m.line,m.col)) 0 p.meters with
  | some e=>rfl
  | none=>
    show _=(firstE (feeE p) (fun f=>(f.line,f.col)) 0 p.fees).getD _
    cases firstE (feeE p) (fun f=>(f.line,f.col)) 0 p.fees with
    | some e=>rfl
    | none=>
      show _=(firstE (chE p) (fun c=>(c.line,c.col)) 0 p.charges).getD _
      cases firstE (chE p) (fun c=>(c.line,c.col)) 0 p.charges<;>rfl
 ·rw [if_neg h,if_neg h]
theorem num_range {d:Day} (h:DayOk d):0≤dn d∧dn d≤3652058:=by
 have:=num_bound h;unfold dn;omega
end P
namespace R9
open Go.RowKit Go.Sort P Mm Md R6 L06
theorem ret_t {R:Int×Int×Int} {a b c:Int} (h:R=(a,b,c)):(Ending.returned (.tuple #[.int .i64 a,.int .i64 b,.int .i64 c]):Ending)=.returned (.tuple #[.int .i64 R.1,.int .i64 R.2.1,.int .i64 R.2.2]):=by rw [h]
structure Pl9 (p:Plan):Prop where
 gd:Gd p
 cnt:p.meters.length≤20000∧p.fees.length≤20000∧p.charges.length≤20000
 parts:∀c∈p.charges,c.tiers.length≤100000∧c.adjusts.length≤100000
theorem chs_of {p:Plan} (h:Pl9 p) (e:firstE (chE p) (fun c=>(c.line,c.col)) 0 p.charges=none):Chs p:=by
 rw [firstE_none] at e
 have key:∀c∈p.charges,(∃i,meterIx p.meters c.meter=some i)∧c.block≠0:=by
  intro c hc;obtain ⟨j,hj,ej⟩:=List.getElem_of_mem hc;have:=e j c (by rw [List.getElem?_eq_getElem hj,ej]);unfold chE at this;split at this
  ·cases this
  ·split at this
   ·cases this
   ·rename_i h2
    refine ⟨?_,fun h0=>h2 (.inr (.inr h0))⟩;cases hm:meterIx p.meters c.meter with
    | none=>exact absurd (.inl hm) h2
    | some i=>exact ⟨i,rfl⟩
 exact ⟨h.gd,h.cnt,h.parts,fun c hc=>(key c hc).1,fun c hc=>(key c hc).2⟩
theorem plan_any (p:Plan) (ma:Option Addr) (mc:Nat) (fa:Option Addr) (fc:Nat) (ca:Option Addr) (cc:Nat) (w:World) (hp:PlanLies w (planC p ma mc fa fc ca cc) p ma mc fa fc ca cc) (h:Pl9 p) :
  Calls Tryz.prog 19 #[.agg #[p.name,p.cur,p.a.y,p.a.m,p.a.d,p.b.y,p.b.m,p.b.d,.slice ma p.meters.length mc,.slice fa p.fees.length fc,.slice ca p.charges.length cc,p.line,p.col]] w fun e w'=>e=.returned (.tuple #[.int .i64 (wrongOf p).1,.int .i64 (wrongOf p).2.1,.int .i64 (wrongOf p).2.2])∧Below w.heap.size w w':=by
 obtain ⟨w1,hw1⟩:∃W,W=w.alloc (.cells #[p.name,p.cur,p.a.y,p.a.m,p.a.d,p.b.y,p.b.m,p.b.d,.slice ma p.meters.length mc,.slice fa p.fees.length fc,.slice ca p.charges.length cc,p.line,p.col] 45):=⟨_,rfl⟩;have b1:Below w.heap.size w w1:=by rw [hw1];exact bel_alloc _ _
 obtain ⟨k1,hk1⟩:∃k,k=w.heap.size:=⟨_,rfl⟩;have X1:Box w1 k1 [p.name,p.cur,p.a.y,p.a.m,p.a.d,p.b.y,p.b.m,p.b.d,.slice ma p.meters.length mc,.slice fa p.fees.length fc,.slice ca p.charges.length cc,p.line,p.col]:=by rw [hw1,hk1];exact Box.new _ _ _
 obtain ⟨nM,hnM⟩:∃n,n=p.meters.length:=⟨_,rfl⟩;obtain ⟨nF,hnF⟩:∃n,n=p.fees.length:=⟨_,rfl⟩;obtain ⟨nC,hnC⟩:∃n,n=p.charges.length:=⟨_,rfl⟩;have C:Hid (∀W,Below w1.heap.size w1 W→Box W k1 [p.name,p.cur,p.a.y,p.a.m,p.a.d,p.b.y,p.b.m,p.b.d,.slice ma p.meters.length mc,.slice fa p.fees.length fc,.slice ca p.charges.length cc,p.line,p.col]):=hid fun W b=>X1.on b
 have C2:Hid (∀W,Below w1.heap.size w1 W→W.cell? ⟨k1,8,none⟩=some (.slice ma nM mc)∧W.cell? ⟨k1,9,none⟩=some (.slice fa nF fc)∧W.cell? ⟨k1,10,none⟩=some (.slice ca nC cc)∧W.cell? ⟨k1,11,none⟩=some (.int .i64 p.line)∧W.cell? ⟨k1,12,none⟩=some (.int .i64 p.col)):=hid fun W b=>by
  rw [hnM,hnF,hnC];exact ⟨(X1.on b).cell 8 _ rfl,(X1.on b).cell 9 _ rfl,(X1.on b).cell 10 _ rfl,(X1.on b).cell 11 _ rfl,(X1.on b).cell 12 _ rfl⟩
 have L0:Hid (∀W,Below w1.heap.size w1 W→PlanLies W (planC p ma mc fa fc ca cc) p ma mc fa fc ca cc∧Below w.heap.size w W):=
  hid fun W b=>⟨hp.on (bel_on b1 b),bel_on b1 b⟩
 have qM:nM≤20000:=by rw [hnM];exact h.cnt.1
 have qF:nF≤20000:=by rw [hnF];exact h.cnt.2.1
 have qC:nC≤20000:=by rw [hnC];exact h.cnt.2.2
 have uM:nM≤mc:=by rw [hnM];exact hp.meters.hcap
 have uF:nF≤fc:=by rw [hnF];exact hp.fees.hcap
 have uC:nC≤cc:=by rw [hnC];exact hp.charges.hcap
 obtain ⟨R,hR⟩:∃R,R=wrongOf p:=⟨_,rfl⟩;rw [←hR];obtain ⟨HD,hHD⟩:∃H,H=hzn p:=⟨_,rfl⟩;have HR:Hid (R=if headE p=0 then (firstE (meterE p) (fun m=>(m.line,m.col)) 0 p.meters).getD (zM p) else (headE p,p.line,p.col)):=hid (by rw [hR,wrong_getD]);have HH:Hid (headE p=if HD<1 then 5 else if 4000<HD then 6 else 0):=hid (by rw [hHD];rfl);have cM:=hid (fun (W:World) (name:ByteArray) (bw:Below w1.heap.size w1 W)=>meter_any p name ma mc fa fc ca cc W (hp.on (bel_on b1 bw)));unfold planC at cM;have cW:=hid (fun (W:World) (x:Win) (gx:WinOk x)=>window_any p x ma mc fa fc ca cc W h.gd.days gx);have cC:=hid (fun (W:World) (i:Nat) (c:Charge) (hti:p.charges[i]?=some c) (bw:Below w1.heap.size w1 W)=>charge_any p ma mc fa fc ca cc i c W (hp.on (bel_on b1 bw)) hti h.gd (by have:=h.cnt.2.2;omega) (h.parts c (List.mem_of_getElem? hti)).1);have cB:=hid (fun (W:World) (hc:Chs p) (bw:Below w1.heap.size w1 W)=>bound_any p ma mc fa fc ca cc W (hp.on (bel_on b1 bw)) hc);obtain ⟨NA,hNA⟩:∃x,x=dn p.a:=⟨_,rfl⟩;obtain ⟨NB,hNB⟩:∃x,x=dn p.b:=⟨_,rfl⟩;have cA:=fun W=>num3 p.a h.gd.days.1 W;have cE:=fun W=>num3 p.b h.gd.days.2 W;have ra:=num_range h.gd.days.1;have rb:=num_range h.gd.days.2;rw [←hNA] at cA ra;rw [←hNB] at cE rb;have eHD:HD=NB-NA+1:=by rw [hHD,hNA,hNB];rfl
 have HnM:=hid hnM;have HnF:=hid hnF;have HnC:=hid hnC;have H:=hid h;have HW:=hid hw1;have HK:=hid hk1;have d2:=X1.cell 2 _ rfl;have d3:=X1.cell 3 _ rfl;have d4:=X1.cell 4 _ rfl;have d5:=X1.cell 5 _ rfl;have d6:=X1.cell 6 _ rfl;have d7:=X1.cell 7 _ rfl;clear hR hnM hnF hnC hp b1 X1 hw1 hk1 h hHD hNA hNB;go_enter Tryz.func19,Tryz.ntmps19
 go_upto_region 1 with fail
 rw [←HW.out,←HK.out];clear HW HK;have f2:=cell_regrown d2;have f3:=cell_regrown d3;have f4:=cell_regrown d4;have f5:=cell_regrown d5;have f6:=cell_regrown d6;have f7:=cell_regrown d7;have qA:=fun d os=>Calls.regrown_of (cA (grow (redrawn w1 d) os));have qE:=fun d os=>Calls.regrown_of (cE (grow (redrawn w1 d) os));clear cA cE d2 d3 d4 d5 d6 d7;refine wp_region_quiet_below (by kernel_rfl) (by kernel_rfl) ?_;repeat (go_big_quiet_step (first|(go_at_call_of 47 (Value.agg #[p.b.y,p.b.m,p.b.d]);exact qE _ _)|(go_at_call 47;exact qA _ _)))
 refine wpQuiet_nil ?_;intro w2 hw';obtain ⟨⟨dq,osq⟩,hw''⟩:=hw';have BV:Hid (Below w1.heap.size w1 w2):=hid (by subst hw'';exact bel_on (Below.refl _ _) (below_regrown w1 dq osq));clear hw'';clear qA qE f2 f3 f4 f5 f6 f7;rw [←eHD];have hd0 : -4000000≤HD:=by omega
 have hd1:HD≤4000000:=by omega
 clear eHD ra rb;obtain ⟨c8,c9,c10,c11,c12⟩:=C2.out w2 BV.out;have k11:=cell_regrown c11;have k12:=cell_regrown c12;clear c9 c10 c11 c12;by_cases g1:HD<1
 ·have E:Hid (R=(5,p.line,p.col)):=hid (by rw [HR.out,if_neg (by rw [HH.out,if_pos g1];decide),HH.out,if_pos g1]);clear HR HH c8;have BVX:=BV;clear BV;go_upto_region 3 with fail
  refine wp_region_quiet_below (by kernel_rfl) (by kernel_rfl) ?_;repeat (go_big_quiet_step (fail))
  refine wpQuiet_nil ?_;intro w3 hw';obtain ⟨⟨dq,osq⟩,hw''⟩:=hw';have BV:Hid (Below w1.heap.size w1 w3):=hid (by subst hw'';exact bel_on BVX.out (below_regrown w2 dq osq));clear hw'';have BF:=hid (L0.out _ BV.out).2;clear k11 k12;go_wp2
  go_ret3
  exact ⟨ret_t E.out,BF.out⟩
 by_cases g2:4000<HD
 ·have E:Hid (R=(6,p.line,p.col)):=hid (by rw [HR.out,if_neg (by rw [HH.out,if_neg g1,if_pos g2];decide),HH.out,if_neg g1,if_pos g2]);clear HR HH c8;have BVX:=BV;clear BV;go_upto_region 5 with fail
  refine wp_region_quiet_below (by kernel_rfl) (by kernel_rfl) ?_;repeat (go_big_quiet_step (fail))
  refine wpQuiet_nil ?_;intro w3 hw';obtain ⟨⟨dq,osq⟩,hw''⟩:=hw';have BV:Hid (Below w1.heap.size w1 w3):=hid (by subst hw'';exact bel_on BVX.out (below_regrown w2 dq osq));clear hw'';have BF:=hid (L0.out _ BV.out).2;clear k11 k12;go_wp2
  go_ret3
  exact ⟨ret_t E.out,BF.out⟩
 have E0:Hid (R=(firstE (meterE p) (fun m=>(m.line,m.col)) 0 (p.meters.drop 0)).getD (zM p)):=hid (by rw [HR.out,if_pos (by rw [HH.out,if_neg g1,if_neg g2]),List.drop_zero]);have B2:=BV;clear HR HH k11 k12 BV;go_wp2;clear c8;go_loopw [38] (fun i wx=>∃(i':Nat),i=.int .i64 (i':Int)∧i'≤nM∧Hid (R=(firstE (meterE p) (fun m=>(m.line,m.col)) i' (p.meters.drop i')).getD (zM p))∧Hid (Below w1.heap.size w1 wx)) (fun i _=>nM-(intOf i).toNat)
 case atStart=>exact ⟨0,rfl,Nat.zero_le _,E0,B2⟩
 case round=>
  clear E0 B2;obtain ⟨i',rfl,hi,hE,hB⟩:=hrel;by_cases hlt:i'<nM
  ·obtain ⟨x,hti⟩:∃m,p.meters[i']?=some m:=⟨_,List.getElem?_eq_getElem (by have:=HnM.out;omega)⟩;have ST:=hid (firstE_step (f:=meterE p) (pl:=fun m=>(m.line,m.col)) hti);obtain ⟨b,o,e,lb,a0,a1,a2,a3,a4,_⟩:=meter_at (L0.out _ hB.out).1.meters hti;obtain ⟨wt,hwt⟩:∃W,W=wr.alloc (.cells #[x.name,x.unit,x.max,x.line,x.col] 39):=⟨_,rfl⟩;have xt:Box wt wr.heap.size [x.name,x.unit,x.max,x.line,x.col]:=by rw [hwt];exact Box.new _ _ _
   have bt:Below wr.heap.size wr wt:=by rw [hwt];exact bel_alloc _ _
   have BT:=hid (bel_on hB.out bt);obtain ⟨kx,hkx⟩:∃k,k=wr.heap.size:=⟨_,rfl⟩;rw [←hkx] at xt;have XT:=hid xt;have HWT:=hid hwt;have HKX:=hid hkx;clear hti xt hwt bt hkx hB;subst e;go_upto_region 9 with fail
   rw [←HWT.out,←HKX.out];clear HWT HKX a0 a1 a2 a3 a4 lb;have Y:=XT;have BW:=BT;by_cases g4:4≤i'
   ·have E:Hid (R=(6,x.line,x.col)):=hid (by rw [hE.out,ST.out];unfold meterE;rw [if_pos g4,if_neg (by decide)];rfl);have h4:(4:Int)≤(i':Int):=by omega
    clear hE ST;have t1:=cell_regrown (Y.out.cell 3 _ rfl);have t2:=cell_regrown (Y.out.cell 4 _ rfl);go_upto_region 10 with fail
    refine wp_region_quiet_below (by kernel_rfl) (by kernel_rfl) ?_;repeat (go_big_quiet_step (fail))
    refine wpQuiet_nil ?_;intro wv hw';obtain ⟨⟨dq,osq⟩,hw''⟩:=hw';have BV:Hid (Below w1.heap.size w1 wv):=hid (by subst hw'';exact bel_on BW.out (below_regrown wt dq osq));clear hw'';have BF:=hid (L0.out _ BV.out).2;clear t1 t2 BV;go_wp2
    go_ret3
    exact ⟨ret_t E.out,BF.out⟩
   have h4:(i':Int)<4:=by omega
   have RP:=hid (range_of (C.out wt BT.out).cell);have d0:=Y.out.cell 0 _ rfl;have cMx:=cM.out wt x.name BT.out;obtain ⟨IX,hIX⟩:∃z,z=mix p.meters x.name:=⟨_,rfl⟩;rw [←hIX] at cMx;have HIX:=hid hIX;clear hIX Y BW;go_wp2_with (first|(with_reducible refine wpList_load_mid (op:=Oper.mk (some 49) (Op.load 45 (Operand.tmp 1)) _ _ _ _) ?_ 45 (.tmp 1) ?_ k1 0 ?_ [p.name,p.cur,p.a.y,p.a.m,p.a.d,p.b.y,p.b.m,p.b.d,.slice (some ⟨b,o,none⟩) p.meters.length mc,.slice fa p.fees.length fc,.slice ca p.charges.length cc,p.line,p.col] _ RP.out Tryz.underlying45 ?_ ?_ ?_;rfl;rfl;go_simp;rfl;kernel_rfl)|fail)
   refine cMx.mono ?_;rintro e wu ⟨rfl,bu⟩;have Y:=hid (XT.out.on bu);have BW:=hid (bel_on BT.out bu);clear bu cMx d0 RP XT BT;by_cases gx:IX=(i':Int)
   ·have E:Hid (R=(firstE (meterE p) (fun m=>(m.line,m.col)) (i'+1) (p.meters.drop (i'+1))).getD (zM p)):=hid (by rw [hE.out,ST.out,if_pos];unfold meterE;rw [if_neg g4,if_pos (mix_some.1 (by rw [←HIX.out,gx]))]);clear hE ST HIX;subst gx;go_wp2;go_roundw
    case rel=>exact ⟨i'+1,by simp,by omega,E,BW⟩
    case measure=>simp [intOf];omega
   ·have mE:meterE p i' x=5:=by unfold meterE;rw [if_neg g4,if_neg (fun h=>gx (by rw [HIX.out];exact mix_some.2 h))]
    have E:Hid (R=(5,x.line,x.col)):=hid (by rw [hE.out,ST.out,mE,if_neg (by decide)];rfl);have gb:(IX==(i':Int))=false:=by simpa using gx
    clear hE ST HIX mE;have t1:=cell_regrown (Y.out.cell 3 _ rfl);have t2:=cell_regrown (Y.out.cell 4 _ rfl);go_upto_region 12 with fail
    refine wp_region_quiet_below (by kernel_rfl) (by kernel_rfl) ?_;repeat (go_big_quiet_step (fail))
    refine wpQuiet_nil ?_;intro wv hw';obtain ⟨⟨dq,osq⟩,hw''⟩:=hw';have BV:Hid (Below w1.heap.size w1 wv):=hid (by subst hw'';exact bel_on BW.out (below_regrown wu dq osq));clear hw'';have BF:=hid (L0.out _ BV.out).2;clear t1 t2 BV;go_wp2
    go_ret3
    exact ⟨ret_t E.out,BF.out⟩
  ·obtain rfl:i'=nM:=by omega
   have E0:Hid (R=(firstE (feeE p) (fun m=>(m.line,m.col)) 0 (p.fees.drop 0)).getD (zF9 p)):=hid (by rw [hE.out,firstE_end (by have:=HnM.out;omega),List.drop_zero];rfl);obtain ⟨c8,c9,c10,c11,c12⟩:=C2.out _ hB.out;clear c8 c10 c11 c12 hE hlt hi;obtain ⟨wq,hwq⟩:∃W,W=wr:=⟨_,rfl⟩;rw [←hwq] at hB c9 ⊢;have B2:=hB;clear hwq hB;go_wp2;clear c9;go_loopw [63] (fun i wx=>∃(j':Nat),i=.int .i64 (j':Int)∧j'≤nF∧Hid (R=(firstE (feeE p) (fun m=>(m.line,m.col)) j' (p.fees.drop j')).getD (zF9 p))∧Hid (Below w1.heap.size w1 wx)) (fun i _=>nF-(intOf i).toNat)
   case atStart=>exact ⟨0,rfl,Nat.zero_le _,E0,B2⟩
   case round=>
    clear E0 B2;obtain ⟨j',rfl,hi,hE,hB⟩:=hrel;by_cases hlt:j'<nF
    ·obtain ⟨x,hti⟩:∃m,p.fees[j']?=some m:=⟨_,List.getElem?_eq_getElem (by have:=HnF.out;omega)⟩;have ST:=hid (firstE_step (f:=feeE p) (pl:=fun m=>(m.line,m.col)) hti);have gx:=(H.out.gd.fees x (List.mem_of_getElem? hti)).2;obtain ⟨b,o,e,lb,a0,a1,a2,a3,a4,a5,a6,a7,a8,a9,_⟩:=fee_at (L0.out _ hB.out).1.fees hti;obtain ⟨wt,hwt⟩:∃W,W=wr.alloc (.cells #[x.amount,x.win.has,x.win.a.y,x.win.a.m,x.win.a.d,x.win.b.y,x.win.b.m,x.win.b.d,x.line,x.col] 84):=⟨_,rfl⟩;have xt:Box wt wr.heap.size [x.amount,x.win.has,x.win.a.y,x.win.a.m,x.win.a.d,x.win.b.y,x.win.b.m,x.win.b.d,x.line,x.col]:=by rw [hwt];exact Box.new _ _ _
     have bt:Below wr.heap.size wr wt:=by rw [hwt];exact bel_alloc _ _
     have BT:=hid (bel_on hB.out bt);obtain ⟨kx,hkx⟩:∃k,k=wr.heap.size:=⟨_,rfl⟩;rw [←hkx] at xt;have XT:=hid xt;have HWT:=hid hwt;have HKX:=hid hkx;have cWx:=cW.out wt x.win gx;clear hti xt hwt bt hkx hB gx;subst e;go_upto_region 17 with fail
     rw [←HWT.out,←HKX.out];clear HWT HKX a0 a1 a2 a3 a4 a5 a6 a7 a8 a9 lb;have Y:=XT;have BW:=BT;by_cases g4:8≤j'
     ·have E:Hid (R=(6,x.line,x.col)):=hid (by rw [hE.out,ST.out];unfold feeE;rw [if_pos g4,if_neg (by decide)];rfl);have h4:(8:Int)≤(j':Int):=by omega
      clear hE ST cWx;have t1:=cell_regrown (Y.out.cell 8 _ rfl);have t2:=cell_regrown (Y.out.cell 9 _ rfl);go_upto_region 18 with fail
      refine wp_region_quiet_below (by kernel_rfl) (by kernel_rfl) ?_;repeat (go_big_quiet_step (fail))
      refine wpQuiet_nil ?_;intro wv hw';obtain ⟨⟨dq,osq⟩,hw''⟩:=hw';have BV:Hid (Below w1.heap.size w1 wv):=hid (by subst hw'';exact bel_on BW.out (below_regrown wt dq osq));clear hw'';have BF:=hid (L0.out _ BV.out).2;clear t1 t2 BV;go_wp2
      go_ret3
      exact ⟨ret_t E.out,BF.out⟩
     have h4:(j':Int)<8:=by omega
     have RP:=hid (range_of (C.out wt BT.out).cell);have d1:=Y.out.cell 1 _ rfl;have d2:=Y.out.cell 2 _ rfl;have d3:=Y.out.cell 3 _ rfl;have d4:=Y.out.cell 4 _ rfl;have d5:=Y.out.cell 5 _ rfl;have d6:=Y.out.cell 6 _ rfl;have d7:=Y.out.cell 7 _ rfl;obtain ⟨WB,hWB⟩:∃z,z=winIn p x.win:=⟨_,rfl⟩;rw [←hWB] at cWx;have HWB:=hid hWB;clear hWB Y BW;go_wp2_with (first|(with_reducible refine wpList_load_mid (op:=Oper.mk (some 74) (Op.load 45 (Operand.tmp 1)) _ _ _ _) ?_ 45 (.tmp 1) ?_ k1 0 ?_ [p.name,p.cur,p.a.y,p.a.m,p.a.d,p.b.y,p.b.m,p.b.d,.slice ma p.meters.length mc,.slice (some ⟨b,o,none⟩) p.fees.length fc,.slice ca p.charges.length cc,p.line,p.col] _ RP.out Tryz.underlying45 ?_ ?_ ?_;rfl;rfl;go_simp;rfl;kernel_rfl)|fail)
     refine cWx.mono ?_;rintro e wu ⟨rfl,bu⟩;have Y:=hid (XT.out.on bu);have BW:=hid (bel_on BT.out bu);clear bu cWx d1 d2 d3 d4 d5 d6 d7 RP XT BT;by_cases gx:WB=true
     ·have E:Hid (R=(firstE (feeE p) (fun m=>(m.line,m.col)) (j'+1) (p.fees.drop (j'+1))).getD (zF9 p)):=hid (by rw [hE.out,ST.out,if_pos];unfold feeE;rw [if_neg g4,if_pos (by rw [←HWB.out,gx])]);clear hE ST HWB;subst gx;go_wp2;go_roundw
      case rel=>exact ⟨j'+1,by simp,by omega,E,BW⟩
      case measure=>simp [intOf];omega
     ·have mE:feeE p j' x=5:=by unfold feeE;rw [if_neg g4,if_neg (by rw [←HWB.out];exact gx)]
      have E:Hid (R=(5,x.line,x.col)):=hid (by rw [hE.out,ST.out,mE,if_neg (by decide)];rfl);obtain rfl:WB=false:=by simpa using gx
      clear hE ST HWB mE gx;have t1:=cell_regrown (Y.out.cell 8 _ rfl);have t2:=cell_regrown (Y.out.cell 9 _ rfl);go_upto_region 20 with fail
      refine wp_region_quiet_below (by kernel_rfl) (by kernel_rfl) ?_;repeat (go_big_quiet_step (fail))
      refine wpQuiet_nil ?_;intro wv hw';obtain ⟨⟨dq,osq⟩,hw''⟩:=hw';have BV:Hid (Below w1.heap.size w1 wv):=hid (by subst hw'';exact bel_on BW.out (below_regrown wu dq osq));clear hw'';have BF:=hid (L0.out _ BV.out).2;clear t1 t2 BV;go_wp2
      go_ret3
      exact ⟨ret_t E.out,BF.out⟩
    ·obtain rfl:j'=nF:=by omega
     have E0:Hid (R=(firstE (chE p) (fun m=>(m.line,m.col)) 0 (p.charges.drop 0)).getD (zC p)):=hid (by rw [hE.out,firstE_end (by have:=HnF.out;omega),List.drop_zero];rfl);have E00:Hid (firstE (chE p) (fun m=>(m.line,m.col)) 0 (p.charges.drop 0)=firstE (chE p) (fun m=>(m.line,m.col)) 0 p.charges):=hid (by rw [List.drop_zero]);obtain ⟨c8,c9,c10,c11,c12⟩:=C2.out _ hB.out;clear c8 c9 c11 c12 hE hlt hi;obtain ⟨wz,hwz⟩:∃W,W=wr:=⟨_,rfl⟩;rw [←hwz] at hB c10 ⊢;have B2:=hB;clear hwz hB;go_wp2;clear c10;go_loopw [87] (fun i wx=>∃(l':Nat),i=.int .i64 (l':Int)∧l'≤nC∧Hid (R=(firstE (chE p) (fun m=>(m.line,m.col)) l' (p.charges.drop l')).getD (zC p))∧Hid (firstE (chE p) (fun m=>(m.line,m.col)) l' (p.charges.drop l')=firstE (chE p) (fun m=>(m.line,m.col)) 0 p.charges)∧Hid (Below w1.heap.size w1 wx)) (fun i _=>nC-(intOf i).toNat)
     case atStart=>exact ⟨0,rfl,Nat.zero_le _,E0,E00,B2⟩
     case round=>
      clear E0 E00 B2;obtain ⟨l',rfl,hi,hE,hF,hB⟩:=hrel;by_cases hlt:l'<nC
      ·obtain ⟨x,hti⟩:∃m,p.charges[l']?=some m:=⟨_,List.getElem?_eq_getElem (by have:=HnC.out;omega)⟩;have ST:=hid (firstE_step (f:=chE p) (pl:=fun m=>(m.line,m.col)) hti);obtain ⟨b,o,ta,tc,aa,ac,e,ax,lx0⟩:=charge_at (L0.out _ hB.out).1.charges hti;have r1:=hid (range_ch ax);unfold chargeC at r1;obtain ⟨wt,hwt⟩:∃W,W=wr.alloc (.cells #[x.meter,x.win.has,x.win.a.y,x.win.a.m,x.win.a.d,x.win.b.y,x.win.b.m,x.win.b.d,x.allowance,x.block,x.kind,.slice ta x.tiers.length tc,x.mode,.slice aa x.adjusts.length ac,x.line,x.col] 87):=⟨_,rfl⟩;have xt:Box wt wr.heap.size [x.meter,x.win.has,x.win.a.y,x.win.a.m,x.win.a.d,x.win.b.y,x.win.b.m,x.win.b.d,x.allowance,x.block,x.kind,.slice ta x.tiers.length tc,x.mode,.slice aa x.adjusts.length ac,x.line,x.col]:=by rw [hwt];exact Box.new _ _ _
       have bt:Below wr.heap.size wr wt:=by rw [hwt];exact bel_alloc _ _
       have BT:=hid (bel_on hB.out bt);obtain ⟨kx,hkx⟩:∃k,k=wr.heap.size:=⟨_,rfl⟩;rw [←hkx] at xt;have XT:=hid xt;have HWT:=hid hwt;have HKX:=hid hkx;have cCx:=cC.out wt l' x hti BT.out;clear hti xt hwt bt hkx hB ax lx0;subst e
       go_upto_region 25 with (first
        | (with_reducible refine wpList_load_mid (op:=Oper.mk (some 91) (Op.load 87 (Operand.tmp 90)) _ _ _ _) ?_ 87 (.tmp 90) ?_ b (o+l'*16) ?_ [x.meter,x.win.has,x.win.a.y,x.win.a.m,x.win.a.d,x.win.b.y,x.win.b.m,x.win.b.d,x.allowance,x.block,x.kind,.slice ta x.tiers.length tc,x.mode,.slice aa x.adjusts.length ac,x.line,x.col] _ r1.out Tryz.underlying87 ?_ ?_ ?_;rfl;rfl;go_simp;rfl;kernel_rfl)
        | (with_reducible refine wpList_store_new (op:=Oper.mk none (Op.store 87 (Operand.tmp 11) (Operand.tmp 91)) _ _ _ _) ?_ 87 (.tmp 11) (.tmp 91) ?_ wr _ #[x.meter,x.win.has,x.win.a.y,x.win.a.m,x.win.a.d,x.win.b.y,x.win.b.m,x.win.b.d,x.allowance,x.block,x.kind,.slice ta x.tiers.length tc,x.mode,.slice aa x.adjusts.length ac,x.line,x.col] ?_ ?_ ?_ ?_ ?_ ?_;rfl;rfl;go_simp;go_simp;kernel_rfl;rfl;(simp [Value.oneCell']))
        | fail)
       rw [←HWT.out,←HKX.out];clear HWT HKX r1;have RP:=hid (range_of (C.out wt BT.out).cell);obtain ⟨CE,hCE⟩:∃z,z=chE p l' x:=⟨_,rfl⟩;rw [←hCE] at cCx ST;clear hCE;go_wp2_with (first|(with_reducible refine wpList_load_mid (op:=Oper.mk (some 92) (Op.load 45 (Operand.tmp 1)) _ _ _ _) ?_ 45 (.tmp 1) ?_ k1 0 ?_ [p.name,p.cur,p.a.y,p.a.m,p.a.d,p.b.y,p.b.m,p.b.d,.slice ma p.meters.length mc,.slice fa p.fees.length fc,.slice (some ⟨b,o,none⟩) p.charges.length cc,p.line,p.col] _ RP.out Tryz.underlying45 ?_ ?_ ?_;rfl;rfl;go_simp;rfl;kernel_rfl)|fail)
       refine cCx.mono ?_;rintro e wu ⟨rfl,bu⟩;have Y:=hid (XT.out.on bu);have BW:=hid (bel_on BT.out bu);clear bu cCx RP XT BT;by_cases gx:CE=0
       ·have E:Hid (R=(firstE (chE p) (fun m=>(m.line,m.col)) (l'+1) (p.charges.drop (l'+1))).getD (zC p)):=hid (by rw [hE.out,ST.out,if_pos gx]);have F:Hid (firstE (chE p) (fun m=>(m.line,m.col)) (l'+1) (p.charges.drop (l'+1))=firstE (chE p) (fun m=>(m.line,m.col)) 0 p.charges):=hid (by rw [←hF.out,ST.out,if_pos gx]);clear hE hF ST;subst gx;go_wp2;go_roundw
        case rel=>exact ⟨l'+1,by simp,by omega,E,F,BW⟩
        case measure=>simp [intOf];omega
       ·have E:Hid (R=(CE,x.line,x.col)):=hid (by rw [hE.out,ST.out,if_neg gx];rfl);have gb:(CE==0)=false:=by simpa using gx
        clear hE hF ST;have t1:=cell_regrown (Y.out.cell 14 _ rfl);have t2:=cell_regrown (Y.out.cell 15 _ rfl);go_upto_region 27 with fail
        refine wp_region_quiet_below (by kernel_rfl) (by kernel_rfl) ?_;repeat (go_big_quiet_step (fail))
        refine wpQuiet_nil ?_;intro wv hw';obtain ⟨⟨dq,osq⟩,hw''⟩:=hw';have BV:Hid (Below w1.heap.size w1 wv):=hid (by subst hw'';exact bel_on BW.out (below_regrown wu dq osq));clear hw'';have BF:=hid (L0.out _ BV.out).2;clear t1 t2 BV;go_wp2
        go_ret3
        exact ⟨ret_t E.out,BF.out⟩
      ·obtain rfl:l'=nC:=by omega
       have EN:firstE (chE p) (fun m=>(m.line,m.col)) 0 p.charges=none:=by rw [←hF.out,firstE_end (by have:=HnC.out;omega)]
       have E0:Hid (R=zC p):=hid (by rw [hE.out,firstE_end (by have:=HnC.out;omega)];rfl);have cBx:=cB.out wr (chs_of H.out EN) hB.out;have RP:=hid (range_of (C.out _ hB.out).cell);obtain ⟨O,hO⟩:∃O,O=boundOf p:=⟨_,rfl⟩;rw [←hO] at cBx;have E1:Hid (R=if O=none then (6,p.line,p.col) else (0,0,0)):=hid (by rw [E0.out,hO];rfl);obtain ⟨XV,hXV⟩:∃x,x=O.getD 0:=⟨_,rfl⟩;obtain ⟨XB,hXB⟩:∃x,x=O.isSome:=⟨_,rfl⟩;rw [←hXV,←hXB] at cBx;have HXB:=hid hXB;clear EN E0 hO hE hF hlt hi hXV hXB;go_wp2_with (first|(with_reducible refine wpList_load_mid (op:=Oper.mk (some 104) (Op.load 45 (Operand.tmp 1)) _ _ _ _) ?_ 45 (.tmp 1) ?_ k1 0 ?_ [p.name,p.cur,p.a.y,p.a.m,p.a.d,p.b.y,p.b.m,p.b.d,.slice ma p.meters.length mc,.slice fa p.fees.length fc,.slice ca p.charges.length cc,p.line,p.col] _ RP.out Tryz.underlying45 ?_ ?_ ?_;rfl;rfl;go_simp;rfl;kernel_rfl)|fail)
       refine cBx.mono ?_;rintro e wu ⟨rfl,bu⟩;have BW:=hid (bel_on hB.out bu);have Y:=hid (C.out _ BW.out);clear bu cBx RP hB;by_cases gx:XB=false
       ·have E:Hid (R=(6,p.line,p.col)):=hid (by rw [E1.out,if_pos];have:=HXB.out;rw [gx] at this;cases O with|none=>rfl|some y=>cases this);subst gx;clear E1 HXB;have t1:=cell_regrown (Y.out.cell 11 _ rfl);have t2:=cell_regrown (Y.out.cell 12 _ rfl);go_upto_region 31 with fail
        refine wp_region_quiet_below (by kernel_rfl) (by kernel_rfl) ?_;repeat (go_big_quiet_step (fail))
        refine wpQuiet_nil ?_;intro wv hw';obtain ⟨⟨dq,osq⟩,hw''⟩:=hw';have BV:Hid (Below w1.heap.size w1 wv):=hid (by subst hw'';exact bel_on BW.out (below_regrown wu dq osq));clear hw'';have BF:=hid (L0.out _ BV.out).2;clear t1 t2 BV;go_wp2
        go_ret3
        exact ⟨ret_t E.out,BF.out⟩
       obtain rfl:XB=true:=by simpa using gx
       have E:Hid (R=(0,0,0)):=hid (by rw [E1.out,if_neg];intro hn;have:=HXB.out;rw [hn] at this;cases this);have BF:=hid (L0.out _ BW.out).2;clear E1 HXB;go_wp2
       go_ret3
       exact ⟨ret_t E.out,BF.out⟩
end R9
namespace P
open Go.RowKit Go.Sort Mm R6
theorem ix_mem {ms:List Meter} {n:ByteArray} : (∃i,meterIx ms n=some i)↔∃m∈ms,m.name=n:=by
 constructor
 ·rintro ⟨i,hi⟩;obtain ⟨m,hm,e⟩:=ix_some hi;exact ⟨m,List.mem_of_getElem? hm,e⟩
 ·rintro ⟨m,hm,e⟩;cases hx:meterIx ms n with
  | some i=>exact ⟨i,rfl⟩
  | none=>
    unfold meterIx at hx;rw [List.findIdx?_eq_none_iff] at hx;have:=hx m hm;rw [e] at this;simp at this
theorem ix_srt {ms:List Meter} {n:ByteArray} (h:∃i,meterIx ms n=some i):∃i,meterIx (srt ms) n=some i:=by
 obtain ⟨m,hm,e⟩:=ix_mem.1 h;refine ix_mem.2 ⟨nM m,(srt_perm ms).mem_iff.2 (List.mem_map.2 ⟨m,hm,rfl⟩),e⟩
theorem ix_lt {ms:List Meter} {n:ByteArray} {i:Nat} (h:meterIx ms n=some i):i<ms.length:=by
 obtain ⟨m,hm,_⟩:=ix_some h;exact (List.getElem?_eq_some_iff.1 hm).1
end P
end Go.Proofs.YtjgogpaedaffkaaGreat
