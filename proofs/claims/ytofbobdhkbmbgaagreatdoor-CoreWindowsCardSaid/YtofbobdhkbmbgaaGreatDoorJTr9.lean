/- Package check, walked: Bound. -/
import Derived.Test.YtofbobdhkbmbgaaGreatDoorJCk4
set_option maxRecDepth 100000
set_option maxHeartbeats 16000000
namespace Go.Proofs.YtofbobdhkbmbgaaGreatDoor
namespace Cc
open Go.RowKit Go.Sort P Mm Md R6 L06 R9
def tkO (o:Option Int) (n:Int) (ok:Bool):Option Int:=if ok=true then o.bind fun t=>lim (cut64 (t+n)) (ok64 (t+n)) else none
structure Tk (W:World) (bT bH:Nat) (o:Option Int):Prop where
 t:W.cell? ⟨bT,0,none⟩=some (.int .i64 (o.getD 0))
 h:W.cell? ⟨bH,0,none⟩=some (.bool o.isSome)
 ft:W.frozen? ⟨bT,0,none⟩=false
 fh:W.frozen? ⟨bH,0,none⟩=false
 lt:bT<W.heap.size∧bH<W.heap.size
theorem Tk.on {W W':World} {bT bH:Nat} {o:Option Int} (h:Tk W bT bH o) (b:Below W.heap.size W W'):Tk W' bT bH o:=
 ⟨(b.cell h.lt.1).trans h.t,(b.cell h.lt.2).trans h.h,(b.frozen h.lt.1).trans h.ft,(b.frozen h.lt.2).trans h.fh,Nat.lt_of_lt_of_le h.lt.1 b.size,Nat.lt_of_lt_of_le h.lt.2 b.size⟩
theorem Tk.put {W:World} {bT bH:Nat} {o o':Option Int} (h:Tk W bT bH o) (ne:bT≠bH):Tk ((W.setCell ⟨bT,0,none⟩ (.int .i64 (o'.getD 0))).setCell ⟨bH,0,none⟩ (.bool o'.isSome)) bT bH o':=by
 obtain ⟨t,h1,ft,fh,l1,l2⟩:=h;have ne':bH≠bT:=fun e=>ne e.symm;constructor
 ·go_simp
 ·go_simp
 ·go_simp
 ·go_simp
 ·simp [World.setCell];exact ⟨l1,l2⟩
theorem take_any (n:Int) (k:Bool) (bT bH:Nat) (o:Option Int) (w:World) (hn:I64 n) (h:Tk w bT bH o) (ne:bT≠bH) (io:∀m,o=some m→I64 m) :
  Calls Tryz.prog 118 #[.int .i64 n,.bool k,.pointer (some ⟨bH,0,none⟩),.pointer (some ⟨bT,0,none⟩)] w fun e w'=>e=.returned (.tuple #[])∧w'=(w.setCell ⟨bT,0,none⟩ (.int .i64 ((tkO o n k).getD 0))).setCell ⟨bH,0,none⟩ (.bool (tkO o n k).isSome):=by
 obtain ⟨t,h1,ft,fh,l1,l2⟩:=h;have ne':bH≠bT:=fun e=>ne e.symm;by_cases hc:o=none∨k=false
 ·have e:tkO o n k=none:=by
   unfold tkO;rcases hc with rfl|rfl
   ·split<;>rfl
   ·rfl
  rw [e];show Calls _ _ _ _ fun e w'=>e=.returned (.tuple #[])∧w'=(w.setCell ⟨bT,0,none⟩ (.int .i64 0)).setCell ⟨bH,0,none⟩ (.bool false)
  by_cases ho:o=none
  ·subst ho;have h2:w.cell? ⟨bH,0,none⟩=some (.bool false):=h1;clear h1 io e hc hn;go_enter Tryz.func118,Tryz.ntmps118
   go_wp2
   (try simp only [Exit.inBlock,Exit.then]);refine bodyPost_ret (results_none rfl _ _ _) rfl ?_
   exact ⟨rfl,rfl⟩
  ·have hk:k=false:=by rcases hc with h|h;exact absurd h ho;exact h
   obtain ⟨m,hm⟩:=Option.ne_none_iff_exists'.1 ho;subst hk;subst hm;have h2:w.cell? ⟨bH,0,none⟩=some (.bool true):=h1;clear h1 io e hc ho hn;go_enter Tryz.func118,Tryz.ntmps118
   go_wp2
   (try simp only [Exit.inBlock,Exit.then]);refine bodyPost_ret (results_none rfl _ _ _) rfl ?_
   exact ⟨rfl,rfl⟩
 ·obtain ⟨m,hm⟩:=Option.ne_none_iff_exists'.1 (fun h=>hc (.inl h))
  have hk:k=true:=by
   cases k with
   | true=>rfl
   | false=>exact absurd (.inr rfl) hc
  subst hk;subst hm;have im:=io m rfl;have h2:w.cell? ⟨bH,0,none⟩=some (.bool true):=h1;have t2:w.cell? ⟨bT,0,none⟩=some (.int .i64 m):=t;have cA:=hid (Ex.add_any m n w im hn);obtain ⟨N,hN⟩:∃N,N=cut64 (m+n):=⟨_,rfl⟩;obtain ⟨K,hK⟩:∃N,N=ok64 (m+n):=⟨_,rfl⟩;have e:tkO (some m) n true=lim N K:=by rw [hN,hK];rfl
  rw [←hN,←hK] at cA;have cB:=hid (below_any N K w);rw [e];obtain ⟨O,hO⟩:∃O,O=lim N K:=⟨_,rfl⟩;rw [←hO] at cB ⊢;obtain ⟨XV,hXV⟩:∃x,x=O.getD 0:=⟨_,rfl⟩;obtain ⟨XB,hXB⟩:∃x,x=O.isSome:=⟨_,rfl⟩;rw [←hXV,←hXB] at cB ⊢;clear h1 t io e hc hN hK hO hXV hXB im hn;go_enter Tryz.func118,Tryz.ntmps118
  go_wp2_with fail
  refine cA.out.mono ?_;rintro e w1 ⟨rfl,rfl⟩;go_wp2_with fail
  refine cB.out.mono ?_;rintro e w1 ⟨rfl,rfl⟩;go_wp2
  go_end0
  exact ⟨rfl,rfl⟩
theorem take_tk (n:Int) (k:Bool) (bT bH:Nat) (o:Option Int) (w:World) (hn:I64 n) (h:Tk w bT bH o) (ne:bT≠bH) (io:∀m,o=some m→I64 m) :
  Calls Tryz.prog 118 #[.int .i64 n,.bool k,.pointer (some ⟨bH,0,none⟩),.pointer (some ⟨bT,0,none⟩)] w fun e w'=>e=.returned (.tuple #[])∧Tk w' bT bH (tkO o n k)∧∀(B:Nat) (w0:World),B≤bT→B≤bH→Below B w0 w→Below B w0 w':=
 (take_any n k bT bH o w hn h ne io).mono fun _ _ ⟨e1,e2⟩=>by
  subst e2;exact ⟨e1,h.put ne,fun B w0 h1 h2 hb=>(hb.setCell h1 _).setCell h2 _⟩
def I60o (o:Option Int):Prop:=∀n,o=some n→0≤n∧n<1152921504606846976
theorem I60o.i64 {o:Option Int} (h:I60o o):∀n,o=some n→I64 n:=fun n e=>by have:=h n e;unfold I64;omega
theorem tk_60 {o:Option Int} {x:Int} {k:Bool} (h:I60o o) (hx:0≤x):I60o (tkO o x k):=by
 intro n e;unfold tkO at e;split at e
 ·obtain ⟨t,ht,e2⟩:=Option.bind_eq_some_iff.1 e;obtain ⟨h1,h2,rfl⟩:=lim_some e2;rw [ok64_iff] at h1;rw [cut64_t h1] at h2 ⊢;have:=(h t ht).1;exact ⟨by omega,h2⟩
 ·cases e
theorem sum_tk {o:Option Int} {x:Int} {r:List Int} (h:I60o o) (hx:I60 x):(o.bind fun n=>sumUp n (x::r))=(tkO o x true).bind fun n=>sumUp n r:=by
 cases o with
 | none=>rfl
 | some n=>
   obtain ⟨n0,n1⟩:=h n rfl;obtain ⟨x0,x1⟩:=hx;show sumUp n (x::r)=(lim (cut64 (n+x)) (ok64 (n+x))).bind fun n=>sumUp n r
   conv=>lhs;unfold sumUp
   by_cases hl:n+x<1152921504606846976
   ·have hi:I64 (n+x):=by unfold I64;omega
    rw [if_neg (by unfold maxBound;omega),cut64_t hi,ok64_t hi,lim_t rfl (by unfold maxBound;omega)];rfl
   ·rw [if_pos (by unfold maxBound;omega)];by_cases hi:I64 (n+x)
    ·rw [cut64_t hi,ok64_t hi,lim_g (by unfold maxBound;omega)];rfl
    ·rw [cut64_f hi,ok64_f hi,lim_f rfl];rfl
theorem most_tk {ms:List Meter} {cs:List Charge} {j k:Nat} {c:Charge} {o O:Option Int} (hj:cs[j]?=some c) (hk:meterIx ms c.meter=some k) (hO:O=mostOf c (ms.getD k default).max) (h:I60o o) (hx:∀x,O=some x→I60 x) :
  ((mosts ms (cs.drop j)).bind fun l=>o.bind fun n=>sumUp n l)=(mosts ms (cs.drop (j+1))).bind fun l=>(tkO o (O.getD 0) O.isSome).bind fun n=>sumUp n l:=by
 rw [mosts_some hj hk,←hO];cases O with
 | none=>
   show none=(mosts ms (cs.drop (j+1))).bind fun l=>none
   cases mosts ms (cs.drop (j+1))<;>rfl
 | some x=>
   show (((mosts ms (cs.drop (j+1))).map (x::·)).bind fun l=>o.bind fun n=>sumUp n l)=(mosts ms (cs.drop (j+1))).bind fun l=>(tkO o x true).bind fun n=>sumUp n l
   cases mosts ms (cs.drop (j+1)) with
   | none=>rfl
   | some l=>exact sum_tk h (hx x rfl)
theorem fee_tk {fs:List Fee} {i:Nat} {f:Fee} {o:Option Int} {z:Option (List Int)} (hi:fs[i]?=some f) (h:I60o o) (hx:I60 f.amount) :
  (z.bind fun l=>o.bind fun n=>sumUp n ((fs.drop i).map (·.amount)++l))=z.bind fun l=>(tkO o f.amount true).bind fun n=>sumUp n ((fs.drop (i+1)).map (·.amount)++l):=by
 rw [drop_at hi];cases z with
 | none=>rfl
 | some l=>exact sum_tk h hx
theorem bound_any (p:Plan) (ma:Option Addr) (mc:Nat) (fa:Option Addr) (fc:Nat) (ca:Option Addr) (cc:Nat) (w:World) (hp:PlanLies w (planC p ma mc fa fc ca cc) p ma mc fa fc ca cc) (h:Chs p) :
  Calls Tryz.prog 71 #[.agg #[p.name,p.cur,p.a.y,p.a.m,p.a.d,p.b.y,p.b.m,p.b.d,.slice ma p.meters.length mc,.slice fa p.fees.length fc,.slice ca p.charges.length cc,p.line,p.col]] w fun e w'=>e=.returned (.tuple #[.int .i64 ((boundOf p).getD 0),.bool (boundOf p).isSome])∧Below w.heap.size w w':=by
 obtain ⟨w1,hw1⟩:∃W,W=w.alloc (.cells #[p.name,p.cur,p.a.y,p.a.m,p.a.d,p.b.y,p.b.m,p.b.d,.slice ma p.meters.length mc,.slice fa p.fees.length fc,.slice ca p.charges.length cc,p.line,p.col] 41):=⟨_,rfl⟩;have b1:Below w.heap.size w w1:=by rw [hw1];exact bel_alloc _ _
 obtain ⟨k1,hk1⟩:∃k,k=w.heap.size:=⟨_,rfl⟩;have X1:Box w1 k1 [p.name,p.cur,p.a.y,p.a.m,p.a.d,p.b.y,p.b.m,p.b.d,.slice ma p.meters.length mc,.slice fa p.fees.length fc,.slice ca p.charges.length cc,p.line,p.col]:=by rw [hw1,hk1];exact Box.new _ _ _
 obtain ⟨nF,hnF⟩:∃n,n=p.fees.length:=⟨_,rfl⟩;obtain ⟨nC,hnC⟩:∃n,n=p.charges.length:=⟨_,rfl⟩;have C:Hid (∀W,Below w1.heap.size w1 W→Box W k1 [p.name,p.cur,p.a.y,p.a.m,p.a.d,p.b.y,p.b.m,p.b.d,.slice ma p.meters.length mc,.slice fa p.fees.length fc,.slice ca p.charges.length cc,p.line,p.col]):=hid fun W b=>X1.on b
 have C2:Hid (∀W,Below w1.heap.size w1 W→W.cell? ⟨k1,9,none⟩=some (.slice fa nF fc)∧W.cell? ⟨k1,10,none⟩=some (.slice ca nC cc)):=hid fun W b=>by
  rw [hnF,hnC];exact ⟨(X1.on b).cell 9 _ rfl,(X1.on b).cell 10 _ rfl⟩
 have L0:Hid (∀W,Below w1.heap.size w1 W→PlanLies W (planC p ma mc fa fc ca cc) p ma mc fa fc ca cc∧Below w.heap.size w W):=
  hid fun W b=>⟨hp.on (bel_on b1 b),bel_on b1 b⟩
 have qF:nF≤20000:=by rw [hnF];exact h.cnt.2.1
 have qC:nC≤20000:=by rw [hnC];exact h.cnt.2.2
 have uF:nF≤fc:=by rw [hnF];exact hp.fees.hcap
 have uC:nC≤cc:=by rw [hnC];exact hp.charges.hcap
 obtain ⟨M,hM⟩:∃M,M=boundOf p:=⟨_,rfl⟩;rw [←hM];have HM:Hid (M=(mosts p.meters p.charges).bind fun l=>(some 0:Option Int).bind fun n=>sumUp n ((p.fees.drop 0).map (·.amount)++l)):=hid (by rw [hM,List.drop_zero];rfl);obtain ⟨w2,hw2⟩:∃W,W=(w1.alloc (.cells #[.int .i64 0] 3)).alloc (.cells #[.bool true] 4):=⟨_,rfl⟩;obtain ⟨bT,hbT⟩:∃k,k=w1.heap.size:=⟨_,rfl⟩;obtain ⟨bH,hbH⟩:∃k,k=w1.heap.size+1:=⟨_,rfl⟩;have ne:bT≠bH:=by omega
 have b2:Below w1.heap.size w1 w2:=by rw [hw2];exact bel_on (bel_alloc _ _) (bel_alloc _ _)
 have T0:Hid (Tk w2 bT bH (some 0)):=hid (by
  rw [hw2,hbT,hbH];constructor
  ·go_simp
  ·go_simp
  ·go_simp
  ·go_simp
  ·simp;omega)
 have HW2:=hid hw2;have HBT:=hid hbT;have HBH:=hid hbH;have HnF:=hid hnF;have HnC:=hid hnC;have H:=hid h;have HW:=hid hw1;have HK:=hid hk1;have B2:=hid b2;have LT:Hid (w1.heap.size≤bT∧w1.heap.size≤bH):=hid (by omega);clear hM hnF hnC hp b1 X1 hw1 hk1 h hw2 hbT hbH b2;go_enter Tryz.func71,Tryz.ntmps71
 go_upto_region 1 with fail
 rw [←HW.out,←HK.out];clear HW HK;go_upto_region 2 with fail
 rw [←HW2.out,←HBH.out,←HBT.out];clear HW2 HBH HBT;obtain ⟨c9,c10⟩:=C2.out w2 B2.out;clear c10;go_wp2;clear c9;go_loopw [15] (fun i wx=>∃(i':Nat) (o:Option Int),i=.int .i64 (i':Int)∧i'≤nF∧Hid (M=(mosts p.meters p.charges).bind fun l=>o.bind fun n=>sumUp n ((p.fees.drop i').map (·.amount)++l))∧Hid (I60o o)∧Hid (Tk wx bT bH o)∧Hid (Below w1.heap.size w1 wx)) (fun i _=>nF-(intOf i).toNat)
 case atStart=>exact ⟨0,some 0,rfl,Nat.zero_le _,HM,hid (fun n e=>by cases e;omega),T0,B2⟩
 case round=>
  clear HM T0 B2;obtain ⟨i',o,rfl,hi,hM,hO,hT,hB⟩:=hrel;by_cases hlt:i'<nF
  ·obtain ⟨x,hti⟩:∃m,p.fees[i']?=some m:=⟨_,List.getElem?_eq_getElem (by have:=HnF.out;omega)⟩;have gx:=(H.out.gd.fees x (List.mem_of_getElem? hti)).1;have ix:I60 x.amount:=⟨gx.1,by have:=gx.2;omega⟩;have HM2:Hid (M=(mosts p.meters p.charges).bind fun l=>(tkO o x.amount true).bind fun n=>sumUp n ((p.fees.drop (i'+1)).map (·.amount)++l)):=hid (by rw [hM.out,fee_tk hti hO.out ix]);have HO2:=hid (tk_60 (k:=true) hO.out ix.1);obtain ⟨b,oo,e,lb,a0,a1,a2,a3,a4,a5,a6,a7,a8,a9,_⟩:=fee_at (L0.out _ hB.out).1.fees hti;obtain ⟨wt,hwt⟩:∃W,W=wr.alloc (.cells #[x.amount,x.win.has,x.win.a.y,x.win.a.m,x.win.a.d,x.win.b.y,x.win.b.m,x.win.b.d,x.line,x.col] 53):=⟨_,rfl⟩;obtain ⟨kx,hkx⟩:∃k,k=wr.heap.size:=⟨_,rfl⟩;have xt:Box wt kx [x.amount,x.win.has,x.win.a.y,x.win.a.m,x.win.a.d,x.win.b.y,x.win.b.m,x.win.b.d,x.line,x.col]:=by rw [hwt,hkx];exact Box.new _ _ _
   have bt:Below wr.heap.size wr wt:=by rw [hwt];exact bel_alloc _ _
   have BT:=hid (bel_on hB.out bt);have t0:=xt.cell 0 _ rfl;have cT:=hid (take_tk x.amount true bT bH o wt (by have:=ix.1;have:=ix.2;unfold I64;omega) (hT.out.on bt) ne hO.out.i64);have HWT:=hid hwt;have HKX:=hid hkx;clear hti gx ix hM hO hT hB xt bt hwt hkx;subst e;go_upto_region 6 with fail
   rw [←HWT.out,←HKX.out];clear HWT HKX a0 a1 a2 a3 a4 a5 a6 a7 a8 a9;go_wp2_with fail
   refine cT.out.mono ?_;rintro e wu ⟨rfl,tu,bu⟩;have TU:=hid tu;have BU:=hid (bu w1.heap.size w1 LT.out.1 LT.out.2 BT.out);clear tu bu cT t0 BT;go_wp2;go_roundw
   case rel=>exact ⟨i'+1,_,by simp,by omega,HM2,HO2,TU,BU⟩
   case measure=>simp [intOf];omega
  ·obtain rfl:i'=nF:=by omega
   have HM3:Hid (M=(mosts p.meters (p.charges.drop 0)).bind fun l=>o.bind fun n=>sumUp n l):=hid (by
    rw [hM.out,List.drop_of_length_le (by have:=HnF.out;omega),List.drop_zero];rfl)
   obtain ⟨wq,hwq⟩:∃wq,wq=wr:=⟨_,rfl⟩;rw [←hwq] at hT hB ⊢;clear hwq hM hlt hi;obtain ⟨c9,c10⟩:=C2.out wq hB.out;clear c9;have B3:=hB;have T3:=hT;have O3:=hO;clear hB hT hO;go_wp2;clear c10;go_loopw [27] (fun i wx=>∃(j':Nat) (o:Option Int),i=.int .i64 (j':Int)∧j'≤nC∧Hid (M=(mosts p.meters (p.charges.drop j')).bind fun l=>o.bind fun n=>sumUp n l)∧Hid (I60o o)∧Hid (Tk wx bT bH o)∧Hid (Below w1.heap.size w1 wx)) (fun i _=>nC-(intOf i).toNat)
   case atStart=>exact ⟨0,o,rfl,Nat.zero_le _,HM3,O3,T3,B3⟩
   case round=>
    clear HM3 O3 T3 B3;obtain ⟨j',o,rfl,hi,hM,hO,hT,hB⟩:=hrel;by_cases hlt:j'<nC
    ·obtain ⟨c,hti⟩:∃m,p.charges[j']?=some m:=⟨_,List.getElem?_eq_getElem (by have:=HnC.out;omega)⟩;have hmem:=List.mem_of_getElem? hti;obtain ⟨k,hk⟩:=H.out.named c hmem;obtain ⟨m,htm⟩:∃m,p.meters[k]?=some m:=⟨_,List.getElem?_eq_getElem (by unfold meterIx at hk;exact (List.findIdx?_eq_some_iff_getElem.1 hk).1)⟩;have gm:=H.out.gd.meters m (List.mem_of_getElem? htm);have gD:(p.meters.getD k default).max=m.max:=by rw [List.getD_eq_getElem?_getD,htm];rfl
     obtain ⟨b,oo,ta,tc,aa,ac,e,ax,lx0⟩:=charge_at (L0.out _ hB.out).1.charges hti;have r1:=hid (range_ch ax);unfold chargeC at r1;obtain ⟨wt,hwt⟩:∃W,W=wr.alloc (.cells #[c.meter,c.win.has,c.win.a.y,c.win.a.m,c.win.a.d,c.win.b.y,c.win.b.m,c.win.b.d,c.allowance,c.block,c.kind,.slice ta c.tiers.length tc,c.mode,.slice aa c.adjusts.length ac,c.line,c.col] 57):=⟨_,rfl⟩;obtain ⟨kx,hkx⟩:∃k,k=wr.heap.size:=⟨_,rfl⟩;have xt:Box wt kx [c.meter,c.win.has,c.win.a.y,c.win.a.m,c.win.a.d,c.win.b.y,c.win.b.m,c.win.b.d,c.allowance,c.block,c.kind,.slice ta c.tiers.length tc,c.mode,.slice aa c.adjusts.length ac,c.line,c.col]:=by rw [hwt,hkx];exact Box.new _ _ _
     have bt:Below wr.heap.size wr wt:=by rw [hwt];exact bel_alloc _ _
     have BT:=hid (bel_on hB.out bt);have cO:=most_any p ma mc fa fc ca cc c ta tc aa ac k m wt (L0.out _ BT.out).1 (ch_on lx0 bt) (H.out.gd.charges c hmem) (H.out.block c hmem) hk htm gm.2.2 (by have:=H.out.cnt.1;omega) (H.out.parts c hmem).2;obtain ⟨O,hOO⟩:∃O,O=mostOf c m.max:=⟨_,rfl⟩
     have HO3:∀x,O=some x→I60 x:=fun x e=>by
      have e2:mostOf c m.max=some x:=by rw [←hOO];exact e
      have:=mostOf_lt e2;exact most_i60 (H.out.gd.charges c hmem) e2 (by unfold maxBound at this;omega)
     rw [←hOO] at cO;have HM2:Hid (M=(mosts p.meters (p.charges.drop (j'+1))).bind fun l=>(tkO o (O.getD 0) O.isSome).bind fun n=>sumUp n l):=hid (by rw [hM.out,most_tk hti hk (by rw [gD];exact hOO) hO.out HO3]);obtain ⟨XV,hXV⟩:∃x,x=O.getD 0:=⟨_,rfl⟩;obtain ⟨XB,hXB⟩:∃x,x=O.isSome:=⟨_,rfl⟩
     have xv:0≤XV∧XV≤9223372036854775807:=by
      rw [hXV];cases O with
      | none=>exact ⟨by decide,by decide⟩
      | some x=>exact HO3 x rfl
     rw [←hXV,←hXB] at cO HM2;have HO2:=hid (tk_60 (k:=XB) hO.out xv.1);have cT:=hid (fun (W:World) (bw:Below wt.heap.size wt W)=>take_tk XV XB bT bH o W (by unfold I64;omega) ((hT.out.on bt).on bw) ne hO.out.i64);have RP:=hid (range_of (C.out wt BT.out).cell);have RC:=hid (range_of xt.cell);have HWT:=hid hwt;have HKX:=hid hkx;have HC:=hid cO;clear hti hmem hk htm gm gD ax lx0 hwt hkx xt bt hM hO hT hB hOO HO3 hXV hXB xv cO;subst e
     go_upto_region 11 with (first
      | (with_reducible refine wpList_load_mid (op:=Oper.mk (some 30) (Op.load 57 (Operand.tmp 29)) _ _ _ _) ?_ 57 (.tmp 29) ?_ b (oo+j'*16) ?_ [c.meter,c.win.has,c.win.a.y,c.win.a.m,c.win.a.d,c.win.b.y,c.win.b.m,c.win.b.d,c.allowance,c.block,c.kind,.slice ta c.tiers.length tc,c.mode,.slice aa c.adjusts.length ac,c.line,c.col] _ r1.out Tryz.underlying57 ?_ ?_ ?_;rfl;rfl;go_simp;rfl;kernel_rfl)
      | (with_reducible refine wpList_store_new (op:=Oper.mk none (Op.store 57 (Operand.tmp 10) (Operand.tmp 30)) _ _ _ _) ?_ 57 (.tmp 10) (.tmp 30) ?_ wr _ #[c.meter,c.win.has,c.win.a.y,c.win.a.m,c.win.a.d,c.win.b.y,c.win.b.m,c.win.b.d,c.allowance,c.block,c.kind,.slice ta c.tiers.length tc,c.mode,.slice aa c.adjusts.length ac,c.line,c.col] ?_ ?_ ?_ ?_ ?_ ?_;rfl;rfl;go_simp;go_simp;kernel_rfl;rfl;(simp [Value.oneCell']))
      | fail)
     rw [←HWT.out,←HKX.out];clear HWT HKX r1;go_wp2_with (first|(with_reducible refine wpList_load_mid (op:=Oper.mk (some 32) (Op.load 41 (Operand.tmp 1)) _ _ _ _) ?_ 41 (.tmp 1) ?_ k1 0 ?_ [p.name,p.cur,p.a.y,p.a.m,p.a.d,p.b.y,p.b.m,p.b.d,.slice ma p.meters.length mc,.slice fa p.fees.length fc,.slice (some ⟨b,oo,none⟩) p.charges.length cc,p.line,p.col] _ RP.out Tryz.underlying41 ?_ ?_ ?_;rfl;rfl;go_simp;rfl;kernel_rfl)|(with_reducible refine wpList_load_mid (op:=Oper.mk (some 33) (Op.load 57 (Operand.tmp 10)) _ _ _ _) ?_ 57 (.tmp 10) ?_ kx 0 ?_ [c.meter,c.win.has,c.win.a.y,c.win.a.m,c.win.a.d,c.win.b.y,c.win.b.m,c.win.b.d,c.allowance,c.block,c.kind,.slice ta c.tiers.length tc,c.mode,.slice aa c.adjusts.length ac,c.line,c.col] _ RC.out Tryz.underlying57 ?_ ?_ ?_;rfl;rfl;go_simp;rfl;kernel_rfl)|fail)
     refine HC.out.mono ?_;rintro e wv ⟨rfl,bv⟩;have BV:=hid (bel_on BT.out bv);have cT2:=hid (cT.out wv bv);clear bv HC RP RC cT BT;go_wp2_with fail
     refine cT2.out.mono ?_;rintro e wu ⟨rfl,tu,bu⟩;have TU:=hid tu;have BU:=hid (bu w1.heap.size w1 LT.out.1 LT.out.2 BV.out);clear tu bu cT2 BV;go_wp2;go_roundw
     case rel=>exact ⟨j'+1,_,by simp,by omega,HM2,HO2,TU,BU⟩
     case measure=>simp [intOf];omega
    ·obtain rfl:j'=nC:=by omega
     have E:Hid (M=o):=hid (by
      rw [hM.out,mosts_end (by have:=HnC.out;omega)];show (o.bind fun n=>sumUp n [])=o
      cases o<;>rfl)
     rw [←E.out] at hT;obtain ⟨t1,t2,_,_,_⟩:=hT.out;have f1:=cell_regrown t1;have f2:=cell_regrown t2;obtain ⟨XV,hXV⟩:∃x,x=M.getD 0:=⟨_,rfl⟩;obtain ⟨XB,hXB⟩:∃x,x=M.isSome:=⟨_,rfl⟩;rw [←hXV] at f1;rw [←hXB] at f2;have R1:=hid hXV;have R2:=hid hXB;clear hXV hXB t1 t2 hT hO hM;go_upto_region 13 with fail
     refine wp_region_quiet_below (by kernel_rfl) (by kernel_rfl) ?_;repeat (go_big_quiet_step (fail))
     refine wpQuiet_nil ?_;intro wv hw';obtain ⟨⟨dq,osq⟩,hw''⟩:=hw';have BF:=hid (L0.out _ (bel_on hB.out (show Below wr.heap.size wr wv by subst hw'';exact below_regrown wr dq osq))).2;clear hw'' f1 f2;go_wp2;go_ret2;exact ⟨ret_m R1.out R2.out,BF.out⟩
structure Fl (k:Nat) (W:World):Prop where
 c0:W.cell? ⟨k,0,none⟩=some (.int .i64 0)
 c1:W.cell? ⟨k,1,none⟩=some (.int .i64 0)
 c2:W.cell? ⟨k,2,none⟩=some (.int .i64 0)
 f0:W.frozen? ⟨k,0,none⟩=false
 f1:W.frozen? ⟨k,1,none⟩=false
 f2:W.frozen? ⟨k,2,none⟩=false
theorem fl_new {w W0 W:World} (hW:W0=w.alloc (.cells #[.int .i64 0,.int .i64 0,.int .i64 0] 30)) (h:Below W0.heap.size W0 W):Fl w.heap.size W:=by
 have hs:w.heap.size<W0.heap.size:=by rw [hW];simp
 have hc:∀o,W.cell? ⟨w.heap.size,o,none⟩=W0.cell? ⟨w.heap.size,o,none⟩:=fun o=>h.cell hs;have hf:∀o,W.frozen? ⟨w.heap.size,o,none⟩=W0.frozen? ⟨w.heap.size,o,none⟩:=fun o=>h.frozen hs;constructor
 all_goals first|rw [hc]|rw [hf]
 all_goals rw [hW]
 all_goals go_simp
theorem ret_f {R:Int×Int×Int} {a b c:Int} {w w':World} {B:Nat} (h:R=(a,b,c)) (x:Below B w w'):(Ending.returned (.agg #[.int .i64 a,.int .i64 b,.int .i64 c]):Ending)=.returned (.agg #[.int .i64 R.1,.int .i64 R.2.1,.int .i64 R.2.2])∧Below B w w':=⟨by rw [h],x⟩
theorem plan_any (p:Plan) (ma:Option Addr) (mc:Nat) (fa:Option Addr) (fc:Nat) (ca:Option Addr) (cc:Nat) (w:World) (hp:PlanLies w (planC p ma mc fa fc ca cc) p ma mc fa fc ca cc) (h:Pl9 p) :
  Calls Tryz.prog 31 #[.agg #[p.name,p.cur,p.a.y,p.a.m,p.a.d,p.b.y,p.b.m,p.b.d,.slice ma p.meters.length mc,.slice fa p.fees.length fc,.slice ca p.charges.length cc,p.line,p.col]] w fun e w'=>e=.returned (.agg #[.int .i64 (wrongOf p).1,.int .i64 (wrongOf p).2.1,.int .i64 (wrongOf p).2.2])∧Below w.heap.size w w':=by
 obtain ⟨w0,hw0⟩:∃W,W=w.alloc (.cells #[p.name,p.cur,p.a.y,p.a.m,p.a.d,p.b.y,p.b.m,p.b.d,.slice ma p.meters.length mc,.slice fa p.fees.length fc,.slice ca p.charges.length cc,p.line,p.col] 41):=⟨_,rfl⟩;have b0:Below w.heap.size w w0:=by rw [hw0];exact bel_alloc _ _
 obtain ⟨k1,hk1⟩:∃k,k=w.heap.size:=⟨_,rfl⟩;have X0:Box w0 k1 [p.name,p.cur,p.a.y,p.a.m,p.a.d,p.b.y,p.b.m,p.b.d,.slice ma p.meters.length mc,.slice fa p.fees.length fc,.slice ca p.charges.length cc,p.line,p.col]:=by rw [hw0,hk1];exact Box.new _ _ _
 obtain ⟨w1,hw1⟩:∃W,W=w0.alloc (.cells #[.int .i64 0,.int .i64 0,.int .i64 0] 30):=⟨_,rfl⟩;have b01:Below w0.heap.size w0 w1:=by rw [hw1];exact bel_alloc _ _
 have b1:Below w.heap.size w w1:=bel_on b0 b01;have X1:Box w1 k1 [p.name,p.cur,p.a.y,p.a.m,p.a.d,p.b.y,p.b.m,p.b.d,.slice ma p.meters.length mc,.slice fa p.fees.length fc,.slice ca p.charges.length cc,p.line,p.col]:=X0.on b01;obtain ⟨kf,hkf⟩:∃k,k=w0.heap.size:=⟨_,rfl⟩;have kfe:kf=w.heap.size+1:=by rw [hkf,hw0];simp
 obtain ⟨nM,hnM⟩:∃n,n=p.meters.length:=⟨_,rfl⟩;obtain ⟨nF,hnF⟩:∃n,n=p.fees.length:=⟨_,rfl⟩;obtain ⟨nC,hnC⟩:∃n,n=p.charges.length:=⟨_,rfl⟩;have C:Hid (∀W,Below w1.heap.size w1 W→Box W k1 [p.name,p.cur,p.a.y,p.a.m,p.a.d,p.b.y,p.b.m,p.b.d,.slice ma p.meters.length mc,.slice fa p.fees.length fc,.slice ca p.charges.length cc,p.line,p.col]):=hid fun W b=>X1.on b;have FL:Hid (∀W,Below w1.heap.size w1 W→Fl kf W):=hid fun W b=>by rw [hkf];exact fl_new hw1 b
 have KF:Hid (w.heap.size≤kf):=hid (by omega)
 have C2:Hid (∀W,Below w1.heap.size w1 W→W.cell? ⟨k1,8,none⟩=some (.slice ma nM mc)∧W.cell? ⟨k1,9,none⟩=some (.slice fa nF fc)∧W.cell? ⟨k1,10,none⟩=some (.slice ca nC cc)∧W.cell? ⟨k1,11,none⟩=some (.int .i64 p.line)∧W.cell? ⟨k1,12,none⟩=some (.int .i64 p.col)):=hid fun W b=>by
  rw [hnM,hnF,hnC];exact ⟨(X1.on b).cell 8 _ rfl,(X1.on b).cell 9 _ rfl,(X1.on b).cell 10 _ rfl,(X1.on b).cell 11 _ rfl,(X1.on b).cell 12 _ rfl⟩
 have L0:Hid (∀W,Below w1.heap.size w1 W→PlanLies W (planC p ma mc fa fc ca cc) p ma mc fa fc ca cc∧Below w.heap.size w W):=
  hid fun W b=>⟨hp.on (bel_on b1 b),bel_on b1 b⟩
 have qM:nM≤20000:=by rw [hnM];exact h.cnt.1
 have qF:nF≤20000:=by rw [hnF];exact h.cnt.2.1
 have qC:nC≤20000:=by rw [hnC];exact h.cnt.2.2
 have uM:nM≤mc:=by rw [hnM];exact hp.meters.hcap
 have uF:nF≤fc:=by rw [hnF];exact hp.fees.hcap
 have uC:nC≤cc:=by rw [hnC];exact hp.charges.hcap
 obtain ⟨R,hR⟩:∃R,R=wrongOf p:=⟨_,rfl⟩;rw [←hR];obtain ⟨HE,hHE⟩:∃H,H=headE p:=⟨_,rfl⟩;have HR:Hid (R=if HE=0 then (firstE (meterE p) (fun m=>(m.line,m.col)) 0 (p.meters.drop 0)).getD (zM p) else (HE,p.line,p.col)):=hid (by rw [hR,wrong_getD,hHE,List.drop_zero]);have cH:=hid (fun (W:World)=>horizon_any p ma mc fa fc ca cc W h.gd.days);rw [←hHE] at cH;have cM:=hid (fun (W:World) (i:Nat) (m:Meter) (hti:p.meters[i]?=some m) (bw:Below w1.heap.size w1 W)=>checkM_any p ma mc fa fc ca cc i m W (hp.on (bel_on b1 bw)) hti (by have:=h.cnt.1;omega));have cF:=hid (fun (W:World) (i:Nat) (m:Fee) (hti:p.fees[i]?=some m) (bw:Below w1.heap.size w1 W)=>checkF_any p ma mc fa fc ca cc i m W (hp.on (bel_on b1 bw)) hti h.gd (by have:=h.cnt.2.1;omega));have cC:=hid (fun (W:World) (i:Nat) (c:Charge) (hti:p.charges[i]?=some c) (bw:Below w1.heap.size w1 W)=>charge_any p ma mc fa fc ca cc i c W (hp.on (bel_on b1 bw)) hti h.gd (by have:=h.cnt.2.2;omega) (h.parts c (List.mem_of_getElem? hti)).1);have cB:=hid (fun (W:World) (hc:Chs p) (bw:Below w1.heap.size w1 W)=>bound_any p ma mc fa fc ca cc W (hp.on (bel_on b1 bw)) hc);have HnM:=hid hnM;have HnF:=hid hnF;have HnC:=hid hnC;have H:=hid h;have HW0:=hid hw0;have HW1:=hid hw1;have HK:=hid hk1;have HKF:=hid kfe;have RP:=hid (range_of X1.cell);clear hR hnM hnF hnC hp b0 b01 b1 X0 X1 hw0 hw1 hk1 h hHE hkf kfe;go_enter Tryz.func31,Tryz.ntmps31
 go_upto_region 1 with fail
 rw [←HW0.out,←HW1.out,←HKF.out,←HK.out];clear HW0 HW1 HK HKF;go_wp2_with (first|(with_reducible refine wpList_load_mid (op:=Oper.mk (some 15) (Op.load 41 (Operand.tmp 1)) _ _ _ _) ?_ 41 (.tmp 1) ?_ k1 0 ?_ [p.name,p.cur,p.a.y,p.a.m,p.a.d,p.b.y,p.b.m,p.b.d,.slice ma p.meters.length mc,.slice fa p.fees.length fc,.slice ca p.charges.length cc,p.line,p.col] _ RP.out Tryz.underlying41 ?_ ?_ ?_;rfl;rfl;go_simp;rfl;kernel_rfl)|fail)
 refine (cH.out w1).mono ?_;rintro e w2 ⟨rfl,b2⟩;have B2:=hid b2;clear b2 cH RP;obtain ⟨c8,c9,c10,c11,c12⟩:=C2.out w2 B2.out;clear c9 c10;by_cases g1:HE=0
 rotate_left
 case neg=>
  have E:Hid (R=(HE,p.line,p.col)):=hid (by rw [HR.out,if_neg g1]);have gb:(HE==0)=false:=by simpa using g1
  clear c8 HR;obtain ⟨q0,q1,q2,g0,g1,g2⟩:=FL.out w2 B2.out;have BF:=hid (L0.out _ B2.out).2;go_wp2;exact bodyPost_ret (v:=.agg #[.int .i64 HE,p.line,p.col]) (by simp [results,Tryz.results31,go_sem, *]) rfl (ret_f E.out (((BF.out.setCell KF.out _).setCell KF.out _).setCell KF.out _))
 have E0:Hid (R=(firstE (meterE p) (fun m=>(m.line,m.col)) 0 (p.meters.drop 0)).getD (zM p)):=hid (by rw [HR.out,if_pos g1]);clear HR c11 c12;subst g1;go_wp2;clear c8;go_loopw [28] (fun i wx=>∃(i':Nat),i=.int .i64 (i':Int)∧i'≤nM∧Hid (R=(firstE (meterE p) (fun m=>(m.line,m.col)) i' (p.meters.drop i')).getD (zM p))∧Hid (Below w1.heap.size w1 wx)) (fun i _=>nM-(intOf i).toNat)
 case atStart=>exact ⟨0,rfl,Nat.zero_le _,E0,B2⟩
 case round=>
  clear E0 B2;obtain ⟨i',rfl,hi,hE,hB⟩:=hrel;by_cases hlt:i'<nM
  ·obtain ⟨x,hti⟩:∃m,p.meters[i']?=some m:=⟨_,List.getElem?_eq_getElem (by have:=HnM.out;omega)⟩;have ST:=hid (firstE_step (f:=meterE p) (pl:=fun m=>(m.line,m.col)) hti);obtain ⟨b,o,e,lb,a0,a1,a2,a3,a4,_⟩:=meter_at (L0.out _ hB.out).1.meters hti;obtain ⟨wt,hwt⟩:∃W,W=wr.alloc (.cells #[x.name,x.unit,x.max,x.line,x.col] 49):=⟨_,rfl⟩;have xt:Box wt wr.heap.size [x.name,x.unit,x.max,x.line,x.col]:=by rw [hwt];exact Box.new _ _ _
   have bt:Below wr.heap.size wr wt:=by rw [hwt];exact bel_alloc _ _
   have BT:=hid (bel_on hB.out bt);obtain ⟨kx,hkx⟩:∃k,k=wr.heap.size:=⟨_,rfl⟩;rw [←hkx] at xt;have XT:=hid xt;have HWT:=hid hwt;have HKX:=hid hkx;have cx:=cM.out wt i' x hti BT.out;obtain ⟨XE,hXE⟩:∃z,z=meterE p i' x:=⟨_,rfl⟩;rw [←hXE] at cx ST;clear hXE hti hwt hkx xt bt hB;subst e;go_upto_region 7 with fail
   rw [←HWT.out,←HKX.out];clear HWT HKX lb a0 a1 a2 a3 a4;have RP:=hid (range_of (C.out wt BT.out).cell);go_wp2_with (first|(with_reducible refine wpList_load_mid (op:=Oper.mk (some 33) (Op.load 41 (Operand.tmp 1)) _ _ _ _) ?_ 41 (.tmp 1) ?_ k1 0 ?_ [p.name,p.cur,p.a.y,p.a.m,p.a.d,p.b.y,p.b.m,p.b.d,.slice (some ⟨b,o,none⟩) p.meters.length mc,.slice fa p.fees.length fc,.slice ca p.charges.length cc,p.line,p.col] _ RP.out Tryz.underlying41 ?_ ?_ ?_;rfl;rfl;go_simp;rfl;kernel_rfl)|fail)
   refine cx.mono ?_;rintro e wu ⟨rfl,bu⟩;have Y:=hid (XT.out.on bu);have BW:=hid (bel_on BT.out bu);clear bu cx RP XT BT;by_cases gx:XE=0
   ·have E:Hid (R=(firstE (meterE p) (fun m=>(m.line,m.col)) (i'+1) (p.meters.drop (i'+1))).getD (zM p)):=hid (by rw [hE.out,ST.out,if_pos gx]);clear hE ST;subst gx;go_wp2;go_roundw
    case rel=>exact ⟨i'+1,by simp,by omega,E,BW⟩
    case measure=>simp [intOf];omega
   ·have E:Hid (R=(XE,x.line,x.col)):=hid (by rw [hE.out,ST.out,if_neg gx];rfl);have gb:(XE==0)=false:=by simpa using gx
    have t1:=Y.out.cell 3 _ rfl;have t2:=Y.out.cell 4 _ rfl;clear hE ST;obtain ⟨q0,q1,q2,g0,g1,g2⟩:=FL.out wu BW.out;have BF:=hid (L0.out _ BW.out).2;go_wp2;exact bodyPost_ret (v:=.agg #[.int .i64 XE,x.line,x.col]) (by simp [results,Tryz.results31,go_sem, *]) rfl (ret_f E.out (((BF.out.setCell KF.out _).setCell KF.out _).setCell KF.out _))
  ·obtain rfl:i'=nM:=by omega
   have E0:Hid (R=(firstE (feeE p) (fun m=>(m.line,m.col)) 0 (p.fees.drop 0)).getD (zF9 p)):=hid (by rw [hE.out,firstE_end (by have:=HnM.out;omega),List.drop_zero];rfl);obtain ⟨c8,c9,c10,c11,c12⟩:=C2.out _ hB.out;clear c8 c10 c11 c12 hE hlt hi;obtain ⟨wq,hwq⟩:∃W,W=wr:=⟨_,rfl⟩;rw [←hwq] at hB c9 ⊢;have B2:=hB;clear hwq hB;go_wp2;clear c9;go_loopw [48] (fun i wx=>∃(j':Nat),i=.int .i64 (j':Int)∧j'≤nF∧Hid (R=(firstE (feeE p) (fun m=>(m.line,m.col)) j' (p.fees.drop j')).getD (zF9 p))∧Hid (Below w1.heap.size w1 wx)) (fun i _=>nF-(intOf i).toNat)
   case atStart=>exact ⟨0,rfl,Nat.zero_le _,E0,B2⟩
   case round=>
    clear E0 B2;obtain ⟨j',rfl,hi,hE,hB⟩:=hrel;by_cases hlt:j'<nF
    ·obtain ⟨x,hti⟩:∃m,p.fees[j']?=some m:=⟨_,List.getElem?_eq_getElem (by have:=HnF.out;omega)⟩;have ST:=hid (firstE_step (f:=feeE p) (pl:=fun m=>(m.line,m.col)) hti);obtain ⟨b,o,e,lb,a0,a1,a2,a3,a4,a5,a6,a7,a8,a9,_⟩:=fee_at (L0.out _ hB.out).1.fees hti;obtain ⟨wt,hwt⟩:∃W,W=wr.alloc (.cells #[x.amount,x.win.has,x.win.a.y,x.win.a.m,x.win.a.d,x.win.b.y,x.win.b.m,x.win.b.d,x.line,x.col] 53):=⟨_,rfl⟩;have xt:Box wt wr.heap.size [x.amount,x.win.has,x.win.a.y,x.win.a.m,x.win.a.d,x.win.b.y,x.win.b.m,x.win.b.d,x.line,x.col]:=by rw [hwt];exact Box.new _ _ _
     have bt:Below wr.heap.size wr wt:=by rw [hwt];exact bel_alloc _ _
     have BT:=hid (bel_on hB.out bt);obtain ⟨kx,hkx⟩:∃k,k=wr.heap.size:=⟨_,rfl⟩;rw [←hkx] at xt;have XT:=hid xt;have HWT:=hid hwt;have HKX:=hid hkx;have cx:=cF.out wt j' x hti BT.out;obtain ⟨XE,hXE⟩:∃z,z=feeE p j' x:=⟨_,rfl⟩;rw [←hXE] at cx ST;clear hXE hti hwt hkx xt bt hB;subst e;go_upto_region 14 with fail
     rw [←HWT.out,←HKX.out];clear HWT HKX lb a0 a1 a2 a3 a4 a5 a6 a7 a8 a9;have RP:=hid (range_of (C.out wt BT.out).cell);go_wp2_with (first|(with_reducible refine wpList_load_mid (op:=Oper.mk (some 53) (Op.load 41 (Operand.tmp 1)) _ _ _ _) ?_ 41 (.tmp 1) ?_ k1 0 ?_ [p.name,p.cur,p.a.y,p.a.m,p.a.d,p.b.y,p.b.m,p.b.d,.slice ma p.meters.length mc,.slice (some ⟨b,o,none⟩) p.fees.length fc,.slice ca p.charges.length cc,p.line,p.col] _ RP.out Tryz.underlying41 ?_ ?_ ?_;rfl;rfl;go_simp;rfl;kernel_rfl)|fail)
     refine cx.mono ?_;rintro e wu ⟨rfl,bu⟩;have Y:=hid (XT.out.on bu);have BW:=hid (bel_on BT.out bu);clear bu cx RP XT BT;by_cases gx:XE=0
     ·have E:Hid (R=(firstE (feeE p) (fun m=>(m.line,m.col)) (j'+1) (p.fees.drop (j'+1))).getD (zF9 p)):=hid (by rw [hE.out,ST.out,if_pos gx]);clear hE ST;subst gx;go_wp2;go_roundw
      case rel=>exact ⟨j'+1,by simp,by omega,E,BW⟩
      case measure=>simp [intOf];omega
     ·have E:Hid (R=(XE,x.line,x.col)):=hid (by rw [hE.out,ST.out,if_neg gx];rfl);have gb:(XE==0)=false:=by simpa using gx
      have t1:=Y.out.cell 8 _ rfl;have t2:=Y.out.cell 9 _ rfl;clear hE ST;obtain ⟨q0,q1,q2,g0,g1,g2⟩:=FL.out wu BW.out;have BF:=hid (L0.out _ BW.out).2;go_wp2;exact bodyPost_ret (v:=.agg #[.int .i64 XE,x.line,x.col]) (by simp [results,Tryz.results31,go_sem, *]) rfl (ret_f E.out (((BF.out.setCell KF.out _).setCell KF.out _).setCell KF.out _))
    ·obtain rfl:j'=nF:=by omega
     have E0:Hid (R=(firstE (chE p) (fun m=>(m.line,m.col)) 0 (p.charges.drop 0)).getD (zC p)):=hid (by rw [hE.out,firstE_end (by have:=HnF.out;omega),List.drop_zero];rfl);have E00:Hid (firstE (chE p) (fun m=>(m.line,m.col)) 0 (p.charges.drop 0)=firstE (chE p) (fun m=>(m.line,m.col)) 0 p.charges):=hid (by rw [List.drop_zero]);obtain ⟨c8,c9,c10,c11,c12⟩:=C2.out _ hB.out;clear c8 c9 c11 c12 hE hlt hi;obtain ⟨wz,hwz⟩:∃W,W=wr:=⟨_,rfl⟩;rw [←hwz] at hB c10 ⊢;have B2:=hB;clear hwz hB;go_wp2;clear c10;go_loopw [68] (fun i wx=>∃(l':Nat),i=.int .i64 (l':Int)∧l'≤nC∧Hid (R=(firstE (chE p) (fun m=>(m.line,m.col)) l' (p.charges.drop l')).getD (zC p))∧Hid (firstE (chE p) (fun m=>(m.line,m.col)) l' (p.charges.drop l')=firstE (chE p) (fun m=>(m.line,m.col)) 0 p.charges)∧Hid (Below w1.heap.size w1 wx)) (fun i _=>nC-(intOf i).toNat)
     case atStart=>exact ⟨0,rfl,Nat.zero_le _,E0,E00,B2⟩
     case round=>
      clear E0 E00 B2;obtain ⟨l',rfl,hi,hE,hF,hB⟩:=hrel;by_cases hlt:l'<nC
      ·obtain ⟨x,hti⟩:∃m,p.charges[l']?=some m:=⟨_,List.getElem?_eq_getElem (by have:=HnC.out;omega)⟩;have ST:=hid (firstE_step (f:=chE p) (pl:=fun m=>(m.line,m.col)) hti);obtain ⟨b,o,ta,tc,aa,ac,e,ax,lx0⟩:=charge_at (L0.out _ hB.out).1.charges hti;have r1:=hid (range_ch ax);unfold chargeC at r1;obtain ⟨wt,hwt⟩:∃W,W=wr.alloc (.cells #[x.meter,x.win.has,x.win.a.y,x.win.a.m,x.win.a.d,x.win.b.y,x.win.b.m,x.win.b.d,x.allowance,x.block,x.kind,.slice ta x.tiers.length tc,x.mode,.slice aa x.adjusts.length ac,x.line,x.col] 57):=⟨_,rfl⟩;have xt:Box wt wr.heap.size [x.meter,x.win.has,x.win.a.y,x.win.a.m,x.win.a.d,x.win.b.y,x.win.b.m,x.win.b.d,x.allowance,x.block,x.kind,.slice ta x.tiers.length tc,x.mode,.slice aa x.adjusts.length ac,x.line,x.col]:=by rw [hwt];exact Box.new _ _ _
       have bt:Below wr.heap.size wr wt:=by rw [hwt];exact bel_alloc _ _
       have BT:=hid (bel_on hB.out bt);obtain ⟨kx,hkx⟩:∃k,k=wr.heap.size:=⟨_,rfl⟩;rw [←hkx] at xt;have XT:=hid xt;have HWT:=hid hwt;have HKX:=hid hkx;have cx:=cC.out wt l' x hti BT.out;obtain ⟨XE,hXE⟩:∃z,z=chE p l' x:=⟨_,rfl⟩;rw [←hXE] at cx ST;clear hXE hti hwt hkx xt bt hB ax lx0;subst e;go_upto_region 21 with (first|(with_reducible refine wpList_load_mid (op:=Oper.mk (some 72) (Op.load 57 (Operand.tmp 71)) _ _ _ _) ?_ 57 (.tmp 71) ?_ b (o+l'*16) ?_ [x.meter,x.win.has,x.win.a.y,x.win.a.m,x.win.a.d,x.win.b.y,x.win.b.m,x.win.b.d,x.allowance,x.block,x.kind,.slice ta x.tiers.length tc,x.mode,.slice aa x.adjusts.length ac,x.line,x.col] _ r1.out Tryz.underlying57 ?_ ?_ ?_;rfl;rfl;go_simp;rfl;kernel_rfl)|(with_reducible refine wpList_store_new (op:=Oper.mk none (Op.store 57 (Operand.tmp 11) (Operand.tmp 72)) _ _ _ _) ?_ 57 (.tmp 11) (.tmp 72) ?_ wr _ #[x.meter,x.win.has,x.win.a.y,x.win.a.m,x.win.a.d,x.win.b.y,x.win.b.m,x.win.b.d,x.allowance,x.block,x.kind,.slice ta x.tiers.length tc,x.mode,.slice aa x.adjusts.length ac,x.line,x.col] ?_ ?_ ?_ ?_ ?_ ?_;rfl;rfl;go_simp;go_simp;kernel_rfl;rfl;(simp [Value.oneCell']))|fail)
       rw [←HWT.out,←HKX.out];clear HWT HKX r1;have RP:=hid (range_of (C.out wt BT.out).cell);go_wp2_with (first|(with_reducible refine wpList_load_mid (op:=Oper.mk (some 73) (Op.load 41 (Operand.tmp 1)) _ _ _ _) ?_ 41 (.tmp 1) ?_ k1 0 ?_ [p.name,p.cur,p.a.y,p.a.m,p.a.d,p.b.y,p.b.m,p.b.d,.slice ma p.meters.length mc,.slice fa p.fees.length fc,.slice (some ⟨b,o,none⟩) p.charges.length cc,p.line,p.col] _ RP.out Tryz.underlying41 ?_ ?_ ?_;rfl;rfl;go_simp;rfl;kernel_rfl)|fail)
       refine cx.mono ?_;rintro e wu ⟨rfl,bu⟩;have Y:=hid (XT.out.on bu);have BW:=hid (bel_on BT.out bu);clear bu cx RP XT BT;by_cases gx:XE=0
       ·have E:Hid (R=(firstE (chE p) (fun m=>(m.line,m.col)) (l'+1) (p.charges.drop (l'+1))).getD (zC p)):=hid (by rw [hE.out,ST.out,if_pos gx]);have F:Hid (firstE (chE p) (fun m=>(m.line,m.col)) (l'+1) (p.charges.drop (l'+1))=firstE (chE p) (fun m=>(m.line,m.col)) 0 p.charges):=hid (by rw [←hF.out,ST.out,if_pos gx]);clear hE hF ST;subst gx;go_wp2;go_roundw
        case rel=>exact ⟨l'+1,by simp,by omega,E,F,BW⟩
        case measure=>simp [intOf];omega
       ·have E:Hid (R=(XE,x.line,x.col)):=hid (by rw [hE.out,ST.out,if_neg gx];rfl);have gb:(XE==0)=false:=by simpa using gx
        have t1:=Y.out.cell 14 _ rfl;have t2:=Y.out.cell 15 _ rfl;clear hE hF ST;obtain ⟨q0,q1,q2,g0,g1,g2⟩:=FL.out wu BW.out;have BF:=hid (L0.out _ BW.out).2;go_wp2;exact bodyPost_ret (v:=.agg #[.int .i64 XE,x.line,x.col]) (by simp [results,Tryz.results31,go_sem, *]) rfl (ret_f E.out (((BF.out.setCell KF.out _).setCell KF.out _).setCell KF.out _))
      ·obtain rfl:l'=nC:=by omega
       have EN:firstE (chE p) (fun m=>(m.line,m.col)) 0 p.charges=none:=by rw [←hF.out,firstE_end (by have:=HnC.out;omega)]
       have E0:Hid (R=zC p):=hid (by rw [hE.out,firstE_end (by have:=HnC.out;omega)];rfl);have cBx:=cB.out wr (chs_of H.out EN) hB.out;have RP:=hid (range_of (C.out _ hB.out).cell);obtain ⟨O,hO⟩:∃O,O=boundOf p:=⟨_,rfl⟩;rw [←hO] at cBx;have E1:Hid (R=if O=none then (6,p.line,p.col) else (0,0,0)):=hid (by rw [E0.out,hO];rfl);obtain ⟨XV,hXV⟩:∃x,x=O.getD 0:=⟨_,rfl⟩;obtain ⟨XB,hXB⟩:∃x,x=O.isSome:=⟨_,rfl⟩;rw [←hXV,←hXB] at cBx;have HXB:=hid hXB;clear EN E0 hO hE hF hlt hi hXV hXB;go_wp2_with (first|(with_reducible refine wpList_load_mid (op:=Oper.mk (some 86) (Op.load 41 (Operand.tmp 1)) _ _ _ _) ?_ 41 (.tmp 1) ?_ k1 0 ?_ [p.name,p.cur,p.a.y,p.a.m,p.a.d,p.b.y,p.b.m,p.b.d,.slice ma p.meters.length mc,.slice fa p.fees.length fc,.slice ca p.charges.length cc,p.line,p.col] _ RP.out Tryz.underlying41 ?_ ?_ ?_;rfl;rfl;go_simp;rfl;kernel_rfl)|fail)
       refine cBx.mono ?_;rintro e wu ⟨rfl,bu⟩;have BW:=hid (bel_on hB.out bu);clear bu cBx RP hB;by_cases gx:XB=false
       ·have E:Hid (R=(6,p.line,p.col)):=hid (by rw [E1.out,if_pos];have:=HXB.out;rw [gx] at this;cases O with|none=>rfl|some y=>cases this);obtain ⟨c8,c9,c10,c11,c12⟩:=C2.out _ BW.out;clear c8 c9 c10 E1 HXB;subst gx;obtain ⟨q0,q1,q2,g0,g1,g2⟩:=FL.out wu BW.out;have BF:=hid (L0.out _ BW.out).2;go_wp2;exact bodyPost_ret (v:=.agg #[.int .i64 6,p.line,p.col]) (by simp [results,Tryz.results31,go_sem, *]) rfl (ret_f E.out (((BF.out.setCell KF.out _).setCell KF.out _).setCell KF.out _))
       obtain rfl:XB=true:=by simpa using gx
       have E:Hid (R=(0,0,0)):=hid (by rw [E1.out,if_neg];intro hn;have:=HXB.out;rw [hn] at this;cases this);clear E1 HXB;obtain ⟨q0,q1,q2,g0,g1,g2⟩:=FL.out wu BW.out;have BF:=hid (L0.out _ BW.out).2;go_wp2;exact bodyPost_ret (v:=.agg #[.int .i64 0,.int .i64 0,.int .i64 0]) (by simp [results,Tryz.results31,go_sem, *]) rfl (ret_f E.out (((BF.out.setCell KF.out _).setCell KF.out _).setCell KF.out _))
end Cc
namespace Te
open Go.RowKit Go.Sort P Mm R6 Tl L06
theorem box_lies {w:World} {t:TypeId} {cs ds:List Value} {W:World} (hW:W=(w.alloc (.cells cs.toArray t)).alloc (.cells ds.toArray t)):Box W w.heap.size cs∧Box W (w.heap.size+1) ds:=by
 subst hW;refine ⟨(Box.new w cs t).on (bel_alloc _ _),?_⟩;have:=Box.new (w.alloc (.cells cs.toArray t)) ds t
 rwa [show (w.alloc (.cells cs.toArray t)).heap.size=w.heap.size+1 by simp] at this
theorem plainCharge_any (c:Charge) (ta:Option Addr) (tc:Nat) (aa:Option Addr) (ac:Nat) (w:World) (h:ChargeLies w (chargeC c ta tc aa ac) c ta tc aa ac) (hlt:c.tiers.length≤100000) (hla:c.adjusts.length≤100000) :
  Calls Tryz.prog 77 #[.agg (chargeC c ta tc aa ac).toArray] w fun e w'=>∃hd:Hd,e=.returned (.agg (chargeC (nC c) hd.ta hd.tc hd.aa hd.ac).toArray)∧
   w'.ownsRow w.heap.size 119 2 (.slice hd.ta c.tiers.length hd.tc) c.tiers.length (c.tiers.flatMap tierC)∧w'.ownsRow w.heap.size 121 3 (.slice hd.aa c.adjusts.length hd.ac) c.adjusts.length (c.adjusts.flatMap adjC)∧
   (∀k,(Value.slice hd.ta c.tiers.length hd.tc).ownBlock=some k→(Value.slice hd.aa c.adjusts.length hd.ac).ownBlock≠some k)∧Below w.heap.size w w':=by
 have cT:=fun W (hb:Below w.heap.size w W)=>cloneT_any c.tiers ta tc W (h.tiers.on hb) hlt;have cA:=fun W (hb:Below w.heap.size w W)=>cloneA_any c.adjusts aa ac W (h.adjusts.on hb) hla;clear h;unfold chargeC;go_enter Tryz.func77,Tryz.ntmps77
 go_wp2_with fail
 obtain ⟨w1,hw1⟩:∃w1,w1=(w.alloc (.cells #[c.meter,c.win.has,c.win.a.y,c.win.a.m,c.win.a.d,c.win.b.y,c.win.b.m,c.win.b.d,c.allowance,c.block,c.kind,.slice ta c.tiers.length tc,c.mode,.slice aa c.adjusts.length ac,.int .i64 0,.int .i64 0] 57)).alloc (.cells [.string ⟨#[]⟩,.bool false,.int .i64 0,.int .i64 0,.int .i64 0,.int .i64 0,.int .i64 0,.int .i64 0,.int .i64 0,.int .i64 0,.int .i64 0,.slice none 0 0,.int .i64 0,.slice none 0 0,.int .i64 0,.int .i64 0].toArray 57):=⟨_,rfl⟩;rw [←hw1];obtain ⟨bx,bz⟩:=box_lies hw1;have b1:Below w.heap.size w w1:=by rw [hw1];exact bel_alloc2 ..
 have s1:w.heap.size+1<w1.heap.size:=by rw [hw1];simp
 clear hw1;refine (cT _ b1).mono ?_;rintro e w2 ⟨v,rfl,o2,b2⟩;obtain ⟨t2,c2,rfl⟩:=form_slice o2;have bx2:=hid (bx.on b2);have bz2:=hid (bz.on b2);have k11:=bx2.out.cell 11 _ rfl;have k13:=bx2.out.cell 13 _ rfl;have f11:=bx2.out.free 11;have b12:=hid (bel_on b1 b2);have s2:=hid s1;have lt2:w.heap.size<w2.heap.size:=Nat.lt_of_lt_of_le (by omega) b2.size;have o2':=hid o2;have b2':=hid b2;clear bx bz b1 b2 s1 cT o2;go_wp2_with fail
 obtain ⟨w3,hw3⟩:∃w3,w3=w2.setCell ⟨w.heap.size,11,none⟩ (.slice t2 c.tiers.length c2):=⟨_,rfl⟩;rw [←hw3];have bx3:=bx2.out.set 11 (.slice t2 c.tiers.length c2);rw [←hw3] at bx3;have bz3:=bz2.out.other (p:=⟨w.heap.size,11,none⟩) (by simp) (.slice t2 c.tiers.length c2);rw [←hw3] at bz3;have b3:Below w.heap.size w w3:=by rw [hw3];exact b12.out.setCell (Nat.le_refl _) _
 have o3:=ownsRow_setCell_below (a:=⟨w.heap.size,11,none⟩) o2'.out (by have:=s2.out;show w.heap.size<_;omega) (.slice t2 c.tiers.length c2);rw [←hw3] at o3;have s3:w2.heap.size=w3.heap.size:=by rw [hw3];simp
 clear hw3 k11 k13 f11 bx2 bz2;refine (cA _ b3).mono ?_;rintro e w4 ⟨v,rfl,o4,b4⟩;obtain ⟨t4,c4,rfl⟩:=form_slice o4;have bx4:=hid (bx3.on b4);have bz4:=hid (bz3.on b4);have k13:=bx4.out.cell 13 _ rfl;have f13:=bx4.out.free 13;have lt4:w.heap.size<w4.heap.size:=Nat.lt_of_lt_of_le (by omega) b4.size;have b14:=hid (bel_on b3 b4);have o3':=hid (owns_on o3 b4);have o4':=hid o4
 have ap:Hid (∀k,(Value.slice t2 c.tiers.length c2).ownBlock=some k→(Value.slice t4 c.adjusts.length c4).ownBlock≠some k):=hid fun k h1 h2=>by
  have l1:=(o2'.out.lt k h1).2;have l2:=(o4.lt k h2).1;omega
 have s4:=hid (show w1.heap.size≤w3.heap.size by rw [←s3];exact b2'.out.size);clear bx3 bz3 b3 b4 s3 cA o3 o4 o2' b2' b12 lt2;go_upto_region 4 with fail
 obtain ⟨w5,hw5⟩:∃w5,w5=w4.setCell ⟨w.heap.size,13,none⟩ (.slice t4 c.adjusts.length c4):=⟨_,rfl⟩;rw [←hw5];have bx5:=bx4.out.set 13 (.slice t4 c.adjusts.length c4);rw [←hw5] at bx5;have bz5:=bz4.out.other (p:=⟨w.heap.size,13,none⟩) (by simp) (.slice t4 c.adjusts.length c4);rw [←hw5] at bz5;have b5:Below w.heap.size w w5:=by rw [hw5];exact b14.out.setCell (Nat.le_refl _) _
 have o5:=ownsRow_setCell_below (a:=⟨w.heap.size,13,none⟩) o3'.out (by have:=s2.out;show w.heap.size<_;omega) (.slice t4 c.adjusts.length c4);rw [←hw5] at o5;have o6:=ownsRow_setCell_below (a:=⟨w.heap.size,13,none⟩) o4'.out (by have:=s2.out;have:=s4.out;show w.heap.size<_;omega) (.slice t4 c.adjusts.length c4);rw [←hw5] at o6;have rx:Hid (w5.rangeAt w.heap.size 0 [c.meter,c.win.has,c.win.a.y,c.win.a.m,c.win.a.d,c.win.b.y,c.win.b.m,c.win.b.d,c.allowance,c.block,c.kind,.slice t2 c.tiers.length c2,c.mode,.slice t4 c.adjusts.length c4,.int .i64 0,.int .i64 0]):=hid (box_range bx5);have rz:Hid (w5.there (w.heap.size+1) 0 16):=hid (box_there bz5 (n:=16) rfl);have B5:=hid b5;have O5:=hid o5;have O6:=hid o6;clear k13 f13 bx4 bz4 b14 o3' o4' hw5 bx5 bz5 b5 o5 o6 lt4
 go_wp2_with (first
  | (with_reducible refine wpList_load_mid (op:=Oper.mk (some 13) (Op.load 57 (Operand.tmp 1)) _ _ _ _) ?_ 57 (.tmp 1) ?_ w.heap.size 0 ?_ [c.meter,c.win.has,c.win.a.y,c.win.a.m,c.win.a.d,c.win.b.y,c.win.b.m,c.win.b.d,c.allowance,c.block,c.kind,.slice t2 c.tiers.length c2,c.mode,.slice t4 c.adjusts.length c4,.int .i64 0,.int .i64 0] _ rx.out Tryz.underlying57 ?_ ?_ ?_;rfl;rfl;go_simp;rfl;kernel_rfl)
  | (with_reducible refine wpList_store_mid (op:=Oper.mk none (Op.store 57 (Operand.tmp 2) (Operand.tmp 13)) _ _ _ _) ?_ 57 (.tmp 2) (.tmp 13) ?_ (w.heap.size+1) 0 #[c.meter,c.win.has,c.win.a.y,c.win.a.m,c.win.a.d,c.win.b.y,c.win.b.m,c.win.b.d,c.allowance,c.block,c.kind,.slice t2 c.tiers.length c2,c.mode,.slice t4 c.adjusts.length c4,.int .i64 0,.int .i64 0] ?_ ?_ ?_ ?_ ?_ ?_;rfl;rfl;go_simp;go_simp;(simpa using rz.out);kernel_rfl;(simp [Value.oneCell']))
  | fail)
 have rr:(w5.setCells (w.heap.size+1) 0 [c.meter,c.win.has,c.win.a.y,c.win.a.m,c.win.a.d,c.win.b.y,c.win.b.m,c.win.b.d,c.allowance,c.block,c.kind,.slice t2 c.tiers.length c2,c.mode,.slice t4 c.adjusts.length c4,.int .i64 0,.int .i64 0]).rangeAt (w.heap.size+1) 0 [c.meter,c.win.has,c.win.a.y,c.win.a.m,c.win.a.d,c.win.b.y,c.win.b.m,c.win.b.d,c.allowance,c.block,c.kind,.slice t2 c.tiers.length c2,c.mode,.slice t4 c.adjusts.length c4,.int .i64 0,.int .i64 0]:=World.rangeAt_setCells_same _ _ _ _ rz.out;refine bodyPost_ret (v:=.agg #[c.meter,c.win.has,c.win.a.y,c.win.a.m,c.win.a.d,c.win.b.y,c.win.b.m,c.win.b.d,c.allowance,c.block,c.kind,.slice t2 c.tiers.length c2,c.mode,.slice t4 c.adjusts.length c4,.int .i64 0,.int .i64 0]) ?_ rfl ?_
 ·exact results_mid rfl _ _ (w.heap.size+1) [c.meter,c.win.has,c.win.a.y,c.win.a.m,c.win.a.d,c.win.b.y,c.win.b.m,c.win.b.d,c.allowance,c.block,c.kind,.slice t2 c.tiers.length c2,c.mode,.slice t4 c.adjusts.length c4,.int .i64 0,.int .i64 0] _ rfl rr Tryz.underlying57 rfl (by kernel_rfl)
 refine ⟨⟨t2,c2,t4,c4⟩,rfl,?_,?_,ap.out,?_⟩
 ·exact (owns_setCells_below (by have:=s2.out;omega) _ _ _ O5.out).mono (by have:=s2.out;omega)
 ·exact (owns_setCells_below (by have:=s2.out;have:=s4.out;omega) _ _ _ O6.out).mono (by have:=s2.out;have:=s4.out;omega)
 ·exact Below.setRow _ _ _ B5.out (by omega)
end Te
end Go.Proofs.YtofbobdhkbmbgaaGreatDoor
