/- What package parse does: a plan, token by token. -/
import Derived.Test.YtofbobdhkbmbgaaGreatDoorJPaG
set_option maxRecDepth 100000
set_option maxHeartbeats 8000000
namespace Go.Proofs.YtofbobdhkbmbgaaGreatDoor
namespace Pa
open Go.RowKit Go.Sort P Tl Mm Md
theorem owns_none (W:World) (base:Nat) (n cu:ByteArray) (a b:Day) (ln cl:Int):Owns W base (rowOf ⟨n,cu,a,b,[],[],[],ln,cl⟩ none 0 none 0 none 0 []):=by
 refine ⟨fun s r hs=>?_,fun s t r r' k hs ht hk hk'=>?_⟩
 ·cases s with
  | m=>cases hs;exact World.ownsRow_nil _ _ _ _
  | f=>cases hs;exact World.ownsRow_nil _ _ _ _
  | c=>cases hs;exact World.ownsRow_nil _ _ _ _
  | t i=>cases hs
  | a i=>cases hs
 ·cases s with
  | m=>cases hs;cases hk
  | f=>cases hs;cases hk
  | c=>cases hs;cases hk
  | t i=>cases hs
  | a i=>cases hs
theorem bel_on' {w w1 w2:World} (a:Below w.heap.size w w1) (b:Below w1.heap.size w1 w2):Below w.heap.size w w2:=a.trans (b.mono a.size)
theorem alloc_on {w W:World} (h:Below w.heap.size w W) (o:Obj):Below w.heap.size w (W.alloc o):=h.alloc h.size o
def PlQ (w:World) (b tb cap:Nat) (ts:List Tok) (r:Plan×St) (x:Ending) (w':World):Prop:=
 ∃ma mc fa fc ca cc hs,x=.returned (.agg (planC r.1 ma mc fa fc ca cc).toArray)∧hs.length=r.1.charges.length∧Owns w' w.heap.size (rowOf r.1 ma mc fa fc ca cc hs)∧Rd w' b tb cap ts r.2∧w.grownBy w' (some b)
theorem head_as (ts:List Tok) {n c a d s5} (hn:n=tkn ts (wnt ts st0 wPlan) 1) (hc:c=tkn ts (wnt ts n.2 wCurrency) 1) (ha:a=dayS ts (wnt ts (wnt ts c.2 sSemi) wHorizon)) (hd:d=dayS ts a.2) (h5:s5=wnt ts d.2 sSemi) :
  headS ts st0=(⟨⟨n.1.toArray⟩,⟨c.1.toArray⟩,a.1,d.1,[],[],[],(tk ts st0).ln,(tk ts st0).cl⟩,s5):=by
 subst h5 hd ha hc hn;rfl
theorem plan_any (b tb cap:Nat) (ts:List Tok) (w:World) (h:Rd w b tb cap ts st0) :
  Calls Tryz.prog 54 #[.pointer (some ⟨b,0,none⟩)] w (PlQ w b tb cap ts (itemsS ts ts.length (headS ts st0).2 (headS ts st0).1)):=by
 obtain ⟨s1,hs1⟩:∃s1,s1=wnt ts st0 wPlan:=⟨_,rfl⟩;obtain ⟨n,hn⟩:∃n,n=tkn ts s1 1:=⟨_,rfl⟩;obtain ⟨s2,hs2⟩:∃s2,s2=wnt ts n.2 wCurrency:=⟨_,rfl⟩;obtain ⟨cy,hc⟩:∃cy,cy=tkn ts s2 1:=⟨_,rfl⟩;obtain ⟨s3,hs3⟩:∃s3,s3=wnt ts cy.2 sSemi:=⟨_,rfl⟩;obtain ⟨s4,hs4⟩:∃s4,s4=wnt ts s3 wHorizon:=⟨_,rfl⟩;obtain ⟨a,ha⟩:∃a,a=dayS ts s4:=⟨_,rfl⟩;obtain ⟨d,hd⟩:∃d,d=dayS ts a.2:=⟨_,rfl⟩;obtain ⟨s5,hs5⟩:∃s5,s5=wnt ts d.2 sSemi:=⟨_,rfl⟩;obtain ⟨nm,hnm⟩:∃nm:ByteArray,nm=⟨n.1.toArray⟩:=⟨_,rfl⟩;obtain ⟨cu,hcu⟩:∃cu:ByteArray,cu=⟨cy.1.toArray⟩:=⟨_,rfl⟩;obtain ⟨LN,hLN⟩:∃LN:Int,LN=((tk ts st0).ln:Int):=⟨_,rfl⟩;obtain ⟨CL,hCL⟩:∃CL:Int,CL=((tk ts st0).cl:Int):=⟨_,rfl⟩;have e:=head_as ts (n:=n) (c:=cy) (a:=a) (by rw [←hs1];exact hn) (by rw [←hs2];exact hc) (by rw [←hs3,←hs4];exact ha) hd hs5;rw [←hnm,←hcu,←hLN,←hCL] at e;rw [e];simp only;obtain ⟨R,hR⟩:∃R,R=itemsS ts ts.length s5 ⟨nm,cu,a.1,d.1,[],[],[],LN,CL⟩:=⟨_,rfl⟩;rw [←hR];have HS1:=hid hs1;have HN:=hid hn;have HS2:=hid hs2;have HC:=hid hc;have HS3:=hid hs3;have HS4:=hid hs4;have HA:=hid ha;have HD:=hid hd;have HS5:=hid hs5;have HNM:=hid hnm;have HCU:=hid hcu;have HR:=hid hR;have c0:=h.c0;rw [show vw ts st0=0 from rfl] at c0;obtain ⟨_,_,t2,t3⟩:=h.at;rw [show vw ts st0=0 from rfl,show vk ts st0=tk ts st0 from rfl,←hLN] at t2;rw [show vw ts st0=0 from rfl,show vk ts st0=tk ts st0 from rfl,←hCL] at t3;have hcn:1≤ts.length:=h.ok.toks.pos;have n0:(0:Int)<ts.length:=by omega
 have n00:0<ts.length:=by omega
 have n01:¬ ts.length=0:=by omega
 have hb:=h.lt;have htl:tb<w.heap.size:=by have:=h.tlt;omega
 obtain ⟨kr,hkr⟩:∃kr,kr=w.heap.size:=⟨_,rfl⟩;obtain ⟨kc,hkc⟩:∃kc,kc=w.heap.size+1:=⟨_,rfl⟩;obtain ⟨zs,hzs⟩:∃zs:List Value,zs=[.string ⟨#[]⟩,.string ⟨#[]⟩,.int .i64 0,.int .i64 0,.int .i64 0,.int .i64 0,.int .i64 0,.int .i64 0,.slice none 0 0,.slice none 0 0,.slice none 0 0,.int .i64 0,.int .i64 0]:=⟨_,rfl⟩;obtain ⟨w0,hw0⟩:∃w0,w0=w.alloc (.cells #[.string ⟨#[]⟩,.string ⟨#[]⟩,.int .i64 0,.int .i64 0,.int .i64 0,.int .i64 0,.int .i64 0,.int .i64 0,.slice none 0 0,.slice none 0 0,.slice none 0 0,.int .i64 0,.int .i64 0] 41):=⟨_,rfl⟩;obtain ⟨wx,hwx⟩:∃wx,wx=w0.alloc (.cells #[.string ⟨#[]⟩,.string ⟨#[]⟩,.int .i64 0,.int .i64 0,.int .i64 0,.int .i64 0,.int .i64 0,.int .i64 0,.slice none 0 0,.slice none 0 0,.slice none 0 0,.int .i64 LN,.int .i64 CL] 41):=⟨_,rfl⟩;obtain ⟨w1,hw1⟩:∃w1,w1=wx.drew:=⟨_,rfl⟩;have M0:Mk w wx b tb cap ts kr kc zs [.string ⟨#[]⟩,.string ⟨#[]⟩,.int .i64 0,.int .i64 0,.int .i64 0,.int .i64 0,.int .i64 0,.int .i64 0,.slice none 0 0,.slice none 0 0,.slice none 0 0,.int .i64 LN,.int .i64 CL] st0:=by rw [hwx,hw0,hkr,hkc,hzs];exact Mk.new h 41 [.string ⟨#[]⟩,.string ⟨#[]⟩,.int .i64 0,.int .i64 0,.int .i64 0,.int .i64 0,.int .i64 0,.int .i64 0,.slice none 0 0,.slice none 0 0,.slice none 0 0,.int .i64 0,.int .i64 0] [.string ⟨#[]⟩,.string ⟨#[]⟩,.int .i64 0,.int .i64 0,.int .i64 0,.int .i64 0,.int .i64 0,.int .i64 0,.slice none 0 0,.slice none 0 0,.slice none 0 0,.int .i64 LN,.int .i64 CL]
 have bd:Below wx.heap.size wx w1:=by rw [hw1];exact Below.drew (Below.refl _ _)
 have M1:Hid (Mk w w1 b tb cap ts kr kc zs [.string ⟨#[]⟩,.string ⟨#[]⟩,.int .i64 0,.int .i64 0,.int .i64 0,.int .i64 0,.int .i64 0,.int .i64 0,.slice none 0 0,.slice none 0 0,.slice none 0 0,.int .i64 LN,.int .i64 CL] st0):=hid ⟨M0.rd.on bd,M0.box.on bd,M0.res.on bd,grown_trans M0.gr (grown_below bd),M0.lb,M0.lr,M0.lc,M0.rc⟩;have b0:Below w.heap.size w w0:=by rw [hw0];exact (Below.refl _ _).alloc (Nat.le_refl _) _
 have KP:Hid (∀w',Below w0.heap.size w0 w'→w'.cell? ⟨b,0,none⟩=some (.slice (some ⟨tb,0*4,none⟩) (ts.length-0) (cap-0))∧w'.cell? ⟨tb,0*4+2,none⟩=some (.int .i64 LN)∧w'.cell? ⟨tb,0*4+3,none⟩=some (.int .i64 CL)∧Below w0.heap.size w0 w'):=hid fun w' k=>by
  have b1:=bel_on' b0 k;exact ⟨by rw [b1.cell hb];exact c0,by rw [b1.cell htl];exact t2,by rw [b1.cell htl];exact t3,k⟩
 simp only [Nat.zero_mul,Nat.zero_add,Nat.sub_zero] at KP;have HKR:=hid hkr;have HKC:=hid hkc;have HZS:=hid hzs;have HW0:=hid hw0;have HWX:=hid hwx;have HW1:=hid hw1;have SZ0:Hid (w0.heap.size=kc):=hid (by rw [hw0,hkc];simp);clear e hs1 hn hs2 hc hs3 hs4 ha hd hs5 hnm hcu hR hLN hCL hkr hkc hzs hw0 hwx hw1 h M0 bd b0 c0 t2 t3;go_enter Tryz.func54,Tryz.ntmps54
 go_upto_region 1 with fail
 rw [←HW0.out];clear hb htl
 go_region_held3 (fun w'=>w'.cell? ⟨b,0,none⟩=some (.slice (some ⟨tb,0,none⟩) ts.length cap)∧w'.cell? ⟨tb,2,none⟩=some (.int .i64 LN)∧w'.cell? ⟨tb,3,none⟩=some (.int .i64 CL)∧Below w0.heap.size w0 w')
  ((refine KP.out _ ?_;repeat (first|assumption|exact Below.refl _ _|(refine Below.drew ?_)|(refine alloc_on ?_ _)|(refine Below.setCell ?_ (by first|omega|(simp<;>omega)) _))))
  (fail)
 rw [SZ0.out];rw [←HWX.out,←HW1.out,←HKR.out];have c:=need_any b tb cap ts st0 ⟨#[112,108,97,110]⟩ (by decide) w1 M1.out.rd;rw [show (⟨#[112,108,97,110]⟩:ByteArray).data.toList=wPlan from rfl,←HS1.out] at c;go_wp2_with fail
 refine c.mono ?_;rintro e w2 ⟨rfl,q,g⟩;have M2:=hid (M1.out.call q g);clear c q g M1;have c:=name_any b tb cap ts s1 w2 M2.out.rd;rw [←HN.out,←HNM.out] at c;go_wp2_with fail
 refine c.mono ?_;rintro e w3 ⟨rfl,q,g⟩;have C:=M2.out.call q g;have d0:=C.box.cell 0 _ rfl;have f0:=C.box.free 0;have lk:=C.box.lt;obtain ⟨w4,hw4⟩:∃w4,w4=(w3.setCell ⟨kc,0,none⟩ (.string nm)):=⟨_,rfl⟩;have M4:Hid (Mk w w4 b tb cap ts kr kc zs [.string nm,.string ⟨#[]⟩,.int .i64 0,.int .i64 0,.int .i64 0,.int .i64 0,.int .i64 0,.int .i64 0,.slice none 0 0,.slice none 0 0,.slice none 0 0,.int .i64 LN,.int .i64 CL] n.2):=hid (by rw [hw4];exact (C.put 0 _));have HW4:=hid hw4;clear c q g C hw4;have c:=need_any b tb cap ts n.2 ⟨#[99,117,114,114,101,110,99,121]⟩ (by decide) w4 M4.out.rd;rw [show (⟨#[99,117,114,114,101,110,99,121]⟩:ByteArray).data.toList=wCurrency from rfl,←HS2.out] at c;go_wp2_with fail
 rw [←HW4.out];clear d0 f0 lk;refine c.mono ?_;rintro e w5 ⟨rfl,q,g⟩;have M5:=hid (M4.out.call q g);clear c q g M4;have c:=name_any b tb cap ts s2 w5 M5.out.rd;rw [←HC.out,←HCU.out] at c;go_wp2_with fail
 refine c.mono ?_;rintro e w6 ⟨rfl,q,g⟩;have C:=M5.out.call q g;have d0:=C.box.cell 1 _ rfl;have f0:=C.box.free 1;have lk:=C.box.lt;obtain ⟨w7,hw7⟩:∃w7,w7=(w6.setCell ⟨kc,1,none⟩ (.string cu)):=⟨_,rfl⟩;have M7:Hid (Mk w w7 b tb cap ts kr kc zs [.string nm,.string cu,.int .i64 0,.int .i64 0,.int .i64 0,.int .i64 0,.int .i64 0,.int .i64 0,.slice none 0 0,.slice none 0 0,.slice none 0 0,.int .i64 LN,.int .i64 CL] cy.2):=hid (by rw [hw7];exact (C.put 1 _));have HW7:=hid hw7;clear c q g C hw7;have c:=need_any b tb cap ts cy.2 ⟨#[59]⟩ (by decide) w7 M7.out.rd;rw [show (⟨#[59]⟩:ByteArray).data.toList=sSemi from rfl,←HS3.out] at c;go_wp2_with fail
 rw [←HW7.out];clear d0 f0 lk;refine c.mono ?_;rintro e w8 ⟨rfl,q,g⟩;have M8:=hid (M7.out.call q g);clear c q g M7;have c:=need_any b tb cap ts s3 ⟨#[104,111,114,105,122,111,110]⟩ (by decide) w8 M8.out.rd;rw [show (⟨#[104,111,114,105,122,111,110]⟩:ByteArray).data.toList=wHorizon from rfl,←HS4.out] at c;go_wp2_with fail
 refine c.mono ?_;rintro e w9 ⟨rfl,q,g⟩;have M9:=hid (M8.out.call q g);clear c q g M8;have c:=day_any b tb cap ts s4 w9 M9.out.rd;rw [←HA.out,dayV] at c;go_wp2_with fail
 refine c.mono ?_;rintro e w10 ⟨rfl,q,g⟩;have C:=M9.out.call q g;have d0:=C.box.cell 2 _ rfl;have f0:=C.box.free 2;have d1:=C.box.cell 3 _ rfl;have f1:=C.box.free 3;have d2:=C.box.cell 4 _ rfl;have f2:=C.box.free 4;have lk:=C.box.lt;obtain ⟨w11,hw11⟩:∃w11,w11=(((w10.setCell ⟨kc,2,none⟩ (.int .i64 a.1.y)).setCell ⟨kc,3,none⟩ (.int .i64 a.1.m)).setCell ⟨kc,4,none⟩ (.int .i64 a.1.d)):=⟨_,rfl⟩;have M11:Hid (Mk w w11 b tb cap ts kr kc zs [.string nm,.string cu,a.1.y,a.1.m,a.1.d,.int .i64 0,.int .i64 0,.int .i64 0,.slice none 0 0,.slice none 0 0,.slice none 0 0,.int .i64 LN,.int .i64 CL] a.2):=hid (by rw [hw11];exact (((C.put 2 _).put 3 _).put 4 _));have HW11:=hid hw11;clear c q g C hw11;have c:=day_any b tb cap ts a.2 w11 M11.out.rd;rw [←HD.out,dayV] at c;go_wp2_with fail
 rw [←HW11.out];clear d0 f0 d1 f1 d2 f2 lk;refine c.mono ?_;rintro e w12 ⟨rfl,q,g⟩;have C:=M11.out.call q g;have d0:=C.box.cell 5 _ rfl;have f0:=C.box.free 5;have d1:=C.box.cell 6 _ rfl;have f1:=C.box.free 6;have d2:=C.box.cell 7 _ rfl;have f2:=C.box.free 7;have lk:=C.box.lt;obtain ⟨w13,hw13⟩:∃w13,w13=(((w12.setCell ⟨kc,5,none⟩ (.int .i64 d.1.y)).setCell ⟨kc,6,none⟩ (.int .i64 d.1.m)).setCell ⟨kc,7,none⟩ (.int .i64 d.1.d)):=⟨_,rfl⟩;have M13:Hid (Mk w w13 b tb cap ts kr kc zs [.string nm,.string cu,a.1.y,a.1.m,a.1.d,d.1.y,d.1.m,d.1.d,.slice none 0 0,.slice none 0 0,.slice none 0 0,.int .i64 LN,.int .i64 CL] d.2):=hid (by rw [hw13];exact (((C.put 5 _).put 6 _).put 7 _));have HW13:=hid hw13;clear c q g C hw13;have c:=need_any b tb cap ts d.2 ⟨#[59]⟩ (by decide) w13 M13.out.rd;rw [show (⟨#[59]⟩:ByteArray).data.toList=sSemi from rfl,←HS5.out] at c;go_wp2_with fail
 rw [←HW13.out];clear d0 f0 d1 f1 d2 f2 lk;refine c.mono ?_;rintro e w14 ⟨rfl,q,g⟩;have M14:=hid (M13.out.call q g);clear c q g M13;obtain ⟨base,hbase⟩:∃base,base=kc+1:=⟨_,rfl⟩;have BB:Hid (w.heap.size≤base∧kr<base):=hid (by have:=HKR.out;have:=HKC.out;omega);have PQ:Hid (Pq w w14 b tb cap ts kr kc base s5 ⟨nm,cu,a.1,d.1,[],[],[],LN,CL⟩ none 0 none 0 none 0 []):=hid ⟨M14.out.rd,M14.out.box,by have:=M14.out.res;rw [HZS.out] at this;exact this,owns_none _ _ _ _ _ _ _ _,rfl,M14.out.gr,M14.out.lb,M14.out.lr,M14.out.lc,BB.out.2,by omega,M14.out.rc,by have:=M14.out.box.lt;omega⟩;clear hbase M14;go_wp2_with fail
 go_loopw [] (fun wr=>∃(σ:St) (p:Plan) (ma:Option Addr) (mc:Nat) (fa:Option Addr) (fc:Nat) (ca:Option Addr) (cc:Nat) (hs:List Hd),Hid (Pq w wr b tb cap ts kr kc base σ p ma mc fa fc ca cc hs∧R=itemsS ts ts.length σ p∧p.meters.length+p.fees.length+p.charges.length≤σ.i)) (fun wr=>leftOf wr b)
 case atStart=>exact ⟨s5,_,none,0,none,0,none,0,[],hid ⟨PQ.out,HR.out,Nat.zero_le _⟩⟩
 case round=>
  obtain ⟨σ,p,ma,mc,fa,fc,ca,cc,hs,hst⟩:=hrel;have Q:=hst.out.1.rd;have c0:=Q.c0;obtain ⟨a0,_,_,_⟩:=Q.at;have hcn:1≤ts.length-vw ts σ:=by have:=vw_lt Q.ok;omega
  have lr:=Q.lt;obtain ⟨KK,hKK⟩:∃KK:Int,KK=((vk ts σ).k:Int):=⟨_,rfl⟩;rw [←hKK] at a0;have hgo:goesOn ts σ=(KK != 0):=by rw [go_view Q.knd Q.ok,bne,Bool.eq_iff_iff];simp;omega
  have OKS:=hid Q.ok;have hcc:=Q.cnt;clear hKK Q;cases ho:goesOn ts σ
  ·rw [ho] at hgo;have n1:=hgo.symm;have RE:Hid (R=(p,σ)):=hid (by rw [hst.out.2.1];exact items_stop _ _ _ _ ho);have HP:=hid hst.out.1;have rx:Hid (wr.rangeAt kc 0 [p.name,p.cur,p.a.y,p.a.m,p.a.d,p.b.y,p.b.m,p.b.d,.slice ma p.meters.length mc,.slice fa p.fees.length fc,.slice ca p.charges.length cc,p.line,p.col]):=hid (range_of HP.out.box.cell);have rz:Hid (wr.there kr 0 13):=hid (there_of HP.out.res.cell HP.out.res.free (n:=13) rfl);clear hgo ho;go_upto_region 13 with fail
   clear c0 a0 lr
   go_wp2_with (first
    | (with_reducible refine wpList_load_mid (op:=Oper.mk (some 51) (Op.load 41 (Operand.tmp 3)) _ _ _ _) ?_ 41 (.tmp 3) ?_ kc 0 ?_ [p.name,p.cur,p.a.y,p.a.m,p.a.d,p.b.y,p.b.m,p.b.d,.slice ma p.meters.length mc,.slice fa p.fees.length fc,.slice ca p.charges.length cc,p.line,p.col] _ rx.out Tryz.underlying41 ?_ ?_ ?_;rfl;rfl;go_simp;rfl;kernel_rfl)
    | (with_reducible refine wpList_store_mid (op:=Oper.mk none (Op.store 41 (Operand.tmp 2) (Operand.tmp 51)) _ _ _ _) ?_ 41 (.tmp 2) (.tmp 51) ?_ kr 0 #[p.name,p.cur,p.a.y,p.a.m,p.a.d,p.b.y,p.b.m,p.b.d,.slice ma p.meters.length mc,.slice fa p.fees.length fc,.slice ca p.charges.length cc,p.line,p.col] ?_ ?_ ?_ ?_ ?_ ?_;rfl;rfl;go_simp;go_simp;(simpa using rz.out);kernel_rfl;(simp [Value.oneCell']))
    | fail)
   have rr:(wr.setCells kr 0 [p.name,p.cur,p.a.y,p.a.m,p.a.d,p.b.y,p.b.m,p.b.d,.slice ma p.meters.length mc,.slice fa p.fees.length fc,.slice ca p.charges.length cc,p.line,p.col]).rangeAt kr 0 [p.name,p.cur,p.a.y,p.a.m,p.a.d,p.b.y,p.b.m,p.b.d,.slice ma p.meters.length mc,.slice fa p.fees.length fc,.slice ca p.charges.length cc,p.line,p.col]:=World.rangeAt_setCells_same _ _ _ _ rz.out;have FF:=Mk.puts [p.name,p.cur,p.a.y,p.a.m,p.a.d,p.b.y,p.b.m,p.b.d,.slice ma p.meters.length mc,.slice fa p.fees.length fc,.slice ca p.charges.length cc,p.line,p.col] 0 ⟨HP.out.rd,HP.out.gr⟩ HP.out.lb HP.out.nr;refine bodyPost_ret (v:=.agg #[p.name,p.cur,p.a.y,p.a.m,p.a.d,p.b.y,p.b.m,p.b.d,.slice ma p.meters.length mc,.slice fa p.fees.length fc,.slice ca p.charges.length cc,p.line,p.col]) ?_ rfl ?_
   ·exact results_mid rfl _ _ kr [p.name,p.cur,p.a.y,p.a.m,p.a.d,p.b.y,p.b.m,p.b.d,.slice ma p.meters.length mc,.slice fa p.fees.length fc,.slice ca p.charges.length cc,p.line,p.col] _ rfl rr Tryz.underlying41 rfl (by kernel_rfl)
   exact ⟨ma,mc,fa,fc,ca,cc,hs,by rw [RE.out];rfl,by rw [RE.out];exact HP.out.hl,by rw [RE.out];exact ⟨fun t r ht=>(owns_setCells_below HP.out.lr _ _ _ (HP.out.owns.own t r ht)).mono BB.out.1,HP.out.owns.apart⟩,by rw [RE.out];exact FF.1,FF.2⟩
  ·rw [ho] at hgo;have n1:=hgo.symm;have he:σ.err=0:=by unfold goesOn at ho;simp at ho;exact ho.1
   have cnt:=hst.out.2.2;have oki:=OKS.out.lt;have CI:=item_any wr hst.out.1 he (by omega) (by omega) (by omega);have RI:Hid (R=itemsS ts ts.length (itemS ts σ p).2 (itemS ts σ p).1):=hid (hst.out.2.1.trans (items_step OKS.out ho));have CN:=hid (item_cnt hst.out.2.2 ho);have LF:=hid (item_left p OKS.out ho);clear hgo ho he cnt oki;go_wp2_with fail
   refine CI.mono ?_;rintro e w2 ⟨rfl,ma',mc',fa',fc',ca',cc',hs',pq⟩;have P2:=hid pq;clear pq CI;go_wp2;go_roundw
   case rel=>exact ⟨_,_,ma',mc',fa',fc',ca',cc',hs',hid ⟨P2.out,RI.out,CN.out⟩⟩
   case measure=>
    rw [leftOf_rd P2.out.rd,leftOf_rd hst.out.1.rd];exact LF.out
end Pa
end Go.Proofs.YtofbobdhkbmbgaaGreatDoor
