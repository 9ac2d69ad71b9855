/- A plan's text, read again: the same plan, but for places. Pure: no program is named here. -/
import Derived.Test.YtofbobdhkbmbgaaGreatDoorJShR
import Derived.Sort.Walk0
import Derived.Deep.RegionHeld3
set_option maxRecDepth 100000
set_option maxHeartbeats 2000000
namespace Go.Proofs.YtofbobdhkbmbgaaGreatDoor
namespace P
open Go.RowKit Mm R6
variable {ts:List Tok} {s:St}
theorem ba_list (b:ByteArray):(⟨b.data.toList.toArray⟩:ByteArray)=b:=by simp
theorem At.dec6 {r:TkL} {n m:Int} (hn:NumOk n m) (hm:m≤1000000000000) (h:At ts s ((3,decT n 6)::r)):(numS ts s 6 m).1=n∧At ts (numS ts s 6 m).2 r:=At.dec (p:=6) (by decide) hn hm h
theorem Lx.hor {a b:Day} {l:List UInt8} {xs:TkL} (ha:DayOk a) (hb:DayOk b) (h:Lx l xs):Lx (tellT 0 [wHorizon,dayT a,dayT b]++l) ((2,wHorizon)::(4,dayT a)::(4,dayT b)::smX::xs):=by
 have a:=kd_day ha;have b:=kd_day hb;have z4:=Lx.kw (t:=wHorizon) (by decide) (by decide) (Lx.sp (Lx.word ⟨a.2.1,a.2.2.1⟩ a.1 (by decide) (by decide) (Lx.sp (Lx.word ⟨b.2.1,b.2.2.1⟩ b.1 (by decide) (by decide) (Lx.semi h)))));unfold tellT;rw [join3];refine Lx.ln 0 ?_;simp only [List.append_assoc,List.cons_append,List.nil_append];exact z4
theorem Lx.pl {n c:ByteArray} {l:List UInt8} {xs:TkL} (hn:NmOk n) (hc:NmOk c) (h:Lx l xs):Lx (tellT 0 [wPlan,n.data.toList,wCurrency,c.data.toList]++l) ((2,wPlan)::(1,n.data.toList)::(2,wCurrency)::(1,c.data.toList)::smX::xs):=by
 have z6:=Lx.kw (t:=wPlan) (by decide) (by decide) (Lx.sp (Lx.nm hn (by decide) (Lx.sp (Lx.kw (t:=wCurrency) (by decide) (by decide) (Lx.sp (Lx.nm hc (by decide) (Lx.semi h)))))));unfold tellT;rw [join4];refine Lx.ln 0 ?_;simp only [List.append_assoc,List.cons_append,List.nil_append];exact z6
theorem At.meterS {m:Meter} {r:TkL} (h1:NmOk m.name∧NmOk m.unit∧NumOk m.max 2000) (l c:Int) (h:At ts s ((meterX m).tail++r)):(meterS ts s l c).1 = { m with line:=l,col:=c }∧At ts (meterS ts s l c).2 r:=by
 have h:At ts s ((1,m.name.data.toList)::(2,wUnit)::(1,m.unit.data.toList)::(2,wMax)::(3,nmbT m.max)::smX::r):=h;obtain ⟨a1,a2⟩:=h.tkn;obtain ⟨b1,b2⟩:=(a2.wnt (.inl rfl)).tkn;obtain ⟨c1,c2⟩:=(b2.wnt (.inl rfl)).nmb h1.2.2 (by decide);refine ⟨?_,c2.wnt (.inr rfl)⟩;unfold P.meterS;simp only;rw [a1,b1,c1,ba_list,ba_list]
theorem At.feeS {f:Fee} {r:TkL} (h1:NumOk f.amount 1000000000000∧WinOk f.win) (l c:Int) (h:At ts s ((feeX f).tail++r)):(feeS ts s l c).1 = { f with line:=l,col:=c }∧At ts (feeS ts s l c).2 r:=by
 have h:At ts s ((3,nmbT f.amount)::((winX f.win++[smX])++r)):=h;obtain ⟨a1,a2⟩:=h.nmb h1.1 (by decide);rw [List.append_assoc] at a2;obtain ⟨b1,b2⟩:=At.win h1.2 (show sSemi≠wFrom by decide) a2;refine ⟨?_,b2.wnt (.inr rfl)⟩;unfold P.feeS;simp only;rw [a1,b1]
theorem flat_len_le {α β:Type} {f:α→List β} : ∀(l:List α),(∀a∈l,1≤(f a).length)→l.length≤(l.flatMap f).length
 | [],_=>Nat.le_refl _
 | a::r,h=>by
   have e:=flat_len_le r (fun b hb=>h b (List.mem_cons_of_mem _ hb));have k:=h a (List.mem_cons_self ..);rw [List.flatMap_cons,List.length_append,List.length_cons];omega
theorem opt_head {word:List UInt8} {n d:Int} {k:Nat} {l:List UInt8} {r:TkL} : ∃k' l' r',(if n=d then [] else [(2,word),(3,nmbT n),smX])++(k,l)::r=(k',l')::r'∧(l'=word∨l'=l):=by
 by_cases g:n=d
 ·rw [if_pos g];exact ⟨_,_,_,rfl,.inr rfl⟩
 ·rw [if_neg g];exact ⟨_,_,_,rfl,.inl rfl⟩
theorem kind_word {k:Int} (hk:k=1∨k=2):kindT k≠wAllowance∧kindT k≠wBlock:=by
 rcases hk with rfl|rfl<;>exact ⟨by decide,by decide⟩
theorem At.chargeS {c:Charge} {us:List Tier} {q:Int} {r:TkL} (hc:ChOk c) (e:c.tiers=us++[⟨0,q⟩]) (hu:∀t∈us,TierOk t) (hq:NumOk q 1000000000000) (l b:Int) (h:At ts s ((chargeX c us q).tail++r)) :
  (chargeS ts s l b).1 = { c with line:=l,col:=b }∧At ts (chargeS ts s l b).2 r:=by
 have lenu:us.length≤(us.flatMap tierX).length:=flat_len_le us (fun t _=>by show 1≤5;decide);have lena:c.adjusts.length≤(c.adjusts.flatMap adjX).length:=flat_len_le c.adjusts (fun a ha=>by obtain ⟨w,e1,_⟩:=adjX_head (hc.adjs a ha);rw [e1];simp);have L:=h.len;unfold chargeX at h L;simp only [List.tail_cons,List.cons_append,List.append_assoc,List.nil_append] at h L;simp only [List.length_cons,List.length_append] at L;obtain ⟨a1,a2⟩:=h.tkn;obtain ⟨b1,b2⟩:=At.win hc.win (show sOpen≠wFrom by decide) a2;have b3:=b2.wnt (.inr rfl);have kw:=kind_word hc.kind;obtain ⟨k',l',r',e1,e2⟩:=opt_head (word:=wBlock) (n:=c.block) (d:=1) (k:=2) (l:=kindT c.kind) (r:=(5,sOpen)::(us.flatMap tierX++(restX q++(5,sShut)::(2,wRound)::(2,modeT c.mode)::smX::(c.adjusts.flatMap adjX++(5,sShut)::r))));rw [e1] at b3;obtain ⟨c1,c2⟩:=b3.opt (word:=wAllowance) hc.allow (by rcases e2 with rfl|rfl;exact (by decide);exact kw.1);rw [←e1] at c2;obtain ⟨d1,d2⟩:=c2.opt (word:=wBlock) hc.block kw.2;obtain ⟨f1,f2⟩:=d2.kind hc.kind;obtain ⟨g1,g2⟩:=At.tiers us ts.length _ [] hu (by omega) (f2.wnt (.inr rfl));obtain ⟨i1,i2⟩:=((g2.wnt (.inl rfl)).wnt (.inl rfl)).dec6 hq (by decide);obtain ⟨j1,j2⟩:=(((i2.wnt (.inr rfl)).wnt (.inr rfl)).wnt (.inl rfl)).mode hc.mode;obtain ⟨k1,k2⟩:=At.adjs c.adjusts ts.length _ [] hc.adjs (by omega) (j2.wnt (.inr rfl));refine ⟨?_,k2.wnt (.inr rfl)⟩;unfold P.chargeS;simp only;rw [a1,b1,c1,d1,f1,g1,i1,j1,k1,ba_list,List.nil_append,List.nil_append,←e]
def chX (c:Charge):TkL:=chargeX c c.tiers.dropLast ((c.tiers.getLast?.map Tier.rate).getD 0)
theorem chX_of {c:Charge} {us:List Tier} {q:Int} (e:c.tiers=us++[⟨0,q⟩]):chX c=chargeX c us q:=by
 unfold chX;rw [e,List.dropLast_concat,List.getLast?_append];rfl
def headX (p:Plan):TkL:=[(2,wPlan),(1,p.name.data.toList),(2,wCurrency),(1,p.cur.data.toList),smX,(2,wHorizon),(4,dayT p.a),(4,dayT p.b),smX]
def planX (p:Plan):TkL:=headX p++(p.meters.flatMap meterX++(p.fees.flatMap feeX++(p.charges.flatMap chX++[(0,[])])))
theorem Lx.plan {p:Plan} (h:Gd p):Lx (planT p) (planX p):=by
 have z1:=Lx.flat (f:=chargeT) (g:=chX) p.charges (fun c hc l xs hl=>by
  obtain ⟨us,q,e,_,_⟩:=(h.charges c hc).tiers;rw [chX_of e]
  exact Lx.charge (h.charges c hc) e hl) Lx.nil
 have z2:=Lx.flat (f:=feeT) (g:=feeX) p.fees (fun f hf l xs hl=>Lx.fee (h.fees f hf).2 hl) z1;have z3:=Lx.flat (f:=meterT) (g:=meterX) p.meters (fun m hm l xs hl=>Lx.meter (h.meters m hm).1 (h.meters m hm).2.1 hl) z2;have z7:=Lx.pl h.name.1 h.name.2 (Lx.hor h.days.1 h.days.2 z3);unfold planT headT8 planX headX;simp only [List.append_assoc,List.cons_append,List.nil_append,List.append_nil] at z7 ⊢;exact z7
theorem item_one {w:List UInt8} {r:TkL} {i:Int} (h:At ts s ((2,w)::r)) (e:oneP itemWords w 0=some i):oneS ts s itemWords=(i,s.next)∧goesOn ts s=true:=by
 refine ⟨h.one (.inl rfl) e,?_⟩;unfold goesOn;rw [h.tk.1,decide_eq_true h.1];rfl
theorem At.ok {x:Nat×List UInt8} {r:TkL} (T:Toks ts) (h:At ts s (x::r)):Ok ts s:=⟨T,h.lt⟩
theorem At.itemM {m:Meter} {r:TkL} (p:Plan) (h1:NmOk m.name∧NmOk m.unit∧NumOk m.max 2000) (h:At ts s (meterX m++r)):∃m' s',itemS ts s p=({ p with meters:=p.meters++[m'] },s')∧nM m'=nM m∧At ts s' r∧goesOn ts s=true:=by
 have h:At ts s ((2,wMeter)::((meterX m).tail++r)):=h;obtain ⟨o,g⟩:=item_one h (i:=0) (by decide);obtain ⟨a1,a2⟩:=h.next.meterS h1 (P.tk ts s).ln (P.tk ts s).cl;refine ⟨(P.meterS ts s.next (P.tk ts s).ln (P.tk ts s).cl).1,_,?_,?_,a2,g⟩
 ·unfold itemS;simp only;rw [o,if_pos (show (0:Int)=0 from rfl)]
 ·rw [a1];rfl
theorem At.itemF {f:Fee} {r:TkL} (p:Plan) (h1:NumOk f.amount 1000000000000∧WinOk f.win) (h:At ts s (feeX f++r)):∃m' s',itemS ts s p=({ p with fees:=p.fees++[m'] },s')∧nF m'=nF f∧At ts s' r∧goesOn ts s=true:=by
 have h:At ts s ((2,wFee)::((feeX f).tail++r)):=h;obtain ⟨o,g⟩:=item_one h (i:=1) (by decide);obtain ⟨a1,a2⟩:=h.next.feeS h1 (P.tk ts s).ln (P.tk ts s).cl;refine ⟨(P.feeS ts s.next (P.tk ts s).ln (P.tk ts s).cl).1,_,?_,?_,a2,g⟩
 ·unfold itemS;simp only;rw [o,if_neg (show ¬ ((1:Int)=0) by decide),if_pos (show (1:Int)=1 from rfl)]
 ·rw [a1];rfl
theorem At.itemC {c:Charge} {r:TkL} (p:Plan) (h1:ChOk c) (h:At ts s (chX c++r)):∃m' s',itemS ts s p=({ p with charges:=p.charges++[m'] },s')∧nC m'=nC c∧At ts s' r∧goesOn ts s=true:=by
 obtain ⟨us,q,e,hu,hq⟩:=h1.tiers;rw [chX_of e] at h;have h:At ts s ((2,wCharge)::((chargeX c us q).tail++r)):=h;obtain ⟨o,g⟩:=item_one h (i:=2) (by decide);obtain ⟨a1,a2⟩:=h.next.chargeS h1 e hu hq (P.tk ts s).ln (P.tk ts s).cl;refine ⟨(P.chargeS ts s.next (P.tk ts s).ln (P.tk ts s).cl).1,_,?_,?_,a2,g⟩
 ·unfold itemS;simp only;rw [o,if_neg (show ¬ ((2:Int)=0) by decide),if_neg (show ¬ ((2:Int)=1) by decide),if_pos (show (2:Int)=2 from rfl)]
 ·rw [a1];rfl
theorem At.meters (T:Toks ts) {r:TkL} : ∀(xs:List Meter) (s:St) (p:Plan),(∀m∈xs,NmOk m.name∧NmOk m.unit∧NumOk m.max 2000)→At ts s (xs.flatMap meterX++r)→∃ys s',itemsS ts ts.length s p=itemsS ts ts.length s' { p with meters:=p.meters++ys }∧ys.map nM=xs.map nM∧At ts s' r
 | [],s,p,_,h=>⟨[],s,by rw [List.append_nil],rfl,h⟩
 | m::q,s,p,hm,h=>by
   rw [List.flatMap_cons,List.append_assoc] at h;have ok:Ok ts s:=At.ok (x:=(2,wMeter)) (r:=(meterX m).tail++(q.flatMap meterX++r)) T h;obtain ⟨m',s',e1,e2,e3,e4⟩:=At.itemM p (hm m (List.mem_cons_self ..)) h;obtain ⟨ys,s2,f1,f2,f3⟩:=At.meters T q s' { p with meters:=p.meters++[m'] } (fun x hx=>hm x (List.mem_cons_of_mem _ hx)) e3;refine ⟨m'::ys,s2,?_,by rw [List.map_cons,List.map_cons,e2,f2],f3⟩;rw [items_step ok e4,e1,f1];simp
theorem At.fees (T:Toks ts) {r:TkL} : ∀(xs:List Fee) (s:St) (p:Plan),(∀f∈xs,NumOk f.amount 1000000000000∧WinOk f.win)→At ts s (xs.flatMap feeX++r)→∃ys s',itemsS ts ts.length s p=itemsS ts ts.length s' { p with fees:=p.fees++ys }∧ys.map nF=xs.map nF∧At ts s' r
 | [],s,p,_,h=>⟨[],s,by rw [List.append_nil],rfl,h⟩
 | m::q,s,p,hm,h=>by
   rw [List.flatMap_cons,List.append_assoc] at h;have ok:Ok ts s:=At.ok (x:=(2,wFee)) (r:=(feeX m).tail++(q.flatMap feeX++r)) T h;obtain ⟨m',s',e1,e2,e3,e4⟩:=At.itemF p (hm m (List.mem_cons_self ..)) h;obtain ⟨ys,s2,f1,f2,f3⟩:=At.fees T q s' { p with fees:=p.fees++[m'] } (fun x hx=>hm x (List.mem_cons_of_mem _ hx)) e3;refine ⟨m'::ys,s2,?_,by rw [List.map_cons,List.map_cons,e2,f2],f3⟩;rw [items_step ok e4,e1,f1];simp
theorem At.charges (T:Toks ts) {r:TkL} : ∀(xs:List Charge) (s:St) (p:Plan),(∀c∈xs,ChOk c)→At ts s (xs.flatMap chX++r)→∃ys s',itemsS ts ts.length s p=itemsS ts ts.length s' { p with charges:=p.charges++ys }∧ys.map nC=xs.map nC∧At ts s' r
 | [],s,p,_,h=>⟨[],s,by rw [List.append_nil],rfl,h⟩
 | m::q,s,p,hm,h=>by
   rw [List.flatMap_cons,List.append_assoc] at h;have ok:Ok ts s:=At.ok (x:=(2,wCharge)) (r:=(chX m).tail++(q.flatMap chX++r)) T h;obtain ⟨m',s',e1,e2,e3,e4⟩:=At.itemC p (hm m (List.mem_cons_self ..)) h;obtain ⟨ys,s2,f1,f2,f3⟩:=At.charges T q s' { p with charges:=p.charges++[m'] } (fun x hx=>hm x (List.mem_cons_of_mem _ hx)) e3;refine ⟨m'::ys,s2,?_,by rw [List.map_cons,List.map_cons,e2,f2],f3⟩;rw [items_step ok e4,e1,f1];simp
theorem plan_read (T:Toks ts) {p:Plan} (h:Gd p) (e:ts.map (fun t=>(t.k,t.t))=planX p):(planS ts).2.1=0∧noPl (planS ts).1=noPl p:=by
 have h0:At ts st0 (planX p):=⟨rfl,e⟩;have h0:At ts st0 ((2,wPlan)::(1,p.name.data.toList)::(2,wCurrency)::(1,p.cur.data.toList)::smX::(2,wHorizon)::(4,dayT p.a)::(4,dayT p.b)::smX::(p.meters.flatMap meterX++(p.fees.flatMap feeX++(p.charges.flatMap chX++[(0,[])])))):=h0;obtain ⟨a1,a2⟩:=(h0.wnt (.inl rfl)).tkn;obtain ⟨b1,b2⟩:=(a2.wnt (.inl rfl)).tkn;obtain ⟨c1,c2⟩:=((b2.wnt (.inr rfl)).wnt (.inl rfl)).day h.days.1;obtain ⟨d1,d2⟩:=c2.day h.days.2;have d3:At ts (headS ts st0).2 (p.meters.flatMap meterX++(p.fees.flatMap feeX++(p.charges.flatMap chX++[(0,[])]))):=d2.wnt (.inr rfl);obtain ⟨ms,s1,e1,e2,e3⟩:=At.meters T p.meters _ (headS ts st0).1 h.meters d3;obtain ⟨fs,s2,f1,f2,f3⟩:=At.fees T p.fees s1 { (headS ts st0).1 with meters:=(headS ts st0).1.meters++ms } h.fees e3;obtain ⟨cs,s3,g1,g2,g3⟩:=At.charges T p.charges s2 { (headS ts st0).1 with meters:=(headS ts st0).1.meters++ms,fees:=(headS ts st0).1.fees++fs } h.charges f3;have gs:goesOn ts s3=false:=by unfold goesOn;rw [g3.tk.1];simp
 have e4:=items_stop ts ts.length s3 { (headS ts st0).1 with meters:=(headS ts st0).1.meters++ms,fees:=(headS ts st0).1.fees++fs,charges:=(headS ts st0).1.charges++cs } gs;have e1:=((e1.trans f1).trans g1).trans e4;unfold planS;simp only;rw [e1,if_pos g3.1];refine ⟨rfl,?_⟩;unfold noPl headS;simp only [List.nil_append];rw [a1,b1,c1,d1,ba_list,ba_list,e2,f2,g2]
theorem toks_of {xs:TkL} (e:ts.map (fun t=>(t.k,t.t))=xs++[(0,[])]):Toks ts:=by
 refine ⟨fun i t h1 h2=>?_,?_⟩
 ·have:=congrArg (·[i]?) e;have hl:=congrArg List.length e;simp only [List.length_map,List.length_append,List.length_singleton] at hl;simp only [List.getElem?_map,h1,Option.map_some] at this;rw [List.getElem?_append_right (by omega),show i-xs.length=0 by omega] at this;simp only [List.getElem?_cons_zero,Option.some.injEq,Prod.mk.injEq] at this;exact this.1
 ·have hl:=congrArg List.length e;simp only [List.length_map,List.length_append,List.length_singleton] at hl;omega
theorem planX_end (p:Plan):∃xs,planX p=xs++[(0,[])]:=⟨headX p++(p.meters.flatMap meterX++(p.fees.flatMap feeX++p.charges.flatMap chX)),by unfold planX;simp only [List.append_assoc]⟩
theorem lex_read {p:Plan} (h:Gd p):(lex (planT p) 1 1).2=none∧(planS (lex (planT p) 1 1).1).2.1=0∧noPl (planS (lex (planT p) 1 1).1).1=noPl p:=by
 obtain ⟨l1,l2⟩:=Lx.plan h 1 1;obtain ⟨xs,e⟩:=planX_end p;exact ⟨l1,plan_read (toks_of (by rw [l2,e])) h l2⟩
theorem show_back {p:Plan} (h:Gd p) (hl:(planT p).length≤8192):(parsed (planT p)).2.1=0∧noPl (parsed (planT p)).1=noPl p:=by
 obtain ⟨l1,l2⟩:=lex_read h;have e:lexed (planT p)=((lex (planT p) 1 1).1,0,0,0):=lexed_ok (acc:=(lex (planT p) 1 1).1) hl (by rw [←l1]);unfold parsed;simp only [e,if_true];exact l2
end P
namespace P
open Go.RowKit Mm R6
theorem ix_noPl (ms:List Meter) (n:ByteArray):meterIx (ms.map nM) n=meterIx ms n:=by
 unfold meterIx;rw [List.findIdx?_map];rfl
theorem max_noPl (ms:List Meter) (i:Nat):((ms.map nM).getD i default).max=(ms.getD i default).max:=by
 rw [List.getD_eq_getElem?_getD,List.getD_eq_getElem?_getD,List.getElem?_map];cases ms[i]?<;>rfl
theorem most_noPl (c:Charge) (mx:Int):mostOf (nC c) mx=mostOf c mx:=rfl
theorem mosts_noPl (ms:List Meter):∀cs:List Charge,mosts (ms.map nM) (cs.map nC)=mosts ms cs
 | []=>rfl
 | c::r=>by
   rw [List.map_cons];unfold mosts;rw [show (nC c).meter=c.meter from rfl,ix_noPl];split
   ·exact mosts_noPl ms r
   ·rw [most_noPl,max_noPl,mosts_noPl ms r]
theorem bound_noPl (p:Plan):boundOf (noPl p)=boundOf p:=by
 unfold boundOf;show ((mosts (p.meters.map nM) (p.charges.map nC)).bind fun l=>sumUp 0 ((p.fees.map nF).map (·.amount)++l))=_
 rw [mosts_noPl,List.map_map];rfl
theorem firstE_map {α:Type} {f g:Nat→α→Int} {pl pl':α→Int×Int} {t:α→α} (h:∀i x,f i (t x)=g i x):∀(i:Nat) (l:List α),(firstE f pl i (l.map t)).map (·.1)=(firstE g pl' i l).map (·.1)
 | _,[]=>rfl
 | i,x::r=>by
   rw [List.map_cons];unfold firstE;rw [h];split
   ·exact firstE_map h (i+1) r
   ·rfl
theorem meterE_noPl (p:Plan) (i:Nat) (m:Meter):meterE (noPl p) i (nM m)=meterE p i m:=by
 unfold meterE;show (if 4≤i then 6 else if meterIx (p.meters.map nM) m.name=some i then 0 else 5)=_
 rw [ix_noPl]
theorem chE_noPl (p:Plan) (i:Nat) (c:Charge):chE (noPl p) i (nC c)=chE p i c:=by
 unfold chE;show (if 8≤i then 6 else if meterIx (p.meters.map nM) c.meter=none∨winIn p c.win=false∨c.block=0 then 5 else if 8<c.tiers.length then 6 else if risesB 0 c.tiers=false then 5 else if 6<c.adjusts.length then 6 else 0)=_
 rw [ix_noPl]
theorem wrong_num (p:Plan):(wrongOf p).1=if headE p=0 then (((firstE (meterE p) (fun m=>(m.line,m.col)) 0 p.meters).map (·.1)).getD (((firstE (feeE p) (fun f=>(f.line,f.col)) 0 p.fees).map (·.1)).getD (((firstE (chE p) (fun c=>(c.line,c.col)) 0 p.charges).map (·.1)).getD (if boundOf p=none then 6 else 0)))) else headE p:=by
 unfold wrongOf;split
 ·split
  ·rename_i e he;rw [he];rfl
  ·rename_i he
   rw [he];split
   ·rename_i e hf;rw [hf];rfl
   ·rename_i hf
    rw [hf];split
    ·rename_i e hc;rw [hc];rfl
    ·rename_i hc
     rw [hc];split<;>rfl
 ·rfl
theorem wrong_noPl (p:Plan):(wrongOf (noPl p)).1=(wrongOf p).1:=by
 rw [wrong_num,wrong_num,bound_noPl];have a:(firstE (meterE (noPl p)) (fun m=>(m.line,m.col)) 0 (noPl p).meters).map (·.1)=(firstE (meterE p) (fun m=>(m.line,m.col)) 0 p.meters).map (·.1):=firstE_map (meterE_noPl p) 0 p.meters;have b:(firstE (feeE (noPl p)) (fun m=>(m.line,m.col)) 0 (noPl p).fees).map (·.1)=(firstE (feeE p) (fun m=>(m.line,m.col)) 0 p.fees).map (·.1):=firstE_map (t:=nF) (fun _ _=>rfl) 0 p.fees;have c:(firstE (chE (noPl p)) (fun m=>(m.line,m.col)) 0 (noPl p).charges).map (·.1)=(firstE (chE p) (fun m=>(m.line,m.col)) 0 p.charges).map (·.1):=firstE_map (chE_noPl p) 0 p.charges;rw [a,b,c];rfl
theorem wrong_same {p q:Plan} (h:noPl p=noPl q):(wrongOf p).1=(wrongOf q).1:=by rw [←wrong_noPl p,h,wrong_noPl]
theorem wrong_nought {p:Plan} (h:(wrongOf p).1=0):wrongOf p=(0,0,0):=by
 obtain ⟨h0,h1,h2,h3,h4⟩:=wrongOf_zero.1 h;unfold wrongOf;rw [if_pos h0,h1,h2,h3,if_neg h4]
end P
namespace P
open Go.RowKit Mm
theorem drop_at {α:Type} {l:List α} {i:Nat} {x:α} (h:l[i]?=some x):l.drop i=x::l.drop (i+1):=by
 obtain ⟨hi,rfl⟩:=List.getElem?_eq_some_iff.1 h;exact List.drop_eq_getElem_cons hi
theorem ix_at {ms:List Meter} {n:ByteArray} {i:Nat} {m:Meter} (h:ms[i]?=some m) (e:m.name.data.toList=n.data.toList) (hb:∀(j:Nat) (m':Meter),j<i→ms[j]?=some m'→m'.name.data.toList≠n.data.toList):meterIx ms n=some i:=by
 obtain ⟨hi,hm⟩:=List.getElem?_eq_some_iff.1 h;unfold meterIx;rw [List.findIdx?_eq_some_iff_getElem];refine ⟨hi,by rw [hm];simp [e],fun j hj=>?_⟩;have:=hb j (ms[j]'(by omega)) hj (List.getElem?_eq_getElem (by omega));simpa using this
theorem rises_stop {l:List Tier} {u:Int} {i:Nat} (h:l.length≤i+1):risesB u (l.drop i)=true:=by
 have:(l.drop i).length≤1:=by rw [List.length_drop];omega
 cases hd:l.drop i with
 | nil=>rfl
 | cons t r=>
   rw [hd] at this;cases r with
   | nil=>rfl
   | cons _ _=>simp at this
theorem rises_step {l:List Tier} {u:Int} {i:Nat} {t:Tier} (h:l[i]?=some t) (hi:i+1<l.length):risesB u (l.drop i)=(decide (1≤t.upto)&&decide (u<t.upto)&&risesB t.upto (l.drop (i+1))):=by
 obtain ⟨t',h'⟩:∃t',l[i+1]?=some t':=⟨_,List.getElem?_eq_getElem hi⟩;rw [drop_at h,drop_at h'];rfl
theorem firstE_step {α:Type} {f:Nat→α→Int} {pl:α→Int×Int} {l:List α} {i:Nat} {x:α} (h:l[i]?=some x):firstE f pl i (l.drop i)=if f i x=0 then firstE f pl (i+1) (l.drop (i+1)) else some (f i x,(pl x).1,(pl x).2):=by
 rw [drop_at h];rfl
theorem firstE_end {α:Type} {f:Nat→α→Int} {pl:α→Int×Int} {l:List α} {i:Nat} (h:l.length≤i):firstE f pl i (l.drop i)=none:=by
 rw [List.drop_of_length_le h];rfl
theorem adjAll_step {l:List Adj} {i:Nat} {a:Adj} {n:Int} (h:l[i]?=some a):adjAll n (l.drop i)=(adjStep n a).bind fun m=>adjAll m (l.drop (i+1)):=by
 rw [drop_at h];rfl
theorem topRate_step {l:List Tier} {i:Nat} {t:Tier} (h:l[i]?=some t):topRate (l.take (i+1))=max (topRate (l.take i)) t.rate:=by
 unfold topRate;rw [List.take_add_one,h,List.foldl_append];rfl
theorem mosts_some {ms:List Meter} {cs:List Charge} {i k:Nat} {c:Charge} (h:cs[i]?=some c) (e:meterIx ms c.meter=some k):mosts ms (cs.drop i)=(mostOf c (ms.getD k default).max).bind fun x=>(mosts ms (cs.drop (i+1))).map (x::·):=by
 rw [drop_at h]
 conv=>lhs;unfold mosts
 rw [e]
theorem mosts_end {ms:List Meter} {cs:List Charge} {i:Nat} (h:cs.length≤i):mosts ms (cs.drop i)=some []:=by
 rw [List.drop_of_length_le h];rfl
theorem qty_count {mx al bl:Int} {k:Nat} (hb:0<bl) (h1:mx-al≤k*bl) (h2:k=0∨(k:Int)*bl-bl<mx-al):qty mx al bl=k*bl:=by
 unfold qty;rcases h2 with rfl|h2
 ·rw [if_pos (by simpa using h1)];simp
 ·by_cases h3:mx-al≤0
  ·rw [if_pos h3];cases k with
   | zero=>simp
   | succ k=>
     exfalso
     have:0≤(k:Int)*bl:=Int.mul_nonneg (Int.natCast_nonneg k) (by omega);have e:((k+1:Nat):Int)*bl=(k:Int)*bl+bl:=by rw [Int.natCast_succ,Int.add_mul,Int.one_mul]
     omega
  ·rw [if_neg h3];congr 1
   have e:(mx-al+bl-1) / bl=k:=by
    rw [Int.ediv_eq_iff_of_pos hb];constructor<;>omega
   exact e
end P
namespace Mm
open Go.RowKit Go.Deep Go.ChangeShapes Go.WideShapes P
structure Sm where
 amt:Int
 a:Int
 b:Int
deriving Inhabited,DecidableEq
structure Prt where
 mt:Int
 a:Int
 b:Int
 allowance:Int
 block:Int
 kind:Int
 tiers:List Tier
 mode:Int
 adjusts:List Adj
deriving Inhabited,DecidableEq
structure Cor where
 cur:ByteArray
 a:Int
 b:Int
 meters:List Meter
 sums:List Sm
 parts:List Prt
deriving Inhabited
def smC (s:Sm):List Value:=[s.amt,s.a,s.b]
def tSm:Ty Sm:=leaf 3 smC (fun s=>I64 s.amt∧I64 s.a∧I64 s.b) (fun _=>rfl)
def prtC (x:Prt) (ta:Option Addr) (tc:Nat) (aa:Option Addr) (ac:Nat):List Value:=
 [x.mt,x.a,x.b,x.allowance,x.block,x.kind,.slice ta x.tiers.length tc,x.mode,.slice aa x.adjusts.length ac]
structure PrtLies (w:World) (cs:List Value) (x:Prt) (ta:Option Addr) (tc:Nat) (aa:Option Addr) (ac:Nat):Prop where
 cells:cs=prtC x ta tc aa ac
 tiers:Row tTier w ta x.tiers.length tc x.tiers
 adjusts:Row tAdj w aa x.adjusts.length ac x.adjusts
 nums:I64 x.mt∧I64 x.a∧I64 x.b∧I64 x.allowance∧I64 x.block∧I64 x.kind∧I64 x.mode
def tPrt:Ty Prt where
 n:=9
 lies:=fun w cs x=>∃ta tc aa ac,PrtLies w cs x ta tc aa ac
 len:=fun ⟨_,_,_,_,h⟩=>by rw [h.cells];rfl
 keep:=fun ⟨ta,tc,aa,ac,h⟩ hb=>⟨ta,tc,aa,ac,h.cells,h.tiers.on hb,h.adjusts.on hb,h.nums⟩
def corC (c:Cor) (ma:Option Addr) (mc:Nat) (sa:Option Addr) (sc:Nat) (pa:Option Addr) (pc:Nat):List Value:=
 [c.cur,c.a,c.b,.slice ma c.meters.length mc,.slice sa c.sums.length sc,.slice pa c.parts.length pc]
structure CorLies (w:World) (cs:List Value) (c:Cor) (ma:Option Addr) (mc:Nat) (sa:Option Addr) (sc:Nat) (pa:Option Addr) (pc:Nat):Prop where
 cells:cs=corC c ma mc sa sc pa pc
 meters:Row tMeter w ma c.meters.length mc c.meters
 sums:Row tSm w sa c.sums.length sc c.sums
 parts:Row tPrt w pa c.parts.length pc c.parts
 cur:strOk c.cur
 days:I64 c.a∧I64 c.b
theorem CorLies.on {w w':World} {cs:List Value} {c:Cor} {ma:Option Addr} {mc:Nat} {sa:Option Addr} {sc:Nat} {pa:Option Addr} {pc:Nat} (h:CorLies w cs c ma mc sa sc pa pc) (hb:Below w.heap.size w w'):CorLies w' cs c ma mc sa sc pa pc:=
 ⟨h.cells,h.meters.on hb,h.sums.on hb,h.parts.on hb,h.cur,h.days⟩
section
variable {H:Type} {enc:TypeId×Value→H} {w:World} {base:Nat} {spare:Nat→Bool} {held:Bool}
end
end Mm
namespace P
open Go.RowKit Go.Sort Mm R6
def klt (x y:ByteArray):Bool:=decide (x.data.toList<y.data.toList)
theorem klt_eq (x y:ByteArray):Op.bytesLess x.toList y.toList=klt x y:=by
 unfold klt;rw [bytesLess_eq,ByteArray.toList_eq,ByteArray.toList_eq]
theorem klt_irr (x:ByteArray):klt x x=false:=by
 unfold klt;exact decide_eq_false (List.lt_irrefl _)
theorem klt_tr {x y z:ByteArray} (h:klt x y=true) (k:klt y z=true):klt x z=true:=by
 unfold klt at *;simp only [decide_eq_true_eq] at *;exact List.lt_trans h k
theorem klt_as {x y:ByteArray} (h:klt x y=true):klt y x=false:=by
 rcases Bool.eq_false_or_eq_true (klt y x) with k|k
 ·have:=klt_tr h k;rw [klt_irr] at this;cases this
 ·exact k
theorem ba_ext {x y:ByteArray} (h:x.data.toList=y.data.toList):x=y:=by
 rcases x with ⟨⟨x⟩⟩;rcases y with ⟨⟨y⟩⟩;simp only at h;rw [h]
theorem klt_tot {x y:ByteArray} (h:klt x y=false) (n:x≠y):klt y x=true:=by
 unfold klt at *;simp only [decide_eq_false_iff_not,decide_eq_true_eq] at *;rcases List.le_total x.data.toList y.data.toList with k|k
 ·exact absurd (ba_ext (List.le_antisymm k (List.not_lt.1 h))) n
 ·rcases Decidable.em (y.data.toList<x.data.toList) with q|q
  ·exact q
  ·exact absurd (ba_ext (List.le_antisymm (List.not_lt.1 q) (List.not_lt.1 h))) n
def insAt (n:ByteArray) (l:List Meter):Nat:=(l.takeWhile fun y=>klt y.name n).length
def insM (x:Meter) (l:List Meter):List Meter:=l.take (insAt x.name l)++x::l.drop (insAt x.name l)
def srt (ms:List Meter):List Meter:=ms.foldl (fun acc m=>insM (nM m) acc) []
theorem insAt_le (n:ByteArray) (l:List Meter):insAt n l≤l.length:=by
 unfold insAt;exact (List.takeWhile_sublist _).length_le
theorem insAt_lt {n:ByteArray} {l:List Meter} {j:Nat} {y:Meter} (hj:j<insAt n l) (h:l[j]?=some y):klt y.name n=true:=by
 unfold insAt at hj
 have e:(l.takeWhile fun y=>klt y.name n)[j]?=some y:=by
  have:=List.takeWhile_prefix (fun y=>klt y.name n) (l:=l);obtain ⟨t,ht⟩:=this;rw [←ht,List.getElem?_append_left hj] at h;exact h
 have:=List.all_takeWhile (l:=l) (p:=fun y=>klt y.name n);exact (List.all_eq_true.1 this) y (List.mem_of_getElem? e)
theorem insAt_end {n:ByteArray} {l:List Meter} {y:Meter} (h:l[insAt n l]?=some y):klt y.name n=false:=by
 unfold insAt at h;induction l with
 | nil=>simp at h
 | cons a r ih=>
   rw [List.takeWhile_cons] at h;by_cases ha:klt a.name n=true
   ·rw [if_pos ha] at h;simp only [List.length_cons,List.getElem?_cons_succ] at h;exact ih h
   ·rw [if_neg ha] at h;simp only [List.length_nil,List.getElem?_cons_zero,Option.some.injEq] at h;subst h;simpa using ha
theorem insM_perm (x:Meter) (l:List Meter):(insM x l).Perm (x::l):=by
 unfold insM;have:(l.take (insAt x.name l)++x::l.drop (insAt x.name l)).Perm (x::(l.take (insAt x.name l)++l.drop (insAt x.name l))):=List.perm_middle
 rwa [List.take_append_drop] at this
theorem srt_from (ms acc:List Meter):(ms.foldl (fun acc m=>insM (nM m) acc) acc).Perm (acc++ms.map nM):=by
 induction ms generalizing acc with
 | nil=>simp
 | cons m r ih=>
   rw [List.foldl_cons,List.map_cons];refine (ih _).trans ?_;refine ((insM_perm _ _).append_right _).trans ?_;rw [List.cons_append];exact List.perm_middle.symm
theorem srt_perm (ms:List Meter):(srt ms).Perm (ms.map nM):=by
 have:=srt_from ms []
 rwa [List.nil_append] at this
theorem srt_len (ms:List Meter):(srt ms).length=ms.length:=by
 rw [(srt_perm ms).length_eq,List.length_map]
def Asc (l:List Meter):Prop:=l.Pairwise fun x y=>klt x.name y.name=true
def Apart (ms:List Meter):Prop:=ms.Pairwise fun x y=>x.name≠y.name
theorem asc_ins {x:Meter} {l:List Meter} (h:Asc l) (n:∀y∈l,y.name≠x.name):Asc (insM x l):=by
 unfold insM Asc at *;have hk:=insAt_le x.name l;obtain ⟨k,ek⟩:∃k,k=insAt x.name l:=⟨_,rfl⟩;rw [←ek];have h0:(l.take k++l.drop k).Pairwise fun x y=>klt x.name y.name=true:=by rw [List.take_append_drop];exact h
 rw [List.pairwise_append] at h0;obtain ⟨a,b,c⟩:=h0
 have lo:∀y∈l.take k,klt y.name x.name=true:=fun y hy=>by
  obtain ⟨j,hj,e⟩:=List.getElem_of_mem hy;have hj2:=hj;rw [List.length_take] at hj2;have q1:=Nat.lt_of_lt_of_le hj2 (Nat.min_le_left _ _);have q2:=Nat.lt_of_lt_of_le hj2 (Nat.min_le_right _ _);clear hj2;refine insAt_lt (j:=j) (by rw [←ek];exact q1) (y:=y) ?_;rw [List.getElem_take] at e;rw [List.getElem?_eq_getElem q2,e]
 have hi:∀y∈l.drop k,klt x.name y.name=true:=fun y hy=>by
  cases hd:l.drop k with
  | nil=>rw [hd] at hy;cases hy
  | cons z r=>
    have ez:l[k]?=some z:=by
     have:=congrArg (fun l=>l[0]?) hd;simpa using this
    have hz:klt x.name z.name=true:=by
     have:=insAt_end (n:=x.name) (l:=l) (y:=z) (by rw [←ek];exact ez);exact klt_tot this (n z (List.mem_of_getElem? ez))
    rw [hd] at hy b;rcases List.mem_cons.1 hy with rfl|hy
    ·exact hz
    ·exact klt_tr hz (List.rel_of_pairwise_cons b hy)
 rw [List.pairwise_append];refine ⟨a,List.pairwise_cons.2 ⟨hi,b⟩,fun y hy z hz=>?_⟩;rcases List.mem_cons.1 hz with rfl|hz
 ·exact lo y hy
 ·exact c y hy z hz
theorem srt_asc_from (ms:List Meter):∀(acc:List Meter),Asc acc→Apart ms→(∀a∈acc,∀m∈ms,a.name≠m.name)→Asc (ms.foldl (fun acc m=>insM (nM m) acc) acc):=by
 induction ms with
 | nil=>intro acc h _ _;exact h
 | cons m r ih=>
   intro acc h hp hd;rw [List.foldl_cons];have hp':=List.pairwise_cons.1 hp;refine ih _ (asc_ins h (fun y hy=>hd y hy m (List.mem_cons_self ..))) hp'.2 (fun a ha z hz=>?_);rcases List.mem_cons.1 ((insM_perm _ _).mem_iff.1 ha) with rfl|ha
   ·exact hp'.1 z hz
   ·exact hd a ha z (List.mem_cons_of_mem _ hz)
theorem srt_asc {ms:List Meter} (h:Apart ms):Asc (srt ms):=srt_asc_from ms [] List.Pairwise.nil h (fun _ ha=>by cases ha)
theorem perm_one {α:Type} {r:α→α→Prop} (as':∀x y,r x y→¬ r y x):∀(l m:List α),l.Perm m→l.Pairwise r→m.Pairwise r→l=m
 | [],m,h,_,_=>by rw [List.nil_perm.1 h]
 | x::l,[],h,_,_=>by cases List.perm_nil.1 h
 | x::l,y::m,h,hl,hm=>by
   have hl':=List.pairwise_cons.1 hl;have hm':=List.pairwise_cons.1 hm
   have e:x=y:=by
    rcases List.mem_cons.1 (h.mem_iff.1 (List.mem_cons_self ..)) with e|hx
    ·exact e
    ·rcases List.mem_cons.1 (h.mem_iff.2 (List.mem_cons_self ..)) with e|hy
     ·exact e.symm
     ·exact absurd (hl'.1 y hy) (as' _ _ (hm'.1 x hx))
   subst e;rw [perm_one as' l m (List.perm_cons _ |>.1 h) hl'.2 hm'.2]
theorem apart_nM {ms:List Meter} : Apart (ms.map nM)↔Apart ms:=by
 unfold Apart;rw [List.pairwise_map];exact Iff.rfl
theorem apart_ne {ms:List Meter} (h:Apart ms) {i j:Nat} {x y:Meter} (hi:ms[i]?=some x) (hj:ms[j]?=some y) (e:x.name=y.name):i=j:=by
 obtain ⟨l1,e1⟩:=List.getElem?_eq_some_iff.1 hi;obtain ⟨l2,e2⟩:=List.getElem?_eq_some_iff.1 hj;rcases Nat.lt_trichotomy i j with g|g|g
 ·have:=(List.pairwise_iff_getElem.1 h) i j l1 l2 g;rw [e1,e2] at this;exact absurd e this
 ·exact g
 ·have:=(List.pairwise_iff_getElem.1 h) j i l2 l1 g;rw [e1,e2] at this;exact absurd e.symm this
theorem ix_of {ms:List Meter} (h:Apart ms) {i:Nat} {x:Meter} (hi:ms[i]?=some x):meterIx ms x.name=some i:=
 ix_at hi rfl fun j m' hj hm e=>by
  have:=apart_ne h hm hi (ba_ext e);omega
theorem ix_some {ms:List Meter} {n:ByteArray} {i:Nat} (h:meterIx ms n=some i):∃m,ms[i]?=some m∧m.name=n:=by
 unfold meterIx at h;obtain ⟨hi,e,_⟩:=List.findIdx?_eq_some_iff_getElem.1 h;exact ⟨_,List.getElem?_eq_getElem hi,ba_ext (by simpa using e)⟩
theorem apart_of {p:Plan} (h:(wrongOf p).1=0):Apart p.meters:=by
 have hm:=(wrongOf_zero.1 h).2.1;rw [firstE_none] at hm;unfold Apart;rw [List.pairwise_iff_getElem];intro i j hi hj hij e;have a:=hm i _ (List.getElem?_eq_getElem hi);have b:=hm j _ (List.getElem?_eq_getElem hj);unfold meterE at a b;rw [e] at a;split at a
 ·cases a
 ·split at a
  ·rename_i ha
   split at b
   ·cases b
   ·split at b
    ·rename_i hb
     rw [ha] at hb;have:=Option.some.inj hb;omega
    ·cases b
  ·cases a
def winA (p:Plan) (w:Win):Int:=if w.has then dn w.a else dn p.a
def winB (p:Plan) (w:Win):Int:=if w.has then dn w.b else dn p.b
def sumOf (p:Plan) (f:Fee):Mm.Sm:=⟨f.amount,winA p f.win,winB p f.win⟩
def partOf (p:Plan) (c:Charge):Prt:=⟨((meterIx (srt p.meters) c.meter).getD 0:Nat),winA p c.win,winB p c.win,c.allowance,c.block,c.kind,c.tiers,c.mode,c.adjusts⟩
def coreOf (p:Plan):Cor:=⟨p.cur,dn p.a,dn p.b,srt p.meters,p.fees.map (sumOf p),p.charges.map (partOf p)⟩
theorem nM_nM (ms:List Meter):(ms.map nM).map nM=ms.map nM:=by
 rw [List.map_map];rfl
theorem srt_nM (ms:List Meter):srt (ms.map nM)=srt ms:=by
 unfold srt;rw [List.foldl_map];rfl
theorem core_noPl (p:Plan):coreOf (noPl p)=coreOf p:=by
 unfold coreOf;have e:srt (noPl p).meters=srt p.meters:=srt_nM p.meters;have e1:∀f,sumOf (noPl p) (nF f)=sumOf p f:=fun _=>rfl
 have e2:∀c,partOf (noPl p) (nC c)=partOf p c:=fun c=>by
  unfold partOf;rw [e];rfl
 rw [e];show Cor.mk p.cur (dn p.a) (dn p.b) (srt p.meters) ((p.fees.map nF).map (sumOf (noPl p))) ((p.charges.map nC).map (partOf (noPl p)))=_
 rw [List.map_map,List.map_map];congr 1
 exact List.map_congr_left fun c _=>e2 c
theorem core_same {p q:Plan} (h:noPl p=noPl q):coreOf p=coreOf q:=by rw [←core_noPl p,h,core_noPl]
def inB (n a b:Int):Bool:=decide (a≤n)&&decide (n≤b)
def spanB (a b x y:Int):Bool:=decide (a≤x)&&decide (x≤y)&&decide (y≤b)
def tiersB:Int→List Tier→Bool
 | _,[]=>true
 | _,[t]=>inB t.rate 0 1000000000000&&decide (t.upto=0)
 | u,t::r=>inB t.rate 0 1000000000000&&inB t.upto (u+1) 1000000&&tiersB t.upto r
def adjB (a:Adj):Bool:=if a.kind=1 then inB a.num 0 100000000&&inB a.mode 0 3 else if a.kind=2∨a.kind=3∨a.kind=4 then inB a.num 0 1000000000000&&decide (a.mode=0) else false
def sumB (c:Cor) (s:Mm.Sm):Bool:=inB s.amt 0 1000000000000&&spanB c.a c.b s.a s.b
def tierRow (ts:List Tier):Bool:=inB ts.length 1 8&&tiersB 0 ts
def partB (c:Cor) (x:Prt):Bool:=
 spanB c.a c.b x.a x.b&&(inB x.mt 0 ((c.meters.length:Int)-1)&&(inB x.allowance 0 1000000&&(inB x.block 1 1000000&&(inB x.kind 1 2&&(inB x.mode 0 3&&(tierRow x.tiers&&(decide (x.adjusts.length≤6)&&x.adjusts.all adjB)))))))
def ordB:Option ByteArray→ByteArray→Bool
 | none,_=>true
 | some p,n=>klt p n
def mtB (m:Meter):Bool:=inB m.max 0 2000&&(decide (m.line=0)&&decide (m.col=0))
def metersF:Option ByteArray→List Meter→Bool
 | _,[]=>true
 | q,m::r=>(ordB q m.name&&mtB m)&&metersF (some m.name) r
def metersB (ms:List Meter):Bool:=metersF none ms
def horB (c:Cor):Bool:=decide (0≤c.b∧c.b<3652059)&&(inB c.a 0 c.b&&decide (c.b-c.a<4000))
def goodC (c:Cor):Bool:=
 horB c&&((decide (c.meters.length≤4)&&metersB c.meters)&&(decide (c.sums.length≤8)&&(c.sums.all (sumB c)&&(decide (c.parts.length≤8)&&c.parts.all (partB c)))))
theorem metersF_step {ms:List Meter} {q:Option ByteArray} {i:Nat} {m:Meter} (h:ms[i]?=some m):metersF q (ms.drop i)=((ordB q m.name&&mtB m)&&metersF (some m.name) (ms.drop (i+1))):=by
 rw [drop_at h];rfl
theorem leq_klt (a b:ByteArray):(Op.bytesLess a.toList b.toList||a.toList==b.toList) = !klt b a:=by
 rw [klt_eq];by_cases e:a=b
 ·subst e;rw [klt_irr];simp
 ·have ne:(a.toList==b.toList)=false:=by
   rw [beq_eq_false_iff_ne];intro h;rw [ByteArray.toList_eq,ByteArray.toList_eq] at h;exact e (ba_ext h)
  rw [ne,Bool.or_false];rcases Bool.eq_false_or_eq_true (klt a b) with g|g
  ·rw [g,klt_as g];rfl
  ·rw [g,klt_tot g e];rfl
def upB:Int→List Tier→Bool
 | _,[]=>true
 | _,[_]=>true
 | u,t::r=>inB t.upto (u+1) 1000000&&upB t.upto r
def rateB (t:Tier):Bool:=inB t.rate 0 1000000000000
theorem tiersB_split:∀(l:List Tier) (z:Tier) (u:Int),tiersB u (l++[z])=(upB u (l++[z])&&(decide (z.upto=0)&&(l++[z]).all rateB))
 | [],z,u=>by
   show (inB z.rate 0 1000000000000&&decide (z.upto=0))=(true&&(decide (z.upto=0)&&(rateB z&&true)))
   unfold rateB;cases inB z.rate 0 1000000000000<;>cases decide (z.upto=0)<;>rfl
 | t::l,z,u=>by
   have ih:=tiersB_split l z t.upto;have e1:tiersB u (t::l++[z])=(inB t.rate 0 1000000000000&&inB t.upto (u+1) 1000000&&tiersB t.upto (l++[z])):=by cases l<;>rfl
   have e2:upB u (t::l++[z])=(inB t.upto (u+1) 1000000&&upB t.upto (l++[z])):=by cases l<;>rfl
   have e3:(t::l++[z]).all rateB=(rateB t&&(l++[z]).all rateB):=rfl;rw [e1,e2,e3,ih];unfold rateB;cases inB t.rate 0 1000000000000<;>cases inB t.upto (u+1) 1000000<;>cases upB t.upto (l++[z])<;>cases decide (z.upto=0)<;>rfl
theorem upB_step {l:List Tier} {i:Nat} {t:Tier} {u:Int} (h:l[i]?=some t) (hi:i+1<l.length):upB u (l.drop i)=(inB t.upto (u+1) 1000000&&upB t.upto (l.drop (i+1))):=by
 obtain ⟨t',h'⟩:∃t',l[i+1]?=some t':=⟨_,List.getElem?_eq_getElem hi⟩;rw [drop_at h,drop_at h'];rfl
theorem upB_end {l:List Tier} {i:Nat} {u:Int} (h:l.length≤i+1):upB u (l.drop i)=true:=by
 have:(l.drop i).length≤1:=by rw [List.length_drop];omega
 cases hd:l.drop i with
 | nil=>rfl
 | cons t r=>
   rw [hd] at this;cases r with
   | nil=>rfl
   | cons _ _=>simp at this
theorem tiersB_of {l:List Tier} {z:Tier} (h:l[l.length-1]?=some z) (n:1≤l.length):tiersB 0 l=(upB 0 l&&(decide (z.upto=0)&&l.all rateB)):=by
 have e:l=l.take (l.length-1)++[z]:=by
  have:=drop_at h;rw [show l.length-1+1=l.length by omega,List.drop_length] at this;rw [←this,List.take_append_drop]
 rw [e];exact tiersB_split _ z 0
end P
namespace Te
open Go.RowKit Go.Sort P Mm Tl
theorem bel_alloc2 (w:World) (x y:Obj):Below w.heap.size w ((w.alloc x).alloc y):=bel_on (bel_alloc w x) (bel_alloc _ y)
theorem plainMeter_any (m:Meter) (w:World) :
  Calls Tryz.prog 73 #[.agg (meterC m).toArray] w fun e w'=>e=.returned (.agg (meterC { m with line:=0,col:=0 }).toArray)∧Below w.heap.size w w':=by
 unfold meterC;go_enter Tryz.func73,Tryz.ntmps73
 go_wp2;refine bodyPost_ret (v:=.agg #[m.name,m.unit,m.max,.int .i64 0,.int .i64 0]) (by simp only [results,Tryz.results73];go_simp) rfl ⟨rfl,bel_alloc2 ..⟩
theorem plainFee_any (m:Fee) (w:World) :
  Calls Tryz.prog 75 #[.agg (feeC m).toArray] w fun e w'=>e=.returned (.agg (feeC { m with line:=0,col:=0 }).toArray)∧Below w.heap.size w w':=by
 unfold feeC;go_enter Tryz.func75,Tryz.ntmps75
 go_wp2;refine bodyPost_ret (v:=.agg #[m.amount,m.win.has,m.win.a.y,m.win.a.m,m.win.a.d,m.win.b.y,m.win.b.m,m.win.b.d,.int .i64 0,.int .i64 0]) (by simp only [results,Tryz.results75];go_simp) rfl ⟨rfl,bel_alloc2 ..⟩
end Te
end Go.Proofs.YtofbobdhkbmbgaaGreatDoor
