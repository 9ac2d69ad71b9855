/- A plan's text, read again: the same plan, but for places. Pure: no program is named here. -/
import Derived.Test.YtcimcdoiiepjoaaJShR
import Derived.Test.YtcimcdoiiepjoaaJLexJ
import Derived.Test.YtcimcdoiiepjoaaJParP
import Derived.Test.YtcimcdoiiepjoaaJPureS
import Derived.Sort.Walk0
namespace Go.Proofs.Ytcimcdoiiepjoaa
namespace Mm
end Mm
namespace R6
end R6
namespace P
end P
namespace P
open Go.RowKit Mm R6
variable {ts:List Tok} {s:St}
theorem ba_list (b:ByteArray):(⟨b.data.toList.toArray⟩:ByteArray)=b:=by simp
theorem At.dec6 {r:TkL} {n m:Int} (hn:NumOk n m) (hm:m≤1000000000000) (h:At ts s ((3,decT n 6)::r)):(numS ts s 6 m).1=n∧At ts (numS ts s 6 m).2 r:=At.dec (p:=6) (by decide) hn hm h
theorem At.meterS {m:Meter} {r:TkL} (h1:NmOk m.name∧NmOk m.unit∧NumOk m.max 2000) (l c:Int) (h:At ts s ((meterX m).tail++r)):(meterS ts s l c).1 = { m with line:=l,col:=c }∧At ts (meterS ts s l c).2 r:=by
 have h:At ts s ((1,m.name.data.toList)::(2,wUnit)::(1,m.unit.data.toList)::(2,wMax)::(3,nmbT m.max)::smX::r):=h
 obtain ⟨a1,a2⟩:=h.tkn
 obtain ⟨b1,b2⟩:=(a2.wnt (.inl rfl)).tkn
 obtain ⟨c1,c2⟩:=(b2.wnt (.inl rfl)).nmb h1.2.2 (by decide)
 refine ⟨?_,c2.wnt (.inr rfl)⟩
 unfold P.meterS
 simp only
 rw [a1,b1,c1,ba_list,ba_list]
theorem At.feeS {f:Fee} {r:TkL} (h1:NumOk f.amount 1000000000000∧WinOk f.win) (l c:Int) (h:At ts s ((feeX f).tail++r)):(feeS ts s l c).1 = { f with line:=l,col:=c }∧At ts (feeS ts s l c).2 r:=by
 have h:At ts s ((3,nmbT f.amount)::((winX f.win++[smX])++r)):=h
 obtain ⟨a1,a2⟩:=h.nmb h1.1 (by decide)
 rw [List.append_assoc] at a2
 obtain ⟨b1,b2⟩:=At.win h1.2 (show sSemi≠wFrom by decide) a2
 refine ⟨?_,b2.wnt (.inr rfl)⟩
 unfold P.feeS
 simp only
 rw [a1,b1]
theorem flat_len_le {α β:Type} {f:α→List β} : ∀(l:List α),(∀a∈l,1≤(f a).length)→l.length≤(l.flatMap f).length
 | [],_=>Nat.le_refl _
 | a::r,h=>by
   have e:=flat_len_le r (fun b hb=>h b (List.mem_cons_of_mem _ hb))
   have k:=h a (List.mem_cons_self ..)
   rw [List.flatMap_cons,List.length_append,List.length_cons]
   omega
theorem opt_head {word:List UInt8} {n d:Int} {k:Nat} {l:List UInt8} {r:TkL} : ∃k' l' r',(if n=d then [] else [(2,word),(3,nmbT n),smX])++(k,l)::r=(k',l')::r'∧(l'=word∨l'=l):=by
 by_cases g:n=d
 ·rw [if_pos g];exact ⟨_,_,_,rfl,.inr rfl⟩
 ·rw [if_neg g];exact ⟨_,_,_,rfl,.inl rfl⟩
theorem kind_word {k:Int} (hk:k=1∨k=2):kindT k≠wAllowance∧kindT k≠wBlock:=by
 rcases hk with rfl|rfl<;>exact ⟨by decide,by decide⟩
theorem At.chargeS {c:Charge} {us:List Tier} {q:Int} {r:TkL} (hc:ChOk c) (e:c.tiers=us++[⟨0,q⟩]) (hu:∀t∈us,TierOk t) (hq:NumOk q 1000000000000) (l b:Int) (h:At ts s ((chargeX c us q).tail++r)) :
  (chargeS ts s l b).1 = { c with line:=l,col:=b }∧At ts (chargeS ts s l b).2 r:=by
 have lenu:us.length≤(us.flatMap tierX).length:=flat_len_le us (fun t _=>by show 1≤5;decide)
 have lena:c.adjusts.length≤(c.adjusts.flatMap adjX).length:=flat_len_le c.adjusts (fun a ha=>by obtain ⟨w,e1,_⟩:=adjX_head (hc.adjs a ha);rw [e1];simp)
 have L:=h.len
 unfold chargeX at h L
 simp only [List.tail_cons,List.cons_append,List.append_assoc,List.nil_append] at h L
 simp only [List.length_cons,List.length_append] at L
 obtain ⟨a1,a2⟩:=h.tkn
 obtain ⟨b1,b2⟩:=At.win hc.win (show sOpen≠wFrom by decide) a2
 have b3:=b2.wnt (.inr rfl)
 have kw:=kind_word hc.kind
 obtain ⟨k',l',r',e1,e2⟩:=opt_head (word:=wBlock) (n:=c.block) (d:=1) (k:=2) (l:=kindT c.kind) (r:=(5,sOpen)::(us.flatMap tierX++(restX q++(5,sShut)::(2,wRound)::(2,modeT c.mode)::smX::(c.adjusts.flatMap adjX++(5,sShut)::r))))
 rw [e1] at b3
 obtain ⟨c1,c2⟩:=b3.opt (word:=wAllowance) hc.allow (by rcases e2 with rfl|rfl;exact (by decide);exact kw.1)
 rw [←e1] at c2
 obtain ⟨d1,d2⟩:=c2.opt (word:=wBlock) hc.block kw.2
 obtain ⟨f1,f2⟩:=d2.kind hc.kind
 obtain ⟨g1,g2⟩:=At.tiers us ts.length _ [] hu (by omega) (f2.wnt (.inr rfl))
 obtain ⟨i1,i2⟩:=((g2.wnt (.inl rfl)).wnt (.inl rfl)).dec6 hq (by decide)
 obtain ⟨j1,j2⟩:=(((i2.wnt (.inr rfl)).wnt (.inr rfl)).wnt (.inl rfl)).mode hc.mode
 obtain ⟨k1,k2⟩:=At.adjs c.adjusts ts.length _ [] hc.adjs (by omega) (j2.wnt (.inr rfl))
 refine ⟨?_,k2.wnt (.inr rfl)⟩
 unfold P.chargeS
 simp only
 rw [a1,b1,c1,d1,f1,g1,i1,j1,k1,ba_list,List.nil_append,List.nil_append,←e]
def chX (c:Charge):TkL:=chargeX c c.tiers.dropLast ((c.tiers.getLast?.map Tier.rate).getD 0)
theorem chX_of {c:Charge} {us:List Tier} {q:Int} (e:c.tiers=us++[⟨0,q⟩]):chX c=chargeX c us q:=by
 unfold chX
 rw [e,List.dropLast_concat,List.getLast?_append]
 rfl
theorem item_one {w:List UInt8} {r:TkL} {i:Int} (h:At ts s ((2,w)::r)) (e:oneP itemWords w 0=some i):oneS ts s itemWords=(i,s.next)∧goesOn ts s=true:=by
 refine ⟨h.one (.inl rfl) e,?_⟩
 unfold goesOn
 rw [h.tk.1,decide_eq_true h.1];rfl
theorem At.ok {x:Nat×List UInt8} {r:TkL} (T:Toks ts) (h:At ts s (x::r)):Ok ts s:=⟨T,h.lt⟩
theorem At.itemM {m:Meter} {r:TkL} (p:Plan) (h1:NmOk m.name∧NmOk m.unit∧NumOk m.max 2000) (h:At ts s (meterX m++r)):∃m' s',itemS ts s p=({ p with meters:=p.meters++[m'] },s')∧nM m'=nM m∧At ts s' r∧goesOn ts s=true:=by
 have h:At ts s ((2,wMeter)::((meterX m).tail++r)):=h
 obtain ⟨o,g⟩:=item_one h (i:=0) (by decide)
 obtain ⟨a1,a2⟩:=h.next.meterS h1 (P.tk ts s).ln (P.tk ts s).cl
 refine ⟨(P.meterS ts s.next (P.tk ts s).ln (P.tk ts s).cl).1,_,?_,?_,a2,g⟩
 ·unfold itemS
  simp only
  rw [o,if_pos (show (0:Int)=0 from rfl)]
 ·rw [a1];rfl
theorem At.itemF {f:Fee} {r:TkL} (p:Plan) (h1:NumOk f.amount 1000000000000∧WinOk f.win) (h:At ts s (feeX f++r)):∃m' s',itemS ts s p=({ p with fees:=p.fees++[m'] },s')∧nF m'=nF f∧At ts s' r∧goesOn ts s=true:=by
 have h:At ts s ((2,wFee)::((feeX f).tail++r)):=h
 obtain ⟨o,g⟩:=item_one h (i:=1) (by decide)
 obtain ⟨a1,a2⟩:=h.next.feeS h1 (P.tk ts s).ln (P.tk ts s).cl
 refine ⟨(P.feeS ts s.next (P.tk ts s).ln (P.tk ts s).cl).1,_,?_,?_,a2,g⟩
 ·unfold itemS
  simp only
  rw [o,if_neg (show ¬ ((1:Int)=0) by decide),if_pos (show (1:Int)=1 from rfl)]
 ·rw [a1];rfl
theorem At.itemC {c:Charge} {r:TkL} (p:Plan) (h1:ChOk c) (h:At ts s (chX c++r)):∃m' s',itemS ts s p=({ p with charges:=p.charges++[m'] },s')∧nC m'=nC c∧At ts s' r∧goesOn ts s=true:=by
 obtain ⟨us,q,e,hu,hq⟩:=h1.tiers
 rw [chX_of e] at h
 have h:At ts s ((2,wCharge)::((chargeX c us q).tail++r)):=h
 obtain ⟨o,g⟩:=item_one h (i:=2) (by decide)
 obtain ⟨a1,a2⟩:=h.next.chargeS h1 e hu hq (P.tk ts s).ln (P.tk ts s).cl
 refine ⟨(P.chargeS ts s.next (P.tk ts s).ln (P.tk ts s).cl).1,_,?_,?_,a2,g⟩
 ·unfold itemS
  simp only
  rw [o,if_neg (show ¬ ((2:Int)=0) by decide),if_neg (show ¬ ((2:Int)=1) by decide),if_pos (show (2:Int)=2 from rfl)]
 ·rw [a1];rfl
theorem At.meters (T:Toks ts) {r:TkL} : ∀(xs:List Meter) (s:St) (p:Plan),(∀m∈xs,NmOk m.name∧NmOk m.unit∧NumOk m.max 2000)→At ts s (xs.flatMap meterX++r)→∃ys s',itemsS ts ts.length s p=itemsS ts ts.length s' { p with meters:=p.meters++ys }∧ys.map nM=xs.map nM∧At ts s' r
 | [],s,p,_,h=>⟨[],s,by rw [List.append_nil],rfl,h⟩
 | m::q,s,p,hm,h=>by
   rw [List.flatMap_cons,List.append_assoc] at h
   have ok:Ok ts s:=At.ok (x:=(2,wMeter)) (r:=(meterX m).tail++(q.flatMap meterX++r)) T h
   obtain ⟨m',s',e1,e2,e3,e4⟩:=At.itemM p (hm m (List.mem_cons_self ..)) h
   obtain ⟨ys,s2,f1,f2,f3⟩:=At.meters T q s' { p with meters:=p.meters++[m'] } (fun x hx=>hm x (List.mem_cons_of_mem _ hx)) e3
   refine ⟨m'::ys,s2,?_,by rw [List.map_cons,List.map_cons,e2,f2],f3⟩
   rw [items_step ok e4,e1,f1]
   simp
theorem At.fees (T:Toks ts) {r:TkL} : ∀(xs:List Fee) (s:St) (p:Plan),(∀f∈xs,NumOk f.amount 1000000000000∧WinOk f.win)→At ts s (xs.flatMap feeX++r)→∃ys s',itemsS ts ts.length s p=itemsS ts ts.length s' { p with fees:=p.fees++ys }∧ys.map nF=xs.map nF∧At ts s' r
 | [],s,p,_,h=>⟨[],s,by rw [List.append_nil],rfl,h⟩
 | m::q,s,p,hm,h=>by
   rw [List.flatMap_cons,List.append_assoc] at h
   have ok:Ok ts s:=At.ok (x:=(2,wFee)) (r:=(feeX m).tail++(q.flatMap feeX++r)) T h
   obtain ⟨m',s',e1,e2,e3,e4⟩:=At.itemF p (hm m (List.mem_cons_self ..)) h
   obtain ⟨ys,s2,f1,f2,f3⟩:=At.fees T q s' { p with fees:=p.fees++[m'] } (fun x hx=>hm x (List.mem_cons_of_mem _ hx)) e3
   refine ⟨m'::ys,s2,?_,by rw [List.map_cons,List.map_cons,e2,f2],f3⟩
   rw [items_step ok e4,e1,f1]
   simp
theorem At.charges (T:Toks ts) {r:TkL} : ∀(xs:List Charge) (s:St) (p:Plan),(∀c∈xs,ChOk c)→At ts s (xs.flatMap chX++r)→∃ys s',itemsS ts ts.length s p=itemsS ts ts.length s' { p with charges:=p.charges++ys }∧ys.map nC=xs.map nC∧At ts s' r
 | [],s,p,_,h=>⟨[],s,by rw [List.append_nil],rfl,h⟩
 | m::q,s,p,hm,h=>by
   rw [List.flatMap_cons,List.append_assoc] at h
   have ok:Ok ts s:=At.ok (x:=(2,wCharge)) (r:=(chX m).tail++(q.flatMap chX++r)) T h
   obtain ⟨m',s',e1,e2,e3,e4⟩:=At.itemC p (hm m (List.mem_cons_self ..)) h
   obtain ⟨ys,s2,f1,f2,f3⟩:=At.charges T q s' { p with charges:=p.charges++[m'] } (fun x hx=>hm x (List.mem_cons_of_mem _ hx)) e3
   refine ⟨m'::ys,s2,?_,by rw [List.map_cons,List.map_cons,e2,f2],f3⟩
   rw [items_step ok e4,e1,f1]
   simp
end P
namespace P
open Go.RowKit Mm
theorem drop_at {α:Type} {l:List α} {i:Nat} {x:α} (h:l[i]?=some x):l.drop i=x::l.drop (i+1):=by
 obtain ⟨hi,rfl⟩:=List.getElem?_eq_some_iff.1 h
 exact List.drop_eq_getElem_cons hi
end P
namespace Mm
open Go.RowKit Go.Deep Go.ChangeShapes Go.WideShapes P
structure Sm where
 amt:Int
 a:Int
 b:Int
deriving Inhabited,DecidableEq
structure Prt where
 mt:Int
 a:Int
 b:Int
 allowance:Int
 block:Int
 kind:Int
 tiers:List Tier
 mode:Int
 adjusts:List Adj
deriving Inhabited,DecidableEq
structure Cor where
 cur:ByteArray
 a:Int
 b:Int
 meters:List Meter
 sums:List Sm
 parts:List Prt
deriving Inhabited
def smC (s:Sm):List Value:=[.int .i64 s.amt,.int .i64 s.a,.int .i64 s.b]
def tSm:Ty Sm:=leaf 3 smC (fun s=>I64 s.amt∧I64 s.a∧I64 s.b) (fun _=>rfl)
def prtC (x:Prt) (ta:Option Addr) (tc:Nat) (aa:Option Addr) (ac:Nat):List Value:=
 [.int .i64 x.mt,.int .i64 x.a,.int .i64 x.b,.int .i64 x.allowance,.int .i64 x.block,.int .i64 x.kind,.slice ta x.tiers.length tc,.int .i64 x.mode,.slice aa x.adjusts.length ac]
structure PrtLies (w:World) (cs:List Value) (x:Prt) (ta:Option Addr) (tc:Nat) (aa:Option Addr) (ac:Nat):Prop where
 cells:cs=prtC x ta tc aa ac
 tiers:Row tTier w ta x.tiers.length tc x.tiers
 adjusts:Row tAdj w aa x.adjusts.length ac x.adjusts
 nums:I64 x.mt∧I64 x.a∧I64 x.b∧I64 x.allowance∧I64 x.block∧I64 x.kind∧I64 x.mode
def tPrt:Ty Prt where
 n:=9
 lies:=fun w cs x=>∃ta tc aa ac,PrtLies w cs x ta tc aa ac
 len:=fun ⟨_,_,_,_,h⟩=>by rw [h.cells];rfl
 keep:=fun ⟨ta,tc,aa,ac,h⟩ hb=>⟨ta,tc,aa,ac,h.cells,h.tiers.on hb,h.adjusts.on hb,h.nums⟩
def corC (c:Cor) (ma:Option Addr) (mc:Nat) (sa:Option Addr) (sc:Nat) (pa:Option Addr) (pc:Nat):List Value:=
 [.string c.cur,.int .i64 c.a,.int .i64 c.b,.slice ma c.meters.length mc,.slice sa c.sums.length sc,.slice pa c.parts.length pc]
structure CorLies (w:World) (cs:List Value) (c:Cor) (ma:Option Addr) (mc:Nat) (sa:Option Addr) (sc:Nat) (pa:Option Addr) (pc:Nat):Prop where
 cells:cs=corC c ma mc sa sc pa pc
 meters:Row tMeter w ma c.meters.length mc c.meters
 sums:Row tSm w sa c.sums.length sc c.sums
 parts:Row tPrt w pa c.parts.length pc c.parts
 cur:strOk c.cur
 days:I64 c.a∧I64 c.b
theorem CorLies.on {w w':World} {cs:List Value} {c:Cor} {ma:Option Addr} {mc:Nat} {sa:Option Addr} {sc:Nat} {pa:Option Addr} {pc:Nat} (h:CorLies w cs c ma mc sa sc pa pc) (hb:Below w.heap.size w w'):CorLies w' cs c ma mc sa sc pa pc:=
 ⟨h.cells,h.meters.on hb,h.sums.on hb,h.parts.on hb,h.cur,h.days⟩
section
variable {H:Type} {enc:TypeId×Value→H} {w:World} {base:Nat} {spare:Nat→Bool} {held:Bool}
theorem down_prt {fuel:Nat} {cs:List Value} {x:DataW H×List MemPlace} (h:DataW.trod enc Try.prog w base spare held fuel 25 cs=some x):∃y,tPrt.lies w cs y:=by
 obtain ⟨hl,n,hf⟩:=down_struct Try.underlying25 h
 obtain ⟨_,h0⟩:=fld hf 0 _ rfl 1 (by kernel_rfl)
 obtain ⟨_,h1⟩:=fld hf 1 _ rfl 1 (by kernel_rfl)
 obtain ⟨_,h2⟩:=fld hf 2 _ rfl 1 (by kernel_rfl)
 obtain ⟨_,h3⟩:=fld hf 3 _ rfl 1 (by kernel_rfl)
 obtain ⟨_,h4⟩:=fld hf 4 _ rfl 1 (by kernel_rfl)
 obtain ⟨_,h5⟩:=fld hf 5 _ rfl 1 (by kernel_rfl)
 obtain ⟨_,h6⟩:=fld hf 6 _ rfl 1 (by kernel_rfl)
 obtain ⟨_,h7⟩:=fld hf 7 _ rfl 1 (by kernel_rfl)
 obtain ⟨_,h8⟩:=fld hf 8 _ rfl 1 (by kernel_rfl)
 obtain ⟨a,e0,g0⟩:=down_int Try.underlying3 h0
 obtain ⟨b,e1,g1⟩:=down_int Try.underlying3 h1
 obtain ⟨c,e2,g2⟩:=down_int Try.underlying3 h2
 obtain ⟨d,e3,g3⟩:=down_int Try.underlying3 h3
 obtain ⟨e,e4,g4⟩:=down_int Try.underlying3 h4
 obtain ⟨f,e5,g5⟩:=down_int Try.underlying3 h5
 obtain ⟨ta,tl,tc,ts,e6,g6⟩:=down_row (T:=tTier) Try.underlying22 (by kernel_rfl) (by decide) (fun _ _ _ h=>down_tier h) h6
 obtain ⟨i,e7,g7⟩:=down_int Try.underlying3 h7
 obtain ⟨aa,al,ac,as',e8,g8⟩:=down_row (T:=tAdj) Try.underlying23 (by kernel_rfl) (by decide) (fun _ _ _ h=>down_adj h) h8
 rw [show Try.prog.cellsOf 25=9 by kernel_rfl] at hl
 obtain rfl:=g6.hlen
 obtain rfl:=g8.hlen
 exact ⟨⟨a,b,c,d,e,f,ts,i,as'⟩,ta,tc,aa,ac,piece_all (piece (k:=1) e0 (piece (k:=1) e1 (piece (k:=1) e2 (piece (k:=1) e3 (piece (k:=1) e4 (piece (k:=1) e5 (piece (k:=1) e6 (piece (k:=1) e7 (piece (k:=1) e8 (piece_end hl)))))))))),
  g6,g8,g0,g1,g2,g3,g4,g5,g7⟩
end
end Mm
namespace P
open Go.RowKit Go.Sort Mm R6
def inB (n a b:Int):Bool:=decide (a≤n)&&decide (n≤b)
def spanB (a b x y:Int):Bool:=decide (a≤x)&&decide (x≤y)&&decide (y≤b)
def tiersB:Int→List Tier→Bool
 | _,[]=>true
 | _,[t]=>inB t.rate 0 1000000000000&&decide (t.upto=0)
 | u,t::r=>inB t.rate 0 1000000000000&&inB t.upto (u+1) 1000000&&tiersB t.upto r
def adjB (a:Adj):Bool:=if a.kind=1 then inB a.num 0 100000000&&inB a.mode 0 3 else if a.kind=2∨a.kind=3∨a.kind=4 then inB a.num 0 1000000000000&&decide (a.mode=0) else false
def tierRow (ts:List Tier):Bool:=inB ts.length 1 8&&tiersB 0 ts
def partB (c:Cor) (x:Prt):Bool:=
 spanB c.a c.b x.a x.b&&(inB x.mt 0 ((c.meters.length:Int)-1)&&(inB x.allowance 0 1000000&&(inB x.block 1 1000000&&(inB x.kind 1 2&&(inB x.mode 0 3&&(tierRow x.tiers&&(decide (x.adjusts.length≤6)&&x.adjusts.all adjB)))))))
end P
namespace P
open Go.RowKit Mm
structure Stp where
 a:Int
 b:Int
 r:Int
deriving DecidableEq,Inhabited
def lq (x:Prt) (q:Int):Int:=(max 0 (q-x.allowance)+x.block-1) / x.block*x.block
def lqOk (x:Prt) (q:Int):Bool:=decide (0≤q)&&ok64 (lq x q)
def lqO (x:Prt) (q:Int):Option Int:=if lqOk x q=true then some (lq x q) else none
def gradS (q:Int):Int→List Tier→List Stp
 | _,[]=>[]
 | u,[t]=>if u<q then [⟨u,q,t.rate⟩] else []
 | u,t::s::ts=>(if u<min q t.upto then [⟨u,min q t.upto,t.rate⟩] else [])++gradS q t.upto (s::ts)
def volR (q:Int):List Tier→Int
 | []=>0
 | [t]=>t.rate
 | t::s::ts=>if q≤t.upto then t.rate else volR q (s::ts)
def volS (q:Int) (ts:List Tier):List Stp:=if 0<q then [⟨0,q,volR q ts⟩] else []
def stepsP (x:Prt) (q:Int):List Stp:=if x.kind=2 then volS q x.tiers else gradS q 0 x.tiers
def stW (s:Stp):Int:=s.r*(s.b-s.a)
def costS:List Stp→Int
 | []=>0
 | s::l=>stW s+costS l
def sumS:Int→List Stp→Option Int
 | s,[]=>some s
 | s,t::ts=>if (ok64 (stW t)&&ok64 (s+stW t))=true then sumS (s+stW t) ts else none
def microO (x:Prt) (q:Int):Option Int:=if lqOk x q=true then sumS 0 (stepsP x (lq x q)) else none
def chargeO (x:Prt) (q:Int):Option Int:=(microO x q).map fun m=>rnd m 1000000 x.mode
structure GoodT (x:Prt):Prop where
 allow:0≤x.allowance∧x.allowance≤1000000
 block:1≤x.block∧x.block≤1000000
 kind:x.kind=1∨x.kind=2
 mode:0≤x.mode∧x.mode≤3
 len:1≤x.tiers.length∧x.tiers.length≤8
 tiers:tiersB 0 x.tiers=true
 adjs:x.adjusts.length≤6
theorem inB_iff {n a b:Int} : inB n a b=true↔a≤n∧n≤b:=by unfold inB;rw [Bool.and_eq_true,decide_eq_true_eq,decide_eq_true_eq]
theorem tiersB_cons {u:Int} {t s:Tier} {ts:List Tier} (h:tiersB u (t::s::ts)=true):0≤t.rate∧t.rate≤1000000000000∧u<t.upto∧t.upto≤1000000∧tiersB t.upto (s::ts)=true:=by
 have h':(inB t.rate 0 1000000000000&&inB t.upto (u+1) 1000000&&tiersB t.upto (s::ts))=true:=h
 rw [Bool.and_eq_true,Bool.and_eq_true,inB_iff,inB_iff] at h'
 exact ⟨h'.1.1.1,h'.1.1.2,by omega,h'.1.2.2,h'.2⟩
theorem tiersB_one {u:Int} {t:Tier} (h:tiersB u [t]=true):0≤t.rate∧t.rate≤1000000000000∧t.upto=0:=by
 have h':(inB t.rate 0 1000000000000&&decide (t.upto=0))=true:=h
 rw [Bool.and_eq_true,inB_iff,decide_eq_true_eq] at h'
 exact ⟨h'.1.1,h'.1.2,h'.2⟩
def chainS:Int→List Stp→Int→Prop
 | a,[],e=>a=e
 | a,s::l,e=>s.a=a∧s.a<s.b∧chainS s.b l e
theorem gradS_none:∀(ts:List Tier) (u q:Int),tiersB u ts=true→q≤u→gradS q u ts=[]
 | [],_,_,_,_=>rfl
 | [t],u,q,_,h=>by unfold gradS;rw [if_neg (by omega)]
 | t::s::ts,u,q,hB,h=>by
   obtain ⟨_,_,h1,_,h2⟩:=tiersB_cons hB
   unfold gradS
   rw [if_neg (by omega),gradS_none (s::ts) t.upto q h2 (by omega)]
   rfl
theorem gradS_chain:∀(ts:List Tier) (u q:Int),tiersB u ts=true→ts≠[]→u<q→chainS u (gradS q u ts) q
 | [],_,_,_,h,_=>absurd rfl h
 | [t],u,q,_,_,h=>by unfold gradS;rw [if_pos h];exact ⟨rfl,h,rfl⟩
 | t::s::ts,u,q,hB,_,h=>by
   obtain ⟨_,_,h1,_,h2⟩:=tiersB_cons hB
   unfold gradS
   rw [if_pos (by omega)]
   refine ⟨rfl,by show u<min q t.upto;omega,?_⟩
   show chainS (min q t.upto) (gradS q t.upto (s::ts)) q
   rcases Int.lt_or_le t.upto q with k|k
   ·rw [Int.min_eq_right (by omega)]
    exact gradS_chain (s::ts) t.upto q h2 (by simp) k
   ·rw [gradS_none (s::ts) t.upto q h2 k]
    show min q t.upto=q
    omega
theorem gradS_len:∀(ts:List Tier) (u q:Int),(gradS q u ts).length≤ts.length
 | [],_,_=>Nat.le_refl _
 | [t],u,q=>by unfold gradS;split<;>simp
 | t::s::ts,u,q=>by
   have:=gradS_len (s::ts) t.upto q
   unfold gradS
   rw [List.length_append,List.length_cons]
   split<;>simp at this ⊢<;>omega
theorem volR_in:∀(ts:List Tier) (u q:Int),tiersB u ts=true→0≤volR q ts∧volR q ts≤1000000000000
 | [],_,_,_=>by unfold volR;omega
 | [t],_,_,h=>by have:=tiersB_one h;unfold volR;omega
 | t::s::ts,u,q,h=>by
   obtain ⟨h0,h1,_,_,h2⟩:=tiersB_cons h
   unfold volR
   split
   ·omega
   ·exact volR_in (s::ts) t.upto q h2
theorem gradS_pos:∀(ts:List Tier) (u q:Int),tiersB u ts=true→∀s∈gradS q u ts,u≤s.a∧s.a<s.b∧s.b≤q∧0≤s.r∧s.r≤1000000000000
 | [],_,_,_,s,hs=>by cases hs
 | [t],u,q,hB,s,hs=>by
   obtain ⟨h0,h1,_⟩:=tiersB_one hB
   unfold gradS at hs
   split at hs
   ·rw [List.mem_singleton] at hs;subst hs;exact ⟨Int.le_refl _,by assumption,Int.le_refl _,h0,h1⟩
   ·cases hs
 | t::y::ts,u,q,hB,s,hs=>by
   obtain ⟨h0,h1,h2,_,h3⟩:=tiersB_cons hB
   unfold gradS at hs
   rcases List.mem_append.1 hs with k|k
   ·split at k
    ·rw [List.mem_singleton] at k;subst k
     exact ⟨Int.le_refl _,by assumption,by show min q t.upto≤q;omega,h0,h1⟩
    ·cases k
   ·have:=gradS_pos (y::ts) t.upto q h3 s k
    omega
theorem stepsP_pos {x:Prt} (g:GoodT x) (q:Int):∀s∈stepsP x q,0≤s.a∧s.a<s.b∧s.b≤q∧0≤s.r∧s.r≤1000000000000:=by
 unfold stepsP
 split
 ·unfold volS
  split
  ·intro s hs
   rw [List.mem_singleton] at hs
   subst hs
   have:=volR_in x.tiers 0 q g.tiers
   exact ⟨Int.le_refl _,by assumption,Int.le_refl _,this.1,this.2⟩
  ·intro s hs;cases hs
 ·exact gradS_pos x.tiers 0 q g.tiers
theorem stepsP_chain {x:Prt} (g:GoodT x) {q:Int} (h:0<q):chainS 0 (stepsP x q) q:=by
 unfold stepsP
 split
 ·unfold volS;rw [if_pos h];exact ⟨rfl,h,rfl⟩
 ·exact gradS_chain x.tiers 0 q g.tiers (by intro e;have:=g.len;rw [e] at this;simp at this) h
theorem stepsP_none {x:Prt} (g:GoodT x) {q:Int} (h:q≤0):stepsP x q=[]:=by
 unfold stepsP
 split
 ·unfold volS;rw [if_neg (by omega)]
 ·exact gradS_none x.tiers 0 q g.tiers h
theorem stepsP_len {x:Prt} (g:GoodT x) (q:Int):(stepsP x q).length≤8:=by
 unfold stepsP
 split
 ·unfold volS;split<;>simp
 ·have:=gradS_len x.tiers 0 q;have:=g.len;omega
theorem stepsP_vol {x:Prt} (h:x.kind=2) (q:Int):(stepsP x q).length≤1:=by
 unfold stepsP volS;rw [if_pos h];split<;>simp
theorem costS_pos:∀(l:List Stp),(∀s∈l,0≤stW s)→0≤costS l
 | [],_=>Int.le_refl _
 | s::l,h=>by
   have h1:=h s (List.mem_cons_self ..)
   have h2:=costS_pos l fun z hz=>h z (List.mem_cons_of_mem _ hz)
   show 0≤stW s+costS l
   omega
theorem stW_pos {s:Stp} (h:s.a<s.b) (hr:0≤s.r):0≤stW s:=Int.mul_nonneg hr (by omega)
theorem sumS_eq:∀(l:List Stp) (s:Int),0≤s→I64 s→(∀t∈l,0≤stW t)→sumS s l=if ok64 (s+costS l)=true then some (s+costS l) else none
 | [],s,_,hi,_=>by
   show some s=_
   rw [show s+costS []=s by show s+0=s;omega,if_pos (ok64_t hi)]
 | t::l,s,h0,hi,hp=>by
   have h1:=hp t (List.mem_cons_self ..)
   have h2:=costS_pos l fun z hz=>hp z (List.mem_cons_of_mem _ hz)
   have e:s+costS (t::l)=s+stW t+costS l:=by show s+(stW t+costS l)=_;omega
   unfold sumS
   rw [e]
   by_cases k:I64 (s+stW t)
   ·have k2:I64 (stW t):=by unfold I64 at *;omega
    rw [ok64_t k,ok64_t k2,if_pos (show (true&&true)=true from rfl)]
    exact sumS_eq l (s+stW t) (by omega) k fun z hz=>hp z (List.mem_cons_of_mem _ hz)
   ·rw [ok64_f k,Bool.and_false,if_neg (by simp),ok64_f (by unfold I64 at *;omega),if_neg (by simp)]
def costP (x:Prt) (q:Int):Int:=costS (stepsP x (lq x q))
theorem stepsP_w {x:Prt} (g:GoodT x) (q:Int):∀s∈stepsP x q,0≤stW s:=fun s hs=>by
 have:=stepsP_pos g q s hs
 exact stW_pos this.2.1 this.2.2.2.1
theorem microO_eq {x:Prt} (g:GoodT x) (q:Int):microO x q=if (lqOk x q&&ok64 (costP x q))=true then some (costP x q) else none:=by
 unfold microO
 rcases Bool.eq_false_or_eq_true (lqOk x q) with k|k
 ·rw [k,if_pos rfl,Bool.true_and,sumS_eq _ 0 (Int.le_refl _) (by unfold I64;omega) (stepsP_w g _),Int.zero_add]
  rfl
 ·rw [k,if_neg (by simp),Bool.false_and,if_neg (by simp)]
theorem gt_mode {x:Prt} (g:GoodT x):goodm x.mode=true:=(goodm_iff _).2 g.mode
def reachP (ts:List Tier) (q:Int) (i:Nat):Int:=if i+1=ts.length then q else min q (((ts[i]?).map (·.upto)).getD 0)
def walkS (ts:List Tier) (q:Int):Nat→Nat→Int→List Stp
 | 0,_,_=>[]
 | n+1,i,u=>if reachP ts q i≤u then walkS ts q n (i+1) u else ⟨u,reachP ts q i,((ts[i]?).map (·.rate)).getD 0⟩::walkS ts q n (i+1) (reachP ts q i)
theorem reachP_le (ts:List Tier) (q:Int) (i:Nat):reachP ts q i≤q:=by unfold reachP;split<;>omega
theorem walkS_none (ts:List Tier) (q:Int):∀(n i:Nat) (u:Int),q≤u→walkS ts q n i u=[]
 | 0,_,_,_=>rfl
 | n+1,i,u,h=>by
   unfold walkS
   rw [if_pos (Int.le_trans (reachP_le ts q i) h)]
   exact walkS_none ts q n (i+1) u h
theorem drop_cons {α:Type} {l:List α} {i:Nat} {t:α} (h:l[i]?=some t):l.drop i=t::l.drop (i+1):=by
 obtain ⟨hlt,rfl⟩:=List.getElem?_eq_some_iff.1 h
 exact List.drop_eq_getElem_cons hlt
theorem walkS_grad (ts:List Tier) (q:Int):∀(n i:Nat) (u:Int),i+n=ts.length→tiersB u (ts.drop i)=true→walkS ts q n i u=gradS q u (ts.drop i)
 | 0,i,u,h,_=>by rw [List.drop_of_length_le (by omega)];rfl
 | n+1,i,u,h,hB=>by
   obtain ⟨t,ht⟩:∃t,ts[i]?=some t:=⟨_,List.getElem?_eq_getElem (by omega)⟩
   unfold walkS
   rw [ht]
   cases n with
   | zero=>
     have e:reachP ts q i=q:=by unfold reachP;rw [if_pos (by omega)]
     rw [e,drop_cons ht,List.drop_of_length_le (by omega)]
     unfold gradS
     by_cases k:q≤u
     ·rw [if_pos k,if_neg (by omega)];rfl
     ·rw [if_neg k,if_pos (by omega)];rfl
   | succ n=>
     obtain ⟨s,hs⟩:∃s,ts[i+1]?=some s:=⟨_,List.getElem?_eq_getElem (by omega)⟩
     have e:reachP ts q i=min q t.upto:=by unfold reachP;rw [if_neg (by omega),ht];rfl
     rw [e,drop_cons ht,drop_cons hs]
     rw [drop_cons ht,drop_cons hs] at hB
     obtain ⟨_,_,h1,_,h2⟩:=tiersB_cons hB
     rw [←drop_cons hs] at h2
     unfold gradS
     rw [←drop_cons hs]
     by_cases k:q≤u
     ·rw [if_pos (by omega),if_neg (by omega),walkS_none ts q (n+1) (i+1) u k,gradS_none _ _ _ h2 (by omega)];rfl
     ·rw [if_neg (by omega),if_pos (by omega)]
      show _::_=_::_
      refine congrArg (_::·) ?_
      rcases Int.lt_or_le t.upto q with k2|k2
      ·rw [Int.min_eq_right (by omega)]
       exact walkS_grad ts q (n+1) (i+1) t.upto (by omega) h2
      ·rw [Int.min_eq_left k2,walkS_none ts q (n+1) (i+1) q (Int.le_refl _),gradS_none _ _ _ h2 k2]
       rfl
theorem walkS_all {x:Prt} (g:GoodT x) (hk:x.kind≠2) (q:Int):walkS x.tiers q x.tiers.length 0 0=stepsP x q:=by
 unfold stepsP
 rw [if_neg hk]
 exact walkS_grad x.tiers q x.tiers.length 0 0 (by omega) g.tiers
theorem volR_reach {ts:List Tier} {q:Int} {i:Nat} {t:Tier} (h:ts[i]?=some t) (hr:reachP ts q i=q):volR q (ts.drop i)=t.rate:=by
 rw [drop_cons h]
 rcases Nat.lt_or_ge (i+1) ts.length with k|k
 ·obtain ⟨s,hs⟩:∃s,ts[i+1]?=some s:=⟨_,List.getElem?_eq_getElem k⟩
  rw [drop_cons hs]
  have e:reachP ts q i=min q t.upto:=by unfold reachP;rw [if_neg (by omega),h];rfl
  unfold volR
  rw [if_pos (by omega)]
 ·rw [List.drop_of_length_le (by omega)]
  rfl
theorem volR_more {ts:List Tier} {q:Int} {i:Nat} (h:i<ts.length) (hr:reachP ts q i≠q):i+1<ts.length∧volR q (ts.drop i)=volR q (ts.drop (i+1)):=by
 have k:i+1≠ts.length:=fun k=>hr (by unfold reachP;rw [if_pos k])
 obtain ⟨t,ht⟩:∃t,ts[i]?=some t:=⟨_,List.getElem?_eq_getElem h⟩
 obtain ⟨s,hs⟩:∃s,ts[i+1]?=some s:=⟨_,List.getElem?_eq_getElem (by omega)⟩
 have e:reachP ts q i=min q t.upto:=by unfold reachP;rw [if_neg k,ht];rfl
 refine ⟨by omega,?_⟩
 rw [drop_cons ht,drop_cons hs]
 show (if q≤t.upto then t.rate else volR q (s::ts.drop (i+1+1)))=_
 rw [if_neg (by omega)]
def SumTo (t:Int) (pre:List Stp):Prop:=I64 t∧∀rest,sumS 0 (pre++rest)=sumS t rest
theorem sumTo_nil:SumTo 0 []:=⟨by unfold I64;omega,fun _=>rfl⟩
theorem sumTo_next {t:Int} {pre:List Stp} {s:Stp} (h:SumTo t pre) (h1:I64 (stW s)) (h2:I64 (t+stW s)):SumTo (t+stW s) (pre++[s]):=by
 refine ⟨h2,fun rest=>?_⟩
 rw [List.append_assoc,h.2]
 show (if (ok64 (stW s)&&ok64 (t+stW s))=true then sumS (t+stW s) rest else none)=_
 rw [ok64_t h1,ok64_t h2]
 exact if_pos rfl
theorem sumTo_no {t:Int} {pre:List Stp} {s:Stp} (h:SumTo t pre) (hn:¬ I64 (stW s)∨¬ I64 (t+stW s)) (rest:List Stp):sumS 0 (pre++s::rest)=none:=by
 rw [h.2]
 show (if (ok64 (stW s)&&ok64 (t+stW s))=true then sumS (t+stW s) rest else none)=_
 rcases hn with k|k
 ·rw [ok64_f k];rfl
 ·rw [ok64_f k,Bool.and_false];rfl
theorem sumTo_all {t:Int} {pre:List Stp} (h:SumTo t pre):sumS 0 pre=some t:=by
 have:=h.2 []
 rw [List.append_nil] at this
 exact this
end P
end Go.Proofs.Ytcimcdoiiepjoaa
