/- Plans whose rows a call has made: each in a block of its own, new and free to write. -/
import Derived.Test.YtcimcdoiiepjoaaJRef6e
import Derived.OneCell
import Derived.Maps.AppendAt
import Derived.Test.YtcimcdoiiepjoaaJDecT
import Derived.Test.YtcimcdoiiepjoaaJPureS
import Derived.Lib.Join
import Derived.KernelRfl
import Derived.Lib.IndexMore
import Derived.Lib.TrimByte
import Derived.Sort.Walk0
namespace Go.Proofs.Ytcimcdoiiepjoaa
namespace P
end P
namespace R6
end R6
namespace Mm
end Mm
namespace Mm
open Go.RowKit Go.Deep P R6
structure Hd where
 ta:Option Addr
 tc:Nat
 aa:Option Addr
 ac:Nat
structure R where
 e:TypeId
 size:Nat
 a:Option Addr
 n:Nat
 cap:Nat
 xs:List Value
structure Box (W:World) (b:Nat) (cs:List Value):Prop where
 lt:b<W.heap.size
 cell:∀j u,cs[j]?=some u→W.cell? ⟨b,j,none⟩=some u
 free:∀j,W.frozen? ⟨b,j,none⟩=false
theorem Box.new (w:World) (cs:List Value) (t:TypeId):Box (w.alloc (.cells cs.toArray t)) w.heap.size cs:=by
 refine ⟨by simp,fun j u h=>?_,fun j=>?_⟩
 ·rw [World.cell?_alloc_new]
  simpa using h
 ·simp
theorem Box.on {W W':World} {b:Nat} {cs:List Value} (h:Box W b cs) (hb:Below W.heap.size W W'):Box W' b cs:=
 ⟨Nat.lt_of_lt_of_le h.lt hb.size,fun j u k=>by rw [hb.cell h.lt];exact h.cell j u k,fun j=>by rw [hb.frozen h.lt];exact h.free j⟩
theorem Box.other {W:World} {b:Nat} {cs:List Value} (h:Box W b cs) {p:Addr} (hp:b≠p.block) (u:Value):Box (W.setCell p u) b cs:=
 ⟨by simpa using h.lt,fun j v k=>by rw [World.cell?_of_block (w:=W) (Below.heap_setCell _ _ _ _ hp)];exact h.cell j v k,fun j=>by rw [World.frozen?_of_block (w:=W) (Below.heap_setCell _ _ _ _ hp)];exact h.free j⟩
theorem Box.set {W:World} {b:Nat} {cs:List Value} (h:Box W b cs) (i:Nat) (u:Value):Box (W.setCell ⟨b,i,none⟩ u) b (cs.set i u):=by
 refine ⟨by simpa using h.lt,fun j v k=>?_,fun j=>?_⟩
 ·rw [List.getElem?_set] at k
  split at k
  ·rename_i e
   subst e
   split at k
   ·rename_i hi
    obtain rfl:u=v:=by simpa using k
    have:=h.cell i (cs[i]'hi) (List.getElem?_eq_getElem hi)
    exact World.cell?_setCell_same (h:=this) ..
   ·cases k
  ·rename_i e
   rw [World.cell?_setCell_other (h:=show (⟨b,i,none⟩:Addr)≠⟨b,j,none⟩ by simp only [ne_eq,Addr.mk.injEq,and_true,true_and];exact e) ..]
   exact h.cell j v k
 ·simpa using h.free j
end Mm
namespace P
open Go.RowKit
def f0 (n p:Nat):List UInt8:=if fs n p=[] then [48] else fs n p
end P
namespace P
open Go.RowKit Mm
theorem drop_at {α:Type} {l:List α} {i:Nat} {x:α} (h:l[i]?=some x):l.drop i=x::l.drop (i+1):=by
 obtain ⟨hi,rfl⟩:=List.getElem?_eq_some_iff.1 h
 exact List.drop_eq_getElem_cons hi
end P
namespace Mm
open Go.RowKit Go.Deep Go.ChangeShapes Go.WideShapes P
structure Sm where
 amt:Int
 a:Int
 b:Int
deriving Inhabited,DecidableEq
structure Prt where
 mt:Int
 a:Int
 b:Int
 allowance:Int
 block:Int
 kind:Int
 tiers:List Tier
 mode:Int
 adjusts:List Adj
deriving Inhabited,DecidableEq
structure Cor where
 cur:ByteArray
 a:Int
 b:Int
 meters:List Meter
 sums:List Sm
 parts:List Prt
deriving Inhabited
def prtC (x:Prt) (ta:Option Addr) (tc:Nat) (aa:Option Addr) (ac:Nat):List Value:=
 [.int .i64 x.mt,.int .i64 x.a,.int .i64 x.b,.int .i64 x.allowance,.int .i64 x.block,.int .i64 x.kind,.slice ta x.tiers.length tc,.int .i64 x.mode,.slice aa x.adjusts.length ac]
structure PrtLies (w:World) (cs:List Value) (x:Prt) (ta:Option Addr) (tc:Nat) (aa:Option Addr) (ac:Nat):Prop where
 cells:cs=prtC x ta tc aa ac
 tiers:Row tTier w ta x.tiers.length tc x.tiers
 adjusts:Row tAdj w aa x.adjusts.length ac x.adjusts
 nums:I64 x.mt∧I64 x.a∧I64 x.b∧I64 x.allowance∧I64 x.block∧I64 x.kind∧I64 x.mode
def tPrt:Ty Prt where
 n:=9
 lies:=fun w cs x=>∃ta tc aa ac,PrtLies w cs x ta tc aa ac
 len:=fun ⟨_,_,_,_,h⟩=>by rw [h.cells];rfl
 keep:=fun ⟨ta,tc,aa,ac,h⟩ hb=>⟨ta,tc,aa,ac,h.cells,h.tiers.on hb,h.adjusts.on hb,h.nums⟩
def corC (c:Cor) (ma:Option Addr) (mc:Nat) (sa:Option Addr) (sc:Nat) (pa:Option Addr) (pc:Nat):List Value:=
 [.string c.cur,.int .i64 c.a,.int .i64 c.b,.slice ma c.meters.length mc,.slice sa c.sums.length sc,.slice pa c.parts.length pc]
section
variable {H:Type} {enc:TypeId×Value→H} {w:World} {base:Nat} {spare:Nat→Bool} {held:Bool}
theorem down_prt {fuel:Nat} {cs:List Value} {x:DataW H×List MemPlace} (h:DataW.trod enc Try.prog w base spare held fuel 25 cs=some x):∃y,tPrt.lies w cs y:=by
 obtain ⟨hl,n,hf⟩:=down_struct Try.underlying25 h
 obtain ⟨_,h0⟩:=fld hf 0 _ rfl 1 (by kernel_rfl)
 obtain ⟨_,h1⟩:=fld hf 1 _ rfl 1 (by kernel_rfl)
 obtain ⟨_,h2⟩:=fld hf 2 _ rfl 1 (by kernel_rfl)
 obtain ⟨_,h3⟩:=fld hf 3 _ rfl 1 (by kernel_rfl)
 obtain ⟨_,h4⟩:=fld hf 4 _ rfl 1 (by kernel_rfl)
 obtain ⟨_,h5⟩:=fld hf 5 _ rfl 1 (by kernel_rfl)
 obtain ⟨_,h6⟩:=fld hf 6 _ rfl 1 (by kernel_rfl)
 obtain ⟨_,h7⟩:=fld hf 7 _ rfl 1 (by kernel_rfl)
 obtain ⟨_,h8⟩:=fld hf 8 _ rfl 1 (by kernel_rfl)
 obtain ⟨a,e0,g0⟩:=down_int Try.underlying3 h0
 obtain ⟨b,e1,g1⟩:=down_int Try.underlying3 h1
 obtain ⟨c,e2,g2⟩:=down_int Try.underlying3 h2
 obtain ⟨d,e3,g3⟩:=down_int Try.underlying3 h3
 obtain ⟨e,e4,g4⟩:=down_int Try.underlying3 h4
 obtain ⟨f,e5,g5⟩:=down_int Try.underlying3 h5
 obtain ⟨ta,tl,tc,ts,e6,g6⟩:=down_row (T:=tTier) Try.underlying22 (by kernel_rfl) (by decide) (fun _ _ _ h=>down_tier h) h6
 obtain ⟨i,e7,g7⟩:=down_int Try.underlying3 h7
 obtain ⟨aa,al,ac,as',e8,g8⟩:=down_row (T:=tAdj) Try.underlying23 (by kernel_rfl) (by decide) (fun _ _ _ h=>down_adj h) h8
 rw [show Try.prog.cellsOf 25=9 by kernel_rfl] at hl
 obtain rfl:=g6.hlen
 obtain rfl:=g8.hlen
 exact ⟨⟨a,b,c,d,e,f,ts,i,as'⟩,ta,tc,aa,ac,piece_all (piece (k:=1) e0 (piece (k:=1) e1 (piece (k:=1) e2 (piece (k:=1) e3 (piece (k:=1) e4 (piece (k:=1) e5 (piece (k:=1) e6 (piece (k:=1) e7 (piece (k:=1) e8 (piece_end hl)))))))))),
  g6,g8,g0,g1,g2,g3,g4,g5,g7⟩
end
end Mm
namespace P
open Go.RowKit Go.Sort Mm R6
def inB (n a b:Int):Bool:=decide (a≤n)&&decide (n≤b)
def spanB (a b x y:Int):Bool:=decide (a≤x)&&decide (x≤y)&&decide (y≤b)
def tiersB:Int→List Tier→Bool
 | _,[]=>true
 | _,[t]=>inB t.rate 0 1000000000000&&decide (t.upto=0)
 | u,t::r=>inB t.rate 0 1000000000000&&inB t.upto (u+1) 1000000&&tiersB t.upto r
def adjB (a:Adj):Bool:=if a.kind=1 then inB a.num 0 100000000&&inB a.mode 0 3 else if a.kind=2∨a.kind=3∨a.kind=4 then inB a.num 0 1000000000000&&decide (a.mode=0) else false
def tierRow (ts:List Tier):Bool:=inB ts.length 1 8&&tiersB 0 ts
def partB (c:Cor) (x:Prt):Bool:=
 spanB c.a c.b x.a x.b&&(inB x.mt 0 ((c.meters.length:Int)-1)&&(inB x.allowance 0 1000000&&(inB x.block 1 1000000&&(inB x.kind 1 2&&(inB x.mode 0 3&&(tierRow x.tiers&&(decide (x.adjusts.length≤6)&&x.adjusts.all adjB)))))))
def upB:Int→List Tier→Bool
 | _,[]=>true
 | _,[_]=>true
 | u,t::r=>inB t.upto (u+1) 1000000&&upB t.upto r
def rateB (t:Tier):Bool:=inB t.rate 0 1000000000000
theorem tiersB_split:∀(l:List Tier) (z:Tier) (u:Int),tiersB u (l++[z])=(upB u (l++[z])&&(decide (z.upto=0)&&(l++[z]).all rateB))
 | [],z,u=>by
   show (inB z.rate 0 1000000000000&&decide (z.upto=0))=(true&&(decide (z.upto=0)&&(rateB z&&true)))
   unfold rateB
   cases inB z.rate 0 1000000000000<;>cases decide (z.upto=0)<;>rfl
 | t::l,z,u=>by
   have ih:=tiersB_split l z t.upto
   have e1:tiersB u (t::l++[z])=(inB t.rate 0 1000000000000&&inB t.upto (u+1) 1000000&&tiersB t.upto (l++[z])):=by cases l<;>rfl
   have e2:upB u (t::l++[z])=(inB t.upto (u+1) 1000000&&upB t.upto (l++[z])):=by cases l<;>rfl
   have e3:(t::l++[z]).all rateB=(rateB t&&(l++[z]).all rateB):=rfl
   rw [e1,e2,e3,ih]
   unfold rateB
   cases inB t.rate 0 1000000000000<;>cases inB t.upto (u+1) 1000000<;>cases upB t.upto (l++[z])<;>cases decide (z.upto=0)<;>rfl
end P
namespace P
open Go.RowKit Mm
structure Stp where
 a:Int
 b:Int
 r:Int
deriving DecidableEq,Inhabited
def lq (x:Prt) (q:Int):Int:=(max 0 (q-x.allowance)+x.block-1) / x.block*x.block
def lqOk (x:Prt) (q:Int):Bool:=decide (0≤q)&&ok64 (lq x q)
def lqO (x:Prt) (q:Int):Option Int:=if lqOk x q=true then some (lq x q) else none
def gradS (q:Int):Int→List Tier→List Stp
 | _,[]=>[]
 | u,[t]=>if u<q then [⟨u,q,t.rate⟩] else []
 | u,t::s::ts=>(if u<min q t.upto then [⟨u,min q t.upto,t.rate⟩] else [])++gradS q t.upto (s::ts)
def volR (q:Int):List Tier→Int
 | []=>0
 | [t]=>t.rate
 | t::s::ts=>if q≤t.upto then t.rate else volR q (s::ts)
def volS (q:Int) (ts:List Tier):List Stp:=if 0<q then [⟨0,q,volR q ts⟩] else []
def stepsP (x:Prt) (q:Int):List Stp:=if x.kind=2 then volS q x.tiers else gradS q 0 x.tiers
def stW (s:Stp):Int:=s.r*(s.b-s.a)
def costS:List Stp→Int
 | []=>0
 | s::l=>stW s+costS l
def sumS:Int→List Stp→Option Int
 | s,[]=>some s
 | s,t::ts=>if (ok64 (stW t)&&ok64 (s+stW t))=true then sumS (s+stW t) ts else none
def microO (x:Prt) (q:Int):Option Int:=if lqOk x q=true then sumS 0 (stepsP x (lq x q)) else none
def chargeO (x:Prt) (q:Int):Option Int:=(microO x q).map fun m=>rnd m 1000000 x.mode
structure GoodT (x:Prt):Prop where
 allow:0≤x.allowance∧x.allowance≤1000000
 block:1≤x.block∧x.block≤1000000
 kind:x.kind=1∨x.kind=2
 mode:0≤x.mode∧x.mode≤3
 len:1≤x.tiers.length∧x.tiers.length≤8
 tiers:tiersB 0 x.tiers=true
 adjs:x.adjusts.length≤6
theorem inB_iff {n a b:Int} : inB n a b=true↔a≤n∧n≤b:=by unfold inB;rw [Bool.and_eq_true,decide_eq_true_eq,decide_eq_true_eq]
theorem tiersB_cons {u:Int} {t s:Tier} {ts:List Tier} (h:tiersB u (t::s::ts)=true):0≤t.rate∧t.rate≤1000000000000∧u<t.upto∧t.upto≤1000000∧tiersB t.upto (s::ts)=true:=by
 have h':(inB t.rate 0 1000000000000&&inB t.upto (u+1) 1000000&&tiersB t.upto (s::ts))=true:=h
 rw [Bool.and_eq_true,Bool.and_eq_true,inB_iff,inB_iff] at h'
 exact ⟨h'.1.1.1,h'.1.1.2,by omega,h'.1.2.2,h'.2⟩
theorem tiersB_one {u:Int} {t:Tier} (h:tiersB u [t]=true):0≤t.rate∧t.rate≤1000000000000∧t.upto=0:=by
 have h':(inB t.rate 0 1000000000000&&decide (t.upto=0))=true:=h
 rw [Bool.and_eq_true,inB_iff,decide_eq_true_eq] at h'
 exact ⟨h'.1.1,h'.1.2,h'.2⟩
theorem gradS_none:∀(ts:List Tier) (u q:Int),tiersB u ts=true→q≤u→gradS q u ts=[]
 | [],_,_,_,_=>rfl
 | [t],u,q,_,h=>by unfold gradS;rw [if_neg (by omega)]
 | t::s::ts,u,q,hB,h=>by
   obtain ⟨_,_,h1,_,h2⟩:=tiersB_cons hB
   unfold gradS
   rw [if_neg (by omega),gradS_none (s::ts) t.upto q h2 (by omega)]
   rfl
theorem volR_in:∀(ts:List Tier) (u q:Int),tiersB u ts=true→0≤volR q ts∧volR q ts≤1000000000000
 | [],_,_,_=>by unfold volR;omega
 | [t],_,_,h=>by have:=tiersB_one h;unfold volR;omega
 | t::s::ts,u,q,h=>by
   obtain ⟨h0,h1,_,_,h2⟩:=tiersB_cons h
   unfold volR
   split
   ·omega
   ·exact volR_in (s::ts) t.upto q h2
theorem gradS_pos:∀(ts:List Tier) (u q:Int),tiersB u ts=true→∀s∈gradS q u ts,u≤s.a∧s.a<s.b∧s.b≤q∧0≤s.r∧s.r≤1000000000000
 | [],_,_,_,s,hs=>by cases hs
 | [t],u,q,hB,s,hs=>by
   obtain ⟨h0,h1,_⟩:=tiersB_one hB
   unfold gradS at hs
   split at hs
   ·rw [List.mem_singleton] at hs;subst hs;exact ⟨Int.le_refl _,by assumption,Int.le_refl _,h0,h1⟩
   ·cases hs
 | t::y::ts,u,q,hB,s,hs=>by
   obtain ⟨h0,h1,h2,_,h3⟩:=tiersB_cons hB
   unfold gradS at hs
   rcases List.mem_append.1 hs with k|k
   ·split at k
    ·rw [List.mem_singleton] at k;subst k
     exact ⟨Int.le_refl _,by assumption,by show min q t.upto≤q;omega,h0,h1⟩
    ·cases k
   ·have:=gradS_pos (y::ts) t.upto q h3 s k
    omega
theorem stepsP_pos {x:Prt} (g:GoodT x) (q:Int):∀s∈stepsP x q,0≤s.a∧s.a<s.b∧s.b≤q∧0≤s.r∧s.r≤1000000000000:=by
 unfold stepsP
 split
 ·unfold volS
  split
  ·intro s hs
   rw [List.mem_singleton] at hs
   subst hs
   have:=volR_in x.tiers 0 q g.tiers
   exact ⟨Int.le_refl _,by assumption,Int.le_refl _,this.1,this.2⟩
  ·intro s hs;cases hs
 ·exact gradS_pos x.tiers 0 q g.tiers
theorem costS_pos:∀(l:List Stp),(∀s∈l,0≤stW s)→0≤costS l
 | [],_=>Int.le_refl _
 | s::l,h=>by
   have h1:=h s (List.mem_cons_self ..)
   have h2:=costS_pos l fun z hz=>h z (List.mem_cons_of_mem _ hz)
   show 0≤stW s+costS l
   omega
theorem stW_pos {s:Stp} (h:s.a<s.b) (hr:0≤s.r):0≤stW s:=Int.mul_nonneg hr (by omega)
theorem sumS_eq:∀(l:List Stp) (s:Int),0≤s→I64 s→(∀t∈l,0≤stW t)→sumS s l=if ok64 (s+costS l)=true then some (s+costS l) else none
 | [],s,_,hi,_=>by
   show some s=_
   rw [show s+costS []=s by show s+0=s;omega,if_pos (ok64_t hi)]
 | t::l,s,h0,hi,hp=>by
   have h1:=hp t (List.mem_cons_self ..)
   have h2:=costS_pos l fun z hz=>hp z (List.mem_cons_of_mem _ hz)
   have e:s+costS (t::l)=s+stW t+costS l:=by show s+(stW t+costS l)=_;omega
   unfold sumS
   rw [e]
   by_cases k:I64 (s+stW t)
   ·have k2:I64 (stW t):=by unfold I64 at *;omega
    rw [ok64_t k,ok64_t k2,if_pos (show (true&&true)=true from rfl)]
    exact sumS_eq l (s+stW t) (by omega) k fun z hz=>hp z (List.mem_cons_of_mem _ hz)
   ·rw [ok64_f k,Bool.and_false,if_neg (by simp),ok64_f (by unfold I64 at *;omega),if_neg (by simp)]
def costP (x:Prt) (q:Int):Int:=costS (stepsP x (lq x q))
theorem stepsP_w {x:Prt} (g:GoodT x) (q:Int):∀s∈stepsP x q,0≤stW s:=fun s hs=>by
 have:=stepsP_pos g q s hs
 exact stW_pos this.2.1 this.2.2.2.1
theorem microO_eq {x:Prt} (g:GoodT x) (q:Int):microO x q=if (lqOk x q&&ok64 (costP x q))=true then some (costP x q) else none:=by
 unfold microO
 rcases Bool.eq_false_or_eq_true (lqOk x q) with k|k
 ·rw [k,if_pos rfl,Bool.true_and,sumS_eq _ 0 (Int.le_refl _) (by unfold I64;omega) (stepsP_w g _),Int.zero_add]
  rfl
 ·rw [k,if_neg (by simp),Bool.false_and,if_neg (by simp)]
theorem gt_mode {x:Prt} (g:GoodT x):goodm x.mode=true:=(goodm_iff _).2 g.mode
theorem one_cost {x y:Prt} (g:GoodT x) (g':GoodT y) (ea:x.allowance=y.allowance) (eb:x.block=y.block) (em:x.mode=y.mode) (ec:∀q,costS (stepsP x q)=costS (stepsP y q)) (q:Int):chargeO x q=chargeO y q:=by
 have el:∀q,lq x q=lq y q:=fun q=>by unfold lq;rw [ea,eb]
 unfold chargeO
 rw [microO_eq g,microO_eq g',em]
 unfold lqOk costP
 rw [el,ec]
theorem cost_one (r:Int) (q:Int):costS (gradS q 0 [⟨0,r⟩])=if 0<q then r*q else 0:=by
 unfold gradS
 split
 ·show r*(q-0)+0=_;rw [Int.sub_zero,Int.add_zero]
 ·rfl
theorem cost_onev (r:Int) (q:Int):costS (volS q [⟨0,r⟩])=if 0<q then r*q else 0:=by
 unfold volS volR
 split
 ·show r*(q-0)+0=_;rw [Int.sub_zero,Int.add_zero]
 ·rfl
theorem cost_two (r u:Int) (hu:0<u) (q:Int):costS (gradS q 0 [⟨u,r⟩,⟨0,r⟩])=if 0<q then r*q else 0:=by
 unfold gradS gradS
 show costS ((if 0<min q u then [⟨0,min q u,r⟩] else [])++(if u<q then [⟨u,q,r⟩] else []))=_
 by_cases h:0<q
 ·rw [if_pos h,if_pos (by omega)]
  by_cases k:u<q
  ·rw [if_pos k,Int.min_eq_right (by omega)]
   show r*(u-0)+(r*(q-u)+0)=r*q
   rw [Int.sub_zero,Int.mul_sub]
   omega
  ·rw [if_neg k,Int.min_eq_left (by omega)]
   show r*(q-0)+0=r*q
   rw [Int.sub_zero,Int.add_zero]
 ·rw [if_neg h,if_neg (by omega),if_neg (by omega)]
  rfl
theorem cost_twov (r u:Int) (q:Int):costS (volS q [⟨u,r⟩,⟨0,r⟩])=if 0<q then r*q else 0:=by
 unfold volS volR volR
 split
 ·show (if q≤u then r else r)*(q-0)+0=_
  rw [Int.sub_zero,Int.add_zero]
  split<;>rfl
 ·rfl
end P
end Go.Proofs.Ytcimcdoiiepjoaa
