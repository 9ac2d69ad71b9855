/- A number's text cut at its point, and a rest's digits without the noughts at their end, as plain arithmetic: no program is named here. -/
import Derived.Test.YtjgogpaedaffkaaGreatJShG
import Derived.Lib.IndexMore
import Derived.Lib.TrimByte
import Derived.Sort.Walk0
namespace Go.Proofs.YtjgogpaedaffkaaGreat
namespace Mm
end Mm
namespace R6
end R6
namespace P
end P
namespace P
open Go.RowKit
def pl (a:List UInt8):Bool:=a.all isDg&&!a.isEmpty&&(decide (a.length=1)||!(a.getD 0 0==48))
end P
namespace P
open Go.RowKit Mm R6
theorem wrong_nought {p:Plan} (h:(wrongOf p).1=0):wrongOf p=(0,0,0):=by
 obtain ⟨h0,h1,h2,h3,h4⟩:=wrongOf_zero.1 h;unfold wrongOf;rw [if_pos h0,h1,h2,h3,if_neg h4]
theorem gd_noneg {p:Plan} (h:Gd p):NoNeg p where
 fees:=fun f hf=>(h.fees f hf).1.1
 rates:=fun c hc t ht=>by
  obtain ⟨ts,r,e,g,gr⟩:=(h.charges c hc).tiers;rw [e] at ht;rcases List.mem_append.1 ht with ht|ht
  ·exact (g t ht).rate.1
  ·obtain rfl:=List.mem_singleton.1 ht;exact gr.1
 adjs:=fun c hc a ha=>by
  rcases (h.charges c hc).adjs a ha with g|g
  ·exact g.2.1.1
  ·exact g.2.1.1
 blocks:=fun c hc=>(h.charges c hc).block.1
end P
namespace P
open Go.RowKit Mm
theorem drop_at {α:Type} {l:List α} {i:Nat} {x:α} (h:l[i]?=some x):l.drop i=x::l.drop (i+1):=by
 obtain ⟨hi,rfl⟩:=List.getElem?_eq_some_iff.1 h;exact List.drop_eq_getElem_cons hi
theorem rises_stop {l:List Tier} {u:Int} {i:Nat} (h:l.length≤i+1):risesB u (l.drop i)=true:=by
 have:(l.drop i).length≤1:=by rw [List.length_drop];omega
 cases hd:l.drop i with
 | nil=>rfl
 | cons t r=>
   rw [hd] at this;cases r with
   | nil=>rfl
   | cons _ _=>simp at this
theorem rises_step {l:List Tier} {u:Int} {i:Nat} {t:Tier} (h:l[i]?=some t) (hi:i+1<l.length):risesB u (l.drop i)=(decide (1≤t.upto)&&decide (u<t.upto)&&risesB t.upto (l.drop (i+1))):=by
 obtain ⟨t',h'⟩:∃t',l[i+1]?=some t':=⟨_,List.getElem?_eq_getElem hi⟩;rw [drop_at h,drop_at h'];rfl
theorem firstE_step {α:Type} {f:Nat→α→Int} {pl:α→Int×Int} {l:List α} {i:Nat} {x:α} (h:l[i]?=some x):firstE f pl i (l.drop i)=if f i x=0 then firstE f pl (i+1) (l.drop (i+1)) else some (f i x,(pl x).1,(pl x).2):=by
 rw [drop_at h];rfl
theorem firstE_end {α:Type} {f:Nat→α→Int} {pl:α→Int×Int} {l:List α} {i:Nat} (h:l.length≤i):firstE f pl i (l.drop i)=none:=by
 rw [List.drop_of_length_le h];rfl
theorem sumUp_step {l:List Int} {i:Nat} {x n:Int} (h:l[i]?=some x):sumUp n (l.drop i)=if maxBound≤x∨maxBound≤n+x then none else sumUp (n+x) (l.drop (i+1)):=by
 rw [drop_at h];rfl
theorem sumUp_end {l:List Int} {i:Nat} {n:Int} (h:l.length≤i):sumUp n (l.drop i)=some n:=by
 rw [List.drop_of_length_le h];rfl
theorem adjAll_step {l:List Adj} {i:Nat} {a:Adj} {n:Int} (h:l[i]?=some a):adjAll n (l.drop i)=(adjStep n a).bind fun m=>adjAll m (l.drop (i+1)):=by
 rw [drop_at h];rfl
theorem adjAll_end {l:List Adj} {i:Nat} {n:Int} (h:l.length≤i):adjAll n (l.drop i)=some n:=by
 rw [List.drop_of_length_le h];rfl
theorem topRate_step {l:List Tier} {i:Nat} {t:Tier} (h:l[i]?=some t):topRate (l.take (i+1))=max (topRate (l.take i)) t.rate:=by
 unfold topRate;rw [List.take_add_one,h,List.foldl_append];rfl
theorem mosts_some {ms:List Meter} {cs:List Charge} {i k:Nat} {c:Charge} (h:cs[i]?=some c) (e:meterIx ms c.meter=some k):mosts ms (cs.drop i)=(mostOf c (ms.getD k default).max).bind fun x=>(mosts ms (cs.drop (i+1))).map (x::·):=by
 rw [drop_at h]
 conv=>lhs;unfold mosts
 rw [e]
theorem mosts_end {ms:List Meter} {cs:List Charge} {i:Nat} (h:cs.length≤i):mosts ms (cs.drop i)=some []:=by
 rw [List.drop_of_length_le h];rfl
theorem qty_count {mx al bl:Int} {k:Nat} (hb:0<bl) (h1:mx-al≤k*bl) (h2:k=0∨(k:Int)*bl-bl<mx-al):qty mx al bl=k*bl:=by
 unfold qty;rcases h2 with rfl|h2
 ·rw [if_pos (by simpa using h1)];simp
 ·by_cases h3:mx-al≤0
  ·rw [if_pos h3];cases k with
   | zero=>simp
   | succ k=>
     exfalso
     have:0≤(k:Int)*bl:=Int.mul_nonneg (Int.natCast_nonneg k) (by omega);have e:((k+1:Nat):Int)*bl=(k:Int)*bl+bl:=by rw [Int.natCast_succ,Int.add_mul,Int.one_mul]
     omega
  ·rw [if_neg h3];congr 1
   have e:(mx-al+bl-1) / bl=k:=by
    rw [Int.ediv_eq_iff_of_pos hb];constructor<;>omega
   exact e
end P
namespace Mm
open Go.RowKit Go.Deep Go.ChangeShapes Go.WideShapes P
structure Sm where
 amt:Int
 a:Int
 b:Int
deriving Inhabited,DecidableEq
structure Prt where
 mt:Int
 a:Int
 b:Int
 allowance:Int
 block:Int
 kind:Int
 tiers:List Tier
 mode:Int
 adjusts:List Adj
deriving Inhabited,DecidableEq
structure Cor where
 cur:ByteArray
 a:Int
 b:Int
 meters:List Meter
 sums:List Sm
 parts:List Prt
deriving Inhabited
def smC (s:Sm):List Value:=[s.amt,s.a,s.b]
def tSm:Ty Sm:=leaf 3 smC (fun s=>I64 s.amt∧I64 s.a∧I64 s.b) (fun _=>rfl)
def prtC (x:Prt) (ta:Option Addr) (tc:Nat) (aa:Option Addr) (ac:Nat):List Value:=
 [x.mt,x.a,x.b,x.allowance,x.block,x.kind,.slice ta x.tiers.length tc,x.mode,.slice aa x.adjusts.length ac]
structure PrtLies (w:World) (cs:List Value) (x:Prt) (ta:Option Addr) (tc:Nat) (aa:Option Addr) (ac:Nat):Prop where
 cells:cs=prtC x ta tc aa ac
 tiers:Row tTier w ta x.tiers.length tc x.tiers
 adjusts:Row tAdj w aa x.adjusts.length ac x.adjusts
 nums:I64 x.mt∧I64 x.a∧I64 x.b∧I64 x.allowance∧I64 x.block∧I64 x.kind∧I64 x.mode
def tPrt:Ty Prt where
 n:=9
 lies:=fun w cs x=>∃ta tc aa ac,PrtLies w cs x ta tc aa ac
 len:=fun ⟨_,_,_,_,h⟩=>by rw [h.cells];rfl
 keep:=fun ⟨ta,tc,aa,ac,h⟩ hb=>⟨ta,tc,aa,ac,h.cells,h.tiers.on hb,h.adjusts.on hb,h.nums⟩
def corC (c:Cor) (ma:Option Addr) (mc:Nat) (sa:Option Addr) (sc:Nat) (pa:Option Addr) (pc:Nat):List Value:=
 [c.cur,c.a,c.b,.slice ma c.meters.length mc,.slice sa c.sums.length sc,.slice pa c.parts.length pc]
structure CorLies (w:World) (cs:List Value) (c:Cor) (ma:Option Addr) (mc:Nat) (sa:Option Addr) (sc:Nat) (pa:Option Addr) (pc:Nat):Prop where
 cells:cs=corC c ma mc sa sc pa pc
 meters:Row tMeter w ma c.meters.length mc c.meters
 sums:Row tSm w sa c.sums.length sc c.sums
 parts:Row tPrt w pa c.parts.length pc c.parts
 cur:strOk c.cur
 days:I64 c.a∧I64 c.b
theorem CorLies.on {w w':World} {cs:List Value} {c:Cor} {ma:Option Addr} {mc:Nat} {sa:Option Addr} {sc:Nat} {pa:Option Addr} {pc:Nat} (h:CorLies w cs c ma mc sa sc pa pc) (hb:Below w.heap.size w w'):CorLies w' cs c ma mc sa sc pa pc:=
 ⟨h.cells,h.meters.on hb,h.sums.on hb,h.parts.on hb,h.cur,h.days⟩
section
variable {H:Type} {enc:TypeId×Value→H} {w:World} {base:Nat} {spare:Nat→Bool} {held:Bool}
end
end Mm
namespace P
open Go.RowKit Go.Sort Mm R6
def klt (x y:ByteArray):Bool:=decide (x.data.toList<y.data.toList)
theorem klt_eq (x y:ByteArray):Op.bytesLess x.toList y.toList=klt x y:=by
 unfold klt;rw [bytesLess_eq,ByteArray.toList_eq,ByteArray.toList_eq]
theorem klt_irr (x:ByteArray):klt x x=false:=by
 unfold klt;exact decide_eq_false (List.lt_irrefl _)
theorem klt_tr {x y z:ByteArray} (h:klt x y=true) (k:klt y z=true):klt x z=true:=by
 unfold klt at *;simp only [decide_eq_true_eq] at *;exact List.lt_trans h k
theorem klt_as {x y:ByteArray} (h:klt x y=true):klt y x=false:=by
 rcases Bool.eq_false_or_eq_true (klt y x) with k|k
 ·have:=klt_tr h k;rw [klt_irr] at this;cases this
 ·exact k
theorem ba_ext {x y:ByteArray} (h:x.data.toList=y.data.toList):x=y:=by
 rcases x with ⟨⟨x⟩⟩;rcases y with ⟨⟨y⟩⟩;simp only at h;rw [h]
theorem klt_tot {x y:ByteArray} (h:klt x y=false) (n:x≠y):klt y x=true:=by
 unfold klt at *;simp only [decide_eq_false_iff_not,decide_eq_true_eq] at *;rcases List.le_total x.data.toList y.data.toList with k|k
 ·exact absurd (ba_ext (List.le_antisymm k (List.not_lt.1 h))) n
 ·rcases Decidable.em (y.data.toList<x.data.toList) with q|q
  ·exact q
  ·exact absurd (ba_ext (List.le_antisymm (List.not_lt.1 q) (List.not_lt.1 h))) n
def insAt (n:ByteArray) (l:List Meter):Nat:=(l.takeWhile fun y=>klt y.name n).length
def insM (x:Meter) (l:List Meter):List Meter:=l.take (insAt x.name l)++x::l.drop (insAt x.name l)
def srt (ms:List Meter):List Meter:=ms.foldl (fun acc m=>insM (nM m) acc) []
theorem insAt_le (n:ByteArray) (l:List Meter):insAt n l≤l.length:=by
 unfold insAt;exact (List.takeWhile_sublist _).length_le
theorem insAt_lt {n:ByteArray} {l:List Meter} {j:Nat} {y:Meter} (hj:j<insAt n l) (h:l[j]?=some y):klt y.name n=true:=by
 unfold insAt at hj
 have e:(l.takeWhile fun y=>klt y.name n)[j]?=some y:=by
  have:=List.takeWhile_prefix (fun y=>klt y.name n) (l:=l);obtain ⟨t,ht⟩:=this;rw [←ht,List.getElem?_append_left hj] at h;exact h
 have:=List.all_takeWhile (l:=l) (p:=fun y=>klt y.name n);exact (List.all_eq_true.1 this) y (List.mem_of_getElem? e)
theorem insAt_end {n:ByteArray} {l:List Meter} {y:Meter} (h:l[insAt n l]?=some y):klt y.name n=false:=by
 unfold insAt at h;induction l with
 | nil=>simp at h
 | cons a r ih=>
   rw [List.takeWhile_cons] at h;by_cases ha:klt a.name n=true
   ·rw [if_pos ha] at h;simp only [List.length_cons,List.getElem?_cons_succ] at h;exact ih h
   ·rw [if_neg ha] at h;simp only [List.length_nil,List.getElem?_cons_zero,Option.some.injEq] at h;subst h;simpa using ha
theorem insM_perm (x:Meter) (l:List Meter):(insM x l).Perm (x::l):=by
 unfold insM;have:(l.take (insAt x.name l)++x::l.drop (insAt x.name l)).Perm (x::(l.take (insAt x.name l)++l.drop (insAt x.name l))):=List.perm_middle
 rwa [List.take_append_drop] at this
theorem srt_from (ms acc:List Meter):(ms.foldl (fun acc m=>insM (nM m) acc) acc).Perm (acc++ms.map nM):=by
 induction ms generalizing acc with
 | nil=>simp
 | cons m r ih=>
   rw [List.foldl_cons,List.map_cons];refine (ih _).trans ?_;refine ((insM_perm _ _).append_right _).trans ?_;rw [List.cons_append];exact List.perm_middle.symm
theorem srt_perm (ms:List Meter):(srt ms).Perm (ms.map nM):=by
 have:=srt_from ms []
 rwa [List.nil_append] at this
theorem srt_step (ms:List Meter) {i:Nat} {m:Meter} (h:ms[i]?=some m):srt (ms.take (i+1))=insM (nM m) (srt (ms.take i)):=by
 unfold srt;rw [List.take_add_one,h,List.foldl_append];rfl
theorem srt_len (ms:List Meter):(srt ms).length=ms.length:=by
 rw [(srt_perm ms).length_eq,List.length_map]
def Asc (l:List Meter):Prop:=l.Pairwise fun x y=>klt x.name y.name=true
def Apart (ms:List Meter):Prop:=ms.Pairwise fun x y=>x.name≠y.name
theorem asc_ins {x:Meter} {l:List Meter} (h:Asc l) (n:∀y∈l,y.name≠x.name):Asc (insM x l):=by
 unfold insM Asc at *;have hk:=insAt_le x.name l;obtain ⟨k,ek⟩:∃k,k=insAt x.name l:=⟨_,rfl⟩;rw [←ek];have h0:(l.take k++l.drop k).Pairwise fun x y=>klt x.name y.name=true:=by rw [List.take_append_drop];exact h
 rw [List.pairwise_append] at h0;obtain ⟨a,b,c⟩:=h0
 have lo:∀y∈l.take k,klt y.name x.name=true:=fun y hy=>by
  obtain ⟨j,hj,e⟩:=List.getElem_of_mem hy;have hj2:=hj;rw [List.length_take] at hj2;have q1:=Nat.lt_of_lt_of_le hj2 (Nat.min_le_left _ _);have q2:=Nat.lt_of_lt_of_le hj2 (Nat.min_le_right _ _);clear hj2;refine insAt_lt (j:=j) (by rw [←ek];exact q1) (y:=y) ?_;rw [List.getElem_take] at e;rw [List.getElem?_eq_getElem q2,e]
 have hi:∀y∈l.drop k,klt x.name y.name=true:=fun y hy=>by
  cases hd:l.drop k with
  | nil=>rw [hd] at hy;cases hy
  | cons z r=>
    have ez:l[k]?=some z:=by
     have:=congrArg (fun l=>l[0]?) hd;simpa using this
    have hz:klt x.name z.name=true:=by
     have:=insAt_end (n:=x.name) (l:=l) (y:=z) (by rw [←ek];exact ez);exact klt_tot this (n z (List.mem_of_getElem? ez))
    rw [hd] at hy b;rcases List.mem_cons.1 hy with rfl|hy
    ·exact hz
    ·exact klt_tr hz (List.rel_of_pairwise_cons b hy)
 rw [List.pairwise_append];refine ⟨a,List.pairwise_cons.2 ⟨hi,b⟩,fun y hy z hz=>?_⟩;rcases List.mem_cons.1 hz with rfl|hz
 ·exact lo y hy
 ·exact c y hy z hz
theorem srt_asc_from (ms:List Meter):∀(acc:List Meter),Asc acc→Apart ms→(∀a∈acc,∀m∈ms,a.name≠m.name)→Asc (ms.foldl (fun acc m=>insM (nM m) acc) acc):=by
 induction ms with
 | nil=>intro acc h _ _;exact h
 | cons m r ih=>
   intro acc h hp hd;rw [List.foldl_cons];have hp':=List.pairwise_cons.1 hp;refine ih _ (asc_ins h (fun y hy=>hd y hy m (List.mem_cons_self ..))) hp'.2 (fun a ha z hz=>?_);rcases List.mem_cons.1 ((insM_perm _ _).mem_iff.1 ha) with rfl|ha
   ·exact hp'.1 z hz
   ·exact hd a ha z (List.mem_cons_of_mem _ hz)
theorem srt_asc {ms:List Meter} (h:Apart ms):Asc (srt ms):=srt_asc_from ms [] List.Pairwise.nil h (fun _ ha=>by cases ha)
theorem apart_ne {ms:List Meter} (h:Apart ms) {i j:Nat} {x y:Meter} (hi:ms[i]?=some x) (hj:ms[j]?=some y) (e:x.name=y.name):i=j:=by
 obtain ⟨l1,e1⟩:=List.getElem?_eq_some_iff.1 hi;obtain ⟨l2,e2⟩:=List.getElem?_eq_some_iff.1 hj;rcases Nat.lt_trichotomy i j with g|g|g
 ·have:=(List.pairwise_iff_getElem.1 h) i j l1 l2 g;rw [e1,e2] at this;exact absurd e this
 ·exact g
 ·have:=(List.pairwise_iff_getElem.1 h) j i l2 l1 g;rw [e1,e2] at this;exact absurd e.symm this
theorem ix_some {ms:List Meter} {n:ByteArray} {i:Nat} (h:meterIx ms n=some i):∃m,ms[i]?=some m∧m.name=n:=by
 unfold meterIx at h;obtain ⟨hi,e,_⟩:=List.findIdx?_eq_some_iff_getElem.1 h;exact ⟨_,List.getElem?_eq_getElem hi,ba_ext (by simpa using e)⟩
theorem apart_of {p:Plan} (h:(wrongOf p).1=0):Apart p.meters:=by
 have hm:=(wrongOf_zero.1 h).2.1;rw [firstE_none] at hm;unfold Apart;rw [List.pairwise_iff_getElem];intro i j hi hj hij e;have a:=hm i _ (List.getElem?_eq_getElem hi);have b:=hm j _ (List.getElem?_eq_getElem hj);unfold meterE at a b;rw [e] at a;split at a
 ·cases a
 ·split at a
  ·rename_i ha
   split at b
   ·cases b
   ·split at b
    ·rename_i hb
     rw [ha] at hb;have:=Option.some.inj hb;omega
    ·cases b
  ·cases a
def winA (p:Plan) (w:Win):Int:=if w.has then dn w.a else dn p.a
def winB (p:Plan) (w:Win):Int:=if w.has then dn w.b else dn p.b
def sumOf (p:Plan) (f:Fee):Mm.Sm:=⟨f.amount,winA p f.win,winB p f.win⟩
def partOf (p:Plan) (c:Charge):Prt:=⟨((meterIx (srt p.meters) c.meter).getD 0:Nat),winA p c.win,winB p c.win,c.allowance,c.block,c.kind,c.tiers,c.mode,c.adjusts⟩
def coreOf (p:Plan):Cor:=⟨p.cur,dn p.a,dn p.b,srt p.meters,p.fees.map (sumOf p),p.charges.map (partOf p)⟩
def inB (n a b:Int):Bool:=decide (a≤n)&&decide (n≤b)
def spanB (a b x y:Int):Bool:=decide (a≤x)&&decide (x≤y)&&decide (y≤b)
def tiersB:Int→List Tier→Bool
 | _,[]=>true
 | _,[t]=>inB t.rate 0 1000000000000&&decide (t.upto=0)
 | u,t::r=>inB t.rate 0 1000000000000&&inB t.upto (u+1) 1000000&&tiersB t.upto r
def adjB (a:Adj):Bool:=if a.kind=1 then inB a.num 0 100000000&&inB a.mode 0 3 else if a.kind=2∨a.kind=3∨a.kind=4 then inB a.num 0 1000000000000&&decide (a.mode=0) else false
def sumB (c:Cor) (s:Mm.Sm):Bool:=inB s.amt 0 1000000000000&&spanB c.a c.b s.a s.b
def tierRow (ts:List Tier):Bool:=inB ts.length 1 8&&tiersB 0 ts
def partB (c:Cor) (x:Prt):Bool:=
 spanB c.a c.b x.a x.b&&(inB x.mt 0 ((c.meters.length:Int)-1)&&(inB x.allowance 0 1000000&&(inB x.block 1 1000000&&(inB x.kind 1 2&&(inB x.mode 0 3&&(tierRow x.tiers&&(decide (x.adjusts.length≤6)&&x.adjusts.all adjB)))))))
def ordB:Option ByteArray→ByteArray→Bool
 | none,_=>true
 | some p,n=>klt p n
def mtB (m:Meter):Bool:=inB m.max 0 2000&&(decide (m.line=0)&&decide (m.col=0))
def metersF:Option ByteArray→List Meter→Bool
 | _,[]=>true
 | q,m::r=>(ordB q m.name&&mtB m)&&metersF (some m.name) r
def metersB (ms:List Meter):Bool:=metersF none ms
def horB (c:Cor):Bool:=decide (0≤c.b∧c.b<3652059)&&(inB c.a 0 c.b&&decide (c.b-c.a<4000))
def goodC (c:Cor):Bool:=
 horB c&&((decide (c.meters.length≤4)&&metersB c.meters)&&(decide (c.sums.length≤8)&&(c.sums.all (sumB c)&&(decide (c.parts.length≤8)&&c.parts.all (partB c)))))
theorem metersF_step {ms:List Meter} {q:Option ByteArray} {i:Nat} {m:Meter} (h:ms[i]?=some m):metersF q (ms.drop i)=((ordB q m.name&&mtB m)&&metersF (some m.name) (ms.drop (i+1))):=by
 rw [drop_at h];rfl
theorem leq_klt (a b:ByteArray):(Op.bytesLess a.toList b.toList||a.toList==b.toList) = !klt b a:=by
 rw [klt_eq];by_cases e:a=b
 ·subst e;rw [klt_irr];simp
 ·have ne:(a.toList==b.toList)=false:=by
   rw [beq_eq_false_iff_ne];intro h;rw [ByteArray.toList_eq,ByteArray.toList_eq] at h;exact e (ba_ext h)
  rw [ne,Bool.or_false];rcases Bool.eq_false_or_eq_true (klt a b) with g|g
  ·rw [g,klt_as g];rfl
  ·rw [g,klt_tot g e];rfl
def upB:Int→List Tier→Bool
 | _,[]=>true
 | _,[_]=>true
 | u,t::r=>inB t.upto (u+1) 1000000&&upB t.upto r
def rateB (t:Tier):Bool:=inB t.rate 0 1000000000000
theorem tiersB_split:∀(l:List Tier) (z:Tier) (u:Int),tiersB u (l++[z])=(upB u (l++[z])&&(decide (z.upto=0)&&(l++[z]).all rateB))
 | [],z,u=>by
   show (inB z.rate 0 1000000000000&&decide (z.upto=0))=(true&&(decide (z.upto=0)&&(rateB z&&true)))
   unfold rateB;cases inB z.rate 0 1000000000000<;>cases decide (z.upto=0)<;>rfl
 | t::l,z,u=>by
   have ih:=tiersB_split l z t.upto;have e1:tiersB u (t::l++[z])=(inB t.rate 0 1000000000000&&inB t.upto (u+1) 1000000&&tiersB t.upto (l++[z])):=by cases l<;>rfl
   have e2:upB u (t::l++[z])=(inB t.upto (u+1) 1000000&&upB t.upto (l++[z])):=by cases l<;>rfl
   have e3:(t::l++[z]).all rateB=(rateB t&&(l++[z]).all rateB):=rfl;rw [e1,e2,e3,ih];unfold rateB;cases inB t.rate 0 1000000000000<;>cases inB t.upto (u+1) 1000000<;>cases upB t.upto (l++[z])<;>cases decide (z.upto=0)<;>rfl
theorem upB_step {l:List Tier} {i:Nat} {t:Tier} {u:Int} (h:l[i]?=some t) (hi:i+1<l.length):upB u (l.drop i)=(inB t.upto (u+1) 1000000&&upB t.upto (l.drop (i+1))):=by
 obtain ⟨t',h'⟩:∃t',l[i+1]?=some t':=⟨_,List.getElem?_eq_getElem hi⟩;rw [drop_at h,drop_at h'];rfl
theorem upB_end {l:List Tier} {i:Nat} {u:Int} (h:l.length≤i+1):upB u (l.drop i)=true:=by
 have:(l.drop i).length≤1:=by rw [List.length_drop];omega
 cases hd:l.drop i with
 | nil=>rfl
 | cons t r=>
   rw [hd] at this;cases r with
   | nil=>rfl
   | cons _ _=>simp at this
theorem tiersB_of {l:List Tier} {z:Tier} (h:l[l.length-1]?=some z) (n:1≤l.length):tiersB 0 l=(upB 0 l&&(decide (z.upto=0)&&l.all rateB)):=by
 have e:l=l.take (l.length-1)++[z]:=by
  have:=drop_at h;rw [show l.length-1+1=l.length by omega,List.drop_length] at this;rw [←this,List.take_append_drop]
 rw [e];exact tiersB_split _ z 0
end P
namespace P
open Go.RowKit Mm
structure Stp where
 a:Int
 b:Int
 r:Int
deriving DecidableEq,Inhabited
def lq (x:Prt) (q:Int):Int:=(max 0 (q-x.allowance)+x.block-1) / x.block*x.block
def lqOk (x:Prt) (q:Int):Bool:=decide (0≤q)&&ok64 (lq x q)
def lqO (x:Prt) (q:Int):Option Int:=if lqOk x q=true then some (lq x q) else none
def gradS (q:Int):Int→List Tier→List Stp
 | _,[]=>[]
 | u,[t]=>if u<q then [⟨u,q,t.rate⟩] else []
 | u,t::s::ts=>(if u<min q t.upto then [⟨u,min q t.upto,t.rate⟩] else [])++gradS q t.upto (s::ts)
def volR (q:Int):List Tier→Int
 | []=>0
 | [t]=>t.rate
 | t::s::ts=>if q≤t.upto then t.rate else volR q (s::ts)
def volS (q:Int) (ts:List Tier):List Stp:=if 0<q then [⟨0,q,volR q ts⟩] else []
def stepsP (x:Prt) (q:Int):List Stp:=if x.kind=2 then volS q x.tiers else gradS q 0 x.tiers
def stW (s:Stp):Int:=s.r*(s.b-s.a)
def costS:List Stp→Int
 | []=>0
 | s::l=>stW s+costS l
def sumS:Int→List Stp→Option Int
 | s,[]=>some s
 | s,t::ts=>if (ok64 (stW t)&&ok64 (s+stW t))=true then sumS (s+stW t) ts else none
def microO (x:Prt) (q:Int):Option Int:=if lqOk x q=true then sumS 0 (stepsP x (lq x q)) else none
def chargeO (x:Prt) (q:Int):Option Int:=(microO x q).map fun m=>rnd m 1000000 x.mode
structure GoodT (x:Prt):Prop where
 allow:0≤x.allowance∧x.allowance≤1000000
 block:1≤x.block∧x.block≤1000000
 kind:x.kind=1∨x.kind=2
 mode:0≤x.mode∧x.mode≤3
 len:1≤x.tiers.length∧x.tiers.length≤8
 tiers:tiersB 0 x.tiers=true
 adjs:x.adjusts.length≤6
theorem inB_iff {n a b:Int} : inB n a b=true↔a≤n∧n≤b:=by unfold inB;rw [Bool.and_eq_true,decide_eq_true_eq,decide_eq_true_eq]
theorem tiersB_cons {u:Int} {t s:Tier} {ts:List Tier} (h:tiersB u (t::s::ts)=true):0≤t.rate∧t.rate≤1000000000000∧u<t.upto∧t.upto≤1000000∧tiersB t.upto (s::ts)=true:=by
 have h':(inB t.rate 0 1000000000000&&inB t.upto (u+1) 1000000&&tiersB t.upto (s::ts))=true:=h;rw [Bool.and_eq_true,Bool.and_eq_true,inB_iff,inB_iff] at h';exact ⟨h'.1.1.1,h'.1.1.2,by omega,h'.1.2.2,h'.2⟩
theorem tiersB_one {u:Int} {t:Tier} (h:tiersB u [t]=true):0≤t.rate∧t.rate≤1000000000000∧t.upto=0:=by
 have h':(inB t.rate 0 1000000000000&&decide (t.upto=0))=true:=h;rw [Bool.and_eq_true,inB_iff,decide_eq_true_eq] at h';exact ⟨h'.1.1,h'.1.2,h'.2⟩
theorem gradS_none:∀(ts:List Tier) (u q:Int),tiersB u ts=true→q≤u→gradS q u ts=[]
 | [],_,_,_,_=>rfl
 | [t],u,q,_,h=>by unfold gradS;rw [if_neg (by omega)]
 | t::s::ts,u,q,hB,h=>by
   obtain ⟨_,_,h1,_,h2⟩:=tiersB_cons hB;unfold gradS;rw [if_neg (by omega),gradS_none (s::ts) t.upto q h2 (by omega)];rfl
theorem volR_in:∀(ts:List Tier) (u q:Int),tiersB u ts=true→0≤volR q ts∧volR q ts≤1000000000000
 | [],_,_,_=>by unfold volR;omega
 | [t],_,_,h=>by have:=tiersB_one h;unfold volR;omega
 | t::s::ts,u,q,h=>by
   obtain ⟨h0,h1,_,_,h2⟩:=tiersB_cons h;unfold volR;split
   ·omega
   ·exact volR_in (s::ts) t.upto q h2
theorem gradS_pos:∀(ts:List Tier) (u q:Int),tiersB u ts=true→∀s∈gradS q u ts,u≤s.a∧s.a<s.b∧s.b≤q∧0≤s.r∧s.r≤1000000000000
 | [],_,_,_,s,hs=>by cases hs
 | [t],u,q,hB,s,hs=>by
   obtain ⟨h0,h1,_⟩:=tiersB_one hB;unfold gradS at hs;split at hs
   ·rw [List.mem_singleton] at hs;subst hs;exact ⟨Int.le_refl _,by assumption,Int.le_refl _,h0,h1⟩
   ·cases hs
 | t::y::ts,u,q,hB,s,hs=>by
   obtain ⟨h0,h1,h2,_,h3⟩:=tiersB_cons hB;unfold gradS at hs;rcases List.mem_append.1 hs with k|k
   ·split at k
    ·rw [List.mem_singleton] at k;subst k;exact ⟨Int.le_refl _,by assumption,by show min q t.upto≤q;omega,h0,h1⟩
    ·cases k
   ·have:=gradS_pos (y::ts) t.upto q h3 s k;omega
theorem stepsP_pos {x:Prt} (g:GoodT x) (q:Int):∀s∈stepsP x q,0≤s.a∧s.a<s.b∧s.b≤q∧0≤s.r∧s.r≤1000000000000:=by
 unfold stepsP;split
 ·unfold volS;split
  ·intro s hs;rw [List.mem_singleton] at hs;subst hs;have:=volR_in x.tiers 0 q g.tiers;exact ⟨Int.le_refl _,by assumption,Int.le_refl _,this.1,this.2⟩
  ·intro s hs;cases hs
 ·exact gradS_pos x.tiers 0 q g.tiers
theorem costS_pos:∀(l:List Stp),(∀s∈l,0≤stW s)→0≤costS l
 | [],_=>Int.le_refl _
 | s::l,h=>by
   have h1:=h s (List.mem_cons_self ..);have h2:=costS_pos l fun z hz=>h z (List.mem_cons_of_mem _ hz);show 0≤stW s+costS l
   omega
theorem stW_pos {s:Stp} (h:s.a<s.b) (hr:0≤s.r):0≤stW s:=Int.mul_nonneg hr (by omega)
theorem sumS_eq:∀(l:List Stp) (s:Int),0≤s→I64 s→(∀t∈l,0≤stW t)→sumS s l=if ok64 (s+costS l)=true then some (s+costS l) else none
 | [],s,_,hi,_=>by
   show some s=_
   rw [show s+costS []=s by show s+0=s;omega,if_pos (ok64_t hi)]
 | t::l,s,h0,hi,hp=>by
   have h1:=hp t (List.mem_cons_self ..);have h2:=costS_pos l fun z hz=>hp z (List.mem_cons_of_mem _ hz);have e:s+costS (t::l)=s+stW t+costS l:=by show s+(stW t+costS l)=_;omega
   unfold sumS;rw [e];by_cases k:I64 (s+stW t)
   ·have k2:I64 (stW t):=by unfold I64 at *;omega
    rw [ok64_t k,ok64_t k2,if_pos (show (true&&true)=true from rfl)];exact sumS_eq l (s+stW t) (by omega) k fun z hz=>hp z (List.mem_cons_of_mem _ hz)
   ·rw [ok64_f k,Bool.and_false,if_neg (by simp),ok64_f (by unfold I64 at *;omega),if_neg (by simp)]
def costP (x:Prt) (q:Int):Int:=costS (stepsP x (lq x q))
theorem stepsP_w {x:Prt} (g:GoodT x) (q:Int):∀s∈stepsP x q,0≤stW s:=fun s hs=>by
 have:=stepsP_pos g q s hs;exact stW_pos this.2.1 this.2.2.2.1
theorem costP_pos {x:Prt} (g:GoodT x) (q:Int):0≤costP x q:=costS_pos _ (stepsP_w g _)
theorem microO_eq {x:Prt} (g:GoodT x) (q:Int):microO x q=if (lqOk x q&&ok64 (costP x q))=true then some (costP x q) else none:=by
 unfold microO;rcases Bool.eq_false_or_eq_true (lqOk x q) with k|k
 ·rw [k,if_pos rfl,Bool.true_and,sumS_eq _ 0 (Int.le_refl _) (by unfold I64;omega) (stepsP_w g _),Int.zero_add];rfl
 ·rw [k,if_neg (by simp),Bool.false_and,if_neg (by simp)]
theorem lq_ge {x:Prt} (g:GoodT x) (q:Int):0≤lq x q:=by
 unfold lq;have:=g.block;exact Int.mul_nonneg (Int.ediv_nonneg (by omega) (by omega)) (by omega)
theorem lq_mono {x:Prt} (g:GoodT x) {a b:Int} (h:a≤b):lq x a≤lq x b:=by
 unfold lq;have:=g.block;exact Int.mul_le_mul_of_nonneg_right (Int.ediv_le_ediv (by omega) (by omega)) (by omega)
theorem gt_mode {x:Prt} (g:GoodT x):goodm x.mode=true:=(goodm_iff _).2 g.mode
theorem lq_zero {x:Prt} (g:GoodT x) {q:Int} (h:q≤x.allowance):lq x q=0:=by
 have gb:=g.block;unfold lq;rw [show max 0 (q-x.allowance)+x.block-1=x.block-1 by omega,Int.ediv_eq_zero_of_lt (by omega) (by omega),Int.zero_mul]
end P
end Go.Proofs.YtjgogpaedaffkaaGreat
