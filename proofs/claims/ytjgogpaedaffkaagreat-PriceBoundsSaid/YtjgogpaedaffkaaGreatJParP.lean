/- Days of the calendar as plain arithmetic: no program is named here. -/
import Derived.Test.YtjgogpaedaffkaaGreatJPureS
import Derived.Lib.ItoaNum
import Derived.Lib.Repeat
namespace Go.Proofs.YtjgogpaedaffkaaGreat
namespace Mm
end Mm
namespace P
open Go.RowKit
def leap (y:Int):Bool:=decide (y % 4=0∧(y % 100≠0∨y % 400=0))
def lp (y:Int):Int:=if leap y then 1 else 0
def days (y m:Int):Int:=
 if m<1∨12<m then 0 else if m=4∨m=6∨m=9∨m=11 then 30 else if m=2 then 28+lp y else 31
def good (y m d:Int):Bool:=decide (1≤y∧y≤9999∧1≤d∧d≤days y m)
def yrs (y:Int):Int:=365*(y-1)+(y-1) / 4-(y-1) / 100+(y-1) / 400
def mon (y m:Int):Int:=
 if m≤1 then 0 else if m=2 then 31 else lp y +
  (if m=3 then 59 else if m=4 then 90 else if m=5 then 120 else if m=6 then 151 else if m=7 then 181 else if m=8 then 212
   else if m=9 then 243 else if m=10 then 273 else if m=11 then 304 else if m=12 then 334 else 365)
def num (y m d:Int):Int:=yrs y+mon y m+d-1
theorem lp_is (y:Int):lp y=0∨lp y=1:=by unfold lp;split<;>simp
theorem lp_yes {y:Int} (h:leap y=true):lp y=1:=by unfold lp;rw [if_pos h]
theorem lp_no {y:Int} (h:leap y=false):lp y=0:=by unfold lp;rw [h];rfl
theorem yrs_step (y:Int):yrs (y+1)=yrs y+365+lp y:=by
 unfold yrs lp leap;simp only [decide_eq_true_eq];split<;>omega
theorem yrs_mono {a b:Int} (h:a≤b):yrs a≤yrs b:=by unfold yrs;omega
theorem yrs_1:yrs 1=0:=by unfold yrs;omega
theorem yrs_10000:yrs 10000=3652059:=by unfold yrs;omega
theorem yrs_guess {n:Int} (h0:0≤n):yrs (n / 366+1)≤n:=by unfold yrs;omega
theorem yrs_bound {y:Int} (h0:1≤y) (h1:y≤10001):0≤yrs y∧yrs y≤3652425:=by unfold yrs;omega
theorem mon_step {y m:Int} (h0:1≤m) (h1:m≤12):mon y (m+1)=mon y m+days y m:=by
 have hl:=lp_is y;unfold mon days;obtain rfl|rfl|rfl|rfl|rfl|rfl|rfl|rfl|rfl|rfl|rfl|rfl:m=1∨m=2∨m=3∨m=4∨m=5∨m=6∨m=7∨m=8∨m=9∨m=10∨m=11∨m=12:=by omega
 all_goals (simp<;>omega)
theorem mon_1 (y:Int):mon y 1=0:=by unfold mon;simp
theorem mon_13 (y:Int):mon y 13=365+lp y:=by unfold mon;simp;omega
theorem days_in {y m:Int} (h0:1≤m) (h1:m≤12):28≤days y m∧days y m≤31:=by
 have hl:=lp_is y;unfold days;split
 ·omega
 ·split
  ·omega
  ·split<;>omega
theorem days_out {y m:Int} (h:m<1∨12<m):days y m=0:=by unfold days;rw [if_pos h]
theorem days_bound (y m:Int):0≤days y m∧days y m≤31:=by
 by_cases h:m<1∨12<m
 ·rw [days_out h];omega
 ·have:=days_in (y:=y) (m:=m) (by omega) (by omega);omega
theorem mon_mono {y a:Int} (h0:1≤a):∀(k:Nat),a+k≤13→mon y a≤mon y (a+k)
 | 0,_=>by simp
 | k+1,h=>by
   have h1:=mon_mono (y:=y) h0 k (by omega);have h2:=mon_step (y:=y) (m:=a+k) (by omega) (by omega);have h3:=days_bound y (a+k);rw [show a+((k+1:Nat):Int)=a+k+1 by omega];omega
theorem mon_le {y a b:Int} (h0:1≤a) (h:a≤b) (h1:b≤13):mon y a≤mon y b:=by
 have:=mon_mono (y:=y) h0 (b-a).toNat (by omega)
 rwa [show a+((b-a).toNat:Int)=b by omega] at this
theorem mon_bound {y m:Int} (h0:1≤m) (h1:m≤13):0≤mon y m∧mon y m≤366:=by
 have a:=mon_le (y:=y) (a:=1) (b:=m) (by omega) h0 h1;have b:=mon_le (y:=y) (a:=m) (b:=13) h0 h1 (by omega);rw [mon_1] at a;rw [mon_13] at b;have:=lp_is y;omega
theorem good_iff {y m d:Int} : good y m d=true↔1≤y∧y≤9999∧1≤m∧m≤12∧1≤d∧d≤days y m:=by
 unfold good;rw [decide_eq_true_eq];constructor
 ·rintro ⟨a,b,c,e⟩;have:¬ (m<1∨12<m):=fun h=>by rw [days_out h] at e;omega
  omega
 ·rintro ⟨a,b,_,_,c,e⟩;exact ⟨a,b,c,e⟩
theorem num_in {y m d:Int} (h:good y m d=true):yrs y+mon y m≤num y m d∧num y m d<yrs y+mon y (m+1)∧yrs y≤num y m d∧num y m d<yrs (y+1):=by
 obtain ⟨_,_,h1,h2,h3,h4⟩:=good_iff.1 h;have a:=mon_step (y:=y) h1 h2;have b:=mon_bound (y:=y) h1 (by omega);have c:=mon_le (y:=y) (a:=m+1) (b:=13) (by omega) (by omega) (by omega);rw [mon_13] at c;rw [yrs_step];unfold num;omega
theorem num_bound {y m d:Int} (h:good y m d=true):0≤num y m d∧num y m d<3652059:=by
 obtain ⟨h0,h1,_⟩:=good_iff.1 h;have a:=num_in h;have b:=yrs_mono (a:=1) (b:=y) h0;have c:=yrs_mono (a:=y+1) (b:=10000) (by omega);rw [yrs_1] at b;rw [yrs_10000] at c;omega
def dch (k:Nat):UInt8:=UInt8.ofNat (48+k)
def isD (b:UInt8):Bool:=decide (48≤b.toNat∧b.toNat≤57)
theorem isD_lt {b:UInt8} (h:isD b=true):b.toNat-48<10:=by
 unfold isD at h;rw [decide_eq_true_eq] at h;omega
def val (l:List UInt8):Nat:=l.foldl (fun n b=>10*n+(b.toNat-48)) 0
def formed (l:List UInt8):Bool:=decide (l.length=10)&&(decide (l.getD 4 0=45)&&decide (l.getD 7 0=45))&&((l.take 4).all isD&&(((l.drop 5).take 2).all isD&&(l.drop 8).all isD))
def yearOf (l:List UInt8):Int:=val (l.take 4)
def monthOf (l:List UInt8):Int:=val ((l.drop 5).take 2)
def dayOf (l:List UInt8):Int:=val (l.drop 8)
def reads (l:List UInt8):Bool:=formed l&&good (yearOf l) (monthOf l) (dayOf l)
theorem ten {l:List UInt8} (h:l.length=10):∃a b c d e f g i j k,l=[a,b,c,d,e,f,g,i,j,k]:=by
 rcases l with _|⟨a,_|⟨b,_|⟨c,_|⟨d,_|⟨e,_|⟨f,_|⟨g,_|⟨i,_|⟨j,_|⟨k,_|⟨x,t⟩⟩⟩⟩⟩⟩⟩⟩⟩⟩⟩;all_goals simp at h
 exact ⟨a,b,c,d,e,f,g,i,j,k,rfl⟩
end P
namespace P
open Go.RowKit Mm
def dn (d:Day):Int:=num d.y d.m d.d
def meterIx (ms:List Meter) (name:ByteArray):Option Nat:=ms.findIdx? fun m=>m.name.data.toList==name.data.toList
def winIn (p:Plan) (w:Win):Bool:=!w.has||(decide (dn w.a≤dn w.b)&&decide (dn p.a≤dn w.a)&&decide (dn w.b≤dn p.b))
def risesB:Int→List Tier→Bool
 | _,[]=>true
 | _,[_]=>true
 | u,t::r=>decide (1≤t.upto)&&decide (u<t.upto)&&risesB t.upto r
def chE (p:Plan) (i:Nat) (c:Charge):Int:=
 if 8≤i then 6 else if meterIx p.meters c.meter=none∨winIn p c.win=false∨c.block=0 then 5 else if 8<c.tiers.length then 6 else if risesB 0 c.tiers=false then 5 else if 6<c.adjusts.length then 6 else 0
def maxBound:Int:=1152921504606846976
def qty (mx al bl:Int):Int:=if mx-al≤0 then 0 else (mx-al+bl-1) / bl*bl
def topRate (ts:List Tier):Int:=ts.foldl (fun r t=>max r t.rate) 0
def lim (n:Int) (ok:Bool):Option Int:=if ok=true∧n<maxBound then some n else none
def adjStep (n:Int) (a:Adj):Option Int:=
 if a.kind=1 then lim (mdn (n*a.num) 100000 1) (mdb (n*a.num) 100000 1) else if a.kind=2 then lim (if a.num<n then a.num else n) true
 else if a.kind=3 then lim (if n<a.num then a.num else n) true else if a.kind=4 then lim (cut64 (n+a.num)) (ok64 (n+a.num)) else lim n true
def adjAll:Int→List Adj→Option Int
 | n,[]=>some n
 | n,a::r=>(adjStep n a).bind fun m=>adjAll m r
def mostOf (c:Charge) (mx:Int):Option Int:=
 (lim (mdn (topRate c.tiers*qty mx c.allowance c.block) 1000000 1) (mdb (topRate c.tiers*qty mx c.allowance c.block) 1000000 1)).bind fun n=>adjAll n c.adjusts
def mosts (ms:List Meter):List Charge→Option (List Int)
 | []=>some []
 | c::r=>match meterIx ms c.meter with
   | none=>mosts ms r
   | some i=>(mostOf c (ms.getD i default).max).bind fun x=>(mosts ms r).map (x::·)
def sumUp:Int→List Int→Option Int
 | n,[]=>some n
 | n,x::r=>if maxBound≤x∨maxBound≤n+x then none else sumUp (n+x) r
def boundOf (p:Plan):Option Int:=(mosts p.meters p.charges).bind fun l=>sumUp 0 (p.fees.map (·.amount)++l)
def firstE {α:Type} (f:Nat→α→Int) (place:α→Int×Int):Nat→List α→Option (Int×Int×Int)
 | _,[]=>none
 | i,x::r=>if f i x=0 then firstE f place (i+1) r else some (f i x,(place x).1,(place x).2)
def meterE (p:Plan) (i:Nat) (m:Meter):Int:=if 4≤i then 6 else if meterIx p.meters m.name=some i then 0 else 5
def feeE (p:Plan) (i:Nat) (f:Fee):Int:=if 8≤i then 6 else if winIn p f.win=true then 0 else 5
def hzn (p:Plan):Int:=dn p.b-dn p.a+1
def headE (p:Plan):Int:=if hzn p<1 then 5 else if 4000<hzn p then 6 else 0
def wrongOf (p:Plan):Int×Int×Int:=
 if headE p=0 then
  match firstE (meterE p) (fun m=>(m.line,m.col)) 0 p.meters with
  | some e=>e
  | none=>match firstE (feeE p) (fun f=>(f.line,f.col)) 0 p.fees with
    | some e=>e
    | none=>match firstE (chE p) (fun c=>(c.line,c.col)) 0 p.charges with
      | some e=>e
      | none=>if boundOf p=none then (6,p.line,p.col) else (0,0,0)
 else (headE p,p.line,p.col)
theorem firstE_none {α:Type} {f:Nat→α→Int} {pl:α→Int×Int} : ∀{i:Nat} {l:List α},firstE f pl i l=none↔∀j x,l[j]?=some x→f (i+j) x=0
 | i,[]=>by simp [firstE]
 | i,x::r=>by
   unfold firstE;by_cases h:f i x=0
   ·rw [if_pos h,firstE_none];constructor
    ·intro g j y hj;cases j with
     | zero=>
       obtain rfl:x=y:=by simpa using hj
       exact h
     | succ j=>
       have:=g j y (by simpa using hj)
       rwa [show i+(j+1)=i+1+j by omega]
    ·intro g j y hj;have:=g (j+1) y (by simpa using hj)
     rwa [show i+(j+1)=i+1+j by omega] at this
   ·rw [if_neg h];constructor
    ·intro g;cases g
    ·intro g;exact absurd (g 0 x rfl) h
theorem wrongOf_zero {p:Plan} : (wrongOf p).1=0↔headE p=0∧firstE (meterE p) (fun m=>(m.line,m.col)) 0 p.meters=none∧firstE (feeE p) (fun f=>(f.line,f.col)) 0 p.fees=none∧firstE (chE p) (fun c=>(c.line,c.col)) 0 p.charges=none∧boundOf p≠none:=by
 have some_ne:∀{α:Type} {f:Nat→α→Int} {pl:α→Int×Int} {l:List α} {i:Nat} {e:Int×Int×Int},firstE f pl i l=some e→e.1≠0:=by
  intro α f pl l;induction l with
  | nil=>intro i e h;cases h
  | cons x r ih=>
    intro i e h;unfold firstE at h;by_cases hx:f i x=0
    ·rw [if_pos hx] at h;exact ih h
    ·rw [if_neg hx] at h;obtain rfl:=Option.some.inj h;exact hx
 unfold wrongOf;by_cases h0:headE p=0
 ·rw [if_pos h0];split
  ·rename_i e he
   have:=some_ne he;simp [he,this]
  ·rename_i he
   split
   ·rename_i e hf
    have:=some_ne hf;simp [hf,this]
   ·rename_i hf
    split
    ·rename_i e hc
     have:=some_ne hc;simp [hc,this]
    ·rename_i hc
     by_cases hb:boundOf p=none
     ·rw [if_pos hb];simp [hb]
     ·rw [if_neg hb];simp [h0,he,hf,hc,hb]
 ·rw [if_neg h0];simp [h0]
structure NoNeg (p:Plan):Prop where
 fees:∀f∈p.fees,0≤f.amount
 rates:∀c∈p.charges,∀t∈c.tiers,0≤t.rate
 adjs:∀c∈p.charges,∀a∈c.adjusts,0≤a.num
 blocks:∀c∈p.charges,0≤c.block
theorem topRate_nn (ts:List Tier):0≤topRate ts:=by
 have:∀(ts:List Tier) (r:Int),0≤r→0≤ts.foldl (fun r t=>max r t.rate) r:=by
  intro ts;induction ts with
  | nil=>intro r h;exact h
  | cons t q ih=>intro r h;exact ih _ (by show 0≤max r t.rate;omega)
 exact this ts 0 (Int.le_refl _)
theorem qty_nn {mx al bl:Int} (h:0≤bl):0≤qty mx al bl:=by
 unfold qty;split
 ·exact Int.le_refl _
 ·rename_i h1
  exact Int.mul_nonneg (Int.ediv_nonneg (by omega) h) h
theorem mdn_nn {p c:Int} (h:0≤p) (hc:0<c) (hb:mdb p c 1=true):0≤mdn p c 1:=by
 obtain ⟨_,_,_,e⟩:=mdb_true hb;rw [e];have:=(rnd_ge p c 1).1;have:=Int.ediv_nonneg h (by omega:0≤c);omega
theorem lim_some {n k:Int} {b:Bool} (h:lim n b=some k):b=true∧n<maxBound∧n=k:=by
 unfold lim at h;split at h
 ·rename_i g
  exact ⟨g.1,g.2,Option.some.inj h⟩
 ·cases h
theorem adjStep_nn {n k:Int} {a:Adj} (hn:0≤n) (ha:0≤a.num) (h:adjStep n a=some k):0≤k:=by
 unfold adjStep at h;split at h
 ·obtain ⟨b,_,rfl⟩:=lim_some h;exact mdn_nn (Int.mul_nonneg hn ha) (by decide) b
 ·split at h
  ·obtain ⟨_,_,rfl⟩:=lim_some h;split<;>omega
  ·split at h
   ·obtain ⟨_,_,rfl⟩:=lim_some h;split<;>omega
   ·split at h
    ·obtain ⟨b,_,rfl⟩:=lim_some h;rw [ok64_iff] at b;rw [cut64_t b];omega
    ·obtain ⟨_,_,rfl⟩:=lim_some h;exact hn
theorem adjAll_nn:∀{l:List Adj} {n k:Int},0≤n→(∀a∈l,0≤a.num)→adjAll n l=some k→0≤k
 | [],n,k,hn,_,e=>by
   unfold adjAll at e;obtain rfl:=Option.some.inj e;exact hn
 | a::r,n,k,hn,h,e=>by
   unfold adjAll at e;obtain ⟨m,hm,e2⟩:=Option.bind_eq_some_iff.1 e;exact adjAll_nn (adjStep_nn hn (h a (List.mem_cons_self ..)) hm) (fun b hb=>h b (List.mem_cons_of_mem _ hb)) e2
theorem mostOf_nn {c:Charge} {mx k:Int} (ha:∀a∈c.adjusts,0≤a.num) (hb:0≤c.block) (h:mostOf c mx=some k):0≤k:=by
 unfold mostOf at h;obtain ⟨n,hn,e⟩:=Option.bind_eq_some_iff.1 h;obtain ⟨b,_,rfl⟩:=lim_some hn;exact adjAll_nn (mdn_nn (Int.mul_nonneg (topRate_nn _) (qty_nn hb)) (by decide) b) ha e
end P
namespace P
open Go.RowKit
def isDg (b:UInt8):Bool:=decide (48≤b.toNat∧b.toNat≤57)
def isDp (b:UInt8):Bool:=isDg b||b==46
def oddHead (l:List UInt8):Bool:=l.getD 0 0==48&&(decide (1<l.length)&&!(l.getD 1 0==46))
def evenBody (l:List UInt8):Bool:=l.all isDp&&(decide (l.count 46≤1)&&!(l.getLast?==some 46))
def fm (l:List UInt8):Nat:=if isDg (l.getD 0 0)&&evenBody l&&!oddHead l then 1+l.count 46 else 0
theorem isDg_iff (b:UInt8):isDg b=true↔48≤b.toNat∧b.toNat≤57:=by unfold isDg;rw [decide_eq_true_eq]
theorem isDg_no46 {b:UInt8} (h:isDg b=true):b≠46:=by
 rintro rfl
 revert h
 decide
theorem fm_empty:fm []=0:=by decide
theorem fm_first {l:List UInt8} (h:isDg (l.getD 0 0)=false):fm l=0:=by unfold fm;rw [h];rfl
theorem fm_body {l:List UInt8} (h:evenBody l=false):fm l=0:=by unfold fm;rw [h];simp
theorem fm_head {l:List UInt8} (h:oddHead l=true):fm l=0:=by unfold fm;rw [h];simp
theorem fm_is {l:List UInt8} (h0:isDg (l.getD 0 0)=true) (h1:evenBody l=true) (h2:oddHead l=false):fm l=1+l.count 46:=by unfold fm;rw [h0,h1,h2];rfl
theorem take_snoc {l:List UInt8} {i:Nat} (h:i<l.length):l.take (i+1)=l.take i++[l.getD i 0]:=by
 rw [List.take_add_one,List.getElem?_eq_getElem h,List.getD_eq_getElem?_getD,List.getElem?_eq_getElem h];rfl
theorem mem_getD {l:List UInt8} {i:Nat} (h:i<l.length):l.getD i 0∈l:=by
 rw [List.getD_eq_getElem?_getD,List.getElem?_eq_getElem h];exact List.getElem_mem h
theorem last_getD {l:List UInt8} {i:Nat} (h:i+1=l.length):l.getLast?=some (l.getD i 0):=by
 rw [List.getLast?_eq_getElem?,show l.length-1=i by omega,List.getD_eq_getElem?_getD,List.getElem?_eq_getElem (by omega)];rfl
structure Seen (l:List UInt8) (i p:Nat):Prop where
 le:i≤l.length
 all:(l.take i).all isDp=true
 count:(l.take i).count 46=p
 one:p≤1
 last:i=l.length→(l.getLast?==some 46)=false
theorem Seen.start {l:List UInt8} (h:0<l.length):Seen l 0 0:=⟨Nat.zero_le _,rfl,rfl,Nat.zero_le _,fun e=>by omega⟩
theorem Seen.digit {l:List UInt8} {i p:Nat} (S:Seen l i p) (h:i<l.length) (hd:isDg (l.getD i 0)=true):Seen l (i+1) p:=by
 have hn:=isDg_no46 hd;refine ⟨h,?_,?_,S.one,fun e=>?_⟩
 ·rw [take_snoc h,List.all_append,S.all];generalize l.getD i 0=b at *;simp [isDp,hd]
 ·rw [take_snoc h,List.count_append,S.count,List.count_singleton];generalize l.getD i 0=b at *;simp [hn]
 ·rw [last_getD e];generalize l.getD i 0=b at *;simpa using hn
theorem Seen.point {l:List UInt8} {i p:Nat} (S:Seen l i p) (h:i<l.length) (hd:l.getD i 0=46) (hp:p=0) (hi:i+1≠l.length):Seen l (i+1) (p+1):=by
 refine ⟨h,?_,?_,by omega,fun e=>absurd e hi⟩
 ·rw [take_snoc h,List.all_append,S.all,hd];rfl
 ·rw [take_snoc h,List.count_append,S.count,hd];rfl
theorem Seen.done {l:List UInt8} {p:Nat} (S:Seen l l.length p):evenBody l=true∧l.count 46=p:=by
 have h1:=S.all;have h2:=S.count;rw [List.take_length] at h1 h2;refine ⟨?_,h2⟩;unfold evenBody;rw [h1,h2,S.last rfl,decide_eq_true S.one];rfl
theorem Seen.two {l:List UInt8} {i p:Nat} (S:Seen l i p) (h:i<l.length) (hd:l.getD i 0=46) (hp:p=1):evenBody l=false:=by
 have e:(l.take (i+1)).count 46=2:=by rw [take_snoc h,List.count_append,S.count,hd,hp];rfl
 have k:(l.take (i+1)).count 46≤l.count 46:=(List.take_sublist _ _).count_le _;unfold evenBody;rw [decide_eq_false (by omega)];simp
theorem ends_point {l:List UInt8} {i:Nat} (h:i+1=l.length) (hd:l.getD i 0=46):evenBody l=false:=by
 unfold evenBody;rw [last_getD h,hd];simp
theorem bad_letter {l:List UInt8} {i:Nat} (h:i<l.length) (hd:isDg (l.getD i 0)=false) (hp:l.getD i 0≠46):evenBody l=false:=by
 have e:l.all isDp=false:=by
  rw [Bool.eq_false_iff];intro k;rw [List.all_eq_true] at k;have:=k _ (mem_getD h);unfold isDp at this;rw [hd] at this;simp at this;exact hp this
 unfold evenBody;rw [e];rfl
def stB (l:List UInt8):Int:=l.foldl (fun b c=>if c=46 then 0 else if 0≤b then b+1 else b) (-1)
def stV (l:List UInt8):Nat:=l.foldl (fun v c=>if c=46 then v else 10*v+(c.toNat-48)) 0
theorem stB_snoc (l:List UInt8) (c:UInt8):stB (l++[c])=if c=46 then 0 else if 0≤stB l then stB l+1 else stB l:=by
 unfold stB;rw [List.foldl_append];rfl
theorem stV_snoc (l:List UInt8) (c:UInt8):stV (l++[c])=if c=46 then stV l else 10*stV l+(c.toNat-48):=by
 unfold stV;rw [List.foldl_append];rfl
theorem acc_step {v d:Int} (hv:0≤v) (hd:0≤d):(ok64 v&&ok64 (cut64 v*10+d))=ok64 (v*10+d)∧(if (ok64 v&&ok64 (cut64 v*10+d))=true then cut64 v*10+d else 0)=cut64 (v*10+d):=by
 by_cases h:I64 v
 ·rw [cut64_t h,ok64_t h,Bool.true_and];exact ⟨rfl,rfl⟩
 ·have h2:¬ I64 (v*10+d):=by unfold I64 at *;omega
  rw [ok64_f h,ok64_f h2,cut64_f h2];exact ⟨rfl,rfl⟩
def pK (l:List UInt8) (places:Int):Nat:=(places-max (stB l) 0).toNat
def pV (l:List UInt8) (places:Int):Int:=(stV l:Int)*10 ^ pK l places
def pBad (l:List UInt8) (places:Int):Bool:=decide (fm l=0∨places<0∨9<places∨places<stB l)
def pGreat (l:List UInt8) (places most:Int):Bool:=!ok64 (pV l places)||decide (most<pV l places)
def pN (l:List UInt8) (places most:Int):Int:=if pBad l places||pGreat l places most then 0 else pV l places
def pW (l:List UInt8) (places most:Int):Int:=if pBad l places then 1 else if pGreat l places most then 2 else 0
theorem fm_all {l:List UInt8} (h:fm l≠0):l.all isDp=true:=by
 cases k:l.all isDp
 ·exact absurd (fm_body (by unfold evenBody;rw [k];rfl)) h
 ·rfl
theorem dp_or {l:List UInt8} (h:l.all isDp=true) {i:Nat} (hi:i<l.length):l.getD i 0=46∨isDg (l.getD i 0)=true:=by
 rw [List.all_eq_true] at h;have:=h _ (mem_getD hi);unfold isDp at this;simp only [Bool.or_eq_true,beq_iff_eq] at this;exact this.symm
def isLt (b:UInt8):Bool:=decide (b.toNat=95∨b.toNat=46∨b.toNat=45∨(48≤b.toNat∧b.toNat≤57)∨(97≤b.toNat∧b.toNat≤122)∨(65≤b.toNat∧b.toNat≤90))
def ltI (x:Int):Bool:=decide (x=95∨x=46∨x=45∨(48≤x∧x≤57)∨(97≤x∧x≤122)∨(65≤x∧x≤90))
theorem ltI_of (b:UInt8):ltI ((b.toNat:Nat):Int)=isLt b:=by unfold ltI isLt;rw [decide_eq_decide];omega
def words:List (List UInt8):=[[112,108,97,110],[99,117,114,114,101,110,99,121],[104,111,114,105,122,111,110],[109,101,116,101,114],[117,110,105,116],[109,97,120],[102,101,101],
 [99,104,97,114,103,101],[102,114,111,109],[116,111],[97,108,108,111,119,97,110,99,101],[98,108,111,99,107],[103,114,97,100,117,97,116,101,100],[118,111,108,117,109,101],[117,112,116,111],
 [114,97,116,101],[114,101,115,116],[114,111,117,110,100],[102,108,111,111,114],[99,101,105,108],[104,97,108,102,117,112],[104,97,108,102,101,118,101,110],[112,101,114,99,101,110,116],[99,97,112],
 [109,105,110,105,109,117,109],[97,100,100]]
def plain (l:List UInt8):Bool:=l.all fun c=>!(c==46)&&!(c==45)
def kd (l:List UInt8):Nat:=
 if l=[123]∨l=[125]∨l=[59] then 5
 else if l=[]∨l.all isLt=false then 0
 else if words.contains l then 2
 else if plain l&&!isDg (l.getD 0 0) then 1
 else if fm l≠0 then 3
 else if reads l then 4
 else 0
structure Tok where
 k:Nat
 t:List UInt8
 ln:Nat
 cl:Nat
deriving DecidableEq
def isGap (c:UInt8):Bool:=c==32||c==9||c==10||c==13
def skips (c:UInt8):Bool:=c==35||isGap c
def run (p:UInt8→Bool):List UInt8→Nat
 | []=>0
 | c::r=>if p c then run p r+1 else 0
theorem run_le (p:UInt8→Bool) (l:List UInt8):run p l≤l.length:=by
 induction l with
 | nil=>exact Nat.le_refl _
 | cons c r ih=>unfold run;split<;>simp<;>omega
theorem run_eq (p:UInt8→Bool) (l:List UInt8) (n:Nat) (hn:n≤l.length) (h1:∀j,j<n→p (l.getD j 0)=true) (h2:n<l.length→p (l.getD n 0)=false):run p l=n:=by
 induction l generalizing n with
 | nil=>simp at hn;simp [run,hn]
 | cons c r ih=>
   unfold run;cases n with
   | zero=>
     have:=h2 (by simp);rw [if_neg (by simpa using this)]
   | succ n=>
     have:=h1 0 (by omega);rw [if_pos (by simpa using this),ih n (by simpa using hn) (fun j hj=>by simpa using h1 (j+1) (by omega)) (fun h=>by simpa using h2 (by simpa using h))]
def piece:List UInt8→Nat
 | []=>0
 | c::r=>if c==35 then run (fun x=>!(x==10)) r+1 else if isGap c then 1 else if isLt c then run isLt r+1 else 1
theorem piece_cons (c:UInt8) (r:List UInt8):piece (c::r)=if c==35 then run (fun x=>!(x==10)) r+1 else if isGap c then 1 else if isLt c then run isLt r+1 else 1:=rfl
theorem piece_pos (c:UInt8) (r:List UInt8):0<piece (c::r):=by rw [piece_cons];repeat' split
                                                              all_goals omega
theorem piece_le (l:List UInt8):piece l≤l.length:=by
 cases l with
 | nil=>exact Nat.le_refl _
 | cons c r=>
   have h1:=run_le (fun x=>!(x==10)) r;have h2:=run_le isLt r;rw [piece_cons,List.length_cons]
   repeat' split
   all_goals omega
def lx:Nat→List UInt8→Nat→Nat→List Tok×Option (Nat×Nat)
 | 0,_,ln,cl=>([⟨0,[],ln,cl⟩],none)
 | _+1,[],ln,cl=>([⟨0,[],ln,cl⟩],none)
 | n+1,c::r,ln,cl=>
   if skips c then lx n ((c::r).drop (piece (c::r))) (if c==10 then ln+1 else ln) (if c==10 then 1 else cl+piece (c::r))
   else if kd ((c::r).take (piece (c::r)))=0 then ([],some (ln,cl))
   else (⟨kd ((c::r).take (piece (c::r))),(c::r).take (piece (c::r)),ln,cl⟩::(lx n ((c::r).drop (piece (c::r))) ln (cl+piece (c::r))).1,(lx n ((c::r).drop (piece (c::r))) ln (cl+piece (c::r))).2)
theorem lx_fuel (n m:Nat) (l:List UInt8) (ln cl:Nat) (hn:l.length≤n) (hm:l.length≤m):lx n l ln cl=lx m l ln cl:=by
 induction n generalizing m l ln cl with
 | zero=>
   obtain rfl:l=[]:=List.eq_nil_of_length_eq_zero (by omega);cases m<;>rfl
 | succ n ih=>
   cases l with
   | nil=>cases m<;>rfl
   | cons c r=>
     cases m with
     | zero=>simp at hm
     | succ m=>
       have hp:=piece_pos c r;have hd:((c::r).drop (piece (c::r))).length≤r.length:=by rw [List.length_drop,List.length_cons];omega
       simp only [List.length_cons] at hn hm;unfold lx;have e:=fun ln cl=>ih m ((c::r).drop (piece (c::r))) ln cl (by omega) (by omega);rw [e,e]
def lex (l:List UInt8) (ln cl:Nat):List Tok×Option (Nat×Nat):=lx l.length l ln cl
theorem lex_nil (ln cl:Nat):lex [] ln cl=([⟨0,[],ln,cl⟩],none):=rfl
theorem lex_skip {c:UInt8} {r:List UInt8} (h:skips c=true) (ln cl:Nat) :
  lex (c::r) ln cl=lex ((c::r).drop (piece (c::r))) (if c==10 then ln+1 else ln) (if c==10 then 1 else cl+piece (c::r)):=by
 have hp:=piece_pos c r;show lx (r.length+1) (c::r) ln cl=_
 unfold lx;rw [if_pos h];exact lx_fuel _ _ _ _ _ (by rw [List.length_drop,List.length_cons];omega) (Nat.le_refl _)
theorem lex_bad {c:UInt8} {r:List UInt8} (h:skips c=false) (hk:kd ((c::r).take (piece (c::r)))=0) (ln cl:Nat):lex (c::r) ln cl=([],some (ln,cl)):=by
 show lx (r.length+1) (c::r) ln cl=_
 unfold lx;rw [if_neg (by rw [h];decide),if_pos hk]
theorem lex_tok {c:UInt8} {r:List UInt8} (h:skips c=false) (hk:kd ((c::r).take (piece (c::r)))≠0) (ln cl:Nat) :
  lex (c::r) ln cl=(⟨kd ((c::r).take (piece (c::r))),(c::r).take (piece (c::r)),ln,cl⟩::(lex ((c::r).drop (piece (c::r))) ln (cl+piece (c::r))).1,(lex ((c::r).drop (piece (c::r))) ln (cl+piece (c::r))).2):=by
 have hp:=piece_pos c r;show lx (r.length+1) (c::r) ln cl=_
 unfold lx;rw [if_neg (by rw [h];decide),if_neg hk];rw [show lx r.length ((c::r).drop (piece (c::r))) ln (cl+piece (c::r))=lex ((c::r).drop (piece (c::r))) ln (cl+piece (c::r)) from lx_fuel _ _ _ _ _ (by rw [List.length_drop,List.length_cons];omega) (Nat.le_refl _)]
def lexed (l:List UInt8):List Tok×Nat×Nat×Nat:=
 if 8192<l.length then ([],6,1,1) else
  match (lex l 1 1).2 with
  | none=>((lex l 1 1).1,0,0,0)
  | some (a,b)=>([],3,a,b)
theorem lx_count (n:Nat) (l:List UInt8) (ln cl:Nat) (hn:l.length≤n):(lx n l ln cl).1.length≤l.length+1:=by
 induction n generalizing l ln cl with
 | zero=>simp [lx]
 | succ n ih=>
   cases l with
   | nil=>simp [lx]
   | cons c r=>
     have hp:=piece_pos c r;have hd:((c::r).drop (piece (c::r))).length≤r.length:=by rw [List.length_drop,List.length_cons];omega
     simp only [List.length_cons] at hn;unfold lx;have e:=fun ln cl=>ih ((c::r).drop (piece (c::r))) ln cl (by omega);split
     ·refine Nat.le_trans (e _ _) ?_;simp only [List.length_cons];omega
     ·split
      ·simp
      ·have:=e ln (cl+piece (c::r));simp only [List.length_cons];omega
theorem lex_count (l:List UInt8) (ln cl:Nat):(lex l ln cl).1.length≤l.length+1:=lx_count _ _ _ _ (Nat.le_refl _)
end P
namespace P
open Go.RowKit Mm
structure St where
 i:Nat
 err:Int
 ln:Int
 cl:Int
def nil0:Tok:=⟨0,[],0,0⟩
def tk (ts:List Tok) (s:St):Tok:=ts.getD s.i nil0
def St.next (s:St):St:={ s with i:=s.i+1 }
def wrg (ts:List Tok) (s:St) (e:Int):St:=if s.err=0 then { s with err:=e,ln:=(tk ts s).ln,cl:=(tk ts s).cl } else s
def onW (ts:List Tok) (s:St) (l:List UInt8):Bool:=decide (s.err=0)&&((decide ((tk ts s).k=2)||decide ((tk ts s).k=5))&&((tk ts s).t==l))
def tke (ts:List Tok) (s:St) (l:List UInt8):Bool×St:=if onW ts s l then (true,s.next) else (false,s)
def wnt (ts:List Tok) (s:St) (l:List UInt8):St:=if onW ts s l then s.next else wrg ts s 4
def isTk (ts:List Tok) (s:St) (k:Nat):Bool:=decide (s.err=0)&&decide ((tk ts s).k=k)
def tkn (ts:List Tok) (s:St) (k:Nat):List UInt8×St:=if isTk ts s k then ((tk ts s).t,s.next) else ([],wrg ts s 4)
def bad (ts:List Tok) (s:St) (v:Int):St:=if v=1 then wrg ts s 4 else if v=2 then wrg ts s 6 else s
def numS (ts:List Tok) (s:St) (places most:Int):Int×St:=
 if isTk ts s 3 then (pN (tk ts s).t places most,(bad ts s (pW (tk ts s).t places most)).next) else (0,wrg ts s 4)
def dayOf' (l:List UInt8):Day:=if reads l then ⟨yearOf l,monthOf l,dayOf l⟩ else ⟨0,0,0⟩
def dayS (ts:List Tok) (s:St):Day×St:=(dayOf' (tkn ts s 4).1,(tkn ts s 4).2)
def wFrom:List UInt8:=[102,114,111,109]
def wTo:List UInt8:=[116,111]
def winS (ts:List Tok) (s:St):Win×St:=
 if onW ts s wFrom then
  let a:=dayS ts s.next;let b:=dayS ts (wnt ts a.2 wTo)
  (⟨true,a.1,b.1⟩,b.2)
 else (⟨false,⟨0,0,0⟩,⟨0,0,0⟩⟩,s)
def oneAt (ts:List Tok) (s:St):List (List UInt8)→Int→Int×St
 | [],_=>(-1,s)
 | w::r,k=>if onW ts s w then (k,s.next) else oneAt ts s r (k+1)
def oneS (ts:List Tok) (s:St) (ws:List (List UInt8)):Int×St:=oneAt ts s ws 0
def modes:List (List UInt8):=[[102,108,111,111,114],[99,101,105,108],[104,97,108,102,117,112],[104,97,108,102,101,118,101,110]]
def modeS (ts:List Tok) (s:St):Int×St:=if (oneS ts s modes).1<0 then (0,wrg ts (oneS ts s modes).2 4) else oneS ts s modes
structure Toks (ts:List Tok):Prop where
 last:∀i t,ts[i]?=some t→i+1=ts.length→t.k=0
 pos:0<ts.length
structure Ok (ts:List Tok) (s:St):Prop where
 toks:Toks ts
 lt:s.i<ts.length
theorem Ok.at {ts:List Tok} {s:St} (h:Ok ts s):ts[s.i]?=some (tk ts s):=by
 unfold tk;rw [List.getElem?_eq_getElem h.lt,List.getD_eq_getElem?_getD,List.getElem?_eq_getElem h.lt];rfl
theorem Ok.next {ts:List Tok} {s:St} (h:Ok ts s) (hk:(tk ts s).k≠0):Ok ts s.next:=by
 refine ⟨h.toks,?_⟩;show s.i+1<ts.length
 have:=h.lt;rcases Nat.lt_or_ge (s.i+1) ts.length with h1|h1
 ·exact h1
 ·exact absurd (h.toks.last s.i _ h.at (by omega)) hk
theorem Ok.wrg {ts:List Tok} {s:St} (h:Ok ts s) (e:Int):Ok ts (wrg ts s e):=by
 unfold P.wrg;split
 ·exact ⟨h.toks,h.lt⟩
 ·exact h
theorem wrg_i (ts:List Tok) (s:St) (e:Int):(wrg ts s e).i=s.i:=by unfold wrg;split<;>rfl
theorem onW_k {ts:List Tok} {s:St} {l:List UInt8} (h:onW ts s l=true):(tk ts s).k≠0:=by
 unfold onW at h;simp only [Bool.and_eq_true,Bool.or_eq_true,decide_eq_true_eq] at h;omega
theorem isTk_k {ts:List Tok} {s:St} {k:Nat} (h:isTk ts s k=true) (hk:k≠0):(tk ts s).k≠0:=by
 unfold isTk at h;simp only [Bool.and_eq_true,decide_eq_true_eq] at h;omega
theorem Ok.wnt {ts:List Tok} {s:St} (h:Ok ts s) (l:List UInt8):Ok ts (wnt ts s l):=by
 unfold P.wnt;split
 ·rename_i ho;exact h.next (onW_k ho)
 ·exact h.wrg 4
theorem Ok.tkn {ts:List Tok} {s:St} (h:Ok ts s) {k:Nat} (hk:k≠0):Ok ts (tkn ts s k).2:=by
 unfold P.tkn;split
 ·rename_i ho;exact h.next (isTk_k ho hk)
 ·exact h.wrg 4
theorem Ok.numS {ts:List Tok} {s:St} (h:Ok ts s) (places most:Int):Ok ts (numS ts s places most).2:=by
 unfold P.numS;split
 ·rename_i ho
  have hn:=(h.next (isTk_k ho (by decide))).lt;refine ⟨h.toks,?_⟩
  have e:(bad ts s (pW (tk ts s).t places most)).i=s.i:=by
   unfold bad
   repeat' split
   ·exact wrg_i ..
   ·exact wrg_i ..
   ·rfl
  show (bad ts s _).i+1<_
  rw [e];exact hn
 ·exact h.wrg 4
theorem Ok.dayS {ts:List Tok} {s:St} (h:Ok ts s):Ok ts (dayS ts s).2:=h.tkn (by decide)
theorem Ok.winS {ts:List Tok} {s:St} (h:Ok ts s):Ok ts (winS ts s).2:=by
 unfold P.winS;split
 ·rename_i ho;exact (((h.next (onW_k ho)).dayS).wnt _).dayS
 ·exact h
theorem Ok.oneAt {ts:List Tok} {s:St} (h:Ok ts s):∀(ws:List (List UInt8)) (k:Int),Ok ts (oneAt ts s ws k).2
 | [],_=>h
 | w::r,k=>by
   unfold P.oneAt;split
   ·rename_i ho;exact h.next (onW_k ho)
   ·exact Ok.oneAt h r (k+1)
theorem Ok.oneS {ts:List Tok} {s:St} (h:Ok ts s) (ws:List (List UInt8)):Ok ts (oneS ts s ws).2:=h.oneAt ws 0
theorem Ok.modeS {ts:List Tok} {s:St} (h:Ok ts s):Ok ts (modeS ts s).2:=by
 unfold P.modeS;split
 ·exact (h.oneS _).wrg 4
 ·exact h.oneS _
end P
end Go.Proofs.YtjgogpaedaffkaaGreat
