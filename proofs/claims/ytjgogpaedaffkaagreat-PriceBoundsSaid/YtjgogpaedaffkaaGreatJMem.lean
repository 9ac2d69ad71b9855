/- What a basket costs on a day (layer 13), as plain data. No program is named here. -/
import Derived.Test.YtjgogpaedaffkaaGreatJPureL
namespace Go.Proofs.YtjgogpaedaffkaaGreat
namespace Mm
end Mm
namespace P
end P
namespace Md
end Md
namespace R6
end R6
namespace Te
end Te
namespace Co
end Co
namespace R10
end R10
namespace R11
end R11
namespace P
open Go.RowKit Mm
def partO (x:Prt) (q:Int):Option Int:=match chargeO x q with
 | some n=>adjsO n x.adjusts
 | none=>none
def onB (a b d:Int):Bool:=decide (a≤d)&&decide (d≤b)
def qAt (bk:List Int) (i:Int):Int:=bk.getD i.toNat 0
def sumsL (d:Int):List Mm.Sm→List Int
 | []=>[]
 | s::r=>if onB s.a s.b d=true then s.amt::sumsL d r else sumsL d r
def partsO (d:Int) (bk:List Int):List Prt→Option (List Int)
 | []=>some []
 | x::r=>if onB x.a x.b d=true then (match partO x (qAt bk x.mt) with
    | some n=>(partsO d bk r).map (n::·)
    | none=>none) else partsO d bk r
def costO (c:Cor) (d:Int) (bk:List Int):Option Int:=match partsO d bk c.parts with
 | some l=>if (sumTo 0 (sumsL d c.sums++l)).2=true then some (sumTo 0 (sumsL d c.sums++l)).1 else none
 | none=>none
def inBk:List Meter→List Int→Bool
 | [],[]=>true
 | m::ms,q::qs=>decide (0≤q)&&decide (q≤m.max)&&inBk ms qs
 | _,_=>false
def priceV (c:Cor) (d:Int) (bk:List Int):Int×Int:=
 if goodC c=true then (if (onB c.a c.b d&&inBk c.meters bk)=true then (match costO c d bk with
  | some n=>(n,0)
  | none=>(0,2)) else (0,8)) else (0,1)
theorem inBk_len:∀(ms:List Meter) (bk:List Int),inBk ms bk=true→bk.length=ms.length
 | [],[],_=>rfl
 | m::ms,q::qs,h=>by
   unfold inBk at h;rw [Bool.and_eq_true] at h;rw [List.length_cons,List.length_cons,inBk_len ms qs h.2]
 | [],_::_,h=>by cases h
 | _::_,[],h=>by cases h
def vP (x:Prt) (q:Int):Int:=(partO x q).getD 0
def costR (d:Int) (bk:List Int):List Prt→Int
 | []=>0
 | x::r=>(if onB x.a x.b d=true then vP x (qAt bk x.mt) else 0)+costR d bk r
theorem sumTo_sum:∀(l:List Int) (t:Int),(sumTo t l).2=true→(sumTo t l).1=t+l.sum
 | [],t,_=>by show t=t+0;omega
 | x::r,t,h=>by
   unfold sumTo at h ⊢;split at h
   ·rename_i k
    rw [if_pos k,sumTo_sum r (t+x) h,List.sum_cons];omega
   ·cases h
theorem partsO_sum (d:Int) (bk:List Int):∀(l:List Prt) (r:List Int),partsO d bk l=some r→r.sum=costR d bk l
 | [],r,h=>by
   have h:some []=some r:=h;obtain rfl:=Option.some.inj h;rfl
 | x::l,r,h=>by
   unfold partsO at h;unfold costR;split at h
   ·rename_i k
    rw [if_pos k];cases e:partO x (qAt bk x.mt) with
    | none=>rw [e] at h;cases h
    | some n=>
      rw [e] at h;cases e2:partsO d bk l with
      | none=>rw [e2] at h;cases h
      | some r2=>
        rw [e2] at h;have h:some (n::r2)=some r:=h;obtain rfl:=Option.some.inj h;rw [List.sum_cons,partsO_sum d bk l r2 e2];unfold vP;rw [e];rfl
   ·rename_i k
    rw [if_neg k,partsO_sum d bk l r h];omega
theorem costO_sum {c:Cor} {d:Int} {bk:List Int} {n:Int} (h:costO c d bk=some n):n=(sumsL d c.sums).sum+costR d bk c.parts:=by
 unfold costO at h;cases e:partsO d bk c.parts with
 | none=>rw [e] at h;cases h
 | some l=>
   rw [e] at h;have h:(if (sumTo 0 (sumsL d c.sums++l)).2=true then some (sumTo 0 (sumsL d c.sums++l)).1 else none)=some n:=h;split at h
   ·rename_i k
    obtain rfl:=Option.some.inj h;rw [sumTo_sum _ 0 k,List.sum_append,partsO_sum d bk c.parts l e];omega
   ·cases h
def sumR (f:Nat→Int):Nat→Int
 | 0=>0
 | n+1=>sumR f n+f n
theorem sumR_add (f g:Nat→Int):∀n,sumR (fun i=>f i+g i) n=sumR f n+sumR g n
 | 0=>rfl
 | n+1=>by
   show sumR (fun i=>f i+g i) n+(f n+g n)=sumR f n+f n+(sumR g n+g n)
   rw [sumR_add f g n];omega
theorem sumR_one (m:Nat) (a:Int):∀n,sumR (fun i=>if i=m then a else 0) n=if m<n then a else 0
 | 0=>by rw [if_neg (by omega)];rfl
 | n+1=>by
   show sumR (fun i=>if i=m then a else 0) n+(if n=m then a else 0)=_
   rw [sumR_one m a n];by_cases h:n=m
   ·rw [if_neg (by omega),if_pos h,if_pos (by omega)];omega
   ·rw [if_neg h];by_cases k:m<n
    ·rw [if_pos k,if_pos (by omega)];omega
    ·rw [if_neg k,if_neg (by omega)];omega
theorem sumR_congr {f g:Nat→Int} : ∀n,(∀i,i<n→f i=g i)→sumR f n=sumR g n
 | 0,_=>rfl
 | n+1,h=>by
   show sumR f n+f n=sumR g n+g n
   rw [sumR_congr n fun i hi=>h i (by omega),h n (by omega)]
def zeros (n:Nat):List Int:=List.replicate n 0
def onlyAt (bk:List Int) (i:Nat):List Int:=(zeros bk.length).set i (bk.getD i 0)
theorem qAt_zeros (n:Nat) (m:Int):qAt (zeros n) m=0:=by
 unfold qAt zeros;rw [List.getD_eq_getElem?_getD,List.getElem?_replicate];split<;>rfl
theorem qAt_one {bk:List Int} {i:Nat} {m:Int} (hl:m.toNat<bk.length):qAt (onlyAt bk i) m=if i=m.toNat then qAt bk m else 0:=by
 unfold qAt onlyAt zeros;rw [List.getD_eq_getElem?_getD,List.getElem?_set];by_cases h:i=m.toNat
 ·rw [if_pos h,if_pos h,h,if_pos (by rw [List.length_replicate];exact hl)];rfl
 ·rw [if_neg h,if_neg h,List.getElem?_replicate];split<;>rfl
theorem apartR (d:Int) (bk:List Int):∀(l:List Prt),(∀x∈l,0≤x.mt∧x.mt.toNat<bk.length)→
  sumR (fun i=>costR d (onlyAt bk i) l-costR d (zeros bk.length) l) bk.length=costR d bk l-costR d (zeros bk.length) l
 | [],_=>by
   have:∀n,sumR (fun _=>(0:Int)-0) n=0:=fun n=>by
    induction n with
    | zero=>rfl
    | succ n ih=>show sumR _ n+(0-0)=0;rw [ih];rfl
   exact this _
 | x::r,h=>by
   obtain ⟨_,h2⟩:=h x (List.mem_cons_self ..);have ih:=apartR d bk r fun z hz=>h z (List.mem_cons_of_mem _ hz)
   have e:∀i,costR d (onlyAt bk i) (x::r)-costR d (zeros bk.length) (x::r)=(if i=x.mt.toNat then (if onB x.a x.b d=true then vP x (qAt bk x.mt)-vP x 0 else 0) else 0)+(costR d (onlyAt bk i) r-costR d (zeros bk.length) r):=fun i=>by
    show (if onB x.a x.b d=true then vP x (qAt (onlyAt bk i) x.mt) else 0)+costR d (onlyAt bk i) r-((if onB x.a x.b d=true then vP x (qAt (zeros bk.length) x.mt) else 0)+costR d (zeros bk.length) r)=_
    rw [qAt_zeros,qAt_one h2];by_cases k:onB x.a x.b d=true
    ·rw [if_pos k,if_pos k,if_pos k];by_cases j:i=x.mt.toNat
     ·rw [if_pos j,if_pos j];omega
     ·rw [if_neg j,if_neg j];omega
    ·rw [if_neg k,if_neg k,if_neg k];split<;>omega
   rw [sumR_congr _ fun i _=>e i,sumR_add,sumR_one,if_pos h2,ih];show _=(if onB x.a x.b d=true then vP x (qAt bk x.mt) else 0)+costR d bk r-((if onB x.a x.b d=true then vP x (qAt (zeros bk.length) x.mt) else 0)+costR d (zeros bk.length) r)
   rw [qAt_zeros];split<;>omega
theorem apart {c:Cor} {d:Int} {bk:List Int} {all none':Int} {n:Nat→Int} (hp:∀x∈c.parts,0≤x.mt∧x.mt.toNat<bk.length) (h1:costO c d bk=some all) (h2:costO c d (zeros bk.length)=some none')
  (h3:∀i,i<bk.length→costO c d (onlyAt bk i)=some (n i)):none'+sumR (fun i=>n i-none') bk.length=all:=by
 have e1:=costO_sum h1;have e2:=costO_sum h2
 have e3:∀i,i<bk.length→n i-none'=costR d (onlyAt bk i) c.parts-costR d (zeros bk.length) c.parts:=fun i hi=>by
  have:=costO_sum (h3 i hi);omega
 rw [sumR_congr _ e3,apartR d bk c.parts hp];omega
end P
namespace R13
open Go.RowKit Go.Sort P Mm Md R6 Te Co R10 R11
theorem chargeO_i {x:Prt} (g:GoodT x) {q n:Int} (h:chargeO x q=some n):I64 n:=by
 unfold chargeO at h;cases e:microO x q with
 | none=>rw [e] at h;cases h
 | some m=>
   rw [e] at h;have h:some (rnd m 1000000 x.mode)=some n:=h;obtain rfl:=Option.some.inj h;exact (div_ok (microO_i e) (gt_mode g)).2.2
end R13
namespace P
open Go.RowKit
structure Lies3 (w:World) (k:Nat) (a b c:Value):Prop where
 lt:k<w.heap.size
 c0:w.cell? ⟨k,0,none⟩=some a
 c1:w.cell? ⟨k,1,none⟩=some b
 c2:w.cell? ⟨k,2,none⟩=some c
 f0:w.frozen? ⟨k,0,none⟩=false
 f1:w.frozen? ⟨k,1,none⟩=false
 f2:w.frozen? ⟨k,2,none⟩=false
theorem Lies3.on {w W:World} {k:Nat} {a b c:Value} (h:Lies3 w k a b c) (hb:Below w.heap.size w W):Lies3 W k a b c:=by
 obtain ⟨h1,h2,h3,h4,h5,h6,h7⟩:=h
 exact ⟨Nat.lt_of_lt_of_le h1 hb.size,by rw [hb.cell h1];exact h2,by rw [hb.cell h1];exact h3,by rw [hb.cell h1];exact h4,
  by rw [hb.frozen h1];exact h5,by rw [hb.frozen h1];exact h6,by rw [hb.frozen h1];exact h7⟩
theorem Lies3.new {w:World} {k:Nat} {a b c:Value} {t:TypeId} (hk:w.heap.size=k):Lies3 (w.alloc (.cells #[a,b,c] t)) k a b c:=by
 subst hk;refine ⟨by simp,?_,?_,?_,?_,?_,?_⟩<;>go_simp
theorem Lies3.later {w w2:World} {k:Nat} {a b c:Value} {t:TypeId} (hb:Below (w.alloc (.cells #[a,b,c] t)).heap.size (w.alloc (.cells #[a,b,c] t)) w2) (hk:w.heap.size=k):Lies3 w2 k a b c:=(Lies3.new hk).on hb
theorem Lies3.alloc {w:World} {k:Nat} {a b c:Value} (h:Lies3 w k a b c) (o:Obj):Lies3 (w.alloc o) k a b c:=h.on ((Below.refl _ _).alloc (Nat.le_refl _) _)
end P
end Go.Proofs.YtjgogpaedaffkaaGreat
