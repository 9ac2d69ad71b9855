/- A plan while a parser makes it: its block, its result's, and its rows, each in a block of its own. -/
import Derived.Test.YtjgogpaedaffkaaGreatJOwnT
import Derived.Test.YtjgogpaedaffkaaGreatJRef7f
namespace Go.Proofs.YtjgogpaedaffkaaGreat
namespace P
end P
namespace Tl
end Tl
namespace Mm
end Mm
namespace Md
end Md
namespace R6
end R6
namespace R7
open Go.RowKit Go.Sort P Tl Mm Md
structure Pn (w0 W:World) (b tb cap:Nat) (ts:List Tok) (kr kp base:Nat) (s:St) (p:Plan) (ma:Option Addr) (mc:Nat) (fa:Option Addr) (fc:Nat) (ca:Option Addr) (cc:Nat) (hs:List Hd):Prop where
 ps:Ps W b tb cap ts s
 box:Bx W kp (planC p ma mc fa fc ca cc)
 res:Bx W kr zeroP
 owns:Owns W base (rowOf p ma mc fa fc ca cc hs)
 hl:hs.length=p.charges.length
 bel:Below w0.heap.size w0 W
 nb:w0.heap.size≤b
 nr:w0.heap.size≤kr
 np:w0.heap.size≤kp
 lb:b<base
 lt:tb<base
 lr:kr<base
 lp:kp<base
 rp:kr≠kp
 bp:b≠kp
 br:b≠kr
 tp:tb≠kp
 tr:tb≠kr
 bsz:base≤W.heap.size
section
variable {w0 W W':World} {b tb cap:Nat} {ts:List Tok} {kr kp base:Nat} {s s':St} {p p':Plan} {ma:Option Addr} {mc:Nat} {fa:Option Addr} {fc:Nat} {ca:Option Addr} {cc:Nat} {hs:List Hd}
theorem Pn.call (h:Pn w0 W b tb cap ts kr kp base s p ma mc fa fc ca cc hs) (q:Ps W' b tb cap ts s') (g:W.grownBy W' (some b)):Pn w0 W' b tb cap ts kr kp base s' p ma mc fa fc ca cc hs:=
 ⟨q,h.box.grown g (fun e=>h.bp (Option.some.inj e).symm),h.res.grown g (fun e=>h.br (Option.some.inj e).symm),⟨fun t r ht=>own_call (h.owns.own t r ht) g h.lb,h.owns.apart⟩,h.hl,
  h.bel.grown g h.bel.size (fun k e=>by have:=Option.some.inj e;have:=h.nb;omega),h.nb,h.nr,h.np,h.lb,h.lt,h.lr,h.lp,h.rp,h.bp,h.br,h.tp,h.tr,Nat.le_trans h.bsz g.size⟩
theorem Pn.on (h:Pn w0 W b tb cap ts kr kp base s p ma mc fa fc ca cc hs) (g:Below W.heap.size W W'):Pn w0 W' b tb cap ts kr kp base s p ma mc fa fc ca cc hs:=h.call (h.ps.on g) (grown_below g)
theorem Ps.aside (h:Ps W b tb cap ts s) {k:Nat} (h1:b≠k) (h2:tb≠k) (i:Nat) (u:Value):Ps (W.setCell ⟨k,i,none⟩ u) b tb cap ts s:=
 h.other (grown_set W k i u) (fun e=>h1 (Option.some.inj e)) (fun e=>h2 (Option.some.inj e))
theorem Pn.put (h:Pn w0 W b tb cap ts kr kp base s p ma mc fa fc ca cc hs) (i:Nat) (u:Value) (e0:rowOf p' ma mc fa fc ca cc hs=rowOf p ma mc fa fc ca cc hs) (e1:p'.charges=p.charges) (e:planC p' ma mc fa fc ca cc=(planC p ma mc fa fc ca cc).set i u) :
  Pn w0 (W.setCell ⟨kp,i,none⟩ u) b tb cap ts kr kp base s p' ma mc fa fc ca cc hs:=
 ⟨h.ps.aside h.bp h.tp i u,by rw [e];exact h.box.set i u,h.res.other (p:=⟨kp,i,none⟩) h.rp u,by rw [e0];exact ⟨fun t r ht=>ownsRow_setCell_below (h.owns.own t r ht) (a:=⟨kp,i,none⟩) h.lp u,h.owns.apart⟩,by rw [e1];exact h.hl,
  h.bel.setCell (p:=⟨kp,i,none⟩) h.np u,h.nb,h.nr,h.np,h.lb,h.lt,h.lr,h.lp,h.rp,h.bp,h.br,h.tp,h.tr,by simpa using h.bsz⟩
theorem Pn.cells (h:Pn w0 W b tb cap ts kr kp base s p ma mc fa fc ca cc hs) (i:Nat) (u:Value) (hu:(planC p ma mc fa fc ca cc)[i]?=some u):W.cell? ⟨kp,i,none⟩=some u∧W.frozen? ⟨kp,i,none⟩=false:=⟨h.box.cell i u hu,h.box.free i⟩
theorem Pn.ne {r:R} {σ:Slot} (h:Pn w0 W b tb cap ts kr kp base s p ma mc fa fc ca cc hs) (hσ:rowOf p ma mc fa fc ca cc hs σ=some r) {k:Nat} (hk:k<base):some k≠r.v.ownBlock:=fun e=>by
 have:=((h.owns.own σ r hσ).lt k e.symm).1;omega
theorem Pn.turn (h:Pn w0 W b tb cap ts kr kp base s p ma mc fa fc ca cc hs) {σ:Slot} {r r':R} {H:Nat} {ma':Option Addr} {mc':Nat} {fa':Option Addr} {fc':Nat} {ca':Option Addr} {cc':Nat} {hs':List Hd} {ρ:Slot→Option R} (hρ:Owns W base ρ)
  (hσ0:rowOf p ma mc fa fc ca cc hs σ=some r) (hσ:ρ σ=some r) (hσ':rowOf p' ma' mc' fa' fc' ca' cc' hs' σ=some r') (he:∀t,t≠σ→rowOf p' ma' mc' fa' fc' ca' cc' hs' t=ρ t) (hg:W.grownBy W' r.v.ownBlock)
  (ho:W'.ownsRow base r'.e r'.size r'.v r'.n r'.xs) (hat:r'.v.ownBlock=r.v.ownBlock∨r'.v.ownBlock=some H) (hH:W.heap.size≤H) (i:Nat) (u:Value) (e:planC p' ma' mc' fa' fc' ca' cc'=(planC p ma mc fa fc ca cc).set i u) (hl:hs'.length=p'.charges.length) :
  Pn w0 (W'.setCell ⟨kp,i,none⟩ u) b tb cap ts kr kp base s p' ma' mc' fa' fc' ca' cc' hs':=by
 have O:=Owns.turn hρ hσ hσ' he hg ho hat hH;have nk:∀k,k<base→some k≠r.v.ownBlock:=fun k hk=>h.ne hσ0 hk
 refine ⟨(h.ps.other hg (nk b h.lb) (nk tb h.lt)).aside h.bp h.tp i u,by rw [e];exact (h.box.grown hg (nk kp h.lp)).set i u,(h.res.grown hg (nk kr h.lr)).other (p:=⟨kp,i,none⟩) h.rp u,⟨fun t q ht=>ownsRow_setCell_below (O.own t q ht) (a:=⟨kp,i,none⟩) h.lp u,O.apart⟩,hl,
  (h.bel.grown hg h.bel.size (fun k ek=>?_)).setCell (p:=⟨kp,i,none⟩) h.np u,h.nb,h.nr,h.np,h.lb,h.lt,h.lr,h.lp,h.rp,h.bp,h.br,h.tp,h.tr,by have:=Nat.le_trans h.bsz hg.size;simpa using this⟩
 have:=((h.owns.own σ r hσ0).lt k ek).1;have:=h.nb;have:=h.lb;omega
theorem Pn.meter (h:Pn w0 W b tb cap ts kr kp base s p ma mc fa fc ca cc hs) {ma':Option Addr} {mc' H:Nat} {x:Meter} (hg:W.grownBy W' (Value.slice ma p.meters.length mc).ownBlock)
  (ho:W'.ownsRow base 39 5 (.slice ma' (p.meters.length+1) mc') (p.meters.length+1) (p.meters.flatMap meterC++meterC x))
  (hat:(Value.slice ma' (p.meters.length+1) mc').ownBlock=(Value.slice ma p.meters.length mc).ownBlock∨(Value.slice ma' (p.meters.length+1) mc').ownBlock=some H) (hH:W.heap.size≤H) :
  Pn w0 (W'.setCell ⟨kp,8,none⟩ (.slice ma' (p.meters.length+1) mc')) b tb cap ts kr kp base s { p with meters:=p.meters++[x] } ma' mc' fa fc ca cc hs:=by
 refine h.turn (σ:=.m) (r':=⟨39,5,ma',p.meters.length+1,mc',p.meters.flatMap meterC++meterC x⟩) h.owns rfl rfl ?_ (fun t ht=>by cases t<;>first|rfl|exact absurd rfl ht) hg ho hat hH 8 _ ?_ h.hl
 ·show some (R.mk _ _ _ _ _ _)=_
  rw [List.length_append,List.flatMap_append];simp
 ·unfold planC;simp only [List.length_append,List.length_singleton];rfl
theorem Pn.fee (h:Pn w0 W b tb cap ts kr kp base s p ma mc fa fc ca cc hs) {fa':Option Addr} {fc' H:Nat} {x:Fee} (hg:W.grownBy W' (Value.slice fa p.fees.length fc).ownBlock)
  (ho:W'.ownsRow base 84 10 (.slice fa' (p.fees.length+1) fc') (p.fees.length+1) (p.fees.flatMap feeC++feeC x))
  (hat:(Value.slice fa' (p.fees.length+1) fc').ownBlock=(Value.slice fa p.fees.length fc).ownBlock∨(Value.slice fa' (p.fees.length+1) fc').ownBlock=some H) (hH:W.heap.size≤H) :
  Pn w0 (W'.setCell ⟨kp,9,none⟩ (.slice fa' (p.fees.length+1) fc')) b tb cap ts kr kp base s { p with fees:=p.fees++[x] } ma mc fa' fc' ca cc hs:=by
 refine h.turn (σ:=.f) (r':=⟨84,10,fa',p.fees.length+1,fc',p.fees.flatMap feeC++feeC x⟩) h.owns rfl rfl ?_ (fun t ht=>by cases t<;>first|rfl|exact absurd rfl ht) hg ho hat hH 9 _ ?_ h.hl
 ·show some (R.mk _ _ _ _ _ _)=_
  rw [List.length_append,List.flatMap_append];simp
 ·unfold planC;simp only [List.length_append,List.length_singleton];rfl
theorem Pn.charge (h:Pn w0 W b tb cap ts kr kp base s p ma mc fa fc ca cc hs) {ca':Option Addr} {cc' H S:Nat} {x:Charge} {hd:Hd} (hS:base≤S)
  (old:∀t q k,rowOf p ma mc fa fc ca cc hs t=some q→q.v.ownBlock=some k→k<S)
  (ot:W.ownsRow S 54 2 (.slice hd.ta x.tiers.length hd.tc) x.tiers.length (x.tiers.flatMap tierC)) (oa:W.ownsRow S 115 3 (.slice hd.aa x.adjusts.length hd.ac) x.adjusts.length (x.adjusts.flatMap adjC))
  (ap:∀k,(Value.slice hd.ta x.tiers.length hd.tc).ownBlock=some k→(Value.slice hd.aa x.adjusts.length hd.ac).ownBlock≠some k)
  (hg:W.grownBy W' (Value.slice ca p.charges.length cc).ownBlock)
  (ho:W'.ownsRow base 87 16 (.slice ca' (p.charges.length+1) cc') (p.charges.length+1) ((p.charges.zip hs).flatMap zC++zC (x,hd)))
  (hat:(Value.slice ca' (p.charges.length+1) cc').ownBlock=(Value.slice ca p.charges.length cc).ownBlock∨(Value.slice ca' (p.charges.length+1) cc').ownBlock=some H) (hH:W.heap.size≤H) :
  Pn w0 (W'.setCell ⟨kp,10,none⟩ (.slice ca' (p.charges.length+1) cc')) b tb cap ts kr kp base s { p with charges:=p.charges++[x] } ma mc fa fc ca' cc' (hs++[hd]):=by
 have hz:(p.charges++[x]).zip (hs++[hd])=p.charges.zip hs++[(x,hd)]:=by rw [List.zip_append h.hl.symm];rfl
 have hzl:(p.charges.zip hs).length=p.charges.length:=by rw [List.length_zip,h.hl,Nat.min_self]
 -- the charge's two rows come first
 let ρ1:Slot→Option R:=fun t=>if t=.t p.charges.length then some ⟨54,2,hd.ta,x.tiers.length,hd.tc,x.tiers.flatMap tierC⟩ else rowOf p ma mc fa fc ca cc hs t;let ρ2:Slot→Option R:=fun t=>if t=.a p.charges.length then some ⟨115,3,hd.aa,x.adjusts.length,hd.ac,x.adjusts.flatMap adjC⟩ else ρ1 t
 have O1:Owns W base ρ1:=Owns.add h.owns (σ:=.t p.charges.length) (if_pos rfl) (fun t ht=>if_neg ht) ot hS (fun t q k _ hq hk e=>by
  have:=old t q k hq hk;have:=(ot.lt k e).1
  omega)
 have O2:Owns W base ρ2:=Owns.add O1 (σ:=.a p.charges.length) (if_pos rfl) (fun t ht=>if_neg ht) oa hS (fun t q k _ hq hk e=>by
  by_cases e1:t=.t p.charges.length
  ·subst e1;obtain rfl:=Option.some.inj ((if_pos rfl).symm.trans hq);exact ap k hk e
  ·have:=old t q k ((if_neg e1).symm.trans hq) hk;have:=(oa.lt k e).1
   omega)
 refine h.turn (σ:=.c) (r':=⟨87,16,ca',p.charges.length+1,cc',(p.charges.zip hs).flatMap zC++zC (x,hd)⟩) O2 rfl rfl ?_ (fun t ht=>?_) hg ho hat hH 10 _ ?_ ?_
 ·show some (R.mk _ _ _ _ _ _)=_
  rw [List.length_append,hz,List.flatMap_append];simp
 ·cases t with
  | m=>rfl
  | f=>rfl
  | c=>exact absurd rfl ht
  | t i=>
    show Option.map _ (((p.charges++[x]).zip (hs++[hd]))[i]?)=ρ2 (.t i)
    rw [hz,List.getElem?_append,hzl];show _=if (Slot.t i)=.t p.charges.length then _ else Option.map _ ((p.charges.zip hs)[i]?)
    by_cases e:i=p.charges.length
    ·subst e;rw [if_neg (show ¬ p.charges.length<p.charges.length by omega),if_pos rfl,Nat.sub_self];rfl
    ·rw [if_neg (show ¬ Slot.t i=Slot.t p.charges.length by simpa using e)];by_cases e2:i<p.charges.length
     ·rw [if_pos e2]
     ·rw [if_neg e2,List.getElem?_eq_none (by simp;omega),List.getElem?_eq_none (by omega)]
  | a i=>
    show Option.map _ (((p.charges++[x]).zip (hs++[hd]))[i]?)=if (Slot.a i)=.a p.charges.length then _ else ρ1 (.a i)
    rw [hz,List.getElem?_append,hzl];show _=if (Slot.a i)=.a p.charges.length then _ else Option.map _ ((p.charges.zip hs)[i]?)
    by_cases e:i=p.charges.length
    ·subst e;rw [if_neg (show ¬ p.charges.length<p.charges.length by omega),if_pos rfl,Nat.sub_self];rfl
    ·rw [if_neg (show ¬ Slot.a i=Slot.a p.charges.length by simpa using e)];by_cases e2:i<p.charges.length
     ·rw [if_pos e2]
     ·rw [if_neg e2,List.getElem?_eq_none (by simp;omega),List.getElem?_eq_none (by omega)]
 ·unfold planC;simp only [List.length_append,List.length_singleton];rfl
 ·rw [List.length_append,List.length_append,h.hl];rfl
end
theorem grown_drew {w W:World} {row:Option Nat} (h:w.grownBy W row):w.grownBy W.drew row:=⟨h.os,h.tape,h.output,h.size,h.block⟩
theorem grown_alloc {w W:World} {row:Option Nat} (h:w.grownBy W row) (o:Obj):w.grownBy (W.alloc o) row:=grown_trans h (grown_below (bel_alloc W o))
structure Bt (w0 W:World) (b tb cap:Nat) (ts:List Tok) (kr kp base:Nat) (s:St) (p:Plan) (ma:Option Addr) (mc:Nat) (fa:Option Addr) (fc:Nat) (ca:Option Addr) (cc:Nat) (hs:List Hd) (km:Nat) (cs:List Value):Prop where
 pn:Pn w0 W b tb cap ts kr kp base s p ma mc fa fc ca cc hs
 bx:Bx W km cs
 old:∀σ r,rowOf p ma mc fa fc ca cc hs σ=some r→r.v.ownBlock≠some km
 ge:base≤km
section
variable {w0 W W':World} {b tb cap:Nat} {ts:List Tok} {kr kp base:Nat} {s s':St} {p:Plan} {ma:Option Addr} {mc:Nat} {fa:Option Addr} {fc:Nat} {ca:Option Addr} {cc:Nat} {hs:List Hd} {km:Nat} {cs:List Value}
theorem Bt.new (h:Pn w0 W b tb cap ts kr kp base s p ma mc fa fc ca cc hs) (cs:List Value) (t:TypeId):Bt w0 (W.alloc (.cells cs.toArray t)) b tb cap ts kr kp base s p ma mc fa fc ca cc hs W.heap.size cs:=
 ⟨h.on (bel_alloc _ _),Bx.new _ _ _,fun σ r hr e=>Nat.lt_irrefl _ ((h.owns.own σ r hr).lt _ e).2,h.bsz⟩
theorem Bt.call (h:Bt w0 W b tb cap ts kr kp base s p ma mc fa fc ca cc hs km cs) (q:Ps W' b tb cap ts s') (g:W.grownBy W' (some b)):Bt w0 W' b tb cap ts kr kp base s' p ma mc fa fc ca cc hs km cs:=
 ⟨h.pn.call q g,h.bx.grown g (fun e=>by have:=Option.some.inj e;have:=h.ge;have:=h.pn.lb;omega),h.old,h.ge⟩
theorem Bt.on (h:Bt w0 W b tb cap ts kr kp base s p ma mc fa fc ca cc hs km cs) (g:Below W.heap.size W W'):Bt w0 W' b tb cap ts kr kp base s p ma mc fa fc ca cc hs km cs:=h.call (h.pn.ps.on g) (grown_below g)
theorem Bt.put (h:Bt w0 W b tb cap ts kr kp base s p ma mc fa fc ca cc hs km cs) (i:Nat) (u:Value):Bt w0 (W.setCell ⟨km,i,none⟩ u) b tb cap ts kr kp base s p ma mc fa fc ca cc hs km (cs.set i u):=by
 have g:=h.ge;have l1:=h.pn.lb;have l2:=h.pn.lt;have l3:=h.pn.lr;have l4:=h.pn.lp;have l5:=h.pn.nb
 refine ⟨⟨h.pn.ps.aside (by omega) (by omega) i u,h.pn.box.other (p:=⟨km,i,none⟩) (by show kp≠km;omega) u,h.pn.res.other (p:=⟨km,i,none⟩) (by show kr≠km;omega) u,
  ⟨fun t r ht=>ownsRow_setCell_other (h.pn.owns.own t r ht) (a:=⟨km,i,none⟩) (h.old t r ht) u,h.pn.owns.apart⟩,h.pn.hl,h.pn.bel.setCell (p:=⟨km,i,none⟩) (by show w0.heap.size≤km;omega) u,h.pn.nb,h.pn.nr,h.pn.np,h.pn.lb,h.pn.lt,h.pn.lr,h.pn.lp,h.pn.rp,h.pn.bp,h.pn.br,h.pn.tp,h.pn.tr,by simpa using h.pn.bsz⟩,h.bx.set i u,h.old,h.ge⟩
end
theorem item_cnt7 {ts:List Tok} {s:St} {p:Plan} (h:p.meters.length+p.fees.length+p.charges.length≤s.i) (ho:goesOn ts s=true):(itemS ts s p).1.meters.length+(itemS ts s p).1.fees.length+(itemS ts s p).1.charges.length≤(itemS ts s p).2.i:=by
 rcases item_next ts s p ho with k|⟨k1,_⟩
 ·refine Nat.le_trans ?_ k;unfold itemS;simp only
  repeat' split
  all_goals simp only [List.length_append,List.length_singleton];omega
 ·rw [k1,wrg_i];exact h
theorem info_meter7:(Tryz.prog.info? 39).map (fun i=>(i.zero,i.size,i.bytes))=some (some (.agg (meterC ⟨⟨#[]⟩,⟨#[]⟩,0,0,0⟩).toArray),5,56):=by kernel_rfl
theorem info_fee7:(Tryz.prog.info? 84).map (fun i=>(i.zero,i.size,i.bytes))=some (some (.agg (feeC ⟨0,⟨false,⟨0,0,0⟩,⟨0,0,0⟩⟩,0,0⟩).toArray),10,80):=by kernel_rfl
theorem info_charge7:(Tryz.prog.info? 87).map (fun i=>(i.zero,i.size,i.bytes))=some (some (.agg (chargeC ⟨⟨#[]⟩,⟨false,⟨0,0,0⟩,⟨0,0,0⟩⟩,0,0,0,[],0,[],0,0⟩ none 0 none 0).toArray),16,168):=by kernel_rfl
theorem step_more7 {ops:Array Oper} {o:Oper} {a:Act} {K:Act→World→Prop} {Q:Exit→Act→World→Prop} {E:Prop} {W:World} {base:Nat} (X:List Value) (d:Tmp) (hd:o.dst=some d) (hgd:o.guard=none) (s x:Operand) (t e:TypeId) (z:Value) (size bytes:Nat)
  (ho:o.op=.call { callee:=.builtin .append,args:=#[s,x],argTypes:=#[t,t] }) (hu:Tryz.prog.underlying t=some (.slice e)) (hinfo:(Tryz.prog.info? e).map (fun i=>(i.zero,i.size,i.bytes))=some (some z,size,bytes)) (hzs:z.cells.size=size) (hsz:0<size) (v:Value) (n:Nat) (xs:List Value) (hs:a.eval s=v) (hown:W.ownsRow base e size v n xs)
  (hX:X.length=1*size) (h1:∀u∈X,u.oneCell'=true) (hx:a.eval x=.slice (some ⟨W.heap.size,0,none⟩) 1 1) (hn:n+1≤1000000) (hb:bytes≤1000) (hbase:base≤W.heap.size)
  (h:∀g cap w',w'.ownsRow base e size (.slice (some ⟨g,0,none⟩) (n+1) cap) (n+1) (xs++X)→(W.alloc (.cells X.toArray e)).grownBy w' v.ownBlock→(v.ownBlock=some g∨g=W.heap.size+1)→K (a.put (some d) (.slice (some ⟨g,0,none⟩) (n+1) cap)) w') :
  if Region.wanted o (yielded ops a.tmps)=true then Oper.wp Tryz.prog o a (W.alloc (.cells X.toArray e)) K Q else E:=by
 obtain ⟨i0,hi,hz0,hz1,hz2⟩:=info_parts hinfo;have hby:(n+1)*bytes≤140737488355328:=Nat.le_trans (Nat.mul_le_mul hn hb) (by decide);refine step_append_lies _ hgd s x t ho base e i0 z size bytes hu hi hz0 hz1 hz2 hzs hsz v n xs hs (hown.alloc _) ⟨W.heap.size,0,none⟩ 1 1 X hx hX (news_at W X _) h1 (by decide) (by unfold maxLen;omega) hby (by simp;omega) (W.heap.size+1) (by simp) ?_;intro g cap w' k1 k2 k3 _;rw [hd];exact h g cap w' k1 k2 k3
theorem own_at7 {v:Value} {g n cap H:Nat} (h:v.ownBlock=some g∨g=H):(Value.slice (some ⟨g,0,none⟩) n cap).ownBlock=v.ownBlock∨(Value.slice (some ⟨g,0,none⟩) n cap).ownBlock=some H:=by
 rcases h with h|rfl
 ·exact .inl h.symm
 ·exact .inr rfl
theorem wpList_more7 {ops:Array Oper} {rest:List Oper} {o:Oper} {a:Act} {Q:Exit→Act→World→Prop} {W:World} {base:Nat} (X:List Value) (hgd:o.guard=none) (s x:Operand) (t e:TypeId) (z:Value) (size bytes:Nat)
  (ho:o.op=.call { callee:=.builtin .append,args:=#[s,x],argTypes:=#[t,t] }) (hu:Tryz.prog.underlying t=some (.slice e)) (hinfo:(Tryz.prog.info? e).map (fun i=>(i.zero,i.size,i.bytes))=some (some z,size,bytes)) (hzs:z.cells.size=size) (hsz:0<size) (v:Value) (n:Nat) (xs:List Value) (hs:a.eval s=v) (hown:W.ownsRow base e size v n xs)
  (hX:X.length=1*size) (h1:∀u∈X,u.oneCell'=true) (hx:a.eval x=.slice (some ⟨W.heap.size,0,none⟩) 1 1) (hn:n+1≤1000000) (hb:bytes≤1000) (hbase:base≤W.heap.size)
  (h:∀v' w',w'.ownsRow base e size v' (n+1) (xs++X)→(W.alloc (.cells X.toArray e)).grownBy w' v.ownBlock→(v'.ownBlock=v.ownBlock∨v'.ownBlock=some (W.heap.size+1))→wpList Tryz.prog ops Q rest (a.put o.dst v') w') :
  wpList Tryz.prog ops Q (o::rest) a (W.alloc (.cells X.toArray e)):=by
 obtain ⟨i0,hi,hz0,hz1,hz2⟩:=info_parts hinfo;have hby:(n+1)*bytes≤140737488355328:=Nat.le_trans (Nat.mul_le_mul hn hb) (by decide);refine wpList_append_own_at _ hgd s x t ho base e i0 z size bytes hu hi hz0 hz1 hz2 hzs hsz v n xs hs (hown.alloc _) ⟨W.heap.size,0,none⟩ 1 1 X hx hX (news_at W X _) h1 (by unfold maxLen;omega) hby (by simp;omega) ?_;intro v' w' k1 k2 _ k3;refine h v' w' k1 k2 ?_;simpa using k3
end R7
namespace Hu
open Go
section
variable {P:Program} {ops:Array Oper} {Q:Exit→Act→World→Prop} {md:Region.Mode} {S:World→Prop} {st:Nat}
def wpAnyU (P:Program) (md:Region.Mode) (ops:Array Oper) (Q:Exit→Act→World→Prop) (S:World→Prop) (st:Nat):Nat→Array Bool→Act→World→Prop
 | 0,listed,a,w=>Region.ready md ops listed=[]∧Q .normal a w
 | fuel+1,listed,a,w=>
   (Region.ready md ops listed=[]→Q .normal a w)∧
   ∀i∈Region.ready md ops listed,wpOp P ops Q i (fun a' w'=>((listed.setIfInBounds i true).getD st true=false→S w')∧wpAnyU P md ops Q S st fuel (listed.setIfInBounds i true) a' w') a w
theorem wpAny_of_until:∀(fuel:Nat) (listed:Array Bool) (a:Act) (w:World),wpAnyU P md ops Q S st fuel listed a w→wpAny P md ops Q fuel listed a w
 | 0,_,_,_,h=>h
 | fuel+1,_,_,_,h=>⟨h.1,fun i hi=>wpOp_mono (fun a' w' h'=>wpAny_of_until fuel _ a' w' h'.2) (h.2 i hi)⟩
def waitsB (md:Region.Mode) (ops:Array Oper):Nat→Nat→Nat→Bool
 | 0,_,_=>false
 | n+1,s,i=>match ops[s]? with
   | some o=>o.after.any fun e=>Region.binds md e&&(e.on==i||waitsB md ops n e.on i)
   | none=>false
def Closed (md:Region.Mode) (ops:Array Oper) (listed:Array Bool):Prop:=∀k o,ops[k]?=some o→listed.getD k true=true→∀e∈o.after,Region.binds md e=true→listed.getD e.on true=true
def closedB (md:Region.Mode) (ops:Array Oper) (listed:Array Bool):Bool:=(List.range ops.size).all fun k=>!(listed.getD k true)||match ops[k]? with
 | some o=>o.after.all fun e=>!(Region.binds md e)||listed.getD e.on true
 | none=>true
theorem closed_of {listed:Array Bool} (h:closedB md ops listed=true):Closed md ops listed:=by
 intro k o ho hk e he hb;unfold closedB at h;have hlt:k<ops.size:=(Array.getElem?_eq_some_iff.1 ho).1;have:=(List.all_eq_true.1 h) k (List.mem_range.2 hlt);rw [hk,ho] at this;simp only [Bool.not_true,Bool.false_or] at this;have:=(Array.all_eq_true_iff_forall_mem.1 this) e he;rw [hb] at this;simpa using this
theorem waits_listed {listed:Array Bool} {i:Nat} (hc:Closed md ops listed):∀(n s:Nat),waitsB md ops n s i=true→listed.getD s true=true→listed.getD i true=true
 | 0,_,h,_=>by cases h
 | n+1,s,h,hs=>by
   unfold waitsB at h;split at h
   ·rename_i o ho
    obtain ⟨k,hk,e⟩:=Array.any_eq_true.1 h;rw [Bool.and_eq_true,Bool.or_eq_true,beq_iff_eq] at e;have:=hc s o ho hs _ (Array.getElem_mem hk) e.1;rcases e.2 with e2|e2
    ·rwa [e2] at this
    ·exact waits_listed hc n _ e2 this
   ·cases h
theorem hall_true {listed:Array Bool} {i:Nat} (h:listed.getD i false=true):listed.getD i true=true:=by
 rcases Nat.lt_or_ge i listed.size with h'|h'
 ·simp [h'] at h ⊢;exact h
 ·simp [Array.getElem?_eq_none h'] at h
theorem unlisted_ne {listed:Array Bool} {n i j:Nat} (hc:Closed md ops listed) (hw:waitsB md ops n st i=true) (hi:listed.getD i true=false) (hj:j∈Region.ready md ops listed):j≠st:=by
 intro e;subst e;obtain ⟨_,oj,hoj,hall⟩:=mem_ready.1 hj;cases n with
 | zero=>cases hw
 | succ n=>
   unfold waitsB at hw;rw [hoj] at hw;obtain ⟨k,hk,e⟩:=Array.any_eq_true.1 hw;rw [Bool.and_eq_true,Bool.or_eq_true,beq_iff_eq] at e;have h1:=hall_true (hall _ (Array.getElem_mem hk) e.1);rcases e.2 with e2|e2
   ·rw [e2,hi] at h1;cases h1
   ·have:=waits_listed hc n _ e2 h1;rw [hi] at this;cases this
theorem closed_set {listed:Array Bool} {j:Nat} (hc:Closed md ops listed) (hj:j∈Region.ready md ops listed):Closed md ops (listed.setIfInBounds j true):=by
 intro k o ho hk e he hb;obtain ⟨_,oj,hoj,hall⟩:=mem_ready.1 hj
 have up:∀x,listed.getD x true=true→(listed.setIfInBounds j true).getD x true=true:=fun x hx=>by
  by_cases e:j=x
  ·subst e;rcases Nat.lt_or_ge j listed.size with h'|h'
   ·simp [h']
   ·simp [h']
  ·rw [getD_set_ne true e];exact hx
 by_cases e2:k=j
 ·subst e2;rw [hoj] at ho;obtain rfl:=Option.some.inj ho;exact up _ (hall_true (hall e he hb))
 ·rw [getD_set_ne true (Ne.symm e2)] at hk;exact up _ (hc k o ho hk e he hb)
theorem wpAnyU_first {i:Nat} {oi:Oper} {v:Value} (hi:ops[i]?=some oi) (hsel:∀(j:Nat) (o:Oper) cs b,ops[j]?=some o→o.op≠.select cs b)
  (hQ:∀c a w,Q (.panic c) (a.put oi.dst v) w→Q (.panic c) a w) {n:Nat} (hw:waitsB md ops n st i=true) (hne:i≠st) :
  ∀(fuel:Nat) (listed:Array Bool) (a:Act) (w:World),
   (∀j oj,ops[j]?=some oj→j≠i→listed.getD j true=false→(∀e∈oj.after,Region.binds md e=true→e.on≠i)→oi.apart ops oj=true)→
   i∈Region.ready md ops listed→YieldsIf P ops S oi v a→listed.getD st true=false→Closed md ops listed→S w→
   wpAnyU P md ops Q S st fuel (listed.setIfInBounds i true) (a.put oi.dst v) w→wpAnyU P md ops Q S st (fuel+1) listed a w:=by
 intro fuel;induction fuel with
 | zero=>
   intro listed a w hfree hr hy hu hcl hS H;refine ⟨fun h=>(by rw [h] at hr;cases hr),fun j hj=>?_⟩;by_cases hji:j=i
   ·subst hji;exact hy.wpOp hi hS ⟨fun _=>hS,H⟩
   ·have:=ready_mono hj hji;rw [H.1] at this;cases this
 | succ fuel ih=>
   intro listed a w hfree hr hy hu hcl hS H;refine ⟨fun h=>(by rw [h] at hr;cases hr),fun j hj=>?_⟩;by_cases hji:j=i
   ·subst hji;exact hy.wpOp hi hS ⟨fun _=>hS,H⟩
   ·have h1:=H.2 j (ready_mono hj hji);obtain ⟨hjun,oj,hoj,hall⟩:=mem_ready.1 hj
    have hnot:∀e∈oj.after,Region.binds md e=true→e.on≠i:=fun e he hb heq=>by
     have h1:=hall e he hb;have h0:=(mem_ready.1 hr).1;rw [heq] at h1;rcases Nat.lt_or_ge i listed.size with h'|h'
     ·simp [h'] at h0 h1;rw [h0] at h1;cases h1
     ·simp [Array.getElem?_eq_none h'] at h1
    have hjs:j≠st:=unlisted_ne hcl hw (mem_ready.1 hr).1 hj;have hu':(listed.setIfInBounds j true).getD st true=false:=by rw [getD_set_ne true hjs];exact hu
    have hu2:((listed.setIfInBounds i true).setIfInBounds j true).getD st true=false:=by rw [getD_set_ne true hjs,getD_set_ne true hne];exact hu
    have h2:=wpOp_putIf hoj (hfree j oj hoj hji hjun hnot) (fun cs b=>hsel i oi cs b hi) (fun cs b=>hsel j oj cs b hoj) hQ hy h1
    have hfree':∀k ok,ops[k]?=some ok→k≠i→(listed.setIfInBounds j true).getD k true=false→
      (∀e∈ok.after,Region.binds md e=true→e.on≠i)→oi.apart ops ok=true:=fun k ok hk hki hun hno=>by
     refine hfree k ok hk hki ?_ hno;by_cases hjk:j=k
     ·subst hjk;exact hjun
     ·rw [getD_set_ne true hjk] at hun;exact hun
    refine wpOp_mono (fun a' w' h3=>⟨fun _=>h3.2.1 hu2,ih (listed.setIfInBounds j true) a' w' hfree' (ready_mono hr (Ne.symm hji)) h3.1 hu' (closed_set hcl hj) (h3.2.1 hu2) ?_⟩) h2;rw [Array.setIfInBounds_comm _ _ hji];exact h3.2.2
theorem wpAnyU_take {i:Nat} {oi:Oper} {v:Value} {fuel:Nat} {listed:Array Bool} {a:Act} {w:World} (hi:ops[i]?=some oi)
  (hs:Region.noSelect ops=true) (hf:Region.free md ops listed i=true) (hr:(Region.ready md ops listed).contains i=true)
  (hw:(waitsB md ops ops.size st i&&(i != st&&(!(listed.getD st true)&&closedB md ops listed)))=true)
  (hQ:∀c a w,Q (.panic c) (a.put oi.dst v) w→Q (.panic c) a w) (hy:YieldsIf P ops S oi v a) (hS:S w)
  (h:wpAnyU P md ops Q S st fuel (listed.setIfInBounds i true) (a.put oi.dst v) w):wpAnyU P md ops Q S st (fuel+1) listed a w:=by
 rw [Bool.and_eq_true,Bool.and_eq_true,Bool.and_eq_true,bne_iff_ne] at hw;obtain ⟨w1,w2,w3,w4⟩:=hw;exact wpAnyU_first hi (Region.noSelect_spec hs) hQ w1 w2 fuel listed a w (Region.free_spec hi hf) (by simpa using hr) hy (by simpa using w3) (closed_of w4) hS h
def AllReadyU (P:Program) (md:Region.Mode) (ops:Array Oper) (Q:Exit→Act→World→Prop) (S:World→Prop) (st:Nat) (fuel:Nat) (listed:Array Bool) (a:Act) (w:World) (rs:List Nat):Prop:=
 ∀i∈rs,wpOp P ops Q i (fun a' w'=>((listed.setIfInBounds i true).getD st true=false→S w')∧wpAnyU P md ops Q S st fuel (listed.setIfInBounds i true) a' w') a w
theorem AllReadyU.nil {fuel:Nat} {listed:Array Bool} {a:Act} {w:World} : AllReadyU P md ops Q S st fuel listed a w []:=fun _ h=>by cases h
theorem AllReadyU.cons {fuel:Nat} {listed:Array Bool} {a:Act} {w:World} {i:Nat} {o:Oper} {rs:List Nat} (ho:ops[i]?=some o)
  (h:∀K':Act→World→Prop,Shut (∀a w,S w→(S w→wpAnyU P md ops Q S st fuel (listed.setIfInBounds i true) a w)→K' a w)→if Region.wanted o (yielded ops a.tmps)=true then Oper.wp P o a w K' Q else K' (a.put o.dst undef) w)
  (hs:AllReadyU P md ops Q S st fuel listed a w rs):AllReadyU P md ops Q S st fuel listed a w (i::rs):=fun j hj=>by
 rcases List.mem_cons.1 hj with rfl|hj
 ·exact wpOp_step ho (fun K' hK=>h K' (fun a w hS hW=>hK a w ⟨fun _=>hS,hW hS⟩))
 ·exact hs j hj
theorem AllReadyU.last {fuel:Nat} {listed:Array Bool} {a:Act} {w:World} {i:Nat} {o:Oper} {rs:List Nat} (ho:ops[i]?=some o) (hst:(listed.setIfInBounds i true).getD st true=true)
  (h:∀K':Act→World→Prop,Shut (∀a w,wpAnyU P md ops Q S st fuel (listed.setIfInBounds i true) a w→K' a w)→if Region.wanted o (yielded ops a.tmps)=true then Oper.wp P o a w K' Q else K' (a.put o.dst undef) w)
  (hs:AllReadyU P md ops Q S st fuel listed a w rs):AllReadyU P md ops Q S st fuel listed a w (i::rs):=fun j hj=>by
 rcases List.mem_cons.1 hj with rfl|hj
 ·exact wpOp_step ho (fun K' hK=>h K' (fun a w hW=>hK a w ⟨fun h0=>(by rw [hst] at h0;cases h0),hW⟩))
 ·exact hs j hj
theorem wpAnyU_ready {rs:List Nat} {fuel:Nat} {listed:Array Bool} {a:Act} {w:World} (hr:Region.ready md ops listed=rs) (hne:rs≠[])
  (h:AllReadyU P md ops Q S st fuel listed a w rs):wpAnyU P md ops Q S st (fuel+1) listed a w:=
 ⟨fun h0=>absurd (hr ▸ h0) hne,hr ▸ h⟩
theorem wpAnyU_done {listed:Array Bool} {a:Act} {w:World} (hr:Region.ready md ops listed=[]) (h:Q .normal a w) :
  ∀fuel,wpAnyU P md ops Q S st fuel listed a w
 | 0=>⟨hr,h⟩
 | _+1=>⟨fun _=>h,by rw [hr];simp⟩
theorem wp_region_until (st:Nat) {id:Nat} {a:Act} {w:World} (hm:P.follows .mixedOrders=true) (hS:S w.drew)
  (h:S w.drew→wpAnyU P .any ops Q S st ops.size (Array.replicate ops.size false) a w.drew):(Code.region id ops true).wp P Q a w:=
 wp_region_any hm (wpAny_of_until _ _ _ _ (h hS))
end
end Hu
namespace Co
open Go.RowKit Go.Sort P Mm Md R6
def zP (x:Prt×Hd):List Value:=prtC x.1 x.2.ta x.2.tc x.2.aa x.2.ac
theorem zP_len (x:Prt×Hd):(zP x).length=9:=rfl
def rowsC (ms:List Meter) (ss:List Mm.Sm) (ps:List (Prt×Hd)) (ma:Option Addr) (mc:Nat) (sa:Option Addr) (sc:Nat) (pa:Option Addr) (pc:Nat):Slot→Option R
 | .m=>some ⟨39,5,ma,ms.length,mc,ms.flatMap meterC⟩
 | .f=>some ⟨52,3,sa,ss.length,sc,ss.flatMap smC⟩
 | .c=>some ⟨58,9,pa,ps.length,pc,ps.flatMap zP⟩
 | .t _=>none
 | .a _=>none
def mkC (cur:ByteArray) (A B:Int) (nm ns np:Nat) (ma:Option Addr) (mc:Nat) (sa:Option Addr) (sc:Nat) (pa:Option Addr) (pc:Nat):List Value:=
 [.string cur,.int .i64 A,.int .i64 B,.slice ma nm mc,.slice sa ns sc,.slice pa np pc]
structure Mk (w W:World) (k base:Nat) (cur:ByteArray) (A B:Int) (ms:List Meter) (ss:List Mm.Sm) (ps:List (Prt×Hd)) (ma:Option Addr) (mc:Nat) (sa:Option Addr) (sc:Nat) (pa:Option Addr) (pc:Nat):Prop where
 box:Box W k (mkC cur A B ms.length ss.length ps.length ma mc sa sc pa pc)
 owns:Owns W base (rowsC ms ss ps ma mc sa sc pa pc)
 lt:k<base
 bs:base≤W.heap.size
 bel:Below w.heap.size w W
 le:w.heap.size≤k
section
variable {w W W':World} {k base:Nat} {cur:ByteArray} {A B:Int} {ms:List Meter} {ss:List Mm.Sm} {ps:List (Prt×Hd)} {ma:Option Addr} {mc:Nat} {sa:Option Addr} {sc:Nat} {pa:Option Addr} {pc:Nat}
theorem Mk.on (h:Mk w W k base cur A B ms ss ps ma mc sa sc pa pc) (b:Below W.heap.size W W'):Mk w W' k base cur A B ms ss ps ma mc sa sc pa pc:=
 ⟨h.box.on b,h.owns.on b,h.lt,Nat.le_trans h.bs b.size,bel_on h.bel b,h.le⟩
theorem ownsRow_none (w:World) (base:Nat) (e:TypeId) (size:Nat):w.ownsRow base e size (.slice none 0 0) 0 []:=⟨by simp,.inl ⟨rfl,rfl⟩⟩
theorem Mk.first (hk:w.heap.size≤k) (hl:k<base) (hb:base≤W.heap.size) (bx:Box W k (mkC cur A B 0 0 0 none 0 none 0 none 0)) (b:Below w.heap.size w W):Mk w W k base cur A B [] [] [] none 0 none 0 none 0:=by
 refine ⟨bx,⟨fun s r hs=>?_,fun s t r r' k' hs ht h1 h2=>?_⟩,hl,hb,b,hk⟩
 ·cases s with
  | m=>obtain rfl:=Option.some.inj hs;exact ownsRow_none ..
  | f=>obtain rfl:=Option.some.inj hs;exact ownsRow_none ..
  | c=>obtain rfl:=Option.some.inj hs;exact ownsRow_none ..
  | t _=>cases hs
  | a _=>cases hs
 ·cases s with
  | m=>obtain rfl:=Option.some.inj hs;cases h1
  | f=>obtain rfl:=Option.some.inj hs;cases h1
  | c=>obtain rfl:=Option.some.inj hs;cases h1
  | t _=>cases hs
  | a _=>cases hs
theorem Mk.ne (h:Mk w W k base cur A B ms ss ps ma mc sa sc pa pc) {σ:Slot} {r:R} (hσ:rowsC ms ss ps ma mc sa sc pa pc σ=some r) {j:Nat} (hj:j≤k):some j≠r.v.ownBlock:=fun e=>by
 have:=((h.owns.own σ r hσ).lt j e.symm).1;have:=h.lt;omega
theorem Mk.turn (h:Mk w W k base cur A B ms ss ps ma mc sa sc pa pc) {σ:Slot} {r r':R} {H:Nat} {ms':List Meter} {ss':List Mm.Sm} {ps':List (Prt×Hd)} {ma':Option Addr} {mc':Nat} {sa':Option Addr} {sc':Nat} {pa':Option Addr} {pc':Nat}
  (hσ:rowsC ms ss ps ma mc sa sc pa pc σ=some r) (hσ':rowsC ms' ss' ps' ma' mc' sa' sc' pa' pc' σ=some r') (he:∀t,t≠σ→rowsC ms' ss' ps' ma' mc' sa' sc' pa' pc' t=rowsC ms ss ps ma mc sa sc pa pc t) (hg:W.grownBy W' r.v.ownBlock)
  (ho:W'.ownsRow base r'.e r'.size r'.v r'.n r'.xs) (hat:r'.v.ownBlock=r.v.ownBlock∨r'.v.ownBlock=some H) (hH:W.heap.size≤H) (i:Nat) (u:Value) (e:mkC cur A B ms'.length ss'.length ps'.length ma' mc' sa' sc' pa' pc'=(mkC cur A B ms.length ss.length ps.length ma mc sa sc pa pc).set i u) :
  Mk w (W'.setCell ⟨k,i,none⟩ u) k base cur A B ms' ss' ps' ma' mc' sa' sc' pa' pc':=by
 have O:=Owns.turn h.owns hσ hσ' he hg ho hat hH;refine ⟨by rw [e];exact (h.box.grown hg (h.ne hσ (Nat.le_refl _))).set i u,⟨fun t q ht=>ownsRow_setCell_below (O.own t q ht) (a:=⟨k,i,none⟩) h.lt u,O.apart⟩,h.lt,by have:=Nat.le_trans h.bs hg.size;simpa using this,(h.bel.grown hg h.bel.size (fun j ej=>?_)).setCell (p:=⟨k,i,none⟩) h.le u,h.le⟩;have:=((h.owns.own σ r hσ).lt j ej).1;have:=h.le;have:=h.lt;omega
theorem Mk.sum (h:Mk w W k base cur A B ms ss ps ma mc sa sc pa pc) {sa':Option Addr} {sc' H:Nat} {x:Mm.Sm} (hg:W.grownBy W' (Value.slice sa ss.length sc).ownBlock)
  (ho:W'.ownsRow base 52 3 (.slice sa' (ss.length+1) sc') (ss.length+1) (ss.flatMap smC++smC x))
  (hat:(Value.slice sa' (ss.length+1) sc').ownBlock=(Value.slice sa ss.length sc).ownBlock∨(Value.slice sa' (ss.length+1) sc').ownBlock=some H) (hH:W.heap.size≤H) :
  Mk w (W'.setCell ⟨k,4,none⟩ (.slice sa' (ss.length+1) sc')) k base cur A B ms (ss++[x]) ps ma mc sa' sc' pa pc:=by
 refine h.turn (σ:=.f) (r':=⟨52,3,sa',ss.length+1,sc',ss.flatMap smC++smC x⟩) rfl ?_ (fun t ht=>by cases t<;>first|rfl|exact absurd rfl ht) hg ho hat hH 4 _ ?_
 ·show some (R.mk _ _ _ _ _ _)=_
  rw [List.length_append,List.flatMap_append];simp
 ·unfold mkC;simp only [List.length_append,List.length_singleton];rfl
theorem Mk.part (h:Mk w W k base cur A B ms ss ps ma mc sa sc pa pc) {pa':Option Addr} {pc' H:Nat} {x:Prt×Hd} (hg:W.grownBy W' (Value.slice pa ps.length pc).ownBlock)
  (ho:W'.ownsRow base 58 9 (.slice pa' (ps.length+1) pc') (ps.length+1) (ps.flatMap zP++zP x))
  (hat:(Value.slice pa' (ps.length+1) pc').ownBlock=(Value.slice pa ps.length pc).ownBlock∨(Value.slice pa' (ps.length+1) pc').ownBlock=some H) (hH:W.heap.size≤H) :
  Mk w (W'.setCell ⟨k,5,none⟩ (.slice pa' (ps.length+1) pc')) k base cur A B ms ss (ps++[x]) ma mc sa sc pa' pc':=by
 refine h.turn (σ:=.c) (r':=⟨58,9,pa',ps.length+1,pc',ps.flatMap zP++zP x⟩) rfl ?_ (fun t ht=>by cases t<;>first|rfl|exact absurd rfl ht) hg ho hat hH 5 _ ?_
 ·show some (R.mk _ _ _ _ _ _)=_
  rw [List.length_append,List.flatMap_append];simp
 ·unfold mkC;simp only [List.length_append,List.length_singleton];rfl
theorem prt_row {W:World} {base:Nat} {pa:Option Addr} {pc:Nat} {ps:List (Prt×Hd)} (hc:W.ownsRow base 58 9 (.slice pa ps.length pc) ps.length (ps.flatMap zP))
  (hp:∀x∈ps,PrtLies W (prtC x.1 x.2.ta x.2.tc x.2.aa x.2.ac) x.1 x.2.ta x.2.tc x.2.aa x.2.ac):Row tPrt W pa (ps.map Prod.fst).length pc (ps.map Prod.fst):=by
 rw [List.length_map];rcases hc.2 with ⟨h1,h2⟩|⟨g,cap,cur,h1,_,h3,h4,h5,_,_⟩
 ·simp only [Value.slice.injEq] at h1;obtain ⟨rfl,h1b,rfl⟩:=h1;obtain rfl:=List.eq_nil_of_length_eq_zero h1b;exact ⟨rfl,Nat.zero_le _,Nat.zero_le _,fun n=>absurd rfl n⟩
 ·simp only [Value.slice.injEq] at h1;obtain ⟨rfl,_,rfl⟩:=h1
  have hg:g<W.heap.size:=by
   rcases Nat.lt_or_ge g W.heap.size with k|k
   ·exact k
   ·rw [Array.getElem?_eq_none k] at h3;cases h3
  refine ⟨List.length_map _,h4,by unfold maxLen at h5;omega,fun _=>⟨g,0,rfl,hg,fun j x hj=>?_⟩⟩;rw [List.getElem?_map] at hj;obtain ⟨z,hz,rfl⟩:=Option.map_eq_some_iff.1 hj;have hjl:=(List.getElem?_eq_some_iff.1 hz).1;refine ⟨zP z,⟨z.2.ta,z.2.tc,z.2.aa,z.2.ac,hp z (List.mem_of_getElem? hz)⟩,fun i u hi=>?_⟩;have hil:i<9:=(List.getElem?_eq_some_iff.1 hi).1;have hlt:j*9+i<ps.length*9:=by omega
  show W.cell? ⟨g,0+j*9+i,none⟩=some u
  rw [Nat.zero_add,World.ownsRow.cellAt hc _ hlt];exact flat_get (cells:=zP) zP_len _ j z i u hz hi
end
theorem info_sm:(Tryz.prog.info? 52).map (fun i=>(i.zero,i.size,i.bytes))=some (some (.agg #[.int .i64 0,.int .i64 0,.int .i64 0]),3,24):=by kernel_rfl
theorem info_prt:(Tryz.prog.info? 58).map (fun i=>(i.zero,i.size,i.bytes))=some (some (.agg #[.int .i64 0,.int .i64 0,.int .i64 0,.int .i64 0,.int .i64 0,.int .i64 0,.slice none 0 0,.int .i64 0,.slice none 0 0]),9,104):=by kernel_rfl
end Co
namespace Mm
open Go.RowKit Go.Deep Go.ChangeShapes P
theorem fl_len {β:Type} {n:Nat} : ∀(css:List (List β)),(∀cs∈css,cs.length=n)→css.flatten.length=css.length*n
 | [],_=>by simp
 | a::r,h=>by
   have e:=fl_len r (fun cs hc=>h cs (List.mem_cons_of_mem _ hc));have ha:=h a (List.mem_cons_self ..);rw [List.flatten_cons,List.length_append,e,ha,List.length_cons,Nat.succ_mul];omega
theorem fl_split {β:Type} {n:Nat} : ∀(css:List (List β)),(∀cs∈css,cs.length=n)→∀(j:Nat) (u:β),css.flatten[j]?=some u→∃q cs i,css[q]?=some cs∧cs[i]?=some u∧j=q*n+i
 | [],_,j,u,h=>by simp at h
 | a::r,hh,j,u,h=>by
   have ha:=hh a (List.mem_cons_self ..);rw [List.flatten_cons] at h;by_cases hj:j<n
   ·rw [List.getElem?_append_left (by rw [ha];exact hj)] at h;exact ⟨0,a,j,rfl,h,by omega⟩
   ·rw [List.getElem?_append_right (by rw [ha];omega),ha] at h;obtain ⟨q,x,i,h1,h2,h3⟩:=fl_split r (fun cs hc=>hh cs (List.mem_cons_of_mem _ hc)) (j-n) u h;refine ⟨q+1,x,i,by simpa using h1,h2,?_⟩;rw [Nat.succ_mul];omega
structure Ch {α:Type} (T:Ty α) (w:World) (css:List (List Value)) (xs:List α):Prop where
 len:css.length=xs.length
 lies:∀(j:Nat) (cs:List Value) (x:α),css[j]?=some cs→xs[j]?=some x→T.lies w cs x
section
variable {α:Type} {T:Ty α} {w w':World}
theorem Ch.sizes {css:List (List Value)} {xs:List α} (h:Ch T w css xs):∀cs∈css,cs.length=T.n:=fun cs hc=>by
 obtain ⟨j,hj,e⟩:=List.getElem_of_mem hc;have hjx:j<xs.length:=by rw [←h.len];exact hj
 exact T.len (h.lies j cs (xs[j]'hjx) (by rw [List.getElem?_eq_getElem hj,e]) (List.getElem?_eq_getElem hjx))
theorem choose_list {β:Type} {p:Nat→β→Prop} : ∀(n:Nat),(∀i,i<n→∃y,p i y)→∃l:List β,l.length=n∧∀i y,l[i]?=some y→p i y
 | 0,_=>⟨[],rfl,fun i y h=>by simp at h⟩
 | n+1,h=>by
   obtain ⟨l,h1,h2⟩:=choose_list n (fun i hi=>h i (by omega));obtain ⟨y,hy⟩:=h n (by omega);refine ⟨l++[y],by simp [h1],fun i z hz=>?_⟩;by_cases hi:i<l.length
   ·rw [List.getElem?_append_left hi] at hz;exact h2 i z hz
   ·have hl:=(List.getElem?_eq_some_iff.1 hz).1;simp only [List.length_append,List.length_singleton] at hl;obtain rfl:i=l.length:=by omega
    simp only [List.getElem?_append_right (Nat.le_refl _),Nat.sub_self,List.getElem?_cons_zero,Option.some.injEq] at hz;subst hz;rw [h1];exact hy
theorem row_chunks {ao:Option Addr} {len cap:Nat} {xs:List α} (h:Row T w ao len cap xs) :
  ∃css,Ch T w css xs∧css.flatten.length=len*T.n∧(ao=none→len=0)∧(∀ad,ao=some ad→0<len→ad.block<w.heap.size)∧∀ad,ao=some ad→∀j u,css.flatten[j]?=some u→w.cell? (ad.add j)=some u:=by
 by_cases hx:xs=[]
 ·subst hx;have hl:len=0:=by rw [←h.hlen];rfl
  subst hl;exact ⟨[],⟨rfl,fun j cs x h1 _=>by simp at h1⟩,by simp,fun _=>rfl,fun _ _ k=>absurd k (Nat.lt_irrefl _),fun _ _ j u h1=>by simp at h1⟩
 ·obtain ⟨b,o,rfl,hb,hl⟩:=h.lie hx
  obtain ⟨css,h1,h2⟩:=choose_list (p:=fun j cs=>∃x,xs[j]?=some x∧T.lies w cs x∧∀i v,cs[i]?=some v→w.cell? ⟨b,o+j*T.n+i,none⟩=some v) xs.length (fun j hj=>by
   obtain ⟨cs,h1,h2⟩:=hl j _ (List.getElem?_eq_getElem hj)
   exact ⟨cs,_,List.getElem?_eq_getElem hj,h1,h2⟩)
  have hc:Ch T w css xs:=⟨h1,fun j cs x k1 k2=>by
   obtain ⟨x',e,k3,_⟩:=h2 j cs k1;rw [k2] at e;obtain rfl:=Option.some.inj e
   exact k3⟩
  refine ⟨css,hc,by rw [fl_len css hc.sizes,h1,h.hlen],(fun e=>by cases e),(fun ad e _=>by obtain rfl:=Option.some.inj e;exact hb),fun ad e j u hj=>?_⟩;obtain rfl:=Option.some.inj e;obtain ⟨q,cs,i,k1,k2,rfl⟩:=fl_split css hc.sizes j u hj;obtain ⟨_,_,_,k3⟩:=h2 q cs k1;rw [add_plain,←Nat.add_assoc];exact k3 i u k2
end
theorem own_slice {w:World} {base:Nat} {e:TypeId} {size n:Nat} {v:Value} {xs:List Value} (h:w.ownsRow base e size v n xs):∃ao cap,v=.slice ao n cap:=by
 rcases h.2 with ⟨rfl,rfl⟩|⟨g,cap,cur,rfl,_⟩
 ·exact ⟨_,_,rfl⟩
 ·exact ⟨_,_,rfl⟩
theorem run_append_none {Pr:Program} {w:World} {base:Nat} {t ty e:TypeId} {i:TypeInfo} {size:Nat} (ht:Pr.underlying t=some (.slice e)) (hi:Pr.info? e=some i)
  {v:Value} {n:Nat} {xs:List Value} (hown:w.ownsRow base e size v n xs) (c:Nat) :
  (Builtin.append_ #[t,t] ty #[v,.slice none 0 c]).run Pr w=.ok v w:=by
 rcases hown.2 with ⟨rfl,rfl⟩|⟨g,cap,cur,rfl,hbg,hg,hnc,hcm,hcs,htake⟩
 ·simp [Builtin.append_,run_underlying ht,sizeOf,typeInfo,hi,Builtin.lenOf,run_firstCells_none]
 ·simp [Builtin.append_,run_underlying ht,sizeOf,typeInfo,hi,Builtin.lenOf,hnc,run_firstCells_none,Addr.add_lit,storeCells]
theorem step_join {Pr:Program} {ops:Array Oper} {o:Oper} {a:Act} {K:Act→World→Prop} {Q:Exit→Act→World→Prop} {E:Prop} {W:World} {base:Nat} (d:Tmp) (hd:o.dst=some d) (hgd:o.guard=none) (s x:Operand) (t e:TypeId) (z:Value) (size bytes:Nat)
  (ho:o.op=.call { callee:=.builtin .append,args:=#[s,x],argTypes:=#[t,t] }) (hu:Pr.underlying t=some (.slice e)) (hinfo:(Pr.info? e).map (fun i=>(i.zero,i.size,i.bytes))=some (some z,size,bytes)) (hzs:z.cells.size=size) (hsz:0<size)
  (v:Value) (n:Nat) (xs:List Value) (hs:a.eval s=v) (hown:W.ownsRow base e size v n xs) (ao:Option Addr) (m c:Nat) (news:List Value) (hx:a.eval x=.slice ao m c) (hl:news.length=m*size)
  (h0:ao=none→m=0) (hnews:∀ad,ao=some ad→∀j u,news[j]?=some u→W.cell? (ad.add j)=some u) (h1:∀u∈news,u.oneCell'=true) (hn:n+m≤1000000000) (hb:bytes≤1000) (N:Nat) (hN:n+m=N) (hbase:base≤W.heap.size)
  (h:∀ao' cap w',w'.ownsRow base e size (.slice ao' N cap) N (xs++news)→W.grownBy w' v.ownBlock→K (a.put (some d) (.slice ao' N cap)) w') :
  if Region.wanted o (yielded ops a.tmps)=true then Oper.wp Pr o a W K Q else E:=by
 have hw:Region.wanted o (yielded ops a.tmps)=true:=by simp [Region.wanted,hgd]
 rw [if_pos hw];subst hN;obtain ⟨i0,hi,hz0,hz1,hz2⟩:=info_parts hinfo;have hby:(n+m)*bytes≤140737488355328:=Nat.le_trans (Nat.mul_le_mul hn hb) (by decide);cases ao with
 | some ad=>
   refine wp_append_own W s x t ho base e i0 z size bytes hu hi hz0 hz1 hz2 hzs hsz v n xs hs hown ad m c news hx hl (hnews ad rfl) h1 (by unfold maxLen;omega) hby hbase ?_;intro v' w' k1 k2 _;obtain ⟨ao',cap,rfl⟩:=own_slice k1;rw [hd];exact h ao' cap w' k1 k2
 | none=>
   obtain rfl:=h0 rfl;obtain rfl:news=[]:=List.eq_nil_of_length_eq_zero (by rw [hl,Nat.zero_mul]);have hr:=run_append_none (ty:=o.type) hu hi hown c;obtain ⟨ao',cap,rfl⟩:=own_slice hown;unfold Oper.wp execOp;simp only [ho,resolve,invoke,builtin,Sem.run_bind,Sem.run_pure,Result.andThen_ok,List.map_toArray,List.map_cons,List.map_nil,hs,hx,hr];show K (a.put o.dst (.slice ao' n cap)) W
   rw [hd];exact h ao' cap W (by simpa using hown) ⟨rfl,rfl,rfl,Nat.le_refl _,fun _ _ _=>rfl⟩
section
variable {w w' w2:World} {k:Nat}
end
end Mm
end Go.Proofs.YtjgogpaedaffkaaGreat
