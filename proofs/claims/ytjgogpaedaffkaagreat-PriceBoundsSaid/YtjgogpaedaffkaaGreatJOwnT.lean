/- A plan with which nothing is wrong, made out, can be; neither its name, nor the order of its meters, plays a part, nor whether a window is told that is the horizon (layer 10). No program is named here. -/
import Derived.Test.YtjgogpaedaffkaaGreatJCoQ
import Derived.Lib.SliceRun
set_option maxRecDepth 100000
set_option maxHeartbeats 8000000
namespace Go.Proofs.YtjgogpaedaffkaaGreat
namespace Mm
end Mm
namespace R6
end R6
namespace P
end P
namespace Md
end Md
namespace Te
end Te
namespace Co
end Co
namespace Tl
end Tl
namespace L06
end L06
namespace P
open Go.RowKit Go.Sort Mm R6
theorem inB_of {n a b:Int} (h:a≤n) (k:n≤b):inB n a b=true:=by
 unfold inB;rw [decide_eq_true h,decide_eq_true k];rfl
theorem hor_of {p:Plan} (h:headE p=0):dn p.a≤dn p.b∧dn p.b-dn p.a<4000:=by
 unfold headE hzn at h;split at h
 ·cases h
 ·split at h
  ·cases h
  ·omega
theorem span_win {p:Plan} {w:Win} (h:headE p=0) (hw:winIn p w=true):spanB (dn p.a) (dn p.b) (winA p w) (winB p w)=true:=by
 have k:=hor_of h;unfold spanB winA winB;unfold winIn at hw;cases e:w.has with
 | false=>simp [k.1]
 | true=>
   rw [e] at hw;simpa [and_comm,and_assoc,and_left_comm] using hw
theorem metersF_of:∀(l:List Meter) (q:Option ByteArray),(∀m∈l,mtB m=true)→Asc l→(∀n,q=some n→∀m∈l,klt n m.name=true)→metersF q l=true
 | [],_,_,_,_=>rfl
 | m::r,q,h,ha,hq=>by
   have ha':=List.pairwise_cons.1 ha
   have e:ordB q m.name=true:=by
    cases q with
    | none=>rfl
    | some n=>exact hq n rfl m (List.mem_cons_self ..)
   unfold metersF;rw [e,h m (List.mem_cons_self ..),metersF_of r _ (fun x hx=>h x (List.mem_cons_of_mem _ hx)) ha'.2 (fun n hn x hx=>by obtain rfl:=Option.some.inj hn;exact ha'.1 x hx)];rfl
theorem upB_of:∀(l:List Tier) (z:Tier) (u:Int),risesB u (l++[z])=true→(∀t∈l,TierOk t)→upB u (l++[z])=true
 | [],_,_,_,_=>rfl
 | t::l,z,u,h,hk=>by
   have e1:risesB u (t::l++[z])=(decide (1≤t.upto)&&decide (u<t.upto)&&risesB t.upto (l++[z])):=by cases l<;>rfl
   have e2:upB u (t::l++[z])=(inB t.upto (u+1) 1000000&&upB t.upto (l++[z])):=by cases l<;>rfl
   rw [e1] at h;rw [e2];simp only [Bool.and_eq_true,decide_eq_true_eq] at h;have tk:=(hk t (List.mem_cons_self ..)).upto;unfold NumOk at tk;rw [inB_of (by omega) tk.2,upB_of l z _ h.2 (fun x hx=>hk x (List.mem_cons_of_mem _ hx))];rfl
theorem adjB_of {a:Adj} (h:AdjOk a):adjB a=true:=by
 unfold AdjOk NumOk at h;unfold adjB;rcases h with ⟨e,h1,h2⟩|⟨e,h1,h2⟩
 ·rw [if_pos e,inB_of h1.1 h1.2,inB_of h2.1 h2.2];rfl
 ·rw [if_neg (by omega),if_pos e,inB_of h1.1 h1.2,decide_eq_true h2];rfl
theorem meters_few {p:Plan} (h:(wrongOf p).1=0):p.meters.length≤4:=by
 have hm:=(wrongOf_zero.1 h).2.1;rw [firstE_none] at hm;rcases Nat.lt_or_ge 4 p.meters.length with g|g
 ·have:=hm 4 _ (List.getElem?_eq_getElem g);unfold meterE at this;rw [if_pos (by omega)] at this;cases this
 ·exact g
theorem fees_few {p:Plan} (h:(wrongOf p).1=0):p.fees.length≤8:=by
 have hm:=(wrongOf_zero.1 h).2.2.1;rw [firstE_none] at hm;rcases Nat.lt_or_ge 8 p.fees.length with g|g
 ·have:=hm 8 _ (List.getElem?_eq_getElem g);unfold feeE at this;rw [if_pos (by omega)] at this;cases this
 ·exact g
theorem charges_few {p:Plan} (h:(wrongOf p).1=0):p.charges.length≤8:=by
 have hm:=(wrongOf_zero.1 h).2.2.2.1;rw [firstE_none] at hm;rcases Nat.lt_or_ge 8 p.charges.length with g|g
 ·have:=hm 8 _ (List.getElem?_eq_getElem g);unfold chE at this;rw [if_pos (by omega)] at this;cases this
 ·exact g
theorem fee_in {p:Plan} (h:(wrongOf p).1=0) {f:Fee} (hf:f∈p.fees):winIn p f.win=true:=by
 have hm:=(wrongOf_zero.1 h).2.2.1;rw [firstE_none] at hm;obtain ⟨i,hi,e⟩:=List.getElem_of_mem hf;have:=hm i f (by rw [List.getElem?_eq_getElem hi,e]);unfold feeE at this;split at this
 ·cases this
 ·split at this
  ·assumption
  ·cases this
structure ChIn (p:Plan) (c:Charge):Prop where
 ix:∃i,meterIx p.meters c.meter=some i
 win:winIn p c.win=true
 block:c.block≠0
 few:c.tiers.length≤8
 rises:risesB 0 c.tiers=true
 adjs:c.adjusts.length≤6
theorem chE_in {p:Plan} {i:Nat} {c:Charge} (h:chE p i c=0):ChIn p c:=by
 unfold chE at h;split at h
 ·cases h
 ·split at h
  ·cases h
  ·rename_i hn
   split at h
   ·cases h
   ·split at h
    ·cases h
    ·split at h
     ·cases h
     ·rename_i h1 h2 h3
      refine ⟨?_,?_,?_,by omega,by simpa using h2,by omega⟩
      ·cases e:meterIx p.meters c.meter with
       | some i=>exact ⟨i,rfl⟩
       | none=>exact absurd (Or.inl e) hn
      ·rcases Bool.eq_false_or_eq_true (winIn p c.win) with e|e
       ·exact e
       ·exact absurd (Or.inr (Or.inl e)) hn
      ·intro e;exact hn (Or.inr (Or.inr e))
theorem charge_in {p:Plan} (h:(wrongOf p).1=0) {c:Charge} (hc:c∈p.charges):ChIn p c:=by
 have hm:=(wrongOf_zero.1 h).2.2.2.1;rw [firstE_none] at hm;obtain ⟨i,hi,e⟩:=List.getElem_of_mem hc;exact chE_in (hm i c (by rw [List.getElem?_eq_getElem hi,e]))
theorem part_core {p:Plan} (h:(wrongOf p).1=0) {c:Charge} (hk:ChOk c) (hi:ChIn p c):partB (coreOf p) (partOf p c)=true:=by
 have hd:=(wrongOf_zero.1 h).1;obtain ⟨i,ei⟩:=ix_srt hi.ix;have li:=ix_lt ei;obtain ⟨ts,r,et,ht,hr⟩:=hk.tiers;have a1:=hk.allow;have a2:=hk.block;have a3:=hk.kind;have a4:=hk.mode;have a5:=hi.block;have a6:=hi.few;have a7:=hi.rises;have a8:=hi.adjs;unfold NumOk at a1 a2 a4 hr
 have e1:(partOf p c).mt=i:=by
  show (((meterIx (srt p.meters) c.meter).getD 0:Nat):Int)=i
  rw [ei];rfl
 have e2:tierRow c.tiers=true:=by
  unfold tierRow;rw [et] at a6 a7 ⊢;rw [tiersB_split,upB_of _ _ _ a7 ht]
  have:(ts++[(⟨0,r⟩:Tier)]).all rateB=true:=by
   rw [List.all_eq_true];intro t hx;unfold rateB;rcases List.mem_append.1 hx with hx|hx
   ·have:=(ht t hx).rate;unfold NumOk at this;exact inB_of this.1 this.2
   ·obtain rfl:=List.mem_singleton.1 hx;exact inB_of hr.1 hr.2
  rw [this];rw [List.length_append] at a6 ⊢;rw [inB_of (by simp only [List.length_singleton];omega) (by simp only [List.length_singleton] at a6 ⊢;omega)];rfl
 unfold partB;rw [e1];show (spanB (dn p.a) (dn p.b) (winA p c.win) (winB p c.win)&&(inB i 0 (((srt p.meters).length:Int)-1)&&(inB c.allowance 0 1000000&&(inB c.block 1 1000000&&(inB c.kind 1 2&&(inB c.mode 0 3&&(tierRow c.tiers&&(decide (c.adjusts.length≤6)&&c.adjusts.all adjB))))))))=true
 rw [span_win hd hi.win,inB_of (by omega) (by omega),inB_of a1.1 a1.2,inB_of (by omega) a2.2,inB_of (by omega) (by omega),inB_of a4.1 a4.2,e2,decide_eq_true a8]
 have:c.adjusts.all adjB=true:=by
  rw [List.all_eq_true];exact fun a ha=>adjB_of (hk.adjs a ha)
 rw [this];rfl
theorem good_core {p:Plan} (g:Gd p) (h:(wrongOf p).1=0):goodC (coreOf p)=true:=by
 have hd:=(wrongOf_zero.1 h).1;have hz:=hor_of hd;have n1:0≤dn p.a∧dn p.a<3652059:=num_bound g.days.1;have n2:0≤dn p.b∧dn p.b<3652059:=num_bound g.days.2;unfold goodC
 have c1:horB (coreOf p)=true:=by
  unfold horB;show (decide (0≤dn p.b∧dn p.b<3652059)&&(inB (dn p.a) 0 (dn p.b)&&decide (dn p.b-dn p.a<4000)))=true
  rw [decide_eq_true n2,inB_of n1.1 hz.1,decide_eq_true hz.2];rfl
 have c2:metersB (coreOf p).meters=true:=by
  refine metersF_of _ _ (fun m hm=>?_) (srt_asc (apart_of h)) (fun n hn=>by cases hn);obtain ⟨x,hx,rfl⟩:=List.mem_map.1 ((srt_perm p.meters).mem_iff.1 hm);have:=(g.meters x hx).2.2;unfold NumOk at this;unfold mtB;show (inB x.max 0 2000&&(decide ((0:Int)=0)&&decide ((0:Int)=0)))=true
  rw [inB_of this.1 this.2];rfl
 have c3:(coreOf p).sums.all (sumB (coreOf p))=true:=by
  rw [List.all_eq_true];intro s hs;obtain ⟨f,hf,rfl⟩:=List.mem_map.1 hs;have:=(g.fees f hf).1;unfold NumOk at this;unfold sumB;show (inB f.amount 0 1000000000000&&spanB (dn p.a) (dn p.b) (winA p f.win) (winB p f.win))=true
  rw [inB_of this.1 this.2,span_win hd (fee_in h hf)];rfl
 have c4:(coreOf p).parts.all (partB (coreOf p))=true:=by
  rw [List.all_eq_true];intro s hs;obtain ⟨c,hc,rfl⟩:=List.mem_map.1 hs;exact part_core h (g.charges c hc) (charge_in h hc)
 have d1:(coreOf p).meters.length≤4:=by show (srt p.meters).length≤4;rw [srt_len];exact meters_few h
 have d2:(coreOf p).sums.length≤8:=by show (p.fees.map _).length≤8;rw [List.length_map];exact fees_few h
 have d3:(coreOf p).parts.length≤8:=by show (p.charges.map _).length≤8;rw [List.length_map];exact charges_few h
 rw [c1,c2,c3,c4,decide_eq_true d1,decide_eq_true d2,decide_eq_true d3];rfl
end P
namespace P
open Go.RowKit Mm
theorem partB_t {c:Cor} {x:Prt} (h:partB c x=true):GoodT x∧x.adjusts.all adjB=true∧0≤x.mt∧x.mt<c.meters.length:=by
 unfold partB tierRow at h;simp only [Bool.and_eq_true,inB_iff,decide_eq_true_eq] at h;obtain ⟨_,⟨m0,m1⟩,a1,a2,a3,a4,⟨a5,a6⟩,a7,a8⟩:=h;exact ⟨⟨a1,a2,by omega,a4,by omega,a6,a7⟩,a8,m0,by omega⟩
theorem rup_up {q r c mode:Int} (hc:0<c) (h:rup q r c mode=true):rup q r c 1=true:=by
 have e:rup q r c 1=decide (0<r):=by unfold rup;simp
 rw [e,decide_eq_true_eq];unfold rup at h;split at h
 ·cases h
 ·split at h
  ·simpa using h
  ·split at h
   ·rw [decide_eq_true_eq] at h;omega
   ·simp only [Bool.or_eq_true,Bool.and_eq_true,decide_eq_true_eq] at h;rcases h with h|h<;>omega
theorem rnd_up {p c mode:Int} (hc:0<c):rnd p c mode≤rnd p c 1:=by
 unfold rnd;by_cases h:rup (p / c) (p % c) c mode=true
 ·rw [if_pos h,if_pos (rup_up hc h)];exact Int.le_refl _
 ·rw [if_neg h];split<;>omega
theorem rnd_nn {p c mode:Int} (h:0≤p) (hc:0<c):0≤rnd p c mode:=by
 have:=(rnd_ge p c mode).1;have:=Int.ediv_nonneg h (by omega:0≤c);omega
theorem adj_bound {a:Adj} {n k j:Int} (hb:adjB a=true) (h0:0≤n) (h:n≤k) (e:adjStep k a=some j):∃m,adjO a n=some m∧0≤m∧m≤j:=by
 unfold adjB at hb;unfold adjStep at e;unfold adjO;by_cases h1:a.kind=1
 ·rw [if_pos h1] at hb e ⊢;rw [Bool.and_eq_true,inB_iff,inB_iff] at hb;obtain ⟨eb,hl,rfl⟩:=lim_some e;obtain ⟨_,_,i2,e2⟩:=mdb_true eb;have gm:goodm a.mode=true:=(goodm_iff _).2 hb.2;have p1:0≤n*a.num:=Int.mul_nonneg h0 hb.1.1;have p2:n*a.num≤k*a.num:=Int.mul_le_mul_of_nonneg_right h hb.1.1;have r1:rnd (n*a.num) 100000 a.mode≤rnd (k*a.num) 100000 1:=Int.le_trans (rnd_up (by decide)) (rnd_mono (by decide) (by decide) p2);have r0:0≤rnd (n*a.num) 100000 a.mode:=rnd_nn p1 (by decide);have ri:I64 (rnd (n*a.num) 100000 a.mode):=by unfold I64 at *;omega
  rw [mdb_good (by decide) gm,ok64_t ri,if_pos rfl,mdn_good (by decide) gm,cut64_t ri,e2];exact ⟨_,rfl,r0,r1⟩
 ·rw [if_neg h1] at hb e ⊢;by_cases h2:a.kind=2
  ·rw [if_pos (.inl h2),Bool.and_eq_true,inB_iff] at hb;rw [if_pos h2] at e ⊢;obtain ⟨_,_,rfl⟩:=lim_some e;exact ⟨_,rfl,by omega,by split<;>omega⟩
  ·rw [if_neg h2] at e ⊢;by_cases h3:a.kind=3
   ·rw [if_pos (.inr (.inl h3)),Bool.and_eq_true,inB_iff] at hb;rw [if_pos h3] at e ⊢;obtain ⟨_,_,rfl⟩:=lim_some e;exact ⟨_,rfl,by omega,by split<;>omega⟩
   ·rw [if_neg h3] at e ⊢;by_cases h4:a.kind=4
    ·rw [if_pos (.inr (.inr h4)),Bool.and_eq_true,inB_iff] at hb;rw [if_pos h4] at e ⊢;obtain ⟨eb,_,rfl⟩:=lim_some e;have i2:=ok64_i eb;have i1:I64 (n+a.num):=by unfold I64 at *;omega
     rw [ok64_t i1,if_pos rfl,cut64_t i2];exact ⟨_,rfl,by omega,by omega⟩
    ·rw [if_neg (by omega)] at hb;cases hb
theorem adjs_bound:∀(l:List Adj) (n k j:Int),l.all adjB=true→0≤n→n≤k→adjAll k l=some j→∃m,adjsO n l=some m∧0≤m∧m≤j
 | [],n,k,j,_,h0,h,e=>by
   have e:some k=some j:=e;obtain rfl:=Option.some.inj e;exact ⟨n,rfl,h0,h⟩
 | a::l,n,k,j,hl,h0,h,e=>by
   rw [List.all_cons,Bool.and_eq_true] at hl;have e:(adjStep k a).bind (fun m=>adjAll m l)=some j:=e;obtain ⟨k2,e1,e2⟩:=Option.bind_eq_some_iff.1 e;obtain ⟨n2,f1,f2,f3⟩:=adj_bound hl.1 h0 h e1;obtain ⟨m,g1,g2⟩:=adjs_bound l n2 k2 j hl.2 f2 f3 e2;refine ⟨m,?_,g2⟩
   show (match adjO a n with
    | some m=>adjsO m l
    | none=>none)=some m
   rw [f1];exact g1
theorem top_from:∀(ts:List Tier) (r:Int),r≤ts.foldl (fun r t=>max r t.rate) r∧∀t∈ts,t.rate≤ts.foldl (fun r t=>max r t.rate) r
 | [],r=>⟨Int.le_refl _,fun _ h=>by cases h⟩
 | t::ts,r=>by
   obtain ⟨h1,h2⟩:=top_from ts (max r t.rate);rw [List.foldl_cons];refine ⟨by omega,fun s hs=>?_⟩;rcases List.mem_cons.1 hs with rfl|hs
   ·omega
   ·exact h2 s hs
theorem top_ge {ts:List Tier} {t:Tier} (h:t∈ts):t.rate≤topRate ts:=(top_from ts 0).2 t h
theorem top_le {m:Int} : ∀(ts:List Tier) (r:Int),r≤m→(∀t∈ts,t.rate≤m)→ts.foldl (fun r t=>max r t.rate) r≤m
 | [],r,h,_=>h
 | t::ts,r,h,k=>by
   rw [List.foldl_cons];have:=k t (List.mem_cons_self ..);exact top_le ts (max r t.rate) (by omega) fun s hs=>k s (List.mem_cons_of_mem _ hs)
theorem tiersB_all:∀(ts:List Tier) (u:Int),tiersB u ts=true→∀t∈ts,t.rate≤1000000000000
 | [],_,_,t,h=>by cases h
 | [s],u,hB,t,h=>by
   have:=tiersB_one hB;rw [List.mem_singleton] at h;subst h;omega
 | s::z::ts,u,hB,t,h=>by
   obtain ⟨_,h1,_,_,h2⟩:=tiersB_cons hB;rcases List.mem_cons.1 h with rfl|h
   ·exact h1
   ·exact tiersB_all (z::ts) s.upto h2 t h
theorem grad_le {R:Int} (hR:0≤R):∀(ts:List Tier) (u q:Int),tiersB u ts=true→(∀t∈ts,t.rate≤R)→costS (gradS q u ts)≤R*max 0 (q-u)
 | [],u,q,_,_=>Int.mul_nonneg hR (by omega)
 | [t],u,q,_,h=>by
   have:=h t (List.mem_cons_self ..);unfold gradS;split
   ·rename_i k
    rw [show max 0 (q-u)=q-u by omega];have:=Int.mul_le_mul_of_nonneg_right this (show 0≤q-u by omega);show t.rate*(q-u)+0≤_
    omega
   ·exact Int.mul_nonneg hR (by omega)
 | t::s::ts,u,q,hB,h=>by
   obtain ⟨_,_,h1,_,h2⟩:=tiersB_cons hB;have ih:=grad_le hR (s::ts) t.upto q h2 (fun z hz=>h z (List.mem_cons_of_mem _ hz));have ht:=h t (List.mem_cons_self ..);unfold gradS;by_cases k:u<min q t.upto
   ·rw [if_pos k];have k1:=Int.mul_le_mul_of_nonneg_right ht (show 0≤min q t.upto-u by omega)
    have k2:R*max 0 (q-u)=R*(min q t.upto-u)+R*max 0 (q-t.upto):=by
     rw [←Int.mul_add];congr 1
     omega
    show t.rate*(min q t.upto-u)+costS (gradS q t.upto (s::ts))≤_
    omega
   ·rw [if_neg k,show max 0 (q-u)=max 0 (q-t.upto) by omega];exact ih
theorem volR_le {R:Int} (hR:0≤R):∀(ts:List Tier) (q:Int),(∀t∈ts,t.rate≤R)→volR q ts≤R
 | [],_,_=>hR
 | [t],_,h=>h t (List.mem_cons_self ..)
 | t::s::ts,q,h=>by
   unfold volR;split
   ·exact h t (List.mem_cons_self ..)
   ·exact volR_le hR (s::ts) q fun z hz=>h z (List.mem_cons_of_mem _ hz)
theorem cost_le {x:Prt} (g:GoodT x) (q:Int):costP x q≤topRate x.tiers*lq x q:=by
 have h0:=lq_ge g q;have hr:=topRate_nn x.tiers;have hm:=fun t (h:t∈x.tiers)=>top_ge h;unfold costP stepsP;split
 ·unfold volS;split
  ·have:=Int.mul_le_mul_of_nonneg_right (volR_le hr x.tiers (lq x q) hm) h0;show volR (lq x q) x.tiers*(lq x q-0)+0≤_
   rw [Int.sub_zero];omega
  ·exact Int.mul_nonneg hr h0
 ·have:=grad_le hr x.tiers 0 (lq x q) g.tiers hm
  rwa [show max 0 (lq x q-0)=lq x q by omega] at this
theorem lq_qty {x:Prt} (g:GoodT x) {q mx:Int} (h:q≤mx):lq x q≤qty mx x.allowance x.block:=by
 unfold qty;split
 ·rw [lq_zero g (by omega)];exact Int.le_refl _
 ·have:=lq_mono g h;unfold lq at this ⊢
  rwa [show max 0 (mx-x.allowance)=mx-x.allowance by omega] at this
theorem lq_le {x:Prt} (g:GoodT x) {q:Int} (h:q≤2000):lq x q≤1002000:=by
 have gb:=g.block;have ga:=g.allow;unfold lq;have:=Int.ediv_mul_le (max 0 (q-x.allowance)+x.block-1) (show x.block≠0 by omega);omega
theorem part_bound {x:Prt} (g:GoodT x) (ha:x.adjusts.all adjB=true) {q mx v:Int} (h0:0≤q) (h1:q≤mx) (h2:mx≤2000)
  (hv:(lim (mdn (topRate x.tiers*qty mx x.allowance x.block) 1000000 1) (mdb (topRate x.tiers*qty mx x.allowance x.block) 1000000 1)).bind (fun n=>adjAll n x.adjusts)=some v):∃n,partO x q=some n∧0≤n∧n≤v:=by
 obtain ⟨k,e1,e2⟩:=Option.bind_eq_some_iff.1 hv;obtain ⟨eb,hl,rfl⟩:=lim_some e1;obtain ⟨_,_,i2,e3⟩:=mdb_true eb;have r0:=topRate_nn x.tiers;have r1:topRate x.tiers≤1000000000000:=top_le x.tiers 0 (by decide) (tiersB_all x.tiers 0 g.tiers);have l0:=lq_ge g q;have l1:=lq_le g (q:=q) (by omega);have c0:=costP_pos g q;have c1:=cost_le g q;have c2:=Int.mul_le_mul_of_nonneg_right r1 l0;have c3:topRate x.tiers*lq x q≤topRate x.tiers*qty mx x.allowance x.block:=Int.mul_le_mul_of_nonneg_left (lq_qty g h1) r0;have ci:I64 (costP x q):=by unfold I64;omega
 have li:I64 (lq x q):=by unfold I64;omega
 have gm:=gt_mode g
 have eq:chargeO x q=some (rnd (costP x q) 1000000 x.mode):=by
  unfold chargeO;rw [microO_eq g];unfold lqOk;rw [decide_eq_true h0,ok64_t li,ok64_t ci];rfl
 have q0:0≤rnd (costP x q) 1000000 x.mode:=rnd_nn c0 (by decide);have q1:rnd (costP x q) 1000000 x.mode≤rnd (topRate x.tiers*qty mx x.allowance x.block) 1000000 1:=Int.le_trans (rnd_up (by decide)) (rnd_mono (by decide) (by decide) (Int.le_trans c1 c3));rw [e3] at e2;obtain ⟨m,f1,f2,f3⟩:=adjs_bound x.adjusts _ _ v ha q0 q1 e2;refine ⟨m,?_,f2,f3⟩;unfold partO;rw [eq];exact f1
def Dom:List Int→List Int→Prop
 | l',[]=>l'=[]
 | l',x::l=>(0≤x∧Dom l' l)∨∃y r,l'=y::r∧0≤y∧y≤x∧Dom r l
theorem dom_app:∀{b a c d:List Int},Dom a b→Dom c d→Dom (a++c) (b++d)
 | [],a,c,d,h,k=>by
   have h:a=[]:=h;subst h;exact k
 | x::b,a,c,d,h,k=>by
   rcases h with ⟨h0,h⟩|⟨y,r,rfl,h0,h1,h⟩
   ·exact .inl ⟨h0,dom_app h k⟩
   ·exact .inr ⟨y,r++c,rfl,h0,h1,dom_app h k⟩
theorem dom_sum:∀{l l':List Int} {n n' m:Int},Dom l' l→0≤n'→n'≤n→n<maxBound→sumUp n l=some m→(sumTo n' l').2=true∧0≤(sumTo n' l').1∧(sumTo n' l').1≤m
 | [],l',n,n',m,h,h0,h1,_,e=>by
   have h:l'=[]:=h;subst h;have e:some n=some m:=e;obtain rfl:=Option.some.inj e;exact ⟨rfl,h0,h1⟩
 | x::l,l',n,n',m,h,h0,h1,h2,e=>by
   unfold sumUp at e;split at e
   ·cases e
   ·rename_i hx
    rcases h with ⟨x0,h⟩|⟨y,r,rfl,y0,y1,h⟩
    ·exact dom_sum h h0 (by omega) (by omega) e
    ·have i:I64 (n'+y):=by unfold I64;unfold maxBound at *;omega
     have:=dom_sum (n':=n'+y) h (by omega) (by omega) (by omega) e;unfold sumTo;rw [ok64_t i,if_pos rfl];exact this
theorem dom_fees (p:Plan) (d:Int):∀(fs:List Fee),(∀f∈fs,0≤f.amount)→Dom (sumsL d (fs.map (sumOf p))) (fs.map (·.amount))
 | [],_=>rfl
 | f::fs,h=>by
   have ih:=dom_fees p d fs fun z hz=>h z (List.mem_cons_of_mem _ hz);have h0:=h f (List.mem_cons_self ..);show Dom (if onB (sumOf p f).a (sumOf p f).b d=true then (sumOf p f).amt::sumsL d (fs.map (sumOf p)) else sumsL d (fs.map (sumOf p))) (f.amount::fs.map (·.amount))
   split
   ·exact .inr ⟨_,_,rfl,h0,Int.le_refl _,ih⟩
   ·exact .inl ⟨h0,ih⟩
def CB (p:Plan) (bk:List Int) (c:Charge):Prop:=GoodT (partOf p c)∧(partOf p c).adjusts.all adjB=true∧
 ∃i,meterIx p.meters c.meter=some i∧0≤qAt bk (partOf p c).mt∧qAt bk (partOf p c).mt≤(p.meters.getD i default).max∧(p.meters.getD i default).max≤2000
theorem dom_parts (p:Plan) (d:Int) (bk:List Int):∀(cs:List Charge) (l:List Int),(∀c∈cs,CB p bk c)→mosts p.meters cs=some l→∃l',partsO d bk (cs.map (partOf p))=some l'∧Dom l' l
 | [],l,_,e=>by
   have e:some []=some l:=e;obtain rfl:=Option.some.inj e;exact ⟨[],rfl,rfl⟩
 | c::cs,l,h,e=>by
   obtain ⟨g,ha,i,hi,q0,q1,q2⟩:=h c (List.mem_cons_self ..);unfold mosts at e;rw [hi] at e;obtain ⟨v,e1,e2⟩:=Option.bind_eq_some_iff.1 e;obtain ⟨l2,e3,rfl⟩:=Option.map_eq_some_iff.1 e2;obtain ⟨l',f1,f2⟩:=dom_parts p d bk cs l2 (fun z hz=>h z (List.mem_cons_of_mem _ hz)) e3;obtain ⟨n,n1,n2,n3⟩:=part_bound g ha q0 q1 q2 e1
   show ∃l',(if onB (partOf p c).a (partOf p c).b d=true then (match partO (partOf p c) (qAt bk (partOf p c).mt) with
    | some n=>(partsO d bk (cs.map (partOf p))).map (n::·)
    | none=>none) else partsO d bk (cs.map (partOf p)))=some l'∧Dom l' (v::l2)
   split
   ·rw [n1,f1];exact ⟨_,rfl,.inr ⟨_,_,rfl,n2,n3,f2⟩⟩
   ·exact ⟨l',f1,.inl ⟨by omega,f2⟩⟩
theorem inBk_at:∀(ms:List Meter) (bk:List Int) (i:Nat) (m:Meter),inBk ms bk=true→ms[i]?=some m→0≤bk.getD i 0∧bk.getD i 0≤m.max
 | [],_,_,_,_,h=>by simp at h
 | _::_,[],_,_,h,_=>by cases h
 | m::ms,q::qs,0,m',h,e=>by
   unfold inBk at h;rw [Bool.and_eq_true,Bool.and_eq_true,decide_eq_true_eq,decide_eq_true_eq] at h;obtain rfl:m=m':=by simpa using e
   exact h.1
 | m::ms,q::qs,i+1,m',h,e=>by
   unfold inBk at h;rw [Bool.and_eq_true] at h;exact inBk_at ms qs i m' h.2 (by simpa using e)
theorem bounds {p:Plan} (g:Gd p) (hw:(wrongOf p).1=0) {d:Int} {bk:List Int} (hb:inBk (coreOf p).meters bk=true) :
  ∃n m,costO (coreOf p) d bk=some n∧boundOf p=some m∧0≤n∧n≤m:=by
 have hz:=wrongOf_zero.1 hw;have hg:=good_core g hw;have ap:=apart_of hw
 have gp:∀c∈p.charges,partB (coreOf p) (partOf p c)=true:=by
  unfold goodC at hg;simp only [Bool.and_eq_true] at hg;have:=List.all_eq_true.1 hg.2.2.2.2.2;exact fun c hc=>this _ (List.mem_map.2 ⟨c,hc,rfl⟩)
 have cb:∀c∈p.charges,CB p bk c:=by
  intro c hc;obtain ⟨g1,g2,g3,g4⟩:=partB_t (gp c hc);refine ⟨g1,g2,?_⟩;obtain ⟨j,hj,ej⟩:=List.mem_iff_getElem.1 hc;have he:=(firstE_none.1 hz.2.2.2.1) j c (by rw [List.getElem?_eq_getElem hj,ej])
  have hx:meterIx p.meters c.meter≠none:=by
   intro e;unfold chE at he;split at he
   ·exact absurd he (by decide)
   ·rw [if_pos (Or.inl e)] at he;exact absurd he (by decide)
  obtain ⟨i,hi⟩:=Option.ne_none_iff_exists'.1 hx;obtain ⟨m0,hm0,n0⟩:=ix_some hi;obtain ⟨k,hk⟩:=ix_srt (ms:=p.meters) ⟨i,hi⟩;obtain ⟨m1,hm1,n1⟩:=ix_some hk;obtain ⟨m2,hm2,e2⟩:=List.mem_map.1 ((srt_perm p.meters).mem_iff.1 (List.mem_of_getElem? hm1));obtain ⟨j2,hj2,ej2⟩:=List.mem_iff_getElem.1 hm2;have hm2':p.meters[j2]?=some m2:=by rw [List.getElem?_eq_getElem hj2,ej2]
  have n2:m2.name=m0.name:=by
   have:m2.name=m1.name:=by rw [←e2];rfl
   rw [this,n1,n0]
  have ij:=apart_ne ap hm2' hm0 n2;subst ij
  obtain rfl:m2=m0:=by
   rw [hm0] at hm2';exact (Option.some.inj hm2').symm
  have emt:(partOf p c).mt=(k:Int):=by
   unfold partOf;rw [hk];rfl
  have mx:m1.max=m2.max:=by rw [←e2];rfl
  obtain ⟨q0,q1⟩:=inBk_at _ bk k m1 hb hm1;have ed:p.meters.getD j2 default=m2:=by rw [List.getD_eq_getElem?_getD,hm0];rfl
  have gm:=(g.meters m2 hm2).2.2;unfold NumOk at gm;refine ⟨j2,hi,?_,?_,?_⟩
  ·rw [emt];exact q0
  ·rw [emt,ed];show bk.getD k 0≤_
   omega
  ·rw [ed];exact gm.2
 obtain ⟨m,hm⟩:=Option.ne_none_iff_exists'.1 hz.2.2.2.2;have hm':=hm;unfold boundOf at hm';obtain ⟨l,e1,e2⟩:=Option.bind_eq_some_iff.1 hm';obtain ⟨l',f1,f2⟩:=dom_parts p d bk p.charges l cb e1;have df:=dom_fees p d p.fees (gd_noneg g).fees;obtain ⟨s1,s2,s3⟩:=dom_sum (dom_app df f2) (Int.le_refl 0) (Int.le_refl 0) (by decide) e2;refine ⟨_,m,?_,hm,s2,s3⟩;unfold costO;rw [show (coreOf p).parts=p.charges.map (partOf p) from rfl,f1];show (if (sumTo 0 (sumsL d (p.fees.map (sumOf p))++l')).2=true then _ else _)=_
 rw [if_pos s1];rfl
end P
namespace R10
open Go.RowKit Go.Sort P Mm Md R6 Te Co
theorem days_any (p:Plan) (x:Win) (ma:Option Addr) (mc:Nat) (fa:Option Addr) (fc:Nat) (ca:Option Addr) (cc:Nat) (w:World) (hp:DayOk p.a∧DayOk p.b) (hx:WinOk x) :
  Calls Tryz.prog 50 #[.agg #[p.name,p.cur,p.a.y,p.a.m,p.a.d,p.b.y,p.b.m,p.b.d,.slice ma p.meters.length mc,.slice fa p.fees.length fc,.slice ca p.charges.length cc,p.line,p.col],.agg #[x.has,x.a.y,x.a.m,x.a.d,x.b.y,x.b.m,x.b.d]] w fun e w'=>e=.returned (.tuple #[.int .i64 (winA p x),.int .i64 (winB p x)])∧Below w.heap.size w w':=by
 obtain ⟨w1,hw1⟩:∃W,W=(w.alloc (.cells #[p.name,p.cur,p.a.y,p.a.m,p.a.d,p.b.y,p.b.m,p.b.d,.slice ma p.meters.length mc,.slice fa p.fees.length fc,.slice ca p.charges.length cc,p.line,p.col] 45)).alloc (.cells #[x.has,x.a.y,x.a.m,x.a.d,x.b.y,x.b.m,x.b.d] 82):=⟨_,rfl⟩;obtain ⟨k1,hk1⟩:∃k,k=w.heap.size:=⟨_,rfl⟩;obtain ⟨k2,hk2⟩:∃k,k=w.heap.size+1:=⟨_,rfl⟩;have b1:Below w.heap.size w w1:=by rw [hw1];exact bel_alloc2 ..
 have X2:Box w1 k2 [x.has,x.a.y,x.a.m,x.a.d,x.b.y,x.b.m,x.b.d]:=by
  rw [hw1,hk2];have:=Box.new (w.alloc (.cells #[p.name,p.cur,p.a.y,p.a.m,p.a.d,p.b.y,p.b.m,p.b.d,.slice ma p.meters.length mc,.slice fa p.fees.length fc,.slice ca p.charges.length cc,p.line,p.col] 45)) [x.has,x.a.y,x.a.m,x.a.d,x.b.y,x.b.m,x.b.d] 82;simpa using this
 have X1:Box w1 k1 [p.name,p.cur,p.a.y,p.a.m,p.a.d,p.b.y,p.b.m,p.b.d,.slice ma p.meters.length mc,.slice fa p.fees.length fc,.slice ca p.charges.length cc,p.line,p.col]:=by rw [hw1,hk1];exact (Box.new w _ 45).on (bel_alloc _ _)
 have HW:=hid hw1;have HK1:=hid hk1;have HK2:=hid hk2;have B1:=hid b1;have a0:=X2.cell 0 _ rfl;clear hw1 hk1 hk2 b1;obtain ⟨A,hA⟩:∃A,A=winA p x:=⟨_,rfl⟩;obtain ⟨B,hB⟩:∃A,A=winB p x:=⟨_,rfl⟩;rw [←hA,←hB];rcases Bool.eq_false_or_eq_true x.has with hh|hh
 ·have dx:DayOk x.a∧DayOk x.b:=by
   rcases hx with h|h
   ·exact h.2
   ·rw [h] at hh;cases hh
  have cA:=fun W=>R9.num3 x.a dx.1 W;have cB:=fun W=>R9.num3 x.b dx.2 W;rw [show dn x.a=A by rw [hA];unfold winA;rw [if_pos hh]] at cA;rw [show dn x.b=B by rw [hB];unfold winB;rw [if_pos hh]] at cB;have f1:=cell_regrown (X2.cell 1 _ rfl);have f2:=cell_regrown (X2.cell 2 _ rfl);have f3:=cell_regrown (X2.cell 3 _ rfl);have f4:=cell_regrown (X2.cell 4 _ rfl);have f5:=cell_regrown (X2.cell 5 _ rfl);have f6:=cell_regrown (X2.cell 6 _ rfl);have lk:=X2.lt;have HH:=hid hh;have qA:=fun d os=>Calls.regrown_of (cA (grow (redrawn w1 d) os));have qB:=fun d os=>Calls.regrown_of (cB (grow (redrawn w1 d) os));clear hA hB X1 X2 cA cB dx hh;go_enter Tryz.func50,Tryz.ntmps50
  go_upto_region 1 with fail
  rw [←HW.out,←HK2.out,←HK1.out];clear HW HK1 HK2;rw [HH.out] at a0;go_wp2;refine wp_region_quiet_below (by kernel_rfl) (by kernel_rfl) ?_;repeat (go_big_quiet_step (first|(go_at_call_of 47 (Value.agg #[x.a.y,x.a.m,x.a.d]);exact qA _ _)|(go_at_call 47;exact qB _ _)))
  refine wpQuiet_nil ?_;intro w3 hw';obtain ⟨⟨dq,osq⟩,hw''⟩:=hw';have BF:=hid (bel_on B1.out (by rw [hw''];exact below_regrown w1 dq osq:Below w1.heap.size w1 w3));clear hw'' f1 f2 f3 f4 f5 f6 qA qB;go_wp2;go_ret2;exact ⟨rfl,BF.out⟩
 ·have cA:=fun W=>R9.num3 p.a hp.1 W;have cB:=fun W=>R9.num3 p.b hp.2 W;rw [show dn p.a=A by rw [hA];unfold winA;rw [if_neg (by rw [hh];decide)]] at cA;rw [show dn p.b=B by rw [hB];unfold winB;rw [if_neg (by rw [hh];decide)]] at cB;have f1:=cell_regrown (X1.cell 2 _ rfl);have f2:=cell_regrown (X1.cell 3 _ rfl);have f3:=cell_regrown (X1.cell 4 _ rfl);have f4:=cell_regrown (X1.cell 5 _ rfl);have f5:=cell_regrown (X1.cell 6 _ rfl);have f6:=cell_regrown (X1.cell 7 _ rfl);have lk:=X1.lt;have HH:=hid hh;have qA:=fun d os=>Calls.regrown_of (cA (grow (redrawn w1 d) os));have qB:=fun d os=>Calls.regrown_of (cB (grow (redrawn w1 d) os));clear hA hB X1 X2 cA cB hh;go_enter Tryz.func50,Tryz.ntmps50
  go_upto_region 1 with fail
  rw [←HW.out,←HK2.out,←HK1.out];clear HW HK1 HK2;rw [HH.out] at a0;go_wp2;refine wp_region_quiet_below (by kernel_rfl) (by kernel_rfl) ?_;repeat (go_big_quiet_step (first|(go_at_call_of 47 (Value.agg #[p.a.y,p.a.m,p.a.d]);exact qA _ _)|(go_at_call 47;exact qB _ _)))
  refine wpQuiet_nil ?_;intro w3 hw';obtain ⟨⟨dq,osq⟩,hw''⟩:=hw';have BF:=hid (bel_on B1.out (by rw [hw''];exact below_regrown w1 dq osq:Below w1.heap.size w1 w3));clear hw'' f1 f2 f3 f4 f5 f6 qA qB;go_wp2;go_ret2;exact ⟨rfl,BF.out⟩
end R10
namespace L06
open Go.RowKit Go.Sort P Mm R6
def z0:Win:=⟨false,⟨0,0,0⟩,⟨0,0,0⟩⟩
theorem info_tier:(Tryz.prog.info? 54).map (fun i=>(i.zero,i.size,i.bytes))=some (some (.agg (tierC ⟨0,0⟩).toArray),2,16):=by kernel_rfl
def h0:Hd:=⟨none,0,none,0⟩
section
variable {w:World} {base:Nat} {r:Plan} {ma:Option Addr} {mc:Nat} {fa:Option Addr} {fc cb cc:Nat} {hs:List Hd} {j:Nat} {c c':Charge} {d d':Hd}
end
end L06
namespace Te
open Go.RowKit Go.Sort P Mm R6 Tl L06
theorem box_there {W:World} {b:Nat} {cs:List Value} (h:Box W b cs) {n:Nat} (hn:n=cs.length):W.there b 0 n:=fun j hj=>by
 subst hn;rw [Nat.zero_add];exact ⟨by rw [h.cell j _ (List.getElem?_eq_getElem hj)];rfl,h.free j⟩
theorem flat_split {α β:Type} {cells:α→List β} {n:Nat} (hn:∀x,(cells x).length=n):∀(xs:List α) (j:Nat) (u:β),(xs.flatMap cells)[j]?=some u→∃q x i,xs[q]?=some x∧(cells x)[i]?=some u∧j=q*n+i
 | [],j,u,h=>by simp at h
 | a::r,j,u,h=>by
   rw [List.flatMap_cons] at h;by_cases hj:j<n
   ·rw [List.getElem?_append_left (by rw [hn];exact hj)] at h;exact ⟨0,a,j,rfl,h,by omega⟩
   ·rw [List.getElem?_append_right (by rw [hn];omega),hn] at h;obtain ⟨q,x,i,h1,h2,h3⟩:=flat_split hn r (j-n) u h;refine ⟨q+1,x,i,by simpa using h1,h2,?_⟩;rw [Nat.succ_mul];omega
theorem row_cells {α:Type} {n:Nat} {cells:α→List Value} {ok:α→Prop} {hn:∀x,(cells x).length=n} {w:World} {b o len cap:Nat} {xs:List α} (h:Row (leaf n cells ok hn) w (some ⟨b,o,none⟩) len cap xs) :
  ∀j u,(xs.flatMap cells)[j]?=some u→w.cell? ((⟨b,o,none⟩:Addr).add j)=some u:=fun j u hj=>by
 obtain ⟨q,x,i,h1,h2,h3⟩:=flat_split hn xs j u hj;obtain ⟨b',o',cs,e,_,⟨e2,_⟩,h4⟩:=h.at h1;simp only [Option.some.injEq,Addr.mk.injEq,and_true] at e;obtain ⟨rfl,rfl⟩:=e;subst e2;have:=h4 i u h2;rw [add_plain,h3,←Nat.add_assoc];exact this
theorem one_tier:∀(ts:List Tier),∀u∈ts.flatMap tierC,u.oneCell'=true:=fun ts u hu=>by
 obtain ⟨t,_,h⟩:=List.mem_flatMap.1 hu;simp only [tierC,List.mem_cons,List.not_mem_nil,or_false] at h;rcases h with rfl|rfl<;>rfl
theorem cloneT_any (ts:List Tier) (ta:Option Addr) (tc:Nat) (w:World) (h:Row tTier w ta ts.length tc ts) (hl:ts.length≤100000) :
  Calls Tryz.prog 123 #[.slice ta ts.length tc] w fun e w'=>∃v,e=.returned v∧w'.ownsRow w.heap.size 54 2 v ts.length (ts.flatMap tierC)∧Below w.heap.size w w':=by
 have q:∀(w:World) (a:Option Addr) (n c n' c':Nat),(binOp .eql 55 (.slice a n c) (.slice none n' c')).run Tryz.prog w=.ok (.bool a.isNone) w:=fun w a n c n' c'=>Lib.run_eql_slice_nil w _ _ a n c n' c' Tryz.underlying55;cases ta with
 | none=>
   obtain rfl:ts=[]:=by
    cases ts with
    | nil=>rfl
    | cons a r=>obtain ⟨b,o,e,_⟩:=h.lie (by simp);cases e
   clear h hl;go_enter Tryz.func123,Tryz.ntmps123
   go_wp2;go_ret;exact ⟨_,rfl,World.ownsRow_nil ..,Below.refl _ _⟩
 | some a=>
   obtain ⟨ti,hi,hz0,hz1,hz2⟩:=info_parts info_tier
   have hnews:∀(x:Obj) (j:Nat) (u:Value),(ts.flatMap tierC)[j]?=some u→(w.alloc x).cell? (a.add j)=some u:=fun x j u hj=>by
    obtain ⟨b,o,e,hlt,_⟩:=h.lie (fun e=>by rw [e] at hj;simp at hj);obtain rfl:=Option.some.inj e;have:=row_cells (h.alloc x) j u hj;exact this
   have hfl:(ts.flatMap tierC).length=ts.length*2:=flat_len (f:=tierC) (n:=2) (fun _=>rfl) _;have H:=hid hnews;have HF:=hid hfl;clear h hnews hfl;go_enter Tryz.func123,Tryz.ntmps123
   go_wp2_with (at_builtin;refine wpList_append_own _ rfl _ _ 55 rfl w.heap.size 54 ti (.agg (tierC ⟨0,0⟩).toArray) 2 16 Tryz.underlying55 hi hz0 hz1 hz2 rfl (by decide) _ _ _ rfl (World.ownsRow_made w #[] 0 (Nat.le_refl _) (Nat.zero_le _) rfl) a ts.length tc (ts.flatMap tierC) rfl ?c1 ?c2 ?c3 ?c4 ?c5 ?c6 ?_)
   case c1=>exact HF.out
   case c2=>exact H.out _
   case c3=>exact one_tier ts
   case c4=>unfold maxLen;omega
   case c5=>omega
   case c6=>simp
   intro v' w1 hown hgrow hnil;clear hnil;have hb:Below w.heap.size w w1:=((Below.refl _ w).alloc (Nat.le_refl _) _).grown hgrow (by simp) (by intro k hk;simp [Value.ownBlock] at hk;omega);have ho:w1.ownsRow w.heap.size 54 2 v' ts.length (ts.flatMap tierC):=by simpa using hown
   clear hown hgrow;go_wp2;go_ret;exact ⟨v',rfl,ho,hb⟩
end Te
namespace Mm
open Go.RowKit P R6
theorem Owns.turn {W W':World} {base H:Nat} {ρ ρ':Slot→Option R} (h:Owns W base ρ) {σ:Slot} {r r':R} (hσ:ρ σ=some r) (hσ':ρ' σ=some r') (he:∀s,s≠σ→ρ' s=ρ s)
  (hg:W.grownBy W' r.v.ownBlock) (ho:W'.ownsRow base r'.e r'.size r'.v r'.n r'.xs) (hat:r'.v.ownBlock=r.v.ownBlock∨r'.v.ownBlock=some H) (hH:W.heap.size≤H):Owns W' base ρ':=by
 have oth:=h.others hσ hg
 have far:∀t q k,t≠σ→ρ t=some q→q.v.ownBlock=some k→r'.v.ownBlock=some k→False:=fun t q k hne hq hk hk'=>by
  rcases hat with e|e
  ·exact hne (h.apart t σ q r k hq hσ hk (e ▸ hk'))
  ·rw [e] at hk';have:=Option.some.inj hk';have:=((h.own t q hq).lt k hk).2;omega
 refine ⟨fun s q hs=>?_,fun s t q q' k hs ht hk hk'=>?_⟩
 ·by_cases e:s=σ
  ·subst e;rw [hσ'] at hs;obtain rfl:=Option.some.inj hs;exact ho
  ·rw [he s e] at hs;exact oth s q e hs
 ·by_cases e:s=σ<;>by_cases e2:t=σ
  ·rw [e,e2]
  ·subst e;rw [hσ'] at hs;obtain rfl:=Option.some.inj hs;rw [he t e2] at ht;exact (far t q' k e2 ht hk' hk).elim
  ·subst e2;rw [hσ'] at ht;obtain rfl:=Option.some.inj ht;rw [he s e] at hs;exact (far s q k e hs hk hk').elim
  ·rw [he s e] at hs;rw [he t e2] at ht;exact h.apart s t q q' k hs ht hk hk'
theorem Owns.add {W:World} {base S:Nat} {ρ ρ':Slot→Option R} (h:Owns W base ρ) {σ:Slot} {r:R} (hσ':ρ' σ=some r) (he:∀s,s≠σ→ρ' s=ρ s)
  (ho:W.ownsRow S r.e r.size r.v r.n r.xs) (hS:base≤S) (far:∀t q k,t≠σ→ρ t=some q→q.v.ownBlock=some k→r.v.ownBlock≠some k):Owns W base ρ':=by
 refine ⟨fun s q hs=>?_,fun s t q q' k hs ht hk hk'=>?_⟩
 ·by_cases e:s=σ
  ·subst e;rw [hσ'] at hs;obtain rfl:=Option.some.inj hs;exact ho.mono hS
  ·rw [he s e] at hs;exact h.own s q hs
 ·by_cases e:s=σ<;>by_cases e2:t=σ
  ·rw [e,e2]
  ·subst e;rw [hσ'] at hs;obtain rfl:=Option.some.inj hs;rw [he t e2] at ht;exact (far t q' k e2 ht hk' hk).elim
  ·subst e2;rw [hσ'] at ht;obtain rfl:=Option.some.inj ht;rw [he s e] at hs;exact (far s q k e hs hk hk').elim
  ·rw [he s e] at hs;rw [he t e2] at ht;exact h.apart s t q q' k hs ht hk hk'
def zeroP:List Value:=planC planZ none 0 none 0 none 0
end Mm
end Go.Proofs.YtjgogpaedaffkaaGreat
