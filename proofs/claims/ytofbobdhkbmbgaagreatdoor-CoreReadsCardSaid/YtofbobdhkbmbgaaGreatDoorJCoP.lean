/- What a plan that a text tells is made of: names that are names, numbers within their limits, days that there are. Pure: no program is named here. -/
import Derived.Test.YtofbobdhkbmbgaaGreatDoorJParU
import Derived.Lib.IndexMore
import Derived.Lib.TrimByte
import Derived.Sort.Walk0
namespace Go.Proofs.YtofbobdhkbmbgaaGreatDoor
namespace P
open Go.RowKit Mm R6
def NmOk (b:ByteArray):Prop:=kd b.data.toList=1∧b.size≤8192
def DayOk (d:Day):Prop:=good d.y d.m d.d=true
def WinOk (w:Win):Prop:=(w.has=true∧DayOk w.a∧DayOk w.b)∨w=⟨false,⟨0,0,0⟩,⟨0,0,0⟩⟩
def NumOk (n most:Int):Prop:=0≤n∧n≤most
structure TierOk (t:Tier):Prop where
 upto:NumOk t.upto 1000000
 rate:NumOk t.rate 1000000000000
def AdjOk (a:Adj):Prop:=(a.kind=1∧NumOk a.num 100000000∧NumOk a.mode 3)∨((a.kind=2∨a.kind=3∨a.kind=4)∧NumOk a.num 1000000000000∧a.mode=0)
structure ChOk (c:Charge):Prop where
 meter:NmOk c.meter
 win:WinOk c.win
 allow:NumOk c.allowance 1000000
 block:NumOk c.block 1000000
 kind:c.kind=1∨c.kind=2
 tiers:∃ts r,c.tiers=ts++[⟨0,r⟩]∧(∀t∈ts,TierOk t)∧NumOk r 1000000000000
 mode:NumOk c.mode 3
 adjs:∀a∈c.adjusts,AdjOk a
structure Gd (p:Plan):Prop where
 name:NmOk p.name∧NmOk p.cur
 days:DayOk p.a∧DayOk p.b
 meters:∀m∈p.meters,NmOk m.name∧NmOk m.unit∧NumOk m.max 2000
 fees:∀f∈p.fees,NumOk f.amount 1000000000000∧WinOk f.win
 charges:∀c∈p.charges,ChOk c
variable {ts:List Tok} {s:St}
theorem kd_4 {l:List UInt8} (h:kd l=4):reads l=true:=by
 unfold kd at h
 repeat' split at h
 all_goals first|assumption|(exact absurd h (by decide))
theorem wrg_ne {e:Int} (he:e≠0):(wrg ts s e).err≠0:=by
 unfold wrg;split
 ·exact he
 ·assumption
theorem tkn_y {k:Nat} (e:(tkn ts s k).2.err=0):isTk ts s k=true:=by
 cases h:isTk ts s k with
 | true=>rfl
 | false=>
   unfold tkn at e;rw [h] at e;exact absurd e (wrg_ne (by decide))
theorem isTk_at {k:Nat} (h:isTk ts s k=true) (hk:k≠0):s.err=0∧tk ts s∈ts∧(tk ts s).k=k:=by
 unfold isTk at h;simp only [Bool.and_eq_true,decide_eq_true_eq] at h;refine ⟨h.1,?_,h.2⟩;unfold tk at h ⊢;rw [List.getD_eq_getElem?_getD] at h ⊢;cases hg:ts[s.i]? with
 | none=>
   rw [hg] at h;exact absurd h.2.symm (by intro e;exact hk e)
 | some t=>exact List.mem_of_getElem? hg
theorem tkn_gd (K:Knd ts) (F:Fine ts) {k:Nat} (hk:k≠0) (e:(tkn ts s k).2.err=0):kd (tkn ts s k).1=k∧(tkn ts s k).1.length≤8192:=by
 have h:=tkn_y e;obtain ⟨_,h2,h3⟩:=isTk_at h hk;unfold tkn;rw [if_pos h];exact ⟨by rw [(K _ h2).1,h3],(F.tok _ h2).1⟩
theorem nm_gd (K:Knd ts) (F:Fine ts) (e:(tkn ts s 1).2.err=0):NmOk ⟨(tkn ts s 1).1.toArray⟩:=by
 obtain ⟨h1,h2⟩:=tkn_gd K F (by decide) e;refine ⟨by simpa using h1,?_⟩;show (tkn ts s 1).1.toArray.size≤_
 simpa using h2
theorem day_gd (K:Knd ts) (F:Fine ts) (e:(dayS ts s).2.err=0):DayOk (dayS ts s).1:=by
 obtain ⟨h1,_⟩:=tkn_gd K F (k:=4) (by decide) e;have r:=kd_4 h1;show good (dayOf' (tkn ts s 4).1).y (dayOf' (tkn ts s 4).1).m (dayOf' (tkn ts s 4).1).d=true
 unfold dayOf';rw [if_pos r];unfold reads at r;simp only [Bool.and_eq_true] at r;exact r.2
theorem stV_nn (l:List UInt8) (p:Int):0≤pV l p:=by
 unfold pV;exact Int.mul_nonneg (Int.natCast_nonneg _) (by exact_mod_cast Nat.zero_le _)
theorem num_gd {p m:Int} (e:(numS ts s p m).2.err=0):NumOk (numS ts s p m).1 m:=by
 unfold numS at e ⊢;cases h:isTk ts s 3 with
 | false=>
   rw [h] at e;exact absurd e (wrg_ne (by decide))
 | true=>
   obtain ⟨h0,_,_⟩:=isTk_at h (by decide);rw [h,if_pos rfl] at e;rw [if_pos rfl];have e:(bad ts s (pW (tk ts s).t p m)).err=0:=e;show NumOk (pN (tk ts s).t p m) m
   unfold bad at e;split at e
   ·exact absurd e (wrg_ne (by decide))
   ·split at e
    ·exact absurd e (wrg_ne (by decide))
    ·rename_i g1 g2
     unfold pW at g1 g2;unfold pN;by_cases b:pBad (tk ts s).t p=true
     ·rw [if_pos b] at g1;exact absurd rfl g1
     ·rw [if_neg b] at g1 g2;by_cases g:pGreat (tk ts s).t p m=true
      ·rw [if_pos g] at g2;exact absurd rfl g2
      ·rw [if_neg (by simp [Bool.eq_false_iff.2 b,Bool.eq_false_iff.2 g])];refine ⟨stV_nn _ _,?_⟩;have g:pGreat (tk ts s).t p m=false:=Bool.eq_false_iff.2 g;unfold pGreat at g;simp only [Bool.or_eq_false_iff,decide_eq_false_iff_not] at g;omega
theorem win_gd (K:Knd ts) (F:Fine ts) (e:(winS ts s).2.err=0):WinOk (winS ts s).1:=by
 unfold winS at e ⊢;split
 ·rename_i h
  rw [if_pos h] at e;exact .inl ⟨rfl,day_gd K F (wnt_e0 (dayS_e0 e)),day_gd K F e⟩
 ·exact .inr rfl
theorem opt_gd {l:List UInt8} {d:Int} (hd:NumOk d 1000000) (e:(optS ts s l d).2.err=0):NumOk (optS ts s l d).1 1000000:=by
 unfold optS at e ⊢;split
 ·rename_i h
  rw [if_pos h] at e;exact num_gd (wnt_e0 e)
 ·exact hd
theorem one_in (ws:List (List UInt8)):(oneS ts s ws).1 = -1∨(0≤(oneS ts s ws).1∧(oneS ts s ws).1<ws.length):=by
 have key:∀(ws:List (List UInt8)) (k:Int),0≤k→(oneAt ts s ws k).1 = -1∨(k≤(oneAt ts s ws k).1∧(oneAt ts s ws k).1<k+ws.length):=by
  intro ws;induction ws with
  | nil=>intro k _;exact .inl rfl
  | cons w r ih=>
    intro k hk;unfold oneAt;split
    ·exact .inr ⟨Int.le_refl _,by simp only [List.length_cons];omega⟩
    ·rcases ih (k+1) (by omega) with h|⟨h1,h2⟩
     ·exact .inl h
     ·exact .inr ⟨by omega,by simp only [List.length_cons];omega⟩
 rcases key ws 0 (Int.le_refl _) with h|⟨h1,h2⟩
 ·exact .inl h
 ·exact .inr ⟨h1,by have h2:(oneS ts s ws).1<0+ws.length:=h2;omega⟩
theorem mode_gd (e:(modeS ts s).2.err=0):NumOk (modeS ts s).1 3:=by
 unfold modeS at e ⊢;split
 ·rename_i h
  rw [if_pos h] at e;exact absurd e (wrg_ne (by decide))
 ·rename_i h
  rcases one_in (ts:=ts) (s:=s) modes with g|⟨g1,g2⟩
  ·omega
  ·have g2:(oneS ts s modes).1<4:=g2;exact ⟨g1,by omega⟩
theorem kind_gd (e:(kindS ts s).2.err=0):(kindS ts s).1=1∨(kindS ts s).1=2:=by
 unfold kindS at e ⊢;simp only at e ⊢;split at e
 ·exact absurd e (wrg_ne (by decide))
 ·rename_i h
  rcases one_in (ts:=ts) (s:=s) kinds with g|⟨g1,g2⟩
  ·omega
  ·have g2:(oneS ts s kinds).1<2:=g2;omega
theorem tier_gd (e:(tierS ts s).2.err=0):TierOk (tierS ts s).1:=⟨num_gd (wnt_e0 (numS_e0 (wnt_e0 e))),num_gd (wnt_e0 e)⟩
theorem tiers_gd:∀(n:Nat) (s:St) (acc:List Tier),(∀t∈acc,TierOk t)→(tiersS ts n s acc).2.err=0→∀t∈(tiersS ts n s acc).1,TierOk t
 | 0,_,acc,h,_=>h
 | n+1,s,acc,h,e=>by
   unfold tiersS at e ⊢;split
   ·rename_i ho
    rw [if_pos ho] at e;refine tiers_gd n _ _ (fun t ht=>?_) e;rcases List.mem_append.1 ht with k|k
    ·exact h t k
    ·obtain rfl:=List.mem_singleton.1 k;exact tier_gd (tiersS_e0 e)
   ·exact h
theorem adj_gd {k:Int} (hk:k=1∨k=2∨k=3∨k=4) (e:(adjS ts s k).2.err=0):AdjOk (adjS ts s k).1:=by
 unfold adjS at e ⊢;by_cases h:k=1
 ·rw [if_pos h] at e ⊢;exact .inl ⟨h,num_gd (modeS_e0 (wnt_e0 e)),mode_gd (wnt_e0 e)⟩
 ·rw [if_neg h] at e ⊢;exact .inr ⟨by rcases hk with k|k|k|k;exact absurd k h;exact .inl k;exact .inr (.inl k);exact .inr (.inr k),num_gd (wnt_e0 e),rfl⟩
theorem adjs_gd:∀(n:Nat) (s:St) (acc:List Adj),(∀t∈acc,AdjOk t)→(adjsS ts n s acc).2.err=0→∀t∈(adjsS ts n s acc).1,AdjOk t
 | 0,_,acc,h,_=>h
 | n+1,s,acc,h,e=>by
   unfold adjsS at e ⊢;simp only at e ⊢;split
   ·exact h
   ·rename_i ho
    rw [if_neg ho] at e;refine adjs_gd n _ _ (fun t ht=>?_) e;rcases List.mem_append.1 ht with k|k
    ·exact h t k
    ·obtain rfl:=List.mem_singleton.1 k;refine adj_gd ?_ (adjsS_e0 e);rcases one_in (ts:=ts) (s:=s) adjWords with g|⟨g1,g2⟩
     ·omega
     ·have g2:(oneS ts s adjWords).1<4:=g2;omega
theorem charge_gd (K:Knd ts) (F:Fine ts) (l c:Int) (e:(chargeS ts s l c).2.err=0):ChOk (chargeS ts s l c).1:=by
 have e17:=wnt_e0 (l:=sShut) e;have e16:=adjsS_e0 e17;have e15:=wnt_e0 e16;have e14:=modeS_e0 e15;have e11:=wnt_e0 (wnt_e0 (wnt_e0 e14));have e10:=wnt_e0 (wnt_e0 (numS_e0 e11));have e8:=tiersS_e0 e10;have e7:=wnt_e0 e8;have e6:=kindS_e0 e7;have e5:=optS_e0 e6;have e4:=optS_e0 e5;have e3:=wnt_e0 e4;have e2:=winS_e0 e3;exact ⟨nm_gd K F e2,win_gd K F e3,opt_gd ⟨by decide,by decide⟩ e5,opt_gd ⟨by decide,by decide⟩ e6,kind_gd e7,⟨_,_,rfl,tiers_gd _ _ _ (fun _ h=>by cases h) e10,num_gd e11⟩,mode_gd e15,adjs_gd _ _ _ (fun _ h=>by cases h) e17⟩
theorem item_gd (K:Knd ts) (F:Fine ts) {p:Plan} (h:Gd p) (e:(itemS ts s p).2.err=0):Gd (itemS ts s p).1:=by
 unfold itemS at e ⊢;simp only at e ⊢;by_cases e0:(oneS ts s itemWords).1=0
 ·rw [if_pos e0] at e ⊢;refine ⟨h.name,h.days,fun m hm=>?_,h.fees,h.charges⟩;rcases List.mem_append.1 hm with k|k
  ·exact h.meters m k
  ·obtain rfl:=List.mem_singleton.1 k;have e5:=wnt_e0 (l:=sSemi) e;have e4:=wnt_e0 (numS_e0 e5);exact ⟨nm_gd K F (wnt_e0 (tkn_e0 e4)),nm_gd K F e4,num_gd e5⟩
 ·rw [if_neg e0] at e ⊢;by_cases e1:(oneS ts s itemWords).1=1
  ·rw [if_pos e1] at e ⊢;refine ⟨h.name,h.days,h.meters,fun m hm=>?_,h.charges⟩;rcases List.mem_append.1 hm with k|k
   ·exact h.fees m k
   ·obtain rfl:=List.mem_singleton.1 k;have e5:=wnt_e0 (l:=sSemi) e;exact ⟨num_gd (winS_e0 e5),win_gd K F e5⟩
  ·rw [if_neg e1] at e ⊢;by_cases e2:(oneS ts s itemWords).1=2
   ·rw [if_pos e2] at e ⊢;refine ⟨h.name,h.days,h.meters,h.fees,fun m hm=>?_⟩;rcases List.mem_append.1 hm with k|k
    ·exact h.charges m k
    ·obtain rfl:=List.mem_singleton.1 k;exact charge_gd K F _ _ e
   ·rw [if_neg e2] at e ⊢;exact absurd e (wrg_ne (by decide))
theorem items_gd (K:Knd ts) (F:Fine ts):∀(n:Nat) (s:St) (p:Plan),Gd p→(itemsS ts n s p).2.err=0→Gd (itemsS ts n s p).1
 | 0,_,_,h,_=>h
 | n+1,s,p,h,e=>by
   unfold itemsS at e ⊢;split
   ·rename_i ho
    rw [if_pos ho] at e
    have e':(itemS ts s p).2.err=0:=by
     by_cases g:(itemS ts s p).2.err=0
     ·exact g
     ·have:goesOn ts (itemS ts s p).2=false:=by unfold goesOn;rw [decide_eq_false g];rfl
      rw [items_stop ts n _ _ this] at e;exact e
    exact items_gd K F n _ _ (item_gd K F h e') e
   ·exact h
theorem plan_gd (K:Knd ts) (F:Fine ts) (e:(planS ts).2.1=0):Gd (planS ts).1:=by
 unfold planS at e ⊢;simp only at e ⊢;split at e
 ·rename_i g
  rw [if_pos g];refine items_gd K F _ _ _ ?_ g
  have g0:(headS ts st0).2.err=0:=by
   by_cases k:(headS ts st0).2.err=0
   ·exact k
   ·have:goesOn ts (headS ts st0).2=false:=by unfold goesOn;rw [decide_eq_false k];rfl
    rw [items_stop ts _ _ _ this] at g;exact g
  have g8:=wnt_e0 (l:=sSemi) g0;have g7:=dayS_e0 g8;have g5:=wnt_e0 (wnt_e0 (dayS_e0 g7));have g3:=wnt_e0 (tkn_e0 g5);exact ⟨⟨nm_gd K F g3,nm_gd K F g5⟩,⟨day_gd K F g7,day_gd K F g8⟩,(fun _ h=>by cases h),(fun _ h=>by cases h),(fun _ h=>by cases h)⟩
 ·rename_i g
  exact absurd e g
theorem parsed_gd {l:List UInt8} (e:(parsed l).2.1=0):Gd (parsed l).1:=by
 unfold parsed at e ⊢;simp only at e ⊢;split
 ·rename_i h
  rw [if_pos h] at e;exact plan_gd (lexed_knd l) (lexed_fine h) e
 ·rename_i h
  rw [if_neg h] at e;have e:((lexed l).2.1:Int)=0:=e;omega
end P
namespace P
open Go.RowKit
theorem occ_one (l:List UInt8) (c:UInt8) (j:Nat):Lib.occAt l [c] j=(l[j]?==some c):=by
 unfold Lib.occAt;cases h:l.drop j with
 | nil=>
   have:l.length≤j:=List.drop_eq_nil_iff.1 h;rw [List.getElem?_eq_none this];rfl
 | cons a t=>
   have e:l[j]?=some a:=by
    have:=congrArg (·[0]?) h;simpa using this
   rw [e];simp [List.isPrefixOf,BEq.comm]
theorem cut_one (l:List UInt8) (c:UInt8):(c ∉ l∧Lib.cut l [c]=(l,[],false))∨(∃a b,l=a++c::b∧c ∉ a∧Lib.cut l [c]=(a,b,true)):=by
 rcases Lib.index_spec l [c] with ⟨h1,h2⟩|⟨i,h1,h2,h3,h4⟩
 ·refine .inl ⟨fun hm=>?_,by unfold Lib.cut;rw [h1];rfl⟩;obtain ⟨j,hj,e⟩:=List.getElem_of_mem hm;have:=h2 j (by omega);rw [occ_one,List.getElem?_eq_getElem hj,e] at this;simp at this
 ·rw [occ_one] at h3;have h3':l[i]?=some c:=by simpa using h3
  obtain ⟨hi,e⟩:=List.getElem?_eq_some_iff.1 h3';refine .inr ⟨l.take i,l.drop (i+1),?_,fun hm=>?_,?_⟩
  ·conv=>lhs;rw [←List.take_append_drop i l,List.drop_eq_getElem_cons hi,e]
  ·obtain ⟨j,hj,e2⟩:=List.getElem_of_mem hm;rw [List.length_take] at hj;have h5:=h4 j (by omega);rw [occ_one,List.getElem?_eq_getElem (by omega)] at h5;rw [List.getElem_take] at e2;rw [e2] at h5;simp at h5
  ·unfold Lib.cut;rw [h1,if_pos (by omega)];rfl
def pl (a:List UInt8):Bool:=a.all isDg&&!a.isEmpty&&(decide (a.length=1)||!(a.getD 0 0==48))
theorem pl_oddHead {a:List UInt8} (h:pl a=true):a.all isDg=true∧a≠[]∧oddHead a=false:=by
 unfold pl at h;simp only [Bool.and_eq_true,Bool.or_eq_true,Bool.not_eq_true',decide_eq_true_eq,List.isEmpty_eq_false_iff] at h;refine ⟨h.1.1,h.1.2,?_⟩;unfold oddHead;rcases h.2 with k|k
 ·rw [decide_eq_false (by omega:¬ 1<a.length)];simp
 ·rw [k];rfl
theorem pl_of {a:List UInt8} (h1:a.all isDg=true) (h2:a≠[]) (h3:a.length=1∨a.getD 0 0≠48):pl a=true:=by
 unfold pl;simp only [Bool.and_eq_true,Bool.or_eq_true,Bool.not_eq_true',decide_eq_true_eq,List.isEmpty_eq_false_iff];exact ⟨⟨h1,h2⟩,h3.imp id (fun h=>by simpa using h)⟩
theorem dp_dg {l:List UInt8} (h:l.all isDp=true) (hn:(46:UInt8) ∉ l):l.all isDg=true:=by
 rw [List.all_eq_true] at *;intro b hb;have:=h b hb;unfold isDp at this;simp only [Bool.or_eq_true,beq_iff_eq] at this;rcases this with k|k
 ·exact k
 ·subst k;exact absurd hb hn
theorem fm_facts {l:List UInt8} (h:fm l≠0):isDg (l.getD 0 0)=true∧l.all isDp=true∧l.count 46≤1∧(l.getLast?==some 46)=false∧oddHead l=false:=by
 have h0:isDg (l.getD 0 0)=true:=by
  cases k:isDg (l.getD 0 0)
  ·exact absurd (fm_first k) h
  ·rfl
 have h1:evenBody l=true:=by
  cases k:evenBody l
  ·exact absurd (fm_body k) h
  ·rfl
 have h2:oddHead l=false:=by
  cases k:oddHead l
  ·rfl
  ·exact absurd (fm_head k) h
 unfold evenBody at h1;simp only [Bool.and_eq_true,decide_eq_true_eq,Bool.not_eq_true'] at h1;exact ⟨h0,h1.1,h1.2.1,h1.2.2,h2⟩
theorem odd_at {a:List UInt8} (h:oddHead a=false):a.length≤1∨a.getD 0 0≠48∨a.getD 1 0=46:=by
 unfold oddHead at h;by_cases h1:a.getD 0 0=48
 ·by_cases h2:1<a.length
  ·rw [h1,decide_eq_true h2] at h;simp at h;exact .inr (.inr (by simpa using h))
  ·exact .inl (by omega)
 ·exact .inr (.inl h1)
theorem fm_cut_no {l:List UInt8} (h:(46:UInt8) ∉ l):fm l=if pl l then 1 else 0:=by
 cases k:pl l
 ·rw [if_neg (by simp)];by_cases hf:fm l=0
  ·exact hf
  ·exfalso
   obtain ⟨f0,f1,_,_,f4⟩:=fm_facts hf;have hne:l≠[]:=by rintro rfl;rw [getD_nil0] at f0;cases f0
   have hlen:0<l.length:=List.length_pos_iff.2 hne
   have:=pl_of (dp_dg f1 h) hne (by
    rcases odd_at f4 with k|k|k
    ·left;omega
    ·exact .inr k
    ·by_cases h1:1<l.length
     ·exact absurd (k ▸ mem_getD h1) h
     ·left;omega)
   rw [k] at this;cases this
 ·obtain ⟨a,b,c⟩:=pl_oddHead k;rw [fm_whole a b c];rfl
theorem fm_cut_yes {a b:List UInt8} (h:(46:UInt8) ∉ a):fm (a++46::b)=if pl a&&(b.all isDg&&!b.isEmpty) then 2 else 0:=by
 cases k:pl a&&(b.all isDg&&!b.isEmpty)
 ·rw [if_neg (by simp)];by_cases hf:fm (a++46::b)=0
  ·exact hf
  ·exfalso
   obtain ⟨f0,f1,f2,f3,f4⟩:=fm_facts hf
   have hne:a≠[]:=by
    rintro rfl
    revert f0
    simp;decide
   have hlen:0<a.length:=List.length_pos_iff.2 hne;rw [List.all_append,List.all_cons,Bool.and_eq_true,Bool.and_eq_true] at f1;rw [List.count_append,List.count_cons_self] at f2;have hb:(46:UInt8) ∉ b:=by rw [←List.count_eq_zero];omega
   have hbne:b≠[]:=by
    rintro rfl;simp at f3
   have hp:=pl_of (dp_dg f1.1 h) hne (by
    rcases odd_at f4 with q|q|q
    ·simp at q;left;omega
    ·rw [getD_app hlen] at q;exact .inr q
    ·by_cases h1:1<a.length
     ·rw [getD_app h1] at q;exact absurd (q ▸ mem_getD h1) h
     ·left;omega)
   rw [hp,dp_dg f1.2.2 hb] at k;cases b
   ·exact hbne rfl
   ·cases k
 ·simp only [Bool.and_eq_true,Bool.not_eq_true',List.isEmpty_eq_false_iff] at k;obtain ⟨x,y,z⟩:=pl_oddHead k.1;rw [fm_point x y z k.2.1 k.2.2];rfl
theorem stV_cut {a b:List UInt8} (hb:b.all isDg=true):stV (a++46::b)=stV (a++b):=by
 rw [show a++46::b=(a++[46])++b by simp,stV_digits _ _ hb,stV_point,stV_digits _ _ hb]
theorem stB_cut {a b:List UInt8} (hb:b.all isDg=true):stB (a++46::b)=b.length:=by
 rw [show a++46::b=(a++[46])++b by simp,stB_digits _ _ hb,stB_point,if_pos (by omega)];omega
theorem stB_plain {a:List UInt8} (ha:a.all isDg=true):stB a = -1:=by
 have:=stB_digits a [] ha;rw [List.nil_append] at this;rw [this];rfl
end P
namespace P
open Go.RowKit Mm R6
theorem ix_noPl (ms:List Meter) (n:ByteArray):meterIx (ms.map nM) n=meterIx ms n:=by
 unfold meterIx;rw [List.findIdx?_map];rfl
theorem max_noPl (ms:List Meter) (i:Nat):((ms.map nM).getD i default).max=(ms.getD i default).max:=by
 rw [List.getD_eq_getElem?_getD,List.getD_eq_getElem?_getD,List.getElem?_map];cases ms[i]?<;>rfl
theorem most_noPl (c:Charge) (mx:Int):mostOf (nC c) mx=mostOf c mx:=rfl
theorem mosts_noPl (ms:List Meter):∀cs:List Charge,mosts (ms.map nM) (cs.map nC)=mosts ms cs
 | []=>rfl
 | c::r=>by
   rw [List.map_cons];unfold mosts;rw [show (nC c).meter=c.meter from rfl,ix_noPl];split
   ·exact mosts_noPl ms r
   ·rw [most_noPl,max_noPl,mosts_noPl ms r]
theorem bound_noPl (p:Plan):boundOf (noPl p)=boundOf p:=by
 unfold boundOf;show ((mosts (p.meters.map nM) (p.charges.map nC)).bind fun l=>sumUp 0 ((p.fees.map nF).map (·.amount)++l))=_
 rw [mosts_noPl,List.map_map];rfl
theorem firstE_map {α:Type} {f g:Nat→α→Int} {pl pl':α→Int×Int} {t:α→α} (h:∀i x,f i (t x)=g i x):∀(i:Nat) (l:List α),(firstE f pl i (l.map t)).map (·.1)=(firstE g pl' i l).map (·.1)
 | _,[]=>rfl
 | i,x::r=>by
   rw [List.map_cons];unfold firstE;rw [h];split
   ·exact firstE_map h (i+1) r
   ·rfl
theorem meterE_noPl (p:Plan) (i:Nat) (m:Meter):meterE (noPl p) i (nM m)=meterE p i m:=by
 unfold meterE;show (if 4≤i then 6 else if meterIx (p.meters.map nM) m.name=some i then 0 else 5)=_
 rw [ix_noPl]
theorem chE_noPl (p:Plan) (i:Nat) (c:Charge):chE (noPl p) i (nC c)=chE p i c:=by
 unfold chE;show (if 8≤i then 6 else if meterIx (p.meters.map nM) c.meter=none∨winIn p c.win=false∨c.block=0 then 5 else if 8<c.tiers.length then 6 else if risesB 0 c.tiers=false then 5 else if 6<c.adjusts.length then 6 else 0)=_
 rw [ix_noPl]
theorem wrong_num (p:Plan):(wrongOf p).1=if headE p=0 then (((firstE (meterE p) (fun m=>(m.line,m.col)) 0 p.meters).map (·.1)).getD (((firstE (feeE p) (fun f=>(f.line,f.col)) 0 p.fees).map (·.1)).getD (((firstE (chE p) (fun c=>(c.line,c.col)) 0 p.charges).map (·.1)).getD (if boundOf p=none then 6 else 0)))) else headE p:=by
 unfold wrongOf;split
 ·split
  ·rename_i e he;rw [he];rfl
  ·rename_i he
   rw [he];split
   ·rename_i e hf;rw [hf];rfl
   ·rename_i hf
    rw [hf];split
    ·rename_i e hc;rw [hc];rfl
    ·rename_i hc
     rw [hc];split<;>rfl
 ·rfl
theorem wrong_noPl (p:Plan):(wrongOf (noPl p)).1=(wrongOf p).1:=by
 rw [wrong_num,wrong_num,bound_noPl];have a:(firstE (meterE (noPl p)) (fun m=>(m.line,m.col)) 0 (noPl p).meters).map (·.1)=(firstE (meterE p) (fun m=>(m.line,m.col)) 0 p.meters).map (·.1):=firstE_map (meterE_noPl p) 0 p.meters;have b:(firstE (feeE (noPl p)) (fun m=>(m.line,m.col)) 0 (noPl p).fees).map (·.1)=(firstE (feeE p) (fun m=>(m.line,m.col)) 0 p.fees).map (·.1):=firstE_map (t:=nF) (fun _ _=>rfl) 0 p.fees;have c:(firstE (chE (noPl p)) (fun m=>(m.line,m.col)) 0 (noPl p).charges).map (·.1)=(firstE (chE p) (fun m=>(m.line,m.col)) 0 p.charges).map (·.1):=firstE_map (chE_noPl p) 0 p.charges;rw [a,b,c];rfl
theorem wrong_nought {p:Plan} (h:(wrongOf p).1=0):wrongOf p=(0,0,0):=by
 obtain ⟨h0,h1,h2,h3,h4⟩:=wrongOf_zero.1 h;unfold wrongOf;rw [if_pos h0,h1,h2,h3,if_neg h4]
end P
namespace P
open Go.RowKit Mm
theorem drop_at {α:Type} {l:List α} {i:Nat} {x:α} (h:l[i]?=some x):l.drop i=x::l.drop (i+1):=by
 obtain ⟨hi,rfl⟩:=List.getElem?_eq_some_iff.1 h;exact List.drop_eq_getElem_cons hi
theorem ix_at {ms:List Meter} {n:ByteArray} {i:Nat} {m:Meter} (h:ms[i]?=some m) (e:m.name.data.toList=n.data.toList) (hb:∀(j:Nat) (m':Meter),j<i→ms[j]?=some m'→m'.name.data.toList≠n.data.toList):meterIx ms n=some i:=by
 obtain ⟨hi,hm⟩:=List.getElem?_eq_some_iff.1 h;unfold meterIx;rw [List.findIdx?_eq_some_iff_getElem];refine ⟨hi,by rw [hm];simp [e],fun j hj=>?_⟩;have:=hb j (ms[j]'(by omega)) hj (List.getElem?_eq_getElem (by omega));simpa using this
theorem rises_stop {l:List Tier} {u:Int} {i:Nat} (h:l.length≤i+1):risesB u (l.drop i)=true:=by
 have:(l.drop i).length≤1:=by rw [List.length_drop];omega
 cases hd:l.drop i with
 | nil=>rfl
 | cons t r=>
   rw [hd] at this;cases r with
   | nil=>rfl
   | cons _ _=>simp at this
theorem rises_step {l:List Tier} {u:Int} {i:Nat} {t:Tier} (h:l[i]?=some t) (hi:i+1<l.length):risesB u (l.drop i)=(decide (1≤t.upto)&&decide (u<t.upto)&&risesB t.upto (l.drop (i+1))):=by
 obtain ⟨t',h'⟩:∃t',l[i+1]?=some t':=⟨_,List.getElem?_eq_getElem hi⟩;rw [drop_at h,drop_at h'];rfl
theorem firstE_step {α:Type} {f:Nat→α→Int} {pl:α→Int×Int} {l:List α} {i:Nat} {x:α} (h:l[i]?=some x):firstE f pl i (l.drop i)=if f i x=0 then firstE f pl (i+1) (l.drop (i+1)) else some (f i x,(pl x).1,(pl x).2):=by
 rw [drop_at h];rfl
theorem firstE_end {α:Type} {f:Nat→α→Int} {pl:α→Int×Int} {l:List α} {i:Nat} (h:l.length≤i):firstE f pl i (l.drop i)=none:=by
 rw [List.drop_of_length_le h];rfl
theorem sumUp_step {l:List Int} {i:Nat} {x n:Int} (h:l[i]?=some x):sumUp n (l.drop i)=if maxBound≤x∨maxBound≤n+x then none else sumUp (n+x) (l.drop (i+1)):=by
 rw [drop_at h];rfl
theorem sumUp_end {l:List Int} {i:Nat} {n:Int} (h:l.length≤i):sumUp n (l.drop i)=some n:=by
 rw [List.drop_of_length_le h];rfl
theorem adjAll_step {l:List Adj} {i:Nat} {a:Adj} {n:Int} (h:l[i]?=some a):adjAll n (l.drop i)=(adjStep n a).bind fun m=>adjAll m (l.drop (i+1)):=by
 rw [drop_at h];rfl
theorem adjAll_end {l:List Adj} {i:Nat} {n:Int} (h:l.length≤i):adjAll n (l.drop i)=some n:=by
 rw [List.drop_of_length_le h];rfl
theorem topRate_step {l:List Tier} {i:Nat} {t:Tier} (h:l[i]?=some t):topRate (l.take (i+1))=max (topRate (l.take i)) t.rate:=by
 unfold topRate;rw [List.take_add_one,h,List.foldl_append];rfl
theorem mosts_some {ms:List Meter} {cs:List Charge} {i k:Nat} {c:Charge} (h:cs[i]?=some c) (e:meterIx ms c.meter=some k):mosts ms (cs.drop i)=(mostOf c (ms.getD k default).max).bind fun x=>(mosts ms (cs.drop (i+1))).map (x::·):=by
 rw [drop_at h]
 conv=>lhs;unfold mosts
 rw [e]
theorem mosts_end {ms:List Meter} {cs:List Charge} {i:Nat} (h:cs.length≤i):mosts ms (cs.drop i)=some []:=by
 rw [List.drop_of_length_le h];rfl
theorem qty_count {mx al bl:Int} {k:Nat} (hb:0<bl) (h1:mx-al≤k*bl) (h2:k=0∨(k:Int)*bl-bl<mx-al):qty mx al bl=k*bl:=by
 unfold qty;rcases h2 with rfl|h2
 ·rw [if_pos (by simpa using h1)];simp
 ·by_cases h3:mx-al≤0
  ·rw [if_pos h3];cases k with
   | zero=>simp
   | succ k=>
     exfalso
     have:0≤(k:Int)*bl:=Int.mul_nonneg (Int.natCast_nonneg k) (by omega);have e:((k+1:Nat):Int)*bl=(k:Int)*bl+bl:=by rw [Int.natCast_succ,Int.add_mul,Int.one_mul]
     omega
  ·rw [if_neg h3];congr 1
   have e:(mx-al+bl-1) / bl=k:=by
    rw [Int.ediv_eq_iff_of_pos hb];constructor<;>omega
   exact e
end P
namespace Mm
open Go.RowKit Go.Deep Go.ChangeShapes Go.WideShapes P
structure Sm where
 amt:Int
 a:Int
 b:Int
deriving Inhabited,DecidableEq
structure Prt where
 mt:Int
 a:Int
 b:Int
 allowance:Int
 block:Int
 kind:Int
 tiers:List Tier
 mode:Int
 adjusts:List Adj
deriving Inhabited,DecidableEq
structure Cor where
 cur:ByteArray
 a:Int
 b:Int
 meters:List Meter
 sums:List Sm
 parts:List Prt
deriving Inhabited
def smC (s:Sm):List Value:=[s.amt,s.a,s.b]
def tSm:Ty Sm:=leaf 3 smC (fun s=>I64 s.amt∧I64 s.a∧I64 s.b) (fun _=>rfl)
def prtC (x:Prt) (ta:Option Addr) (tc:Nat) (aa:Option Addr) (ac:Nat):List Value:=
 [x.mt,x.a,x.b,x.allowance,x.block,x.kind,.slice ta x.tiers.length tc,x.mode,.slice aa x.adjusts.length ac]
structure PrtLies (w:World) (cs:List Value) (x:Prt) (ta:Option Addr) (tc:Nat) (aa:Option Addr) (ac:Nat):Prop where
 cells:cs=prtC x ta tc aa ac
 tiers:Row tTier w ta x.tiers.length tc x.tiers
 adjusts:Row tAdj w aa x.adjusts.length ac x.adjusts
 nums:I64 x.mt∧I64 x.a∧I64 x.b∧I64 x.allowance∧I64 x.block∧I64 x.kind∧I64 x.mode
def tPrt:Ty Prt where
 n:=9
 lies:=fun w cs x=>∃ta tc aa ac,PrtLies w cs x ta tc aa ac
 len:=fun ⟨_,_,_,_,h⟩=>by rw [h.cells];rfl
 keep:=fun ⟨ta,tc,aa,ac,h⟩ hb=>⟨ta,tc,aa,ac,h.cells,h.tiers.on hb,h.adjusts.on hb,h.nums⟩
def corC (c:Cor) (ma:Option Addr) (mc:Nat) (sa:Option Addr) (sc:Nat) (pa:Option Addr) (pc:Nat):List Value:=
 [c.cur,c.a,c.b,.slice ma c.meters.length mc,.slice sa c.sums.length sc,.slice pa c.parts.length pc]
structure CorLies (w:World) (cs:List Value) (c:Cor) (ma:Option Addr) (mc:Nat) (sa:Option Addr) (sc:Nat) (pa:Option Addr) (pc:Nat):Prop where
 cells:cs=corC c ma mc sa sc pa pc
 meters:Row tMeter w ma c.meters.length mc c.meters
 sums:Row tSm w sa c.sums.length sc c.sums
 parts:Row tPrt w pa c.parts.length pc c.parts
 cur:strOk c.cur
 days:I64 c.a∧I64 c.b
theorem CorLies.on {w w':World} {cs:List Value} {c:Cor} {ma:Option Addr} {mc:Nat} {sa:Option Addr} {sc:Nat} {pa:Option Addr} {pc:Nat} (h:CorLies w cs c ma mc sa sc pa pc) (hb:Below w.heap.size w w'):CorLies w' cs c ma mc sa sc pa pc:=
 ⟨h.cells,h.meters.on hb,h.sums.on hb,h.parts.on hb,h.cur,h.days⟩
section
variable {H:Type} {enc:TypeId×Value→H} {w:World} {base:Nat} {spare:Nat→Bool} {held:Bool}
end
end Mm
namespace P
open Go.RowKit Go.Sort Mm R6
def klt (x y:ByteArray):Bool:=decide (x.data.toList<y.data.toList)
theorem klt_eq (x y:ByteArray):Op.bytesLess x.toList y.toList=klt x y:=by
 unfold klt;rw [bytesLess_eq,ByteArray.toList_eq,ByteArray.toList_eq]
theorem klt_irr (x:ByteArray):klt x x=false:=by
 unfold klt;exact decide_eq_false (List.lt_irrefl _)
theorem klt_tr {x y z:ByteArray} (h:klt x y=true) (k:klt y z=true):klt x z=true:=by
 unfold klt at *;simp only [decide_eq_true_eq] at *;exact List.lt_trans h k
theorem klt_as {x y:ByteArray} (h:klt x y=true):klt y x=false:=by
 rcases Bool.eq_false_or_eq_true (klt y x) with k|k
 ·have:=klt_tr h k;rw [klt_irr] at this;cases this
 ·exact k
theorem ba_ext {x y:ByteArray} (h:x.data.toList=y.data.toList):x=y:=by
 rcases x with ⟨⟨x⟩⟩;rcases y with ⟨⟨y⟩⟩;simp only at h;rw [h]
theorem klt_tot {x y:ByteArray} (h:klt x y=false) (n:x≠y):klt y x=true:=by
 unfold klt at *;simp only [decide_eq_false_iff_not,decide_eq_true_eq] at *;rcases List.le_total x.data.toList y.data.toList with k|k
 ·exact absurd (ba_ext (List.le_antisymm k (List.not_lt.1 h))) n
 ·rcases Decidable.em (y.data.toList<x.data.toList) with q|q
  ·exact q
  ·exact absurd (ba_ext (List.le_antisymm (List.not_lt.1 q) (List.not_lt.1 h))) n
def insAt (n:ByteArray) (l:List Meter):Nat:=(l.takeWhile fun y=>klt y.name n).length
def insM (x:Meter) (l:List Meter):List Meter:=l.take (insAt x.name l)++x::l.drop (insAt x.name l)
def srt (ms:List Meter):List Meter:=ms.foldl (fun acc m=>insM (nM m) acc) []
theorem insAt_le (n:ByteArray) (l:List Meter):insAt n l≤l.length:=by
 unfold insAt;exact (List.takeWhile_sublist _).length_le
theorem insAt_lt {n:ByteArray} {l:List Meter} {j:Nat} {y:Meter} (hj:j<insAt n l) (h:l[j]?=some y):klt y.name n=true:=by
 unfold insAt at hj
 have e:(l.takeWhile fun y=>klt y.name n)[j]?=some y:=by
  have:=List.takeWhile_prefix (fun y=>klt y.name n) (l:=l);obtain ⟨t,ht⟩:=this;rw [←ht,List.getElem?_append_left hj] at h;exact h
 have:=List.all_takeWhile (l:=l) (p:=fun y=>klt y.name n);exact (List.all_eq_true.1 this) y (List.mem_of_getElem? e)
theorem insAt_end {n:ByteArray} {l:List Meter} {y:Meter} (h:l[insAt n l]?=some y):klt y.name n=false:=by
 unfold insAt at h;induction l with
 | nil=>simp at h
 | cons a r ih=>
   rw [List.takeWhile_cons] at h;by_cases ha:klt a.name n=true
   ·rw [if_pos ha] at h;simp only [List.length_cons,List.getElem?_cons_succ] at h;exact ih h
   ·rw [if_neg ha] at h;simp only [List.length_nil,List.getElem?_cons_zero,Option.some.injEq] at h;subst h;simpa using ha
theorem insM_perm (x:Meter) (l:List Meter):(insM x l).Perm (x::l):=by
 unfold insM;have:(l.take (insAt x.name l)++x::l.drop (insAt x.name l)).Perm (x::(l.take (insAt x.name l)++l.drop (insAt x.name l))):=List.perm_middle
 rwa [List.take_append_drop] at this
theorem srt_from (ms acc:List Meter):(ms.foldl (fun acc m=>insM (nM m) acc) acc).Perm (acc++ms.map nM):=by
 induction ms generalizing acc with
 | nil=>simp
 | cons m r ih=>
   rw [List.foldl_cons,List.map_cons];refine (ih _).trans ?_;refine ((insM_perm _ _).append_right _).trans ?_;rw [List.cons_append];exact List.perm_middle.symm
theorem srt_perm (ms:List Meter):(srt ms).Perm (ms.map nM):=by
 have:=srt_from ms []
 rwa [List.nil_append] at this
theorem srt_step (ms:List Meter) {i:Nat} {m:Meter} (h:ms[i]?=some m):srt (ms.take (i+1))=insM (nM m) (srt (ms.take i)):=by
 unfold srt;rw [List.take_add_one,h,List.foldl_append];rfl
theorem srt_len (ms:List Meter):(srt ms).length=ms.length:=by
 rw [(srt_perm ms).length_eq,List.length_map]
def Asc (l:List Meter):Prop:=l.Pairwise fun x y=>klt x.name y.name=true
def Apart (ms:List Meter):Prop:=ms.Pairwise fun x y=>x.name≠y.name
theorem asc_ins {x:Meter} {l:List Meter} (h:Asc l) (n:∀y∈l,y.name≠x.name):Asc (insM x l):=by
 unfold insM Asc at *;have hk:=insAt_le x.name l;obtain ⟨k,ek⟩:∃k,k=insAt x.name l:=⟨_,rfl⟩;rw [←ek];have h0:(l.take k++l.drop k).Pairwise fun x y=>klt x.name y.name=true:=by rw [List.take_append_drop];exact h
 rw [List.pairwise_append] at h0;obtain ⟨a,b,c⟩:=h0
 have lo:∀y∈l.take k,klt y.name x.name=true:=fun y hy=>by
  obtain ⟨j,hj,e⟩:=List.getElem_of_mem hy;have hj2:=hj;rw [List.length_take] at hj2;have q1:=Nat.lt_of_lt_of_le hj2 (Nat.min_le_left _ _);have q2:=Nat.lt_of_lt_of_le hj2 (Nat.min_le_right _ _);clear hj2;refine insAt_lt (j:=j) (by rw [←ek];exact q1) (y:=y) ?_;rw [List.getElem_take] at e;rw [List.getElem?_eq_getElem q2,e]
 have hi:∀y∈l.drop k,klt x.name y.name=true:=fun y hy=>by
  cases hd:l.drop k with
  | nil=>rw [hd] at hy;cases hy
  | cons z r=>
    have ez:l[k]?=some z:=by
     have:=congrArg (fun l=>l[0]?) hd;simpa using this
    have hz:klt x.name z.name=true:=by
     have:=insAt_end (n:=x.name) (l:=l) (y:=z) (by rw [←ek];exact ez);exact klt_tot this (n z (List.mem_of_getElem? ez))
    rw [hd] at hy b;rcases List.mem_cons.1 hy with rfl|hy
    ·exact hz
    ·exact klt_tr hz (List.rel_of_pairwise_cons b hy)
 rw [List.pairwise_append];refine ⟨a,List.pairwise_cons.2 ⟨hi,b⟩,fun y hy z hz=>?_⟩;rcases List.mem_cons.1 hz with rfl|hz
 ·exact lo y hy
 ·exact c y hy z hz
theorem srt_asc_from (ms:List Meter):∀(acc:List Meter),Asc acc→Apart ms→(∀a∈acc,∀m∈ms,a.name≠m.name)→Asc (ms.foldl (fun acc m=>insM (nM m) acc) acc):=by
 induction ms with
 | nil=>intro acc h _ _;exact h
 | cons m r ih=>
   intro acc h hp hd;rw [List.foldl_cons];have hp':=List.pairwise_cons.1 hp;refine ih _ (asc_ins h (fun y hy=>hd y hy m (List.mem_cons_self ..))) hp'.2 (fun a ha z hz=>?_);rcases List.mem_cons.1 ((insM_perm _ _).mem_iff.1 ha) with rfl|ha
   ·exact hp'.1 z hz
   ·exact hd a ha z (List.mem_cons_of_mem _ hz)
theorem srt_asc {ms:List Meter} (h:Apart ms):Asc (srt ms):=srt_asc_from ms [] List.Pairwise.nil h (fun _ ha=>by cases ha)
theorem perm_one {α:Type} {r:α→α→Prop} (as':∀x y,r x y→¬ r y x):∀(l m:List α),l.Perm m→l.Pairwise r→m.Pairwise r→l=m
 | [],m,h,_,_=>by rw [List.nil_perm.1 h]
 | x::l,[],h,_,_=>by cases List.perm_nil.1 h
 | x::l,y::m,h,hl,hm=>by
   have hl':=List.pairwise_cons.1 hl;have hm':=List.pairwise_cons.1 hm
   have e:x=y:=by
    rcases List.mem_cons.1 (h.mem_iff.1 (List.mem_cons_self ..)) with e|hx
    ·exact e
    ·rcases List.mem_cons.1 (h.mem_iff.2 (List.mem_cons_self ..)) with e|hy
     ·exact e.symm
     ·exact absurd (hl'.1 y hy) (as' _ _ (hm'.1 x hx))
   subst e;rw [perm_one as' l m (List.perm_cons _ |>.1 h) hl'.2 hm'.2]
theorem apart_nM {ms:List Meter} : Apart (ms.map nM)↔Apart ms:=by
 unfold Apart;rw [List.pairwise_map];exact Iff.rfl
theorem apart_ne {ms:List Meter} (h:Apart ms) {i j:Nat} {x y:Meter} (hi:ms[i]?=some x) (hj:ms[j]?=some y) (e:x.name=y.name):i=j:=by
 obtain ⟨l1,e1⟩:=List.getElem?_eq_some_iff.1 hi;obtain ⟨l2,e2⟩:=List.getElem?_eq_some_iff.1 hj;rcases Nat.lt_trichotomy i j with g|g|g
 ·have:=(List.pairwise_iff_getElem.1 h) i j l1 l2 g;rw [e1,e2] at this;exact absurd e this
 ·exact g
 ·have:=(List.pairwise_iff_getElem.1 h) j i l2 l1 g;rw [e1,e2] at this;exact absurd e.symm this
theorem ix_of {ms:List Meter} (h:Apart ms) {i:Nat} {x:Meter} (hi:ms[i]?=some x):meterIx ms x.name=some i:=
 ix_at hi rfl fun j m' hj hm e=>by
  have:=apart_ne h hm hi (ba_ext e);omega
theorem ix_some {ms:List Meter} {n:ByteArray} {i:Nat} (h:meterIx ms n=some i):∃m,ms[i]?=some m∧m.name=n:=by
 unfold meterIx at h;obtain ⟨hi,e,_⟩:=List.findIdx?_eq_some_iff_getElem.1 h;exact ⟨_,List.getElem?_eq_getElem hi,ba_ext (by simpa using e)⟩
theorem apart_of {p:Plan} (h:(wrongOf p).1=0):Apart p.meters:=by
 have hm:=(wrongOf_zero.1 h).2.1;rw [firstE_none] at hm;unfold Apart;rw [List.pairwise_iff_getElem];intro i j hi hj hij e;have a:=hm i _ (List.getElem?_eq_getElem hi);have b:=hm j _ (List.getElem?_eq_getElem hj);unfold meterE at a b;rw [e] at a;split at a
 ·cases a
 ·split at a
  ·rename_i ha
   split at b
   ·cases b
   ·split at b
    ·rename_i hb
     rw [ha] at hb;have:=Option.some.inj hb;omega
    ·cases b
  ·cases a
def winA (p:Plan) (w:Win):Int:=if w.has then dn w.a else dn p.a
def winB (p:Plan) (w:Win):Int:=if w.has then dn w.b else dn p.b
def sumOf (p:Plan) (f:Fee):Mm.Sm:=⟨f.amount,winA p f.win,winB p f.win⟩
def partOf (p:Plan) (c:Charge):Prt:=⟨((meterIx (srt p.meters) c.meter).getD 0:Nat),winA p c.win,winB p c.win,c.allowance,c.block,c.kind,c.tiers,c.mode,c.adjusts⟩
def coreOf (p:Plan):Cor:=⟨p.cur,dn p.a,dn p.b,srt p.meters,p.fees.map (sumOf p),p.charges.map (partOf p)⟩
theorem nM_nM (ms:List Meter):(ms.map nM).map nM=ms.map nM:=by
 rw [List.map_map];rfl
theorem srt_nM (ms:List Meter):srt (ms.map nM)=srt ms:=by
 unfold srt;rw [List.foldl_map];rfl
theorem core_noPl (p:Plan):coreOf (noPl p)=coreOf p:=by
 unfold coreOf;have e:srt (noPl p).meters=srt p.meters:=srt_nM p.meters;have e1:∀f,sumOf (noPl p) (nF f)=sumOf p f:=fun _=>rfl
 have e2:∀c,partOf (noPl p) (nC c)=partOf p c:=fun c=>by
  unfold partOf;rw [e];rfl
 rw [e];show Cor.mk p.cur (dn p.a) (dn p.b) (srt p.meters) ((p.fees.map nF).map (sumOf (noPl p))) ((p.charges.map nC).map (partOf (noPl p)))=_
 rw [List.map_map,List.map_map];congr 1
 exact List.map_congr_left fun c _=>e2 c
def inB (n a b:Int):Bool:=decide (a≤n)&&decide (n≤b)
def spanB (a b x y:Int):Bool:=decide (a≤x)&&decide (x≤y)&&decide (y≤b)
def tiersB:Int→List Tier→Bool
 | _,[]=>true
 | _,[t]=>inB t.rate 0 1000000000000&&decide (t.upto=0)
 | u,t::r=>inB t.rate 0 1000000000000&&inB t.upto (u+1) 1000000&&tiersB t.upto r
def adjB (a:Adj):Bool:=if a.kind=1 then inB a.num 0 100000000&&inB a.mode 0 3 else if a.kind=2∨a.kind=3∨a.kind=4 then inB a.num 0 1000000000000&&decide (a.mode=0) else false
def sumB (c:Cor) (s:Mm.Sm):Bool:=inB s.amt 0 1000000000000&&spanB c.a c.b s.a s.b
def tierRow (ts:List Tier):Bool:=inB ts.length 1 8&&tiersB 0 ts
def partB (c:Cor) (x:Prt):Bool:=
 spanB c.a c.b x.a x.b&&(inB x.mt 0 ((c.meters.length:Int)-1)&&(inB x.allowance 0 1000000&&(inB x.block 1 1000000&&(inB x.kind 1 2&&(inB x.mode 0 3&&(tierRow x.tiers&&(decide (x.adjusts.length≤6)&&x.adjusts.all adjB)))))))
def ordB:Option ByteArray→ByteArray→Bool
 | none,_=>true
 | some p,n=>klt p n
def mtB (m:Meter):Bool:=inB m.max 0 2000&&(decide (m.line=0)&&decide (m.col=0))
def metersF:Option ByteArray→List Meter→Bool
 | _,[]=>true
 | q,m::r=>(ordB q m.name&&mtB m)&&metersF (some m.name) r
def metersB (ms:List Meter):Bool:=metersF none ms
def horB (c:Cor):Bool:=decide (0≤c.b∧c.b<3652059)&&(inB c.a 0 c.b&&decide (c.b-c.a<4000))
def goodC (c:Cor):Bool:=
 horB c&&((decide (c.meters.length≤4)&&metersB c.meters)&&(decide (c.sums.length≤8)&&(c.sums.all (sumB c)&&(decide (c.parts.length≤8)&&c.parts.all (partB c)))))
theorem metersF_step {ms:List Meter} {q:Option ByteArray} {i:Nat} {m:Meter} (h:ms[i]?=some m):metersF q (ms.drop i)=((ordB q m.name&&mtB m)&&metersF (some m.name) (ms.drop (i+1))):=by
 rw [drop_at h];rfl
theorem leq_klt (a b:ByteArray):(Op.bytesLess a.toList b.toList||a.toList==b.toList) = !klt b a:=by
 rw [klt_eq];by_cases e:a=b
 ·subst e;rw [klt_irr];simp
 ·have ne:(a.toList==b.toList)=false:=by
   rw [beq_eq_false_iff_ne];intro h;rw [ByteArray.toList_eq,ByteArray.toList_eq] at h;exact e (ba_ext h)
  rw [ne,Bool.or_false];rcases Bool.eq_false_or_eq_true (klt a b) with g|g
  ·rw [g,klt_as g];rfl
  ·rw [g,klt_tot g e];rfl
def upB:Int→List Tier→Bool
 | _,[]=>true
 | _,[_]=>true
 | u,t::r=>inB t.upto (u+1) 1000000&&upB t.upto r
def rateB (t:Tier):Bool:=inB t.rate 0 1000000000000
theorem tiersB_split:∀(l:List Tier) (z:Tier) (u:Int),tiersB u (l++[z])=(upB u (l++[z])&&(decide (z.upto=0)&&(l++[z]).all rateB))
 | [],z,u=>by
   show (inB z.rate 0 1000000000000&&decide (z.upto=0))=(true&&(decide (z.upto=0)&&(rateB z&&true)))
   unfold rateB;cases inB z.rate 0 1000000000000<;>cases decide (z.upto=0)<;>rfl
 | t::l,z,u=>by
   have ih:=tiersB_split l z t.upto;have e1:tiersB u (t::l++[z])=(inB t.rate 0 1000000000000&&inB t.upto (u+1) 1000000&&tiersB t.upto (l++[z])):=by cases l<;>rfl
   have e2:upB u (t::l++[z])=(inB t.upto (u+1) 1000000&&upB t.upto (l++[z])):=by cases l<;>rfl
   have e3:(t::l++[z]).all rateB=(rateB t&&(l++[z]).all rateB):=rfl;rw [e1,e2,e3,ih];unfold rateB;cases inB t.rate 0 1000000000000<;>cases inB t.upto (u+1) 1000000<;>cases upB t.upto (l++[z])<;>cases decide (z.upto=0)<;>rfl
theorem upB_step {l:List Tier} {i:Nat} {t:Tier} {u:Int} (h:l[i]?=some t) (hi:i+1<l.length):upB u (l.drop i)=(inB t.upto (u+1) 1000000&&upB t.upto (l.drop (i+1))):=by
 obtain ⟨t',h'⟩:∃t',l[i+1]?=some t':=⟨_,List.getElem?_eq_getElem hi⟩;rw [drop_at h,drop_at h'];rfl
theorem upB_end {l:List Tier} {i:Nat} {u:Int} (h:l.length≤i+1):upB u (l.drop i)=true:=by
 have:(l.drop i).length≤1:=by rw [List.length_drop];omega
 cases hd:l.drop i with
 | nil=>rfl
 | cons t r=>
   rw [hd] at this;cases r with
   | nil=>rfl
   | cons _ _=>simp at this
theorem tiersB_of {l:List Tier} {z:Tier} (h:l[l.length-1]?=some z) (n:1≤l.length):tiersB 0 l=(upB 0 l&&(decide (z.upto=0)&&l.all rateB)):=by
 have e:l=l.take (l.length-1)++[z]:=by
  have:=drop_at h;rw [show l.length-1+1=l.length by omega,List.drop_length] at this;rw [←this,List.take_append_drop]
 rw [e];exact tiersB_split _ z 0
end P
end Go.Proofs.YtofbobdhkbmbgaaGreatDoor
