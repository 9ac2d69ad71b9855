/- A plan's text and items behind it, as plans: the items are put behind the plan's. Pure: no program is named here. -/
import Derived.Test.YtofbobdhkbmbgaaGreatDoorJParS
import Derived.Lib.IndexMore
import Derived.Lib.TrimByte
namespace Go.Proofs.YtofbobdhkbmbgaaGreatDoor
namespace P
open Go.RowKit Mm R6
theorem parsed_zero {l:List UInt8} (h:(parsed l).2.1=0):(parsed l).2.2.1=0∧(parsed l).2.2.2=0:=by
 unfold parsed at h ⊢;simp only at h ⊢;split
 ·rename_i k
  rw [if_pos k] at h;unfold planS at h ⊢;simp only at h ⊢;split
  ·exact ⟨rfl,rfl⟩
  ·rename_i k2;rw [if_neg k2] at h;exact absurd h k2
 ·rename_i k
  rw [if_neg k] at h;have h:((lexed l).2.1:Int)=0:=h;omega
section
variable {ts:List Tok} {s:St}
theorem onW_no (h:¬ s.err=0) (l:List UInt8):onW ts s l=false:=by unfold onW;rw [decide_eq_false h];rfl
theorem isTk_no (h:¬ s.err=0) (k:Nat):isTk ts s k=false:=by unfold isTk;rw [decide_eq_false h];rfl
theorem wrg_no (h:¬ s.err=0) (e:Int):wrg ts s e=s:=by unfold wrg;rw [if_neg h]
theorem wnt_no (h:¬ s.err=0) (l:List UInt8):wnt ts s l=s:=by unfold wnt;rw [onW_no h,wrg_no h];rfl
theorem tkn_no (h:¬ s.err=0) (k:Nat):(tkn ts s k).2=s:=by unfold tkn;rw [isTk_no h,wrg_no h];rfl
theorem numS_no (h:¬ s.err=0) (p m:Int):(numS ts s p m).2=s:=by unfold numS;rw [isTk_no h,wrg_no h];rfl
theorem dayS_no (h:¬ s.err=0):(dayS ts s).2=s:=tkn_no h 4
theorem winS_no (h:¬ s.err=0):(winS ts s).2=s:=by unfold winS;rw [onW_no h];rfl
theorem oneAt_st (h:¬ s.err=0):∀(ws:List (List UInt8)) (k:Int),oneAt ts s ws k=(-1,s)
 | [],_=>rfl
 | w::r,k=>by unfold oneAt;rw [onW_no h];exact oneAt_st h r (k+1)
theorem modeS_no (h:¬ s.err=0):(modeS ts s).2=s:=by unfold modeS oneS;rw [oneAt_st h];exact wrg_no h 4
theorem kindS_no (h:¬ s.err=0):(kindS ts s).2=s:=by unfold kindS oneS;rw [oneAt_st h];exact wrg_no h 4
theorem optS_no (h:¬ s.err=0) (l:List UInt8) (d:Int):(optS ts s l d).2=s:=by unfold optS;rw [onW_no h];rfl
theorem tiersS_no (h:¬ s.err=0) (n:Nat) (acc:List Tier):(tiersS ts n s acc).2=s:=by
 cases n with
 | zero=>rfl
 | succ n=>unfold tiersS;rw [onW_no h];rfl
theorem adjsS_no (h:¬ s.err=0) (n:Nat) (acc:List Adj):(adjsS ts n s acc).2=s:=by
 cases n with
 | zero=>rfl
 | succ n=>unfold adjsS oneS;rw [oneAt_st h];rfl
theorem back {a:St} (h:¬ s.err=0→a=s) (e:a.err=0):s.err=0:=by
 by_cases k:s.err=0
 ·exact k
 ·rw [h k] at e;exact e
theorem wnt_e0 {l:List UInt8} (e:(wnt ts s l).err=0):s.err=0:=back (fun h=>wnt_no h l) e
theorem tkn_e0 {k:Nat} (e:(tkn ts s k).2.err=0):s.err=0:=back (fun h=>tkn_no h k) e
theorem numS_e0 {p m:Int} (e:(numS ts s p m).2.err=0):s.err=0:=back (fun h=>numS_no h p m) e
theorem dayS_e0 (e:(dayS ts s).2.err=0):s.err=0:=back (fun h=>dayS_no h) e
theorem winS_e0 (e:(winS ts s).2.err=0):s.err=0:=back (fun h=>winS_no h) e
theorem modeS_e0 (e:(modeS ts s).2.err=0):s.err=0:=back (fun h=>modeS_no h) e
theorem kindS_e0 (e:(kindS ts s).2.err=0):s.err=0:=back (fun h=>kindS_no h) e
theorem optS_e0 {l:List UInt8} {d:Int} (e:(optS ts s l d).2.err=0):s.err=0:=back (fun h=>optS_no h l d) e
theorem tiersS_e0 {n:Nat} {acc:List Tier} (e:(tiersS ts n s acc).2.err=0):s.err=0:=back (fun h=>tiersS_no h n acc) e
theorem adjsS_e0 {n:Nat} {acc:List Adj} (e:(adjsS ts n s acc).2.err=0):s.err=0:=back (fun h=>adjsS_no h n acc) e
end
section
variable {n:Nat} {X C:List Tok} {u v:Int} {s c:St}
end
section
variable {n:Nat} {X C:List Tok} {u v:Int} {s c:St}
end
def NmOk (b:ByteArray):Prop:=kd b.data.toList=1∧b.size≤8192
def DayOk (d:Day):Prop:=good d.y d.m d.d=true
def WinOk (w:Win):Prop:=(w.has=true∧DayOk w.a∧DayOk w.b)∨w=⟨false,⟨0,0,0⟩,⟨0,0,0⟩⟩
def NumOk (n most:Int):Prop:=0≤n∧n≤most
structure TierOk (t:Tier):Prop where
 upto:NumOk t.upto 1000000
 rate:NumOk t.rate 1000000000000
def AdjOk (a:Adj):Prop:=(a.kind=1∧NumOk a.num 100000000∧NumOk a.mode 3)∨((a.kind=2∨a.kind=3∨a.kind=4)∧NumOk a.num 1000000000000∧a.mode=0)
structure ChOk (c:Charge):Prop where
 meter:NmOk c.meter
 win:WinOk c.win
 allow:NumOk c.allowance 1000000
 block:NumOk c.block 1000000
 kind:c.kind=1∨c.kind=2
 tiers:∃ts r,c.tiers=ts++[⟨0,r⟩]∧(∀t∈ts,TierOk t)∧NumOk r 1000000000000
 mode:NumOk c.mode 3
 adjs:∀a∈c.adjusts,AdjOk a
structure Gd (p:Plan):Prop where
 name:NmOk p.name∧NmOk p.cur
 days:DayOk p.a∧DayOk p.b
 meters:∀m∈p.meters,NmOk m.name∧NmOk m.unit∧NumOk m.max 2000
 fees:∀f∈p.fees,NumOk f.amount 1000000000000∧WinOk f.win
 charges:∀c∈p.charges,ChOk c
variable {ts:List Tok} {s:St}
theorem kd_4 {l:List UInt8} (h:kd l=4):reads l=true:=by
 unfold kd at h
 repeat' split at h
 all_goals first|assumption|(exact absurd h (by decide))
theorem wrg_ne {e:Int} (he:e≠0):(wrg ts s e).err≠0:=by
 unfold wrg;split
 ·exact he
 ·assumption
theorem tkn_y {k:Nat} (e:(tkn ts s k).2.err=0):isTk ts s k=true:=by
 cases h:isTk ts s k with
 | true=>rfl
 | false=>
   unfold tkn at e;rw [h] at e;exact absurd e (wrg_ne (by decide))
theorem isTk_at {k:Nat} (h:isTk ts s k=true) (hk:k≠0):s.err=0∧tk ts s∈ts∧(tk ts s).k=k:=by
 unfold isTk at h;simp only [Bool.and_eq_true,decide_eq_true_eq] at h;refine ⟨h.1,?_,h.2⟩;unfold tk at h ⊢;rw [List.getD_eq_getElem?_getD] at h ⊢;cases hg:ts[s.i]? with
 | none=>
   rw [hg] at h;exact absurd h.2.symm (by intro e;exact hk e)
 | some t=>exact List.mem_of_getElem? hg
theorem tkn_gd (K:Knd ts) (F:Fine ts) {k:Nat} (hk:k≠0) (e:(tkn ts s k).2.err=0):kd (tkn ts s k).1=k∧(tkn ts s k).1.length≤8192:=by
 have h:=tkn_y e;obtain ⟨_,h2,h3⟩:=isTk_at h hk;unfold tkn;rw [if_pos h];exact ⟨by rw [(K _ h2).1,h3],(F.tok _ h2).1⟩
theorem nm_gd (K:Knd ts) (F:Fine ts) (e:(tkn ts s 1).2.err=0):NmOk ⟨(tkn ts s 1).1.toArray⟩:=by
 obtain ⟨h1,h2⟩:=tkn_gd K F (by decide) e;refine ⟨by simpa using h1,?_⟩;show (tkn ts s 1).1.toArray.size≤_
 simpa using h2
theorem day_gd (K:Knd ts) (F:Fine ts) (e:(dayS ts s).2.err=0):DayOk (dayS ts s).1:=by
 obtain ⟨h1,_⟩:=tkn_gd K F (k:=4) (by decide) e;have r:=kd_4 h1;show good (dayOf' (tkn ts s 4).1).y (dayOf' (tkn ts s 4).1).m (dayOf' (tkn ts s 4).1).d=true
 unfold dayOf';rw [if_pos r];unfold reads at r;simp only [Bool.and_eq_true] at r;exact r.2
theorem stV_nn (l:List UInt8) (p:Int):0≤pV l p:=by
 unfold pV;exact Int.mul_nonneg (Int.natCast_nonneg _) (by exact_mod_cast Nat.zero_le _)
theorem num_gd {p m:Int} (e:(numS ts s p m).2.err=0):NumOk (numS ts s p m).1 m:=by
 unfold numS at e ⊢;cases h:isTk ts s 3 with
 | false=>
   rw [h] at e;exact absurd e (wrg_ne (by decide))
 | true=>
   obtain ⟨h0,_,_⟩:=isTk_at h (by decide);rw [h,if_pos rfl] at e;rw [if_pos rfl];have e:(bad ts s (pW (tk ts s).t p m)).err=0:=e;show NumOk (pN (tk ts s).t p m) m
   unfold bad at e;split at e
   ·exact absurd e (wrg_ne (by decide))
   ·split at e
    ·exact absurd e (wrg_ne (by decide))
    ·rename_i g1 g2
     unfold pW at g1 g2;unfold pN;by_cases b:pBad (tk ts s).t p=true
     ·rw [if_pos b] at g1;exact absurd rfl g1
     ·rw [if_neg b] at g1 g2;by_cases g:pGreat (tk ts s).t p m=true
      ·rw [if_pos g] at g2;exact absurd rfl g2
      ·rw [if_neg (by simp [Bool.eq_false_iff.2 b,Bool.eq_false_iff.2 g])];refine ⟨stV_nn _ _,?_⟩;have g:pGreat (tk ts s).t p m=false:=Bool.eq_false_iff.2 g;unfold pGreat at g;simp only [Bool.or_eq_false_iff,decide_eq_false_iff_not] at g;omega
theorem win_gd (K:Knd ts) (F:Fine ts) (e:(winS ts s).2.err=0):WinOk (winS ts s).1:=by
 unfold winS at e ⊢;split
 ·rename_i h
  rw [if_pos h] at e;exact .inl ⟨rfl,day_gd K F (wnt_e0 (dayS_e0 e)),day_gd K F e⟩
 ·exact .inr rfl
theorem opt_gd {l:List UInt8} {d:Int} (hd:NumOk d 1000000) (e:(optS ts s l d).2.err=0):NumOk (optS ts s l d).1 1000000:=by
 unfold optS at e ⊢;split
 ·rename_i h
  rw [if_pos h] at e;exact num_gd (wnt_e0 e)
 ·exact hd
theorem one_in (ws:List (List UInt8)):(oneS ts s ws).1 = -1∨(0≤(oneS ts s ws).1∧(oneS ts s ws).1<ws.length):=by
 have key:∀(ws:List (List UInt8)) (k:Int),0≤k→(oneAt ts s ws k).1 = -1∨(k≤(oneAt ts s ws k).1∧(oneAt ts s ws k).1<k+ws.length):=by
  intro ws;induction ws with
  | nil=>intro k _;exact .inl rfl
  | cons w r ih=>
    intro k hk;unfold oneAt;split
    ·exact .inr ⟨Int.le_refl _,by simp only [List.length_cons];omega⟩
    ·rcases ih (k+1) (by omega) with h|⟨h1,h2⟩
     ·exact .inl h
     ·exact .inr ⟨by omega,by simp only [List.length_cons];omega⟩
 rcases key ws 0 (Int.le_refl _) with h|⟨h1,h2⟩
 ·exact .inl h
 ·exact .inr ⟨h1,by have h2:(oneS ts s ws).1<0+ws.length:=h2;omega⟩
theorem mode_gd (e:(modeS ts s).2.err=0):NumOk (modeS ts s).1 3:=by
 unfold modeS at e ⊢;split
 ·rename_i h
  rw [if_pos h] at e;exact absurd e (wrg_ne (by decide))
 ·rename_i h
  rcases one_in (ts:=ts) (s:=s) modes with g|⟨g1,g2⟩
  ·omega
  ·have g2:(oneS ts s modes).1<4:=g2;exact ⟨g1,by omega⟩
theorem kind_gd (e:(kindS ts s).2.err=0):(kindS ts s).1=1∨(kindS ts s).1=2:=by
 unfold kindS at e ⊢;simp only at e ⊢;split at e
 ·exact absurd e (wrg_ne (by decide))
 ·rename_i h
  rcases one_in (ts:=ts) (s:=s) kinds with g|⟨g1,g2⟩
  ·omega
  ·have g2:(oneS ts s kinds).1<2:=g2;omega
theorem tier_gd (e:(tierS ts s).2.err=0):TierOk (tierS ts s).1:=⟨num_gd (wnt_e0 (numS_e0 (wnt_e0 e))),num_gd (wnt_e0 e)⟩
theorem tiers_gd:∀(n:Nat) (s:St) (acc:List Tier),(∀t∈acc,TierOk t)→(tiersS ts n s acc).2.err=0→∀t∈(tiersS ts n s acc).1,TierOk t
 | 0,_,acc,h,_=>h
 | n+1,s,acc,h,e=>by
   unfold tiersS at e ⊢;split
   ·rename_i ho
    rw [if_pos ho] at e;refine tiers_gd n _ _ (fun t ht=>?_) e;rcases List.mem_append.1 ht with k|k
    ·exact h t k
    ·obtain rfl:=List.mem_singleton.1 k;exact tier_gd (tiersS_e0 e)
   ·exact h
theorem adj_gd {k:Int} (hk:k=1∨k=2∨k=3∨k=4) (e:(adjS ts s k).2.err=0):AdjOk (adjS ts s k).1:=by
 unfold adjS at e ⊢;by_cases h:k=1
 ·rw [if_pos h] at e ⊢;exact .inl ⟨h,num_gd (modeS_e0 (wnt_e0 e)),mode_gd (wnt_e0 e)⟩
 ·rw [if_neg h] at e ⊢;exact .inr ⟨by rcases hk with k|k|k|k;exact absurd k h;exact .inl k;exact .inr (.inl k);exact .inr (.inr k),num_gd (wnt_e0 e),rfl⟩
theorem adjs_gd:∀(n:Nat) (s:St) (acc:List Adj),(∀t∈acc,AdjOk t)→(adjsS ts n s acc).2.err=0→∀t∈(adjsS ts n s acc).1,AdjOk t
 | 0,_,acc,h,_=>h
 | n+1,s,acc,h,e=>by
   unfold adjsS at e ⊢;simp only at e ⊢;split
   ·exact h
   ·rename_i ho
    rw [if_neg ho] at e;refine adjs_gd n _ _ (fun t ht=>?_) e;rcases List.mem_append.1 ht with k|k
    ·exact h t k
    ·obtain rfl:=List.mem_singleton.1 k;refine adj_gd ?_ (adjsS_e0 e);rcases one_in (ts:=ts) (s:=s) adjWords with g|⟨g1,g2⟩
     ·omega
     ·have g2:(oneS ts s adjWords).1<4:=g2;omega
theorem charge_gd (K:Knd ts) (F:Fine ts) (l c:Int) (e:(chargeS ts s l c).2.err=0):ChOk (chargeS ts s l c).1:=by
 have e17:=wnt_e0 (l:=sShut) e;have e16:=adjsS_e0 e17;have e15:=wnt_e0 e16;have e14:=modeS_e0 e15;have e11:=wnt_e0 (wnt_e0 (wnt_e0 e14));have e10:=wnt_e0 (wnt_e0 (numS_e0 e11));have e8:=tiersS_e0 e10;have e7:=wnt_e0 e8;have e6:=kindS_e0 e7;have e5:=optS_e0 e6;have e4:=optS_e0 e5;have e3:=wnt_e0 e4;have e2:=winS_e0 e3;exact ⟨nm_gd K F e2,win_gd K F e3,opt_gd ⟨by decide,by decide⟩ e5,opt_gd ⟨by decide,by decide⟩ e6,kind_gd e7,⟨_,_,rfl,tiers_gd _ _ _ (fun _ h=>by cases h) e10,num_gd e11⟩,mode_gd e15,adjs_gd _ _ _ (fun _ h=>by cases h) e17⟩
theorem item_gd (K:Knd ts) (F:Fine ts) {p:Plan} (h:Gd p) (e:(itemS ts s p).2.err=0):Gd (itemS ts s p).1:=by
 unfold itemS at e ⊢;simp only at e ⊢;by_cases e0:(oneS ts s itemWords).1=0
 ·rw [if_pos e0] at e ⊢;refine ⟨h.name,h.days,fun m hm=>?_,h.fees,h.charges⟩;rcases List.mem_append.1 hm with k|k
  ·exact h.meters m k
  ·obtain rfl:=List.mem_singleton.1 k;have e5:=wnt_e0 (l:=sSemi) e;have e4:=wnt_e0 (numS_e0 e5);exact ⟨nm_gd K F (wnt_e0 (tkn_e0 e4)),nm_gd K F e4,num_gd e5⟩
 ·rw [if_neg e0] at e ⊢;by_cases e1:(oneS ts s itemWords).1=1
  ·rw [if_pos e1] at e ⊢;refine ⟨h.name,h.days,h.meters,fun m hm=>?_,h.charges⟩;rcases List.mem_append.1 hm with k|k
   ·exact h.fees m k
   ·obtain rfl:=List.mem_singleton.1 k;have e5:=wnt_e0 (l:=sSemi) e;exact ⟨num_gd (winS_e0 e5),win_gd K F e5⟩
  ·rw [if_neg e1] at e ⊢;by_cases e2:(oneS ts s itemWords).1=2
   ·rw [if_pos e2] at e ⊢;refine ⟨h.name,h.days,h.meters,h.fees,fun m hm=>?_⟩;rcases List.mem_append.1 hm with k|k
    ·exact h.charges m k
    ·obtain rfl:=List.mem_singleton.1 k;exact charge_gd K F _ _ e
   ·rw [if_neg e2] at e ⊢;exact absurd e (wrg_ne (by decide))
theorem items_gd (K:Knd ts) (F:Fine ts):∀(n:Nat) (s:St) (p:Plan),Gd p→(itemsS ts n s p).2.err=0→Gd (itemsS ts n s p).1
 | 0,_,_,h,_=>h
 | n+1,s,p,h,e=>by
   unfold itemsS at e ⊢;split
   ·rename_i ho
    rw [if_pos ho] at e
    have e':(itemS ts s p).2.err=0:=by
     by_cases g:(itemS ts s p).2.err=0
     ·exact g
     ·have:goesOn ts (itemS ts s p).2=false:=by unfold goesOn;rw [decide_eq_false g];rfl
      rw [items_stop ts n _ _ this] at e;exact e
    exact items_gd K F n _ _ (item_gd K F h e') e
   ·exact h
theorem plan_gd (K:Knd ts) (F:Fine ts) (e:(planS ts).2.1=0):Gd (planS ts).1:=by
 unfold planS at e ⊢;simp only at e ⊢;split at e
 ·rename_i g
  rw [if_pos g];refine items_gd K F _ _ _ ?_ g
  have g0:(headS ts st0).2.err=0:=by
   by_cases k:(headS ts st0).2.err=0
   ·exact k
   ·have:goesOn ts (headS ts st0).2=false:=by unfold goesOn;rw [decide_eq_false k];rfl
    rw [items_stop ts _ _ _ this] at g;exact g
  have g8:=wnt_e0 (l:=sSemi) g0;have g7:=dayS_e0 g8;have g5:=wnt_e0 (wnt_e0 (dayS_e0 g7));have g3:=wnt_e0 (tkn_e0 g5);exact ⟨⟨nm_gd K F g3,nm_gd K F g5⟩,⟨day_gd K F g7,day_gd K F g8⟩,(fun _ h=>by cases h),(fun _ h=>by cases h),(fun _ h=>by cases h)⟩
 ·rename_i g
  exact absurd e g
theorem parsed_gd {l:List UInt8} (e:(parsed l).2.1=0):Gd (parsed l).1:=by
 unfold parsed at e ⊢;simp only at e ⊢;split
 ·rename_i h
  rw [if_pos h] at e;exact plan_gd (lexed_knd l) (lexed_fine h) e
 ·rename_i h
  rw [if_neg h] at e;have e:((lexed l).2.1:Int)=0:=e;omega
theorem i64_of {n m:Int} (h:NumOk n m) (hm:m≤1000000000000):0≤n∧I64 n:=by
 obtain ⟨h1,h2⟩:=h;unfold I64;omega
theorem dayOk_of {d:Day} (h:DayOk d):dayOk d:=by
 obtain ⟨h0,h1,h2,h3,h4,h5⟩:=good_small h;exact ⟨by unfold I64;omega,by unfold I64;omega,by unfold I64;omega⟩
theorem winOk_of {w:Win} (h:WinOk w):winOk w:=by
 rcases h with ⟨_,h1,h2⟩|rfl
 ·exact ⟨dayOk_of h1,dayOk_of h2⟩
 ·exact ⟨⟨by unfold I64;decide,by unfold I64;decide,by unfold I64;decide⟩,⟨by unfold I64;decide,by unfold I64;decide,by unfold I64;decide⟩⟩
theorem ch_sh {c:Charge} (h:ChOk c) (hc:c.tiers.length≤20000∧c.adjusts.length≤20000):ShT c:=by
 obtain ⟨xs,r,e,h1,h2⟩:=h.tiers;have a:=i64_of h.allow (by decide);have b:=i64_of h.block (by decide);refine ⟨h.kind,⟨a.1,b.1⟩,fun t ht=>?_,fun x hx=>?_,hc,by have:=h.meter.2;omega,⟨⟨a.2,b.2⟩,by rcases h.kind with k|k<;>(rw [k];unfold I64;decide),(i64_of h.mode (by decide)).2⟩,winOk_of h.win⟩
 ·rw [e] at ht;rcases List.mem_append.1 ht with k|k
  ·exact ⟨i64_of (h1 t k).upto (by decide),i64_of (h1 t k).rate (by decide)⟩
  ·obtain rfl:=List.mem_singleton.1 k;exact ⟨⟨Int.le_refl _,by show I64 0;unfold I64;decide⟩,i64_of h2 (by decide)⟩
 ·rcases h.adjs x hx with ⟨k1,k2,k3⟩|⟨k1,k2,k3⟩
  ·exact ⟨i64_of k2 (by decide),by rw [k1];unfold I64;decide,(i64_of k3 (by decide)).2⟩
  ·exact ⟨i64_of k2 (by decide),by rcases k1 with k|k|k<;>(rw [k];unfold I64;decide),by rw [k3];unfold I64;decide⟩
theorem gd_sh {p:Plan} (h:Gd p) (sm:Small p):Sh p:=
 ⟨fun m hm=>⟨⟨by have:=(h.meters m hm).1.2;omega,by have:=(h.meters m hm).2.1.2;omega⟩,i64_of (h.meters m hm).2.2 (by decide)⟩,
  fun f hf=>⟨i64_of (h.fees f hf).1 (by decide),winOk_of (h.fees f hf).2⟩,fun c hc=>ch_sh (h.charges c hc) (sm.parts c hc),⟨sm.meters,sm.fees,sm.charges⟩,⟨by have:=h.name.1.2;omega,by have:=h.name.2.2;omega⟩⟩
end P
namespace P
open Go.RowKit
theorem occ_one (l:List UInt8) (c:UInt8) (j:Nat):Lib.occAt l [c] j=(l[j]?==some c):=by
 unfold Lib.occAt;cases h:l.drop j with
 | nil=>
   have:l.length≤j:=List.drop_eq_nil_iff.1 h;rw [List.getElem?_eq_none this];rfl
 | cons a t=>
   have e:l[j]?=some a:=by
    have:=congrArg (·[0]?) h;simpa using this
   rw [e];simp [List.isPrefixOf,BEq.comm]
theorem cut_one (l:List UInt8) (c:UInt8):(c ∉ l∧Lib.cut l [c]=(l,[],false))∨(∃a b,l=a++c::b∧c ∉ a∧Lib.cut l [c]=(a,b,true)):=by
 rcases Lib.index_spec l [c] with ⟨h1,h2⟩|⟨i,h1,h2,h3,h4⟩
 ·refine .inl ⟨fun hm=>?_,by unfold Lib.cut;rw [h1];rfl⟩;obtain ⟨j,hj,e⟩:=List.getElem_of_mem hm;have:=h2 j (by omega);rw [occ_one,List.getElem?_eq_getElem hj,e] at this;simp at this
 ·rw [occ_one] at h3;have h3':l[i]?=some c:=by simpa using h3
  obtain ⟨hi,e⟩:=List.getElem?_eq_some_iff.1 h3';refine .inr ⟨l.take i,l.drop (i+1),?_,fun hm=>?_,?_⟩
  ·conv=>lhs;rw [←List.take_append_drop i l,List.drop_eq_getElem_cons hi,e]
  ·obtain ⟨j,hj,e2⟩:=List.getElem_of_mem hm;rw [List.length_take] at hj;have h5:=h4 j (by omega);rw [occ_one,List.getElem?_eq_getElem (by omega)] at h5;rw [List.getElem_take] at e2;rw [e2] at h5;simp at h5
  ·unfold Lib.cut;rw [h1,if_pos (by omega)];rfl
def pl (a:List UInt8):Bool:=a.all isDg&&!a.isEmpty&&(decide (a.length=1)||!(a.getD 0 0==48))
theorem pl_oddHead {a:List UInt8} (h:pl a=true):a.all isDg=true∧a≠[]∧oddHead a=false:=by
 unfold pl at h;simp only [Bool.and_eq_true,Bool.or_eq_true,Bool.not_eq_true',decide_eq_true_eq,List.isEmpty_eq_false_iff] at h;refine ⟨h.1.1,h.1.2,?_⟩;unfold oddHead;rcases h.2 with k|k
 ·rw [decide_eq_false (by omega:¬ 1<a.length)];simp
 ·rw [k];rfl
theorem pl_of {a:List UInt8} (h1:a.all isDg=true) (h2:a≠[]) (h3:a.length=1∨a.getD 0 0≠48):pl a=true:=by
 unfold pl;simp only [Bool.and_eq_true,Bool.or_eq_true,Bool.not_eq_true',decide_eq_true_eq,List.isEmpty_eq_false_iff];exact ⟨⟨h1,h2⟩,h3.imp id (fun h=>by simpa using h)⟩
theorem dp_dg {l:List UInt8} (h:l.all isDp=true) (hn:(46:UInt8) ∉ l):l.all isDg=true:=by
 rw [List.all_eq_true] at *;intro b hb;have:=h b hb;unfold isDp at this;simp only [Bool.or_eq_true,beq_iff_eq] at this;rcases this with k|k
 ·exact k
 ·subst k;exact absurd hb hn
theorem fm_facts {l:List UInt8} (h:fm l≠0):isDg (l.getD 0 0)=true∧l.all isDp=true∧l.count 46≤1∧(l.getLast?==some 46)=false∧oddHead l=false:=by
 have h0:isDg (l.getD 0 0)=true:=by
  cases k:isDg (l.getD 0 0)
  ·exact absurd (fm_first k) h
  ·rfl
 have h1:evenBody l=true:=by
  cases k:evenBody l
  ·exact absurd (fm_body k) h
  ·rfl
 have h2:oddHead l=false:=by
  cases k:oddHead l
  ·rfl
  ·exact absurd (fm_head k) h
 unfold evenBody at h1;simp only [Bool.and_eq_true,decide_eq_true_eq,Bool.not_eq_true'] at h1;exact ⟨h0,h1.1,h1.2.1,h1.2.2,h2⟩
theorem odd_at {a:List UInt8} (h:oddHead a=false):a.length≤1∨a.getD 0 0≠48∨a.getD 1 0=46:=by
 unfold oddHead at h;by_cases h1:a.getD 0 0=48
 ·by_cases h2:1<a.length
  ·rw [h1,decide_eq_true h2] at h;simp at h;exact .inr (.inr (by simpa using h))
  ·exact .inl (by omega)
 ·exact .inr (.inl h1)
theorem fm_cut_no {l:List UInt8} (h:(46:UInt8) ∉ l):fm l=if pl l then 1 else 0:=by
 cases k:pl l
 ·rw [if_neg (by simp)];by_cases hf:fm l=0
  ·exact hf
  ·exfalso
   obtain ⟨f0,f1,_,_,f4⟩:=fm_facts hf;have hne:l≠[]:=by rintro rfl;rw [getD_nil0] at f0;cases f0
   have hlen:0<l.length:=List.length_pos_iff.2 hne
   have:=pl_of (dp_dg f1 h) hne (by
    rcases odd_at f4 with k|k|k
    ·left;omega
    ·exact .inr k
    ·by_cases h1:1<l.length
     ·exact absurd (k ▸ mem_getD h1) h
     ·left;omega)
   rw [k] at this;cases this
 ·obtain ⟨a,b,c⟩:=pl_oddHead k;rw [fm_whole a b c];rfl
theorem fm_cut_yes {a b:List UInt8} (h:(46:UInt8) ∉ a):fm (a++46::b)=if pl a&&(b.all isDg&&!b.isEmpty) then 2 else 0:=by
 cases k:pl a&&(b.all isDg&&!b.isEmpty)
 ·rw [if_neg (by simp)];by_cases hf:fm (a++46::b)=0
  ·exact hf
  ·exfalso
   obtain ⟨f0,f1,f2,f3,f4⟩:=fm_facts hf
   have hne:a≠[]:=by
    rintro rfl
    revert f0
    simp;decide
   have hlen:0<a.length:=List.length_pos_iff.2 hne;rw [List.all_append,List.all_cons,Bool.and_eq_true,Bool.and_eq_true] at f1;rw [List.count_append,List.count_cons_self] at f2;have hb:(46:UInt8) ∉ b:=by rw [←List.count_eq_zero];omega
   have hbne:b≠[]:=by
    rintro rfl;simp at f3
   have hp:=pl_of (dp_dg f1.1 h) hne (by
    rcases odd_at f4 with q|q|q
    ·simp at q;left;omega
    ·rw [getD_app hlen] at q;exact .inr q
    ·by_cases h1:1<a.length
     ·rw [getD_app h1] at q;exact absurd (q ▸ mem_getD h1) h
     ·left;omega)
   rw [hp,dp_dg f1.2.2 hb] at k;cases b
   ·exact hbne rfl
   ·cases k
 ·simp only [Bool.and_eq_true,Bool.not_eq_true',List.isEmpty_eq_false_iff] at k;obtain ⟨x,y,z⟩:=pl_oddHead k.1;rw [fm_point x y z k.2.1 k.2.2];rfl
theorem stV_cut {a b:List UInt8} (hb:b.all isDg=true):stV (a++46::b)=stV (a++b):=by
 rw [show a++46::b=(a++[46])++b by simp,stV_digits _ _ hb,stV_point,stV_digits _ _ hb]
theorem stB_cut {a b:List UInt8} (hb:b.all isDg=true):stB (a++46::b)=b.length:=by
 rw [show a++46::b=(a++[46])++b by simp,stB_digits _ _ hb,stB_point,if_pos (by omega)];omega
theorem stB_plain {a:List UInt8} (ha:a.all isDg=true):stB a = -1:=by
 have:=stB_digits a [] ha;rw [List.nil_append] at this;rw [this];rfl
end P
namespace P
open Go.RowKit Mm R6
abbrev TkL:=List (Nat×List UInt8)
def Lx (l:List UInt8) (xs:TkL):Prop:=∀ln cl,(lex l ln cl).2=none∧((lex l ln cl).1.map fun t=>(t.k,t.t))=xs
theorem Lx.nil:Lx [] [(0,[])]:=fun _ _=>⟨rfl,rfl⟩
theorem gap_35 {c:UInt8} (h:isGap c=true):(c==35)=false:=by
 unfold isGap at h;simp only [Bool.or_eq_true,beq_iff_eq] at h;rcases h with ((rfl|rfl)|rfl)|rfl<;>rfl
theorem Lx.gap {c:UInt8} {l:List UInt8} {xs:TkL} (hc:isGap c=true) (h:Lx l xs):Lx (c::l) xs:=fun ln cl=>by
 have hp:piece (c::l)=1:=by rw [piece_cons,gap_35 hc,hc];rfl
 rw [lex_skip (by unfold skips;rw [hc,Bool.or_true]) ln cl,hp];exact h _ _
theorem lt_skip {c:UInt8} (h:isLt c=true):skips c=false∧(c==35)=false∧isGap c=false:=by
 unfold isLt at h;rw [decide_eq_true_eq] at h
 have k:∀x:UInt8,c.toNat≠x.toNat→(c==x)=false:=fun x hx=>by
  rw [beq_eq_false_iff_ne];intro e;exact hx (by rw [e])
 have e1:=k 35 (by show c.toNat≠35;omega);have e2:=k 32 (by show c.toNat≠32;omega);have e3:=k 9 (by show c.toNat≠9;omega);have e4:=k 10 (by show c.toNat≠10;omega);have e5:=k 13 (by show c.toNat≠13;omega);have g:isGap c=false:=by unfold isGap;rw [e2,e3,e4,e5];rfl
 exact ⟨by unfold skips;rw [e1,g];rfl,e1,g⟩
theorem Lx.word {t l:List UInt8} {x:UInt8} {xs:TkL} {k:Nat} (ht:t.all isLt=true∧t≠[]) (hk:kd t=k) (h0:k≠0) (hx:isLt x=false) (h:Lx (x::l) xs):Lx (t++x::l) ((k,t)::xs):=fun ln cl=>by
 cases t with
 | nil=>exact absurd rfl ht.2
 | cons c r=>
   have hc:isLt c=true∧r.all isLt=true:=by have:=ht.1;rw [List.all_cons,Bool.and_eq_true] at this;exact this
   obtain ⟨s1,s2,s3⟩:=lt_skip hc.1
   have hp:piece (c::(r++x::l))=(c::r).length:=by
    rw [piece_cons,s2,s3,hc.1,run_whole r l hc.2 hx];rfl
   have e1:(c::(r++x::l)).take (piece (c::(r++x::l)))=c::r:=by
    rw [hp,←List.cons_append,List.take_left]
   have e2:(c::(r++x::l)).drop (piece (c::(r++x::l)))=x::l:=by
    rw [hp,←List.cons_append,List.drop_left]
   have:=lex_tok (c:=c) (r:=r++x::l) s1 (by rw [e1,hk];exact h0) ln cl;rw [e1,e2] at this;rw [List.cons_append,this];obtain ⟨h1,h2⟩:=h ln (cl+piece (c::(r++x::l)));exact ⟨h1,by rw [List.map_cons,h2,hk]⟩
theorem Lx.sign {c:UInt8} {l:List UInt8} {xs:TkL} (hc:c=123∨c=125∨c=59) (h:Lx l xs):Lx (c::l) ((5,[c])::xs):=fun ln cl=>by
 have q:skips c=false∧(c==35)=false∧isGap c=false∧isLt c=false∧kd [c]=5:=by rcases hc with rfl|rfl|rfl<;>decide
 obtain ⟨s1,s2,s3,s4,s5⟩:=q;have hp:piece (c::l)=1:=by rw [piece_cons,s2,s3,s4];rfl
 have:=lex_tok (c:=c) (r:=l) s1 (by rw [hp];show kd [c]≠0;rw [s5];decide) ln cl;rw [hp] at this;have e:(c::l).take 1=[c]:=rfl;have e2:(c::l).drop 1=l:=rfl;rw [e,e2,s5] at this;rw [this];obtain ⟨h1,h2⟩:=h ln (cl+1);exact ⟨h1,by rw [List.map_cons,h2]⟩
theorem Lx.tabs {l:List UInt8} {xs:TkL} (h:Lx l xs):∀d,Lx (List.replicate d 9++l) xs
 | 0=>h
 | d+1=>Lx.gap (by decide) (Lx.tabs h d)
theorem Lx.ln {s l:List UInt8} {xs:TkL} (d:Nat) (h:Lx (s++10::l) xs):Lx (ln d s++l) xs:=by
 have:=h.tabs d;unfold P.ln;simpa [List.append_assoc] using this
theorem words_dg:words.all (fun w=>!isDg (w.getD 0 0))=true:=by decide
theorem word_no {l:List UInt8} (h:isDg (l.getD 0 0)=true):words.contains l=false:=by
 cases e:words.contains l with
 | false=>rfl
 | true=>
   rw [List.contains_eq_mem,decide_eq_true_eq] at e;have:=List.all_eq_true.1 words_dg l e;rw [h] at this;exact absurd this (by decide)
theorem sign_no {l:List UInt8} (h:isDg (l.getD 0 0)=true):¬ (l=[123]∨l=[125]∨l=[59]):=by
 rintro (rfl|rfl|rfl)<;>exact absurd h (by decide)
theorem kd_num {l:List UInt8} (h:fm l≠0):kd l=3∧l.all isLt=true∧l≠[]:=by
 obtain ⟨h1,_⟩:=fm_facts h;have h2:=fm_lt h;refine ⟨?_,h2⟩;unfold kd;rw [if_neg (sign_no h1),if_neg (by rintro (k|k);exact h2.2 k;rw [h2.1] at k;cases k),word_no h1,if_neg (by decide),h1,if_neg (by simp),if_pos h]
theorem kd_day {d:Day} (h:DayOk d):kd (dayT d)=4∧(dayT d).all isLt=true∧dayT d≠[]∧dayOf' (dayT d)=d:=by
 unfold DayOk at h;have e:dayT d=txt d.y d.m d.d:=by unfold dayT;rw [if_pos h]
 obtain ⟨g0,g1,g2,g3,g4,g5⟩:=good_small h;have r:=reads_txt h;have lt:=reads_lt r;obtain ⟨o1,o2,o3⟩:=of_txt g0 g1 g2 g3 g4 g5;rw [e];have hd:isDg ((txt d.y d.m d.d).getD 0 0)=true:=by rw [txt_is];exact isDg_dch (by omega)
 have h45:(45:UInt8)∈txt d.y d.m d.d:=by unfold txt;simp
 have hp:plain (txt d.y d.m d.d)=false:=by
  unfold plain;rw [List.all_eq_false];exact ⟨45,h45,by decide⟩
 have hf:fm (txt d.y d.m d.d)=0:=by
  cases Nat.eq_zero_or_pos (fm (txt d.y d.m d.d)) with
  | inl k=>exact k
  | inr k=>
    have:=(fm_facts (by omega:fm (txt d.y d.m d.d)≠0)).2.1;have:=List.all_eq_true.1 this 45 h45;exact absurd this (by decide)
 refine ⟨?_,lt.1,lt.2,?_⟩
 ·unfold kd;rw [if_neg (sign_no hd),if_neg (by rintro (k|k);exact lt.2 k;rw [lt.1] at k;cases k),word_no hd,if_neg (by decide),hp,Bool.false_and,if_neg (by decide),if_neg (by rw [hf];decide),if_pos r]
 ·unfold dayOf';rw [if_pos r,o1,o2,o3]
theorem kd_nmb (n:Int):kd (nmbT n)=3∧(nmbT n).all isLt=true∧nmbT n≠[]:=by
 have:=fm_whole (dec_digits n.toNat) (dec_ne n.toNat) (dec_oddHead n.toNat);exact kd_num (by unfold nmbT;rw [this];decide)
theorem kd_dec (n:Int) (p:Nat):kd (decT n p)=3∧(decT n p).all isLt=true∧decT n p≠[]:=by
 refine kd_num ?_;unfold decT;rw [tx_fm];split<;>decide
theorem kd_name {b:ByteArray} (h:NmOk b):kd b.data.toList=1∧b.data.toList.all isLt=true∧b.data.toList≠[]:=by
 refine ⟨h.1,?_⟩;have k:=h.1;unfold kd at k;split at k
 ·exact absurd k (by decide)
 ·split at k
  ·exact absurd k (by decide)
  ·rename_i h2
   rw [not_or] at h2;exact ⟨by simpa using h2.2,h2.1⟩
theorem kd_mode {m:Int} (h:NumOk m 3):kd (modeT m)=2∧(modeT m).all isLt=true∧modeT m≠[]:=by
 obtain ⟨h1,h2⟩:=h;rcases (show m=0∨m=1∨m=2∨m=3 by omega) with rfl|rfl|rfl|rfl<;>exact ⟨by decide,by decide,by decide⟩
theorem kd_kind {k:Int} (h:k=1∨k=2):kd (kindT k)=2∧(kindT k).all isLt=true∧kindT k≠[]:=by
 rcases h with rfl|rfl<;>exact ⟨by decide,by decide,by decide⟩
def smX:Nat×List UInt8:=(5,sSemi)
def winX (w:Win):TkL:=if w.has then [(2,wFrom),(4,dayT w.a),(2,wTo),(4,dayT w.b)] else []
def meterX (m:Meter):TkL:=[(2,wMeter),(1,m.name.data.toList),(2,wUnit),(1,m.unit.data.toList),(2,wMax),(3,nmbT m.max),smX]
def feeX (f:Fee):TkL:=(2,wFee)::(3,nmbT f.amount)::(winX f.win++[smX])
def tierX (t:Tier):TkL:=[(2,wUpto),(3,nmbT t.upto),(2,wRate),(3,decT t.rate 6),smX]
def restX (r:Int):TkL:=[(2,wRest),(2,wRate),(3,decT r 6),smX]
def adjX (a:Adj):TkL:=if a.kind=1 then [(2,wPercent),(3,decT a.num 3),(2,modeT a.mode),smX] else if a.kind=2 then [(2,wCap),(3,nmbT a.num),smX] else if a.kind=3 then [(2,wMinimum),(3,nmbT a.num),smX] else [(2,wAdd),(3,nmbT a.num),smX]
def chargeX (c:Charge) (ts:List Tier) (r:Int):TkL:=
 (2,wCharge)::(1,c.meter.data.toList)::(winX c.win++(5,sOpen)::((if c.allowance=0 then [] else [(2,wAllowance),(3,nmbT c.allowance),smX])++((if c.block=1 then [] else [(2,wBlock),(3,nmbT c.block),smX]) ++
  (2,kindT c.kind)::(5,sOpen)::(ts.flatMap tierX++(restX r++(5,sShut)::(2,wRound)::(2,modeT c.mode)::smX::(c.adjusts.flatMap adjX++[(5,sShut)]))))))
theorem Lx.kw {t l:List UInt8} {x:UInt8} {xs:TkL} (ht:(kd t=2∧t.all isLt=true)∧t≠[]) (hx:isLt x=false) (h:Lx (x::l) xs):Lx (t++x::l) ((2,t)::xs):=Lx.word ⟨ht.1.2,ht.2⟩ ht.1.1 (by decide) hx h
theorem Lx.num {t l:List UInt8} {x:UInt8} {xs:TkL} (ht:kd t=3∧t.all isLt=true∧t≠[]) (hx:isLt x=false) (h:Lx (x::l) xs):Lx (t++x::l) ((3,t)::xs):=Lx.word ⟨ht.2.1,ht.2.2⟩ ht.1 (by decide) hx h
theorem Lx.nm {b:ByteArray} {l:List UInt8} {x:UInt8} {xs:TkL} (hb:NmOk b) (hx:isLt x=false) (h:Lx (x::l) xs):Lx (b.data.toList++x::l) ((1,b.data.toList)::xs):=Lx.word (kd_name hb).2 (kd_name hb).1 (by decide) hx h
theorem Lx.sp {l:List UInt8} {xs:TkL} (h:Lx l xs):Lx (32::l) xs:=Lx.gap (by decide) h
theorem Lx.semi {l:List UInt8} {xs:TkL} (h:Lx l xs):Lx (59::10::l) (smX::xs):=Lx.sign (by decide) (Lx.gap (by decide) h)
theorem Lx.win {w:Win} {l:List UInt8} {y:UInt8} {xs:TkL} (hw:WinOk w) (hy:isLt y=false) (h:Lx (y::l) xs):∃x r,winT w++y::l=x::r∧isLt x=false∧Lx (x::r) (winX w++xs):=by
 rcases hw with ⟨h1,h2,h3⟩|rfl
 ·have a:=kd_day h2;have b:=kd_day h3;refine ⟨32,wFrom++32::(dayT w.a++32::(wTo++32::(dayT w.b++y::l))),?_,by decide,?_⟩
  ·unfold winT;rw [h1];simp [bFrom,bTo,wFrom,wTo]
  ·unfold winX;rw [h1];exact Lx.sp (Lx.kw (by decide) (by decide) (Lx.sp (Lx.word ⟨a.2.1,a.2.2.1⟩ a.1 (by decide) (by decide) (Lx.sp (Lx.kw (by decide) (by decide) (Lx.sp (Lx.word ⟨b.2.1,b.2.2.1⟩ b.1 (by decide) hy h)))))))
 ·exact ⟨y,l,rfl,hy,h⟩
theorem Lx.meter {m:Meter} {l:List UInt8} {xs:TkL} (h1:NmOk m.name) (h2:NmOk m.unit) (h:Lx l xs):Lx (meterT m++l) (meterX m++xs):=by
 unfold meterT tellT;rw [join6];refine Lx.ln 0 ?_;have:=Lx.kw (t:=wMeter) (by decide) (by decide) (Lx.sp (Lx.nm h1 (by decide) (Lx.sp (Lx.kw (t:=wUnit) (by decide) (by decide) (Lx.sp (Lx.nm h2 (by decide) (Lx.sp (Lx.kw (t:=wMax) (by decide) (by decide) (Lx.sp (Lx.num (kd_nmb m.max) (by decide) (Lx.semi h)))))))))));simpa [List.append_assoc,meterX] using this
theorem Lx.fee {f:Fee} {l:List UInt8} {xs:TkL} (h1:WinOk f.win) (h:Lx l xs):Lx (feeT f++l) (feeX f++xs):=by
 unfold feeT tellT;rw [join2];refine Lx.ln 0 ?_;obtain ⟨x,r,e1,e2,e3⟩:=Lx.win h1 (by decide) (Lx.semi h);have:=Lx.kw (t:=wFee) (by decide) (by decide) (Lx.sp (Lx.num (kd_nmb f.amount) e2 e3));rw [←e1] at this;simpa [List.append_assoc,feeX] using this
theorem Lx.tier {t:Tier} {l:List UInt8} {xs:TkL} (h:Lx l xs):Lx (tierT false t++l) (tierX t++xs):=by
 unfold tierT tellT;rw [if_neg (by decide),join4];refine Lx.ln 2 ?_;have:=Lx.kw (t:=wUpto) (by decide) (by decide) (Lx.sp (Lx.num (kd_nmb t.upto) (by decide) (Lx.sp (Lx.kw (t:=wRate) (by decide) (by decide) (Lx.sp (Lx.num (kd_dec t.rate 6) (by decide) (Lx.semi h)))))));simpa [List.append_assoc,tierX] using this
theorem Lx.rest {t:Tier} {l:List UInt8} {xs:TkL} (h:Lx l xs):Lx (tierT true t++l) (restX t.rate++xs):=by
 unfold tierT tellT;rw [if_pos rfl,join2];refine Lx.ln 2 ?_;have:=Lx.kw (t:=wRest) (by decide) (by decide) (Lx.sp (Lx.kw (t:=wRate) (by decide) (by decide) (Lx.sp (Lx.num (kd_dec t.rate 6) (by decide) (Lx.semi h)))));rw [show bRest=wRest++32::wRate from rfl];simpa [List.append_assoc,restX] using this
theorem Lx.adj {a:Adj} {l:List UInt8} {xs:TkL} (ha:AdjOk a) (h:Lx l xs):Lx (adjT a++l) (adjX a++xs):=by
 unfold adjT adjX tellT;rcases ha with ⟨k,_,k3⟩|⟨k|k|k,_,_⟩
 ·rw [if_pos k,if_pos k,join3];refine Lx.ln 1 ?_;have m:=kd_mode k3;have:=Lx.kw (t:=wPercent) (by decide) (by decide) (Lx.sp (Lx.num (kd_dec a.num 3) (by decide) (Lx.sp (Lx.kw ⟨⟨m.1,m.2.1⟩,m.2.2⟩ (by decide) (Lx.semi h)))));simpa [List.append_assoc] using this
 ·rw [k,if_neg (by decide),if_pos rfl,if_neg (by decide),if_pos rfl,join2];refine Lx.ln 1 ?_;have:=Lx.kw (t:=wCap) (by decide) (by decide) (Lx.sp (Lx.num (kd_nmb a.num) (by decide) (Lx.semi h)));simpa [List.append_assoc] using this
 ·rw [k,if_neg (by decide),if_neg (by decide),if_pos rfl,if_neg (by decide),if_neg (by decide),if_pos rfl,join2];refine Lx.ln 1 ?_;have:=Lx.kw (t:=wMinimum) (by decide) (by decide) (Lx.sp (Lx.num (kd_nmb a.num) (by decide) (Lx.semi h)));simpa [List.append_assoc] using this
 ·rw [k,if_neg (by decide),if_neg (by decide),if_neg (by decide),if_pos rfl,if_neg (by decide),if_neg (by decide),if_neg (by decide),join2];refine Lx.ln 1 ?_;have:=Lx.kw (t:=wAdd) (by decide) (by decide) (Lx.sp (Lx.num (kd_nmb a.num) (by decide) (Lx.semi h)));simpa [List.append_assoc] using this
theorem Lx.flat {α:Type} {f:α→List UInt8} {g:α→TkL} {l:List UInt8} {xs:TkL} : ∀(ys:List α),(∀a∈ys,∀l xs,Lx l xs→Lx (f a++l) (g a++xs))→Lx l xs→Lx (ys.flatMap f++l) (ys.flatMap g++xs)
 | [],_,h=>h
 | a::r,hh,h=>by
   rw [List.flatMap_cons,List.flatMap_cons,List.append_assoc,List.append_assoc];exact hh a (List.mem_cons_self ..) _ _ (Lx.flat r (fun b hb=>hh b (List.mem_cons_of_mem _ hb)) h)
theorem tiersUp_app (ts:List Tier) (z:Tier):∀i,i≤ts.length→tiersUp (ts++[z]) i=(ts.take i).flatMap (tierT false)
 | 0,_=>rfl
 | i+1,hi=>by
   have ht:ts[i]?=some (ts[i]'(by omega)):=List.getElem?_eq_getElem (by omega);rw [tiersUp,tiersUp_app ts z i (by omega),decide_eq_false (by simp;omega),flat_take ht,List.getD_eq_getElem?_getD,List.getElem?_append_left (by omega),ht];rfl
theorem tiersUp_all (ts:List Tier) (r:Int):tiersUp (ts++[(⟨0,r⟩:Tier)]) (ts++[(⟨0,r⟩:Tier)]).length=ts.flatMap (tierT false)++tierT true ⟨0,r⟩:=by
 rw [List.length_append,List.length_singleton,tiersUp,tiersUp_app ts _ ts.length (Nat.le_refl _),List.take_length,decide_eq_true (by simp),List.getD_eq_getElem?_getD,List.getElem?_append_right (Nat.le_refl _),Nat.sub_self];rfl
theorem Lx.opens {s l:List UInt8} {xs:TkL} {d:Nat} (h:Lx (s++32::123::10::l) xs):Lx (P.ln d (s++[32,123])++l) xs:=by
 refine Lx.ln d ?_;simpa [List.append_assoc] using h
theorem Lx.allow {n:Int} {l:List UInt8} {xs:TkL} (h:Lx l xs):Lx ((if n=0 then [] else tellT 1 [wAllowance,nmbT n])++l) ((if n=0 then [] else [(2,wAllowance),(3,nmbT n),smX])++xs):=by
 by_cases g:n=0
 ·rw [if_pos g,if_pos g];exact h
 ·rw [if_neg g,if_neg g];unfold tellT;rw [join2];refine Lx.ln 1 ?_;have:=Lx.kw (t:=wAllowance) (by decide) (by decide) (Lx.sp (Lx.num (kd_nmb n) (by decide) (Lx.semi h)));simpa only [List.append_assoc,List.cons_append,List.nil_append] using this
theorem Lx.blk {n:Int} {l:List UInt8} {xs:TkL} (h:Lx l xs):Lx ((if n=1 then [] else tellT 1 [wBlock,nmbT n])++l) ((if n=1 then [] else [(2,wBlock),(3,nmbT n),smX])++xs):=by
 by_cases g:n=1
 ·rw [if_pos g,if_pos g];exact h
 ·rw [if_neg g,if_neg g];unfold tellT;rw [join2];refine Lx.ln 1 ?_;have:=Lx.kw (t:=wBlock) (by decide) (by decide) (Lx.sp (Lx.num (kd_nmb n) (by decide) (Lx.semi h)));simpa only [List.append_assoc,List.cons_append,List.nil_append] using this
theorem Lx.charge {c:Charge} {ts:List Tier} {r:Int} {l:List UInt8} {xs:TkL} (hc:ChOk c) (e:c.tiers=ts++[⟨0,r⟩]) (h:Lx l xs):Lx (chargeT c++l) (chargeX c ts r++xs):=by
 have m:=kd_mode hc.mode;have k:=kd_kind hc.kind;have z1:Lx (P.ln 0 [125]++l) ((5,sShut)::xs):=Lx.ln 0 (Lx.sign (by decide) (Lx.gap (by decide) h));have z2:=Lx.flat (f:=adjT) (g:=adjX) c.adjusts (fun a ha l xs h=>Lx.adj (hc.adjs a ha) h) z1
 have z3:Lx (tellT 1 [wRound,modeT c.mode]++(c.adjusts.flatMap adjT++(P.ln 0 [125]++l))) ((2,wRound)::(2,modeT c.mode)::smX::(c.adjusts.flatMap adjX++(5,sShut)::xs)):=by
  unfold tellT;rw [join2];refine Lx.ln 1 ?_;have:=Lx.kw (t:=wRound) (by decide) (by decide) (Lx.sp (Lx.kw ⟨⟨m.1,m.2.1⟩,m.2.2⟩ (by decide) (Lx.semi z2)));simpa [List.append_assoc] using this
 have z4:Lx (P.ln 1 [125]++(tellT 1 [wRound,modeT c.mode]++(c.adjusts.flatMap adjT++(P.ln 0 [125]++l)))) _:=Lx.ln 1 (Lx.sign (by decide) (Lx.gap (by decide) z3));have z5:=Lx.flat (f:=tierT false) (g:=tierX) ts (fun a _ l xs h=>Lx.tier h) (Lx.rest (t:=⟨0,r⟩) z4);have z6:=Lx.opens (d:=1) (Lx.kw ⟨⟨k.1,k.2.1⟩,k.2.2⟩ (by decide) (Lx.sp (Lx.sign (c:=123) (by decide) (Lx.gap (c:=10) (by decide) z5))));have z7:=Lx.blk (n:=c.block) z6;have z8:=Lx.allow (n:=c.allowance) z7;obtain ⟨x,q,e1,e2,e3⟩:=Lx.win hc.win (y:=32) (by decide) (Lx.sp (Lx.sign (c:=123) (by decide) (Lx.gap (c:=10) (by decide) z8)));have z9:=Lx.kw (t:=wCharge) (by decide) (by decide) (Lx.sp (Lx.nm hc.meter e2 e3));rw [←e1] at z9;have z10:=Lx.opens (d:=0) (s:=wCharge++[32]++c.meter.data.toList++winT c.win) (by simpa only [List.append_assoc,List.cons_append,List.nil_append] using z9);unfold chargeT chargeX;rw [e,tiersUp_all];simp only [List.append_assoc,List.cons_append,List.nil_append,sOpen,sShut] at z10 ⊢;exact z10
def At (ts:List Tok) (s:St) (xs:TkL):Prop:=s.err=0∧(ts.drop s.i).map (fun t=>(t.k,t.t))=xs
variable {ts:List Tok} {s:St}
theorem At.get {k:Nat} {l:List UInt8} {r:TkL} (h:At ts s ((k,l)::r)):∃t,ts[s.i]?=some t∧t.k=k∧t.t=l:=by
 have:=congrArg (·[0]?) h.2;simp only [List.getElem?_map,List.getElem?_drop,Nat.add_zero,List.getElem?_cons_zero] at this;obtain ⟨t,h1,h2⟩:=Option.map_eq_some_iff.1 this;exact ⟨t,h1,congrArg Prod.fst h2,congrArg Prod.snd h2⟩
theorem At.tk {k:Nat} {l:List UInt8} {r:TkL} (h:At ts s ((k,l)::r)):(tk ts s).k=k∧(tk ts s).t=l:=by
 obtain ⟨t,h1,h2,h3⟩:=h.get;unfold P.tk;rw [List.getD_eq_getElem?_getD,h1];exact ⟨h2,h3⟩
theorem At.lt {x:Nat×List UInt8} {r:TkL} (h:At ts s (x::r)):s.i<ts.length:=by
 obtain ⟨t,h1,_⟩:=At.get (k:=x.1) (l:=x.2) h;exact (List.getElem?_eq_some_iff.1 h1).1
theorem At.next {x:Nat×List UInt8} {r:TkL} (h:At ts s (x::r)):At ts s.next r:=by
 refine ⟨h.1,?_⟩;have:=congrArg List.tail h.2;rw [List.tail_cons,←List.drop_one,←List.map_drop,List.drop_drop] at this;exact this
theorem At.len {xs:TkL} (h:At ts s xs):xs.length≤ts.length:=by
 rw [←h.2,List.length_map,List.length_drop];omega
theorem At.on {k:Nat} {l l':List UInt8} {r:TkL} (h:At ts s ((k,l)::r)) (hk:k=2∨k=5):onW ts s l'=(l==l'):=by
 unfold onW;rw [h.tk.1,h.tk.2,decide_eq_true h.1];rcases hk with rfl|rfl<;>simp
theorem At.off {k:Nat} {l l':List UInt8} {r:TkL} (h:At ts s ((k,l)::r)) (hl:l≠l'):onW ts s l'=false:=by
 unfold onW;rw [h.tk.2,beq_eq_false_iff_ne.2 hl,Bool.and_false,Bool.and_false]
theorem At.wnt {k:Nat} {l:List UInt8} {r:TkL} (h:At ts s ((k,l)::r)) (hk:k=2∨k=5):At ts (wnt ts s l) r:=by
 unfold P.wnt;rw [h.on hk,beq_self_eq_true,if_pos rfl];exact h.next
theorem At.isTk {k:Nat} {l:List UInt8} {r:TkL} (h:At ts s ((k,l)::r)):isTk ts s k=true:=by
 unfold P.isTk;rw [h.tk.1,decide_eq_true h.1];simp
theorem At.tkn {k:Nat} {l:List UInt8} {r:TkL} (h:At ts s ((k,l)::r)):(tkn ts s k).1=l∧At ts (tkn ts s k).2 r:=by
 unfold P.tkn;rw [h.isTk,if_pos rfl];exact ⟨h.tk.2,h.next⟩
theorem At.num {l:List UInt8} {r:TkL} {p m n:Int} (h:At ts s ((3,l)::r)) (h1:pN l p m=n) (h2:pW l p m=0):(numS ts s p m).1=n∧At ts (numS ts s p m).2 r:=by
 unfold numS;rw [h.isTk,if_pos rfl,h.tk.2,h1,h2];exact ⟨rfl,h.next⟩
theorem nmb_tx (n:Int):nmbT n=tx n.toNat 0:=by
 unfold nmbT tx tail;rw [if_pos (show fs n.toNat 0=[] from rfl),List.append_nil,show n.toNat / 10 ^ 0=n.toNat by simp]
theorem At.nmb {r:TkL} {n m:Int} (hn:NumOk n m) (hm:m≤1000000000000) (h:At ts s ((3,nmbT n)::r)):(numS ts s 0 m).1=n∧At ts (numS ts s 0 m).2 r:=by
 have a:=i64_of hn hm;have e:((n.toNat:Nat):Int)=n:=by omega
 have t:=tx_back (n:=n.toNat) (p:=0) (by decide) m (by rw [e];exact a.2) (by rw [e];exact hn.2);rw [nmb_tx] at h;rw [e] at t;exact h.num t.1 t.2
theorem At.dec {r:TkL} {n m:Int} {p:Nat} (hp:p≤9) (hn:NumOk n m) (hm:m≤1000000000000) (h:At ts s ((3,decT n p)::r)):(numS ts s (p:Int) m).1=n∧At ts (numS ts s (p:Int) m).2 r:=by
 have a:=i64_of hn hm;have e:((n.toNat:Nat):Int)=n:=by omega
 have t:=tx_back (n:=n.toNat) (p:=p) hp m (by rw [e];exact a.2) (by rw [e];exact hn.2);rw [e] at t;exact h.num t.1 t.2
theorem At.day {d:Day} {r:TkL} (hd:DayOk d) (h:At ts s ((4,dayT d)::r)):(dayS ts s).1=d∧At ts (dayS ts s).2 r:=by
 obtain ⟨h1,h2⟩:=h.tkn;exact ⟨by show dayOf' (P.tkn ts s 4).1=d;rw [h1,(kd_day hd).2.2.2],h2⟩
theorem At.win {w:Win} {k:Nat} {l:List UInt8} {r:TkL} (hw:WinOk w) (hl:l≠wFrom) (h:At ts s (winX w++(k,l)::r)):(winS ts s).1=w∧At ts (winS ts s).2 ((k,l)::r):=by
 unfold winS;rcases hw with ⟨h1,h2,h3⟩|rfl
 ·unfold winX at h;rw [h1] at h;have h:At ts s ((2,wFrom)::(4,dayT w.a)::(2,wTo)::(4,dayT w.b)::(k,l)::r):=h;rw [h.on (.inl rfl),beq_self_eq_true,if_pos rfl];obtain ⟨a1,a2⟩:=h.next.day h2;obtain ⟨b1,b2⟩:=(a2.wnt (.inl rfl)).day h3;refine ⟨?_,b2⟩;simp only;rw [a1,b1];cases w;simp only at h1;rw [h1]
 ·have h:At ts s ((k,l)::r):=h;rw [h.off hl];exact ⟨rfl,h⟩
theorem At.opt {word l:List UInt8} {n d:Int} {k:Nat} {r:TkL} (hn:NumOk n 1000000) (hl:l≠word) (h:At ts s ((if n=d then [] else [(2,word),(3,nmbT n),smX])++(k,l)::r)):(optS ts s word d).1=n∧At ts (optS ts s word d).2 ((k,l)::r):=by
 unfold optS;by_cases g:n=d
 ·rw [if_pos g] at h;have h:At ts s ((k,l)::r):=h;rw [h.off hl];exact ⟨g.symm,h⟩
 ·rw [if_neg g] at h;have h:At ts s ((2,word)::(3,nmbT n)::smX::(k,l)::r):=h;rw [h.on (.inl rfl),beq_self_eq_true,if_pos rfl];obtain ⟨a1,a2⟩:=h.next.nmb hn (by decide);exact ⟨a1,a2.wnt (.inr rfl)⟩
def oneP:List (List UInt8)→List UInt8→Int→Option Int
 | [],_,_=>none
 | w::r,l,k=>if l=w then some k else oneP r l (k+1)
theorem At.oneAt {k:Nat} {l:List UInt8} {r:TkL} (h:At ts s ((k,l)::r)) (hk:k=2∨k=5):∀(ws:List (List UInt8)) (j:Int),oneAt ts s ws j=match oneP ws l j with|some i=>(i,s.next)|none=>(-1,s)
 | [],_=>rfl
 | w::q,j=>by
   unfold P.oneAt oneP;rw [h.on hk];by_cases g:l=w
   ·rw [if_pos g,g,beq_self_eq_true,if_pos rfl]
   ·rw [if_neg g,beq_eq_false_iff_ne.2 g];exact At.oneAt h hk q (j+1)
theorem At.one {k:Nat} {l:List UInt8} {r:TkL} {ws:List (List UInt8)} {i:Int} (h:At ts s ((k,l)::r)) (hk:k=2∨k=5) (e:oneP ws l 0=some i):oneS ts s ws=(i,s.next):=by
 unfold oneS;rw [h.oneAt hk,e]
theorem At.none {k:Nat} {l:List UInt8} {r:TkL} {ws:List (List UInt8)} (h:At ts s ((k,l)::r)) (hk:k=2∨k=5) (e:oneP ws l 0=Option.none):oneS ts s ws=(-1,s):=by
 unfold oneS;rw [h.oneAt hk,e]
theorem At.mode {m:Int} {r:TkL} (hm:NumOk m 3) (h:At ts s ((2,modeT m)::r)):(modeS ts s).1=m∧At ts (modeS ts s).2 r:=by
 have e:oneP modes (modeT m) 0=some m:=by
  obtain ⟨h1,h2⟩:=hm;rcases (show m=0∨m=1∨m=2∨m=3 by omega) with rfl|rfl|rfl|rfl<;>decide
 have o:=h.one (.inl rfl) e;unfold modeS;rw [o,if_neg (by have:=hm.1;show ¬ m<0;omega)];exact ⟨rfl,h.next⟩
theorem At.kind {k:Int} {r:TkL} (hk:k=1∨k=2) (h:At ts s ((2,kindT k)::r)):(kindS ts s).1=k∧At ts (kindS ts s).2 r:=by
 have e:oneP kinds (kindT k) 0=some (k-1):=by rcases hk with rfl|rfl<;>decide
 have o:=h.one (.inl rfl) e;unfold kindS;simp only;rw [o];refine ⟨by show 1+(k-1)=k;omega,?_⟩;rw [if_neg (by show ¬ 1+(k-1)=0;omega)];exact h.next
theorem At.tier {t:Tier} {r:TkL} (ht:TierOk t) (h:At ts s ((3,nmbT t.upto)::(2,wRate)::(3,decT t.rate 6)::smX::r)):(tierS ts s).1=t∧At ts (tierS ts s).2 r:=by
 obtain ⟨a1,a2⟩:=h.nmb ht.upto (by decide);obtain ⟨b1,b2⟩:=(a2.wnt (.inl rfl)).dec (p:=6) (by decide) ht.rate (by decide);exact ⟨by show (⟨_,_⟩:Tier)=t;rw [a1];show (⟨t.upto,(numS ts (P.wnt ts (numS ts s 0 1000000).2 wRate) ((6:Nat):Int) 1000000000000).1⟩:Tier)=t;rw [b1],b2.wnt (.inr rfl)⟩
theorem At.tiers {r:TkL} : ∀(xs:List Tier) (n:Nat) (s:St) (acc:List Tier),(∀t∈xs,TierOk t)→xs.length<n→At ts s (xs.flatMap tierX++(2,wRest)::r)→(tiersS ts n s acc).1=acc++xs∧At ts (tiersS ts n s acc).2 ((2,wRest)::r)
 | [],0,_,_,_,hn,_=>absurd hn (by decide)
 | [],n+1,s,acc,_,_,h=>by
   have h:At ts s ((2,wRest)::r):=h;unfold tiersS;rw [h.off (by decide)];exact ⟨by simp,h⟩
 | t::q,0,_,_,_,hn,_=>absurd hn (by simp)
 | t::q,n+1,s,acc,ht,hn,h=>by
   rw [List.flatMap_cons,List.append_assoc] at h;have h:At ts s ((2,wUpto)::(3,nmbT t.upto)::(2,wRate)::(3,decT t.rate 6)::smX::(q.flatMap tierX++(2,wRest)::r)):=h;unfold tiersS;rw [h.on (.inl rfl),beq_self_eq_true,if_pos rfl];obtain ⟨a1,a2⟩:=h.next.tier (ht t (List.mem_cons_self ..));obtain ⟨b1,b2⟩:=At.tiers q n _ (acc++[(tierS ts s.next).1]) (fun x hx=>ht x (List.mem_cons_of_mem _ hx)) (by simpa using hn) a2;exact ⟨by rw [b1,a1];simp,b2⟩
theorem At.adj {a:Adj} {r:TkL} (ha:AdjOk a) (h:At ts s ((adjX a).tail++r)):(adjS ts s a.kind).1=a∧At ts (adjS ts s a.kind).2 r:=by
 obtain ⟨k,n,m⟩:=a;unfold adjX at h;unfold adjS;rcases ha with ⟨k1,k2,k3⟩|⟨k1,k2,k3⟩
 ·simp only at k1 k2 k3;subst k1;have h:At ts s ((3,decT n 3)::(2,modeT m)::smX::r):=h;rw [if_pos rfl];obtain ⟨a1,a2⟩:=h.dec (p:=3) (by decide) k2 (by decide);obtain ⟨b1,b2⟩:=a2.mode k3;refine ⟨?_,b2.wnt (.inr rfl)⟩;show (⟨1,(numS ts s ((3:Nat):Int) 100000000).1,(modeS ts (numS ts s ((3:Nat):Int) 100000000).2).1⟩:Adj)=_
  rw [a1,b1]
 ·simp only at k1 k2 k3;subst k3
  have h:At ts s ((3,nmbT n)::smX::r):=by
   rcases k1 with rfl|rfl|rfl<;>exact h
  have k0:¬ k=1:=by omega
  rw [if_neg k0];obtain ⟨a1,a2⟩:=h.nmb k2 (by decide);exact ⟨by simp only;rw [a1],a2.wnt (.inr rfl)⟩
theorem adjX_head {a:Adj} (ha:AdjOk a):∃w,adjX a=(2,w)::(adjX a).tail∧oneP adjWords w 0=some (a.kind-1):=by
 unfold adjX;rcases ha with ⟨k1,_,_⟩|⟨k1|k1|k1,_,_⟩<;>rw [k1]
 ·exact ⟨wPercent,rfl,by decide⟩
 ·exact ⟨wCap,rfl,by decide⟩
 ·exact ⟨wMinimum,rfl,by decide⟩
 ·exact ⟨wAdd,rfl,by decide⟩
theorem At.adjs {r:TkL} : ∀(xs:List Adj) (n:Nat) (s:St) (acc:List Adj),(∀t∈xs,AdjOk t)→xs.length<n→At ts s (xs.flatMap adjX++(5,sShut)::r)→(adjsS ts n s acc).1=acc++xs∧At ts (adjsS ts n s acc).2 ((5,sShut)::r)
 | [],0,_,_,_,hn,_=>absurd hn (by decide)
 | [],n+1,s,acc,_,_,h=>by
   have h:At ts s ((5,sShut)::r):=h;have o:=h.none (ws:=adjWords) (.inr rfl) (by decide);unfold adjsS;simp only;rw [o,if_pos (show (1:Int) + -1=0 by decide)];exact ⟨by simp,h⟩
 | t::q,0,_,_,_,hn,_=>absurd hn (by simp)
 | t::q,n+1,s,acc,ht,hn,h=>by
   have hat:=ht t (List.mem_cons_self ..);obtain ⟨w,e1,e2⟩:=adjX_head hat;rw [List.flatMap_cons,List.append_assoc,e1] at h;have h:At ts s ((2,w)::((adjX t).tail++(q.flatMap adjX++(5,sShut)::r))):=h;have o:=h.one (.inl rfl) e2;have ek:(1:Int)+(t.kind-1)=t.kind:=by omega
   have k0:¬ t.kind=0:=by rcases hat with ⟨k1,_,_⟩|⟨k1|k1|k1,_,_⟩<;>omega
   unfold adjsS;simp only;rw [o];show (if 1+(t.kind-1)=0 then _ else adjsS ts n (adjS ts s.next (1+(t.kind-1))).2 (acc++[(adjS ts s.next (1+(t.kind-1))).1])).1=_∧At ts (if 1+(t.kind-1)=0 then _ else adjsS ts n (adjS ts s.next (1+(t.kind-1))).2 (acc++[(adjS ts s.next (1+(t.kind-1))).1])).2 _
   rw [ek,if_neg k0];obtain ⟨a1,a2⟩:=h.next.adj hat;obtain ⟨b1,b2⟩:=At.adjs q n _ (acc++[(adjS ts s.next t.kind).1]) (fun x hx=>ht x (List.mem_cons_of_mem _ hx)) (by simpa using hn) a2;exact ⟨by rw [b1,a1];simp,b2⟩
end P
end Go.Proofs.YtofbobdhkbmbgaaGreatDoor
