/- Kinds of letters, asked in the order of the document's table: no program is named here. -/
import Derived.Test.YtjgogpaedaffkaaGreatJLexR
namespace Go.Proofs.YtjgogpaedaffkaaGreat
namespace Mm
end Mm
namespace R6
end R6
namespace P
open Go.RowKit
def isNm (b:UInt8):Bool:=decide (b.toNat=95∨(48≤b.toNat∧b.toNat≤57)∨(97≤b.toNat∧b.toNat≤122)∨(65≤b.toNat∧b.toNat≤90))
def nm (l:List UInt8):Bool:=(l.all isNm&&!l.isEmpty)&&!isDg (l.getD 0 0)
end P
namespace P
open Go.RowKit Mm
def Knd (ts:List Tok):Prop:=∀t∈ts,kd t.t=t.k∧(t.k=0→t.t=[])
theorem kd_nil:kd []=0:=by decide
theorem lx_knd (n:Nat) (l:List UInt8) (ln cl:Nat):Knd (lx n l ln cl).1:=by
 induction n generalizing l ln cl with
 | zero=>intro t ht;rw [List.mem_singleton.1 ht];exact ⟨kd_nil,fun _=>rfl⟩
 | succ n ih=>
   cases l with
   | nil=>intro t ht;rw [List.mem_singleton.1 ht];exact ⟨kd_nil,fun _=>rfl⟩
   | cons c r=>
     unfold lx;split
     ·exact ih _ _ _
     ·split
      ·intro t ht;cases ht
      ·rename_i hk
       intro t ht;rcases List.mem_cons.1 ht with rfl|ht
       ·exact ⟨rfl,fun e=>absurd e hk⟩
       ·exact ih _ _ _ t ht
theorem lexed_knd (l:List UInt8):Knd (lexed l).1:=by
 unfold lexed;split
 ·intro t ht;cases ht
 ·split
  ·exact lx_knd _ _ _ _
  ·intro t ht;cases ht
def Wd (l:List UInt8):Prop:=l≠[]∧(kd l=2∨kd l=5)
instance (l:List UInt8):Decidable (Wd l):=by unfold Wd;exact inferInstance
end P
namespace P
open Go.RowKit
def f0 (n p:Nat):List UInt8:=if fs n p=[] then [48] else fs n p
def bs (n p:Nat):List UInt8:=Lib.decDigits (n / 10 ^ p)++46::f0 n p
end P
namespace P
open Go.RowKit Mm R6
theorem tiers_cnt (ts:List Tok):∀(n:Nat) (s:St) (acc:List Tier),(tiersS ts n s acc).1.length≤n+acc.length
 | 0,s,acc=>by show acc.length≤_;omega
 | n+1,s,acc=>by
   unfold tiersS;split
   ·have:=tiers_cnt ts n (tierS ts s.next).2 (acc++[(tierS ts s.next).1]);simp only [List.length_append,List.length_singleton] at this;omega
   ·show acc.length≤_;omega
theorem adjs_cnt (ts:List Tok):∀(n:Nat) (s:St) (acc:List Adj),(adjsS ts n s acc).1.length≤n+acc.length
 | 0,s,acc=>by show acc.length≤_;omega
 | n+1,s,acc=>by
   unfold adjsS;simp only;split
   ·show acc.length≤_;omega
   ·have:=adjs_cnt ts n (adjS ts (oneS ts s adjWords).2 (1+(oneS ts s adjWords).1)).2 (acc++[(adjS ts (oneS ts s adjWords).2 (1+(oneS ts s adjWords).1)).1]);simp only [List.length_append,List.length_singleton] at this;omega
theorem charge_cnt (ts:List Tok) (s:St) (l c:Int):(chargeS ts s l c).1.tiers.length≤ts.length+1∧(chargeS ts s l c).1.adjusts.length≤ts.length:=by
 refine ⟨?_,?_⟩
 ·show (_++[_]).length≤_
  rw [List.length_append];have:=tiers_cnt ts ts.length (wnt ts (kindS ts (optS ts (optS ts (wnt ts (winS ts (tkn ts s 1).2).2 sOpen) wAllowance 0).2 wBlock 1).2).2 sOpen) [];simp only [List.length_nil] at this;show _+1≤_
  exact Nat.add_le_add_right this 1
 ·exact adjs_cnt ts ts.length _ []
structure Few (ts:List Tok) (i:Nat) (p:Plan):Prop where
 sum:p.meters.length+p.fees.length+p.charges.length≤i
 parts:∀c∈p.charges,c.tiers.length≤ts.length+1∧c.adjusts.length≤ts.length
theorem item_few {ts:List Tok} {s:St} {p:Plan} (h:Few ts s.i p) (ho:goesOn ts s=true):Few ts (itemS ts s p).2.i (itemS ts s p).1:=by
 rcases item_next ts s p ho with k|⟨k1,_⟩
 ·refine ⟨Nat.le_trans ?_ k,?_⟩
  ·have:=h.sum;unfold itemS;simp only
   repeat' split
   all_goals simp only [List.length_append,List.length_singleton];omega
  ·unfold itemS;simp only
   repeat' split
   ·exact h.parts
   ·exact h.parts
   ·intro c hc;rcases List.mem_append.1 hc with k|k
    ·exact h.parts c k
    ·obtain rfl:=List.mem_singleton.1 k;exact charge_cnt ts _ _ _
   ·exact h.parts
 ·rw [k1,wrg_i];exact h
theorem items_few {ts:List Tok} : ∀(n:Nat) (s:St) (p:Plan),Few ts s.i p→Few ts (itemsS ts n s p).2.i (itemsS ts n s p).1
 | 0,_,_,h=>h
 | n+1,s,p,h=>by
   unfold itemsS;split
   ·rename_i ho
    exact items_few n _ _ (item_few h ho)
   ·exact h
theorem planZ_small:Small planZ:=⟨by decide,by decide,by decide,fun c hc=>by cases hc⟩
theorem plan_small {ts:List Tok} (hf:Fine ts):Small (planS ts).1:=by
 have ok:Ok ts st0:=⟨hf.toks,hf.toks.pos⟩;have fw:=items_few (ts:=ts) ts.length (headS ts st0).2 (headS ts st0).1 ⟨Nat.zero_le _,fun c hc=>by cases hc⟩;have lt:=(Ok.itemsS ts.length _ (headS ts st0).1 ok.headS).lt;have cnt:=hf.cnt;unfold planS;simp only;split
 ·show Small (itemsS ts ts.length (headS ts st0).2 (headS ts st0).1).1
  exact ⟨by have:=fw.sum;omega,by have:=fw.sum;omega,by have:=fw.sum;omega,fun c hc=>by have:=fw.parts c hc;omega⟩
 ·exact planZ_small
theorem parsed_small (l:List UInt8):Small (parsed l).1:=by
 unfold parsed;simp only;split
 ·rename_i h
  exact plan_small (lexed_fine h)
 ·exact planZ_small
section
variable {ts:List Tok} {s:St}
theorem onW_no (h:¬ s.err=0) (l:List UInt8):onW ts s l=false:=by unfold onW;rw [decide_eq_false h];rfl
theorem isTk_no (h:¬ s.err=0) (k:Nat):isTk ts s k=false:=by unfold isTk;rw [decide_eq_false h];rfl
theorem wrg_no (h:¬ s.err=0) (e:Int):wrg ts s e=s:=by unfold wrg;rw [if_neg h]
theorem wnt_no (h:¬ s.err=0) (l:List UInt8):wnt ts s l=s:=by unfold wnt;rw [onW_no h,wrg_no h];rfl
theorem tkn_no (h:¬ s.err=0) (k:Nat):(tkn ts s k).2=s:=by unfold tkn;rw [isTk_no h,wrg_no h];rfl
theorem numS_no (h:¬ s.err=0) (p m:Int):(numS ts s p m).2=s:=by unfold numS;rw [isTk_no h,wrg_no h];rfl
theorem dayS_no (h:¬ s.err=0):(dayS ts s).2=s:=tkn_no h 4
theorem winS_no (h:¬ s.err=0):(winS ts s).2=s:=by unfold winS;rw [onW_no h];rfl
theorem oneAt_st (h:¬ s.err=0):∀(ws:List (List UInt8)) (k:Int),oneAt ts s ws k=(-1,s)
 | [],_=>rfl
 | w::r,k=>by unfold oneAt;rw [onW_no h];exact oneAt_st h r (k+1)
theorem modeS_no (h:¬ s.err=0):(modeS ts s).2=s:=by unfold modeS oneS;rw [oneAt_st h];exact wrg_no h 4
theorem kindS_no (h:¬ s.err=0):(kindS ts s).2=s:=by unfold kindS oneS;rw [oneAt_st h];exact wrg_no h 4
theorem optS_no (h:¬ s.err=0) (l:List UInt8) (d:Int):(optS ts s l d).2=s:=by unfold optS;rw [onW_no h];rfl
theorem tiersS_no (h:¬ s.err=0) (n:Nat) (acc:List Tier):(tiersS ts n s acc).2=s:=by
 cases n with
 | zero=>rfl
 | succ n=>unfold tiersS;rw [onW_no h];rfl
theorem adjsS_no (h:¬ s.err=0) (n:Nat) (acc:List Adj):(adjsS ts n s acc).2=s:=by
 cases n with
 | zero=>rfl
 | succ n=>unfold adjsS oneS;rw [oneAt_st h];rfl
theorem back {a:St} (h:¬ s.err=0→a=s) (e:a.err=0):s.err=0:=by
 by_cases k:s.err=0
 ·exact k
 ·rw [h k] at e;exact e
theorem wnt_e0 {l:List UInt8} (e:(wnt ts s l).err=0):s.err=0:=back (fun h=>wnt_no h l) e
theorem tkn_e0 {k:Nat} (e:(tkn ts s k).2.err=0):s.err=0:=back (fun h=>tkn_no h k) e
theorem numS_e0 {p m:Int} (e:(numS ts s p m).2.err=0):s.err=0:=back (fun h=>numS_no h p m) e
theorem dayS_e0 (e:(dayS ts s).2.err=0):s.err=0:=back (fun h=>dayS_no h) e
theorem winS_e0 (e:(winS ts s).2.err=0):s.err=0:=back (fun h=>winS_no h) e
theorem modeS_e0 (e:(modeS ts s).2.err=0):s.err=0:=back (fun h=>modeS_no h) e
theorem kindS_e0 (e:(kindS ts s).2.err=0):s.err=0:=back (fun h=>kindS_no h) e
theorem optS_e0 {l:List UInt8} {d:Int} (e:(optS ts s l d).2.err=0):s.err=0:=back (fun h=>optS_no h l d) e
theorem tiersS_e0 {n:Nat} {acc:List Tier} (e:(tiersS ts n s acc).2.err=0):s.err=0:=back (fun h=>tiersS_no h n acc) e
theorem adjsS_e0 {n:Nat} {acc:List Adj} (e:(adjsS ts n s acc).2.err=0):s.err=0:=back (fun h=>adjsS_no h n acc) e
end
section
variable {n:Nat} {X C:List Tok} {u v:Int} {s c:St}
end
section
variable {n:Nat} {X C:List Tok} {u v:Int} {s c:St}
end
def NmOk (b:ByteArray):Prop:=kd b.data.toList=1∧b.size≤8192
def DayOk (d:Day):Prop:=good d.y d.m d.d=true
def WinOk (w:Win):Prop:=(w.has=true∧DayOk w.a∧DayOk w.b)∨w=⟨false,⟨0,0,0⟩,⟨0,0,0⟩⟩
def NumOk (n most:Int):Prop:=0≤n∧n≤most
structure TierOk (t:Tier):Prop where
 upto:NumOk t.upto 1000000
 rate:NumOk t.rate 1000000000000
def AdjOk (a:Adj):Prop:=(a.kind=1∧NumOk a.num 100000000∧NumOk a.mode 3)∨((a.kind=2∨a.kind=3∨a.kind=4)∧NumOk a.num 1000000000000∧a.mode=0)
structure ChOk (c:Charge):Prop where
 meter:NmOk c.meter
 win:WinOk c.win
 allow:NumOk c.allowance 1000000
 block:NumOk c.block 1000000
 kind:c.kind=1∨c.kind=2
 tiers:∃ts r,c.tiers=ts++[⟨0,r⟩]∧(∀t∈ts,TierOk t)∧NumOk r 1000000000000
 mode:NumOk c.mode 3
 adjs:∀a∈c.adjusts,AdjOk a
structure Gd (p:Plan):Prop where
 name:NmOk p.name∧NmOk p.cur
 days:DayOk p.a∧DayOk p.b
 meters:∀m∈p.meters,NmOk m.name∧NmOk m.unit∧NumOk m.max 2000
 fees:∀f∈p.fees,NumOk f.amount 1000000000000∧WinOk f.win
 charges:∀c∈p.charges,ChOk c
variable {ts:List Tok} {s:St}
theorem kd_4 {l:List UInt8} (h:kd l=4):reads l=true:=by
 unfold kd at h
 repeat' split at h
 all_goals first|assumption|(exact absurd h (by decide))
theorem wrg_ne {e:Int} (he:e≠0):(wrg ts s e).err≠0:=by
 unfold wrg;split
 ·exact he
 ·assumption
theorem tkn_y {k:Nat} (e:(tkn ts s k).2.err=0):isTk ts s k=true:=by
 cases h:isTk ts s k with
 | true=>rfl
 | false=>
   unfold tkn at e;rw [h] at e;exact absurd e (wrg_ne (by decide))
theorem isTk_at {k:Nat} (h:isTk ts s k=true) (hk:k≠0):s.err=0∧tk ts s∈ts∧(tk ts s).k=k:=by
 unfold isTk at h;simp only [Bool.and_eq_true,decide_eq_true_eq] at h;refine ⟨h.1,?_,h.2⟩;unfold tk at h ⊢;rw [List.getD_eq_getElem?_getD] at h ⊢;cases hg:ts[s.i]? with
 | none=>
   rw [hg] at h;exact absurd h.2.symm (by intro e;exact hk e)
 | some t=>exact List.mem_of_getElem? hg
theorem tkn_gd (K:Knd ts) (F:Fine ts) {k:Nat} (hk:k≠0) (e:(tkn ts s k).2.err=0):kd (tkn ts s k).1=k∧(tkn ts s k).1.length≤8192:=by
 have h:=tkn_y e;obtain ⟨_,h2,h3⟩:=isTk_at h hk;unfold tkn;rw [if_pos h];exact ⟨by rw [(K _ h2).1,h3],(F.tok _ h2).1⟩
theorem nm_gd (K:Knd ts) (F:Fine ts) (e:(tkn ts s 1).2.err=0):NmOk ⟨(tkn ts s 1).1.toArray⟩:=by
 obtain ⟨h1,h2⟩:=tkn_gd K F (by decide) e;refine ⟨by simpa using h1,?_⟩;show (tkn ts s 1).1.toArray.size≤_
 simpa using h2
theorem day_gd (K:Knd ts) (F:Fine ts) (e:(dayS ts s).2.err=0):DayOk (dayS ts s).1:=by
 obtain ⟨h1,_⟩:=tkn_gd K F (k:=4) (by decide) e;have r:=kd_4 h1;show good (dayOf' (tkn ts s 4).1).y (dayOf' (tkn ts s 4).1).m (dayOf' (tkn ts s 4).1).d=true
 unfold dayOf';rw [if_pos r];unfold reads at r;simp only [Bool.and_eq_true] at r;exact r.2
theorem stV_nn (l:List UInt8) (p:Int):0≤pV l p:=by
 unfold pV;exact Int.mul_nonneg (Int.natCast_nonneg _) (by exact_mod_cast Nat.zero_le _)
theorem num_gd {p m:Int} (e:(numS ts s p m).2.err=0):NumOk (numS ts s p m).1 m:=by
 unfold numS at e ⊢;cases h:isTk ts s 3 with
 | false=>
   rw [h] at e;exact absurd e (wrg_ne (by decide))
 | true=>
   obtain ⟨h0,_,_⟩:=isTk_at h (by decide);rw [h,if_pos rfl] at e;rw [if_pos rfl];have e:(bad ts s (pW (tk ts s).t p m)).err=0:=e;show NumOk (pN (tk ts s).t p m) m
   unfold bad at e;split at e
   ·exact absurd e (wrg_ne (by decide))
   ·split at e
    ·exact absurd e (wrg_ne (by decide))
    ·rename_i g1 g2
     unfold pW at g1 g2;unfold pN;by_cases b:pBad (tk ts s).t p=true
     ·rw [if_pos b] at g1;exact absurd rfl g1
     ·rw [if_neg b] at g1 g2;by_cases g:pGreat (tk ts s).t p m=true
      ·rw [if_pos g] at g2;exact absurd rfl g2
      ·rw [if_neg (by simp [Bool.eq_false_iff.2 b,Bool.eq_false_iff.2 g])];refine ⟨stV_nn _ _,?_⟩;have g:pGreat (tk ts s).t p m=false:=Bool.eq_false_iff.2 g;unfold pGreat at g;simp only [Bool.or_eq_false_iff,decide_eq_false_iff_not] at g;omega
theorem win_gd (K:Knd ts) (F:Fine ts) (e:(winS ts s).2.err=0):WinOk (winS ts s).1:=by
 unfold winS at e ⊢;split
 ·rename_i h
  rw [if_pos h] at e;exact .inl ⟨rfl,day_gd K F (wnt_e0 (dayS_e0 e)),day_gd K F e⟩
 ·exact .inr rfl
theorem opt_gd {l:List UInt8} {d:Int} (hd:NumOk d 1000000) (e:(optS ts s l d).2.err=0):NumOk (optS ts s l d).1 1000000:=by
 unfold optS at e ⊢;split
 ·rename_i h
  rw [if_pos h] at e;exact num_gd (wnt_e0 e)
 ·exact hd
theorem one_in (ws:List (List UInt8)):(oneS ts s ws).1 = -1∨(0≤(oneS ts s ws).1∧(oneS ts s ws).1<ws.length):=by
 have key:∀(ws:List (List UInt8)) (k:Int),0≤k→(oneAt ts s ws k).1 = -1∨(k≤(oneAt ts s ws k).1∧(oneAt ts s ws k).1<k+ws.length):=by
  intro ws;induction ws with
  | nil=>intro k _;exact .inl rfl
  | cons w r ih=>
    intro k hk;unfold oneAt;split
    ·exact .inr ⟨Int.le_refl _,by simp only [List.length_cons];omega⟩
    ·rcases ih (k+1) (by omega) with h|⟨h1,h2⟩
     ·exact .inl h
     ·exact .inr ⟨by omega,by simp only [List.length_cons];omega⟩
 rcases key ws 0 (Int.le_refl _) with h|⟨h1,h2⟩
 ·exact .inl h
 ·exact .inr ⟨h1,by have h2:(oneS ts s ws).1<0+ws.length:=h2;omega⟩
theorem mode_gd (e:(modeS ts s).2.err=0):NumOk (modeS ts s).1 3:=by
 unfold modeS at e ⊢;split
 ·rename_i h
  rw [if_pos h] at e;exact absurd e (wrg_ne (by decide))
 ·rename_i h
  rcases one_in (ts:=ts) (s:=s) modes with g|⟨g1,g2⟩
  ·omega
  ·have g2:(oneS ts s modes).1<4:=g2;exact ⟨g1,by omega⟩
theorem kind_gd (e:(kindS ts s).2.err=0):(kindS ts s).1=1∨(kindS ts s).1=2:=by
 unfold kindS at e ⊢;simp only at e ⊢;split at e
 ·exact absurd e (wrg_ne (by decide))
 ·rename_i h
  rcases one_in (ts:=ts) (s:=s) kinds with g|⟨g1,g2⟩
  ·omega
  ·have g2:(oneS ts s kinds).1<2:=g2;omega
theorem tier_gd (e:(tierS ts s).2.err=0):TierOk (tierS ts s).1:=⟨num_gd (wnt_e0 (numS_e0 (wnt_e0 e))),num_gd (wnt_e0 e)⟩
theorem tiers_gd:∀(n:Nat) (s:St) (acc:List Tier),(∀t∈acc,TierOk t)→(tiersS ts n s acc).2.err=0→∀t∈(tiersS ts n s acc).1,TierOk t
 | 0,_,acc,h,_=>h
 | n+1,s,acc,h,e=>by
   unfold tiersS at e ⊢;split
   ·rename_i ho
    rw [if_pos ho] at e;refine tiers_gd n _ _ (fun t ht=>?_) e;rcases List.mem_append.1 ht with k|k
    ·exact h t k
    ·obtain rfl:=List.mem_singleton.1 k;exact tier_gd (tiersS_e0 e)
   ·exact h
theorem adj_gd {k:Int} (hk:k=1∨k=2∨k=3∨k=4) (e:(adjS ts s k).2.err=0):AdjOk (adjS ts s k).1:=by
 unfold adjS at e ⊢;by_cases h:k=1
 ·rw [if_pos h] at e ⊢;exact .inl ⟨h,num_gd (modeS_e0 (wnt_e0 e)),mode_gd (wnt_e0 e)⟩
 ·rw [if_neg h] at e ⊢;exact .inr ⟨by rcases hk with k|k|k|k;exact absurd k h;exact .inl k;exact .inr (.inl k);exact .inr (.inr k),num_gd (wnt_e0 e),rfl⟩
theorem adjs_gd:∀(n:Nat) (s:St) (acc:List Adj),(∀t∈acc,AdjOk t)→(adjsS ts n s acc).2.err=0→∀t∈(adjsS ts n s acc).1,AdjOk t
 | 0,_,acc,h,_=>h
 | n+1,s,acc,h,e=>by
   unfold adjsS at e ⊢;simp only at e ⊢;split
   ·exact h
   ·rename_i ho
    rw [if_neg ho] at e;refine adjs_gd n _ _ (fun t ht=>?_) e;rcases List.mem_append.1 ht with k|k
    ·exact h t k
    ·obtain rfl:=List.mem_singleton.1 k;refine adj_gd ?_ (adjsS_e0 e);rcases one_in (ts:=ts) (s:=s) adjWords with g|⟨g1,g2⟩
     ·omega
     ·have g2:(oneS ts s adjWords).1<4:=g2;omega
theorem charge_gd (K:Knd ts) (F:Fine ts) (l c:Int) (e:(chargeS ts s l c).2.err=0):ChOk (chargeS ts s l c).1:=by
 have e17:=wnt_e0 (l:=sShut) e;have e16:=adjsS_e0 e17;have e15:=wnt_e0 e16;have e14:=modeS_e0 e15;have e11:=wnt_e0 (wnt_e0 (wnt_e0 e14));have e10:=wnt_e0 (wnt_e0 (numS_e0 e11));have e8:=tiersS_e0 e10;have e7:=wnt_e0 e8;have e6:=kindS_e0 e7;have e5:=optS_e0 e6;have e4:=optS_e0 e5;have e3:=wnt_e0 e4;have e2:=winS_e0 e3;exact ⟨nm_gd K F e2,win_gd K F e3,opt_gd ⟨by decide,by decide⟩ e5,opt_gd ⟨by decide,by decide⟩ e6,kind_gd e7,⟨_,_,rfl,tiers_gd _ _ _ (fun _ h=>by cases h) e10,num_gd e11⟩,mode_gd e15,adjs_gd _ _ _ (fun _ h=>by cases h) e17⟩
theorem item_gd (K:Knd ts) (F:Fine ts) {p:Plan} (h:Gd p) (e:(itemS ts s p).2.err=0):Gd (itemS ts s p).1:=by
 unfold itemS at e ⊢;simp only at e ⊢;by_cases e0:(oneS ts s itemWords).1=0
 ·rw [if_pos e0] at e ⊢;refine ⟨h.name,h.days,fun m hm=>?_,h.fees,h.charges⟩;rcases List.mem_append.1 hm with k|k
  ·exact h.meters m k
  ·obtain rfl:=List.mem_singleton.1 k;have e5:=wnt_e0 (l:=sSemi) e;have e4:=wnt_e0 (numS_e0 e5);exact ⟨nm_gd K F (wnt_e0 (tkn_e0 e4)),nm_gd K F e4,num_gd e5⟩
 ·rw [if_neg e0] at e ⊢;by_cases e1:(oneS ts s itemWords).1=1
  ·rw [if_pos e1] at e ⊢;refine ⟨h.name,h.days,h.meters,fun m hm=>?_,h.charges⟩;rcases List.mem_append.1 hm with k|k
   ·exact h.fees m k
   ·obtain rfl:=List.mem_singleton.1 k;have e5:=wnt_e0 (l:=sSemi) e;exact ⟨num_gd (winS_e0 e5),win_gd K F e5⟩
  ·rw [if_neg e1] at e ⊢;by_cases e2:(oneS ts s itemWords).1=2
   ·rw [if_pos e2] at e ⊢;refine ⟨h.name,h.days,h.meters,h.fees,fun m hm=>?_⟩;rcases List.mem_append.1 hm with k|k
    ·exact h.charges m k
    ·obtain rfl:=List.mem_singleton.1 k;exact charge_gd K F _ _ e
   ·rw [if_neg e2] at e ⊢;exact absurd e (wrg_ne (by decide))
theorem items_gd (K:Knd ts) (F:Fine ts):∀(n:Nat) (s:St) (p:Plan),Gd p→(itemsS ts n s p).2.err=0→Gd (itemsS ts n s p).1
 | 0,_,_,h,_=>h
 | n+1,s,p,h,e=>by
   unfold itemsS at e ⊢;split
   ·rename_i ho
    rw [if_pos ho] at e
    have e':(itemS ts s p).2.err=0:=by
     by_cases g:(itemS ts s p).2.err=0
     ·exact g
     ·have:goesOn ts (itemS ts s p).2=false:=by unfold goesOn;rw [decide_eq_false g];rfl
      rw [items_stop ts n _ _ this] at e;exact e
    exact items_gd K F n _ _ (item_gd K F h e') e
   ·exact h
theorem plan_gd (K:Knd ts) (F:Fine ts) (e:(planS ts).2.1=0):Gd (planS ts).1:=by
 unfold planS at e ⊢;simp only at e ⊢;split at e
 ·rename_i g
  rw [if_pos g];refine items_gd K F _ _ _ ?_ g
  have g0:(headS ts st0).2.err=0:=by
   by_cases k:(headS ts st0).2.err=0
   ·exact k
   ·have:goesOn ts (headS ts st0).2=false:=by unfold goesOn;rw [decide_eq_false k];rfl
    rw [items_stop ts _ _ _ this] at g;exact g
  have g8:=wnt_e0 (l:=sSemi) g0;have g7:=dayS_e0 g8;have g5:=wnt_e0 (wnt_e0 (dayS_e0 g7));have g3:=wnt_e0 (tkn_e0 g5);exact ⟨⟨nm_gd K F g3,nm_gd K F g5⟩,⟨day_gd K F g7,day_gd K F g8⟩,(fun _ h=>by cases h),(fun _ h=>by cases h),(fun _ h=>by cases h)⟩
 ·rename_i g
  exact absurd e g
theorem parsed_gd {l:List UInt8} (e:(parsed l).2.1=0):Gd (parsed l).1:=by
 unfold parsed at e ⊢;simp only at e ⊢;split
 ·rename_i h
  rw [if_pos h] at e;exact plan_gd (lexed_knd l) (lexed_fine h) e
 ·rename_i h
  rw [if_neg h] at e;have e:((lexed l).2.1:Int)=0:=e;omega
end P
end Go.Proofs.YtjgogpaedaffkaaGreat
