/- Two texts, one behind the other, as tokens; tokens with notes between them: no program is named here. -/
import Derived.Test.YtofbobdhkbmbgaaGreatDoorJLexR
namespace Go.Proofs.YtofbobdhkbmbgaaGreatDoor
namespace P
open Go.RowKit
theorem run_over {p:UInt8→Bool} (r m:List UInt8) {c:UInt8} (h:p c=false):run p (r++c::m)=run p r:=by
 induction r with
 | nil=>simp [run,h]
 | cons x r ih=>simp only [List.cons_append,run,ih]
theorem run_whole {p:UInt8→Bool} (l m:List UInt8) {c:UInt8} (h:l.all p=true) (hc:p c=false):run p (l++c::m)=l.length:=by
 rw [run_over l m hc]
 exact run_eq _ _ _ (Nat.le_refl _) (fun j hj=>by
  rw [List.all_eq_true] at h;refine h _ ?_;rw [List.getD_eq_getElem?_getD,List.getElem?_eq_getElem hj]
  exact List.getElem_mem hj) (fun k=>absurd k (Nat.lt_irrefl _))
def isNm (b:UInt8):Bool:=decide (b.toNat=95∨(48≤b.toNat∧b.toNat≤57)∨(97≤b.toNat∧b.toNat≤122)∨(65≤b.toNat∧b.toNat≤90))
def nmI (x:Int):Bool:=decide (x=95∨(48≤x∧x≤57)∨(97≤x∧x≤122)∨(65≤x∧x≤90))
theorem nmI_of (b:UInt8):nmI ((b.toNat:Nat):Int)=isNm b:=by unfold nmI isNm;rw [decide_eq_decide];omega
theorem byte_is (b:UInt8) (n:UInt8):(b==n)=decide (b.toNat=n.toNat):=by
 rw [Bool.eq_iff_iff,beq_iff_eq,decide_eq_true_eq,UInt8.toNat_inj]
theorem isLt_nm (b:UInt8):isLt b=(isNm b||(b==46||b==45)):=by
 rw [byte_is,byte_is];unfold isLt isNm;rw [Bool.eq_iff_iff];simp only [Bool.or_eq_true,decide_eq_true_eq,show (46:UInt8).toNat=46 from rfl,show (45:UInt8).toNat=45 from rfl];omega
theorem isLt_dg {b:UInt8} (h:isDg b=true):isLt b=true:=by
 unfold isDg at h;unfold isLt;rw [decide_eq_true_eq] at h ⊢;omega
theorem all_mono {p q:UInt8→Bool} {l:List UInt8} (h:∀b,p b=true→q b=true) (a:l.all p=true):l.all q=true:=by
 rw [List.all_eq_true] at a ⊢;exact fun b hb=>h b (a b hb)
def nm (l:List UInt8):Bool:=(l.all isNm&&!l.isEmpty)&&!isDg (l.getD 0 0)
theorem words_lt:words.all (fun w=>w.all isLt&&!w.isEmpty)=true:=by decide
theorem word_lt {l:List UInt8} (h:words.contains l=true):l.all isLt=true∧l≠[]:=by
 have:=List.all_eq_true.1 words_lt l (List.contains_iff_mem.1 h);rw [Bool.and_eq_true] at this;refine ⟨this.1,fun e=>?_⟩;rw [e] at this;cases this.2
theorem nm_lt {l:List UInt8} (h:nm l=true):l.all isLt=true∧l≠[]:=by
 unfold nm at h;rw [Bool.and_eq_true,Bool.and_eq_true] at h;refine ⟨all_mono (fun b hb=>by rw [isLt_nm,hb];rfl) h.1.1,fun e=>?_⟩;rw [e] at h;cases h.1.2
theorem fm_lt {l:List UInt8} (h:fm l≠0):l.all isLt=true∧l≠[]:=by
 refine ⟨all_mono (fun b hb=>?_) (fm_all h),fun e=>?_⟩
 ·unfold isDp at hb;rw [Bool.or_eq_true] at hb;rcases hb with h|h
  ·exact isLt_dg h
  ·rw [beq_iff_eq] at h;rw [h];decide
 ·rw [e] at h;exact h fm_empty
theorem reads_lt {l:List UInt8} (h:reads l=true):l.all isLt=true∧l≠[]:=by
 unfold reads formed at h;simp only [Bool.and_eq_true,decide_eq_true_eq] at h;obtain ⟨⟨⟨hl,h4,h7⟩,a,b,c⟩,_⟩:=h;obtain ⟨x0,x1,x2,x3,x4,x5,x6,x7,x8,x9,rfl⟩:=ten hl;have hd:∀b,isD b=true→isLt b=true:=fun b hb=>isLt_dg hb;simp only [List.getD_cons_succ,List.getD_cons_zero] at h4 h7;subst h4 h7;simp only [List.take_succ_cons,List.take_zero,List.drop_succ_cons,List.drop_zero,List.all_cons,List.all_nil,Bool.and_true,Bool.and_eq_true] at a b c;refine ⟨?_,by simp⟩;simp only [List.all_cons,List.all_nil,Bool.and_true,Bool.and_eq_true];exact ⟨hd _ a.1,hd _ a.2.1,hd _ a.2.2.1,hd _ a.2.2.2,by decide,hd _ b.1,hd _ b.2,by decide,hd _ c.1,hd _ c.2⟩
theorem plain_nm {l:List UInt8} (h:l.all isLt=true):plain l=l.all isNm:=by
 induction l with
 | nil=>rfl
 | cons b r ih=>
   rw [List.all_cons,Bool.and_eq_true] at h;have i:=ih h.2;unfold plain at i ⊢;rw [List.all_cons,List.all_cons,i];have:=h.1;rw [isLt_nm] at this
   have hn:isNm b=(!(b==46)&&!(b==45)):=by
    cases h1:(b==46)
    ·cases h2:(b==45)
     ·rw [h1,h2] at this;simpa using this
     ·rw [beq_iff_eq] at h2;subst h2;decide
    ·rw [beq_iff_eq] at h1;subst h1;decide
   rw [hn]
def kw (sg wd n:Bool) (f:Nat) (d:Bool):Nat:=if sg then 5 else if wd then 2 else if n then 1 else if f≠0 then 3 else if d then 4 else 0
def sgn (l:List UInt8):Bool:=l==[123]||(l==[125]||l==[59])
theorem sgn_iff (l:List UInt8):sgn l=true↔(l=[123]∨l=[125]∨l=[59]):=by unfold sgn;simp only [Bool.or_eq_true,beq_iff_eq]
theorem kd_kw (l:List UInt8):kd l=kw (sgn l) (words.contains l) (nm l) (fm l) (reads l):=by
 unfold kd kw;by_cases hs:sgn l=true
 ·rw [if_pos ((sgn_iff l).1 hs),if_pos hs]
 ·rw [if_neg (fun h=>hs ((sgn_iff l).2 h)),if_neg hs];by_cases hb:l=[]∨l.all isLt=false
  ·have no:¬ (l.all isLt=true∧l≠[]):=by
    rintro ⟨a,b⟩;rcases hb with h|h
    ·exact b h
    ·rw [h] at a;cases a
   rw [if_pos hb,if_neg (fun h=>no (word_lt h)),if_neg (fun h=>no (nm_lt h)),if_neg (fun h=>no (fm_lt h)),if_neg (fun h=>no (reads_lt h))]
  ·rw [if_neg hb]
   have ha:l.all isLt=true:=by
    cases h:l.all isLt
    ·exact absurd (.inr h) hb
    ·rfl
   have hn:nm l=(plain l&&!isDg (l.getD 0 0)):=by
    unfold nm;rw [plain_nm ha];cases l with
    | nil=>exact absurd (.inl rfl) hb
    | cons a r=>simp
   rw [hn]
def ends (l:List UInt8) (i:Nat):Nat:=i+piece (l.drop i)
end P
namespace P
open Go.RowKit Mm
def Knd (ts:List Tok):Prop:=∀t∈ts,kd t.t=t.k∧(t.k=0→t.t=[])
theorem kd_nil:kd []=0:=by decide
theorem lx_knd (n:Nat) (l:List UInt8) (ln cl:Nat):Knd (lx n l ln cl).1:=by
 induction n generalizing l ln cl with
 | zero=>intro t ht;rw [List.mem_singleton.1 ht];exact ⟨kd_nil,fun _=>rfl⟩
 | succ n ih=>
   cases l with
   | nil=>intro t ht;rw [List.mem_singleton.1 ht];exact ⟨kd_nil,fun _=>rfl⟩
   | cons c r=>
     unfold lx;split
     ·exact ih _ _ _
     ·split
      ·intro t ht;cases ht
      ·rename_i hk
       intro t ht;rcases List.mem_cons.1 ht with rfl|ht
       ·exact ⟨rfl,fun e=>absurd e hk⟩
       ·exact ih _ _ _ t ht
theorem lexed_knd (l:List UInt8):Knd (lexed l).1:=by
 unfold lexed;split
 ·intro t ht;cases ht
 ·split
  ·exact lx_knd _ _ _ _
  ·intro t ht;cases ht
theorem words_head:words.all (fun w=>!isDg (w.getD 0 0))=true:=by decide
theorem digit_head {l:List UInt8} (hd:isDg (l.getD 0 0)=true):sgn l=false∧words.contains l=false∧nm l=false:=by
 refine ⟨?_,?_,?_⟩
 ·cases k:sgn l
  ·rfl
  ·rcases (sgn_iff l).1 k with rfl|rfl|rfl<;>exact absurd hd (by decide)
 ·cases k:words.contains l
  ·rfl
  ·have:=List.all_eq_true.1 words_head l (List.contains_iff_mem.1 k);rw [hd] at this;cases this
 ·unfold nm;rw [hd];simp
theorem fm_kd {l:List UInt8} (h:fm l≠0):kd l=3:=by
 have hd:isDg (l.getD 0 0)=true:=by
  cases k:isDg (l.getD 0 0)
  ·exact absurd (fm_first k) h
  ·rfl
 obtain ⟨h1,h2,h3⟩:=digit_head hd;rw [kd_kw,h1,h2,h3];unfold kw;simp [h]
theorem reads_kd {l:List UInt8} (h:reads l=true):kd l=4:=by
 have h0:=h;unfold reads formed at h;simp only [Bool.and_eq_true,decide_eq_true_eq] at h;obtain ⟨⟨⟨hl,h4,h7⟩,a,b,c⟩,_⟩:=h
 have hf:fm l=0:=by
  cases k:decide (fm l=0)
  ·have k':fm l≠0:=by simpa using k
   have:=dp_or (fm_all k') (i:=4) (by omega);rw [h4] at this;exact absurd this (by decide)
  ·simpa using k
 have hd:isDg (l.getD 0 0)=true:=by
  obtain ⟨x0,x1,x2,x3,x4,x5,x6,x7,x8,x9,rfl⟩:=ten hl;simp only [List.take_succ_cons,List.take_zero,List.all_cons,Bool.and_eq_true] at a;exact a.1
 obtain ⟨h1,h2,h3⟩:=digit_head hd;rw [kd_kw,h1,h2,h3,hf,h0];rfl
theorem kd_reads {l:List UInt8} (h:kd l=4):reads l=true:=by
 rw [kd_kw] at h;unfold kw at h;cases k:reads l
 ·rw [k] at h
  repeat' split at h
  all_goals first|omega|(exfalso;simp at *)
 ·rfl
theorem pw_none {l:List UInt8} (p m:Int) (h:kd l≠3):pN l p m=0∧pW l p m=1:=by
 have hf:fm l=0:=by
  cases k:decide (fm l=0)
  ·exact absurd (fm_kd (by simpa using k)) h
  ·simpa using k
 have hb:pBad l p=true:=by unfold pBad;exact decide_eq_true (.inl hf)
 unfold pN pW;rw [hb];exact ⟨rfl,rfl⟩
theorem pw_zero {l:List UInt8} (p m:Int) (h:pW l p m≠0):pN l p m=0:=by
 unfold pN pW at *;cases hb:pBad l p
 ·cases hg:pGreat l p m
  ·rw [hb,hg] at h;exact absurd rfl h
  ·rfl
 ·rfl
theorem pw_cases (l:List UInt8) (p m:Int):pW l p m=0∨pW l p m=1∨pW l p m=2:=by
 unfold pW
 repeat' split
 ·exact .inr (.inl rfl)
 ·exact .inr (.inr rfl)
 ·exact .inl rfl
def vw (ts:List Tok) (s:St):Nat:=if s.err=0 then s.i else ts.length-1
def vk (ts:List Tok) (s:St):Tok:=ts.getD (vw ts s) nil0
theorem vw_ok {ts:List Tok} {s:St} (h:s.err=0):vw ts s=s.i:=if_pos h
theorem vw_bad {ts:List Tok} {s:St} (h:¬ s.err=0):vw ts s=ts.length-1:=if_neg h
theorem vk_ok {ts:List Tok} {s:St} (h:s.err=0):vk ts s=tk ts s:=by unfold vk tk;rw [vw_ok h]
theorem vw_lt {ts:List Tok} {s:St} (h:Ok ts s):vw ts s<ts.length:=by
 have:=h.lt;unfold vw;split<;>omega
theorem vk_at {ts:List Tok} {s:St} (h:Ok ts s):ts[vw ts s]?=some (vk ts s):=by
 unfold vk;rw [List.getElem?_eq_getElem (vw_lt h),List.getD_eq_getElem?_getD,List.getElem?_eq_getElem (vw_lt h)];rfl
theorem vk_bad {ts:List Tok} {s:St} (hk:Knd ts) (h:Ok ts s) (e:¬ s.err=0):(vk ts s).k=0∧(vk ts s).t=[]:=by
 have h0:=h.toks.last _ _ (vk_at h) (by rw [vw_bad e];have:=h.lt;omega);exact ⟨h0,(hk _ (List.mem_of_getElem? (vk_at h))).2 h0⟩
theorem vk_kd {ts:List Tok} {s:St} (hk:Knd ts) (h:Ok ts s):kd (vk ts s).t=(vk ts s).k:=(hk _ (List.mem_of_getElem? (vk_at h))).1
def Wd (l:List UInt8):Prop:=l≠[]∧(kd l=2∨kd l=5)
instance (l:List UInt8):Decidable (Wd l):=by unfold Wd;exact inferInstance
theorem on_view {ts:List Tok} {s:St} {l:List UInt8} (hk:Knd ts) (h:Ok ts s) (hl:Wd l):onW ts s l=((vk ts s).t==l):=by
 by_cases e:s.err=0
 ·unfold onW;rw [vk_ok e,decide_eq_true e,Bool.true_and];cases k:((tk ts s).t==l)
  ·rw [Bool.and_false]
  ·have h1:(tk ts s).t=l:=by simpa using k
   have h2:=vk_kd hk h;rw [vk_ok e,h1] at h2;rcases hl.2 with h3|h3
   ·rw [h3] at h2;rw [←h2];rfl
   ·rw [h3] at h2;rw [←h2];rfl
 ·unfold onW;rw [decide_eq_false e,Bool.false_and,(vk_bad hk h e).2];have:=hl.1;cases l with
  | nil=>exact absurd rfl this
  | cons a r=>rfl
theorem is_view {ts:List Tok} {s:St} {k:Nat} (hk:Knd ts) (h:Ok ts s) (h0:k≠0):isTk ts s k=decide ((vk ts s).k=k):=by
 unfold isTk;by_cases e:s.err=0
 ·rw [vk_ok e,decide_eq_true e,Bool.true_and]
 ·rw [(vk_bad hk h e).1,decide_eq_false e,Bool.false_and,decide_eq_false (fun c=>h0 c.symm)]
theorem go_view {ts:List Tok} {s:St} (hk:Knd ts) (h:Ok ts s):goesOn ts s = !decide ((vk ts s).k=0):=by
 unfold goesOn;by_cases e:s.err=0
 ·rw [vk_ok e,decide_eq_true e,Bool.true_and]
 ·rw [(vk_bad hk h e).1,decide_eq_false e,Bool.false_and];rfl
theorem is_err {ts:List Tok} {s:St} {k:Nat} (h:isTk ts s k=true):s.err=0:=by
 unfold isTk at h;simp only [Bool.and_eq_true,decide_eq_true_eq] at h;exact h.1
theorem on_err {ts:List Tok} {s:St} {l:List UInt8} (h:onW ts s l=true):s.err=0:=by
 unfold onW at h;simp only [Bool.and_eq_true,decide_eq_true_eq] at h;exact h.1
theorem num_yes {ts:List Tok} {s:St} {p m:Int} (hk:Knd ts) (h:Ok ts s) (hw:pW (vk ts s).t p m=0):isTk ts s 3=true∧numS ts s p m=(pN (vk ts s).t p m,s.next):=by
 have h3:kd (vk ts s).t=3:=by
  rcases Nat.decEq (kd (vk ts s).t) 3 with c|c
  ·rw [(pw_none p m c).2] at hw;cases hw
  ·exact c
 have hi:isTk ts s 3=true:=by rw [is_view hk h (by decide),←vk_kd hk h,h3];rfl
 refine ⟨hi,?_⟩;unfold numS;rw [if_pos hi,←vk_ok (is_err hi),hw];rfl
theorem num_no {ts:List Tok} {s:St} {p m:Int} (hw:pW (vk ts s).t p m=1):numS ts s p m=(pN (vk ts s).t p m,wrg ts s 4)∨(isTk ts s 3=true∧numS ts s p m=(pN (vk ts s).t p m,(wrg ts s 4).next)):=by
 by_cases hi:isTk ts s 3=true
 ·right
  refine ⟨hi,?_⟩;unfold numS;rw [if_pos hi,←vk_ok (is_err hi),hw];rfl
 ·left
  unfold numS;rw [if_neg hi,pw_zero p m (by rw [hw];decide)]
theorem num_great {ts:List Tok} {s:St} {p m:Int} (hk:Knd ts) (h:Ok ts s) (hw:pW (vk ts s).t p m=2):isTk ts s 3=true∧numS ts s p m=(pN (vk ts s).t p m,(wrg ts s 6).next):=by
 have h3:kd (vk ts s).t=3:=by
  rcases Nat.decEq (kd (vk ts s).t) 3 with c|c
  ·rw [(pw_none p m c).2] at hw;cases hw
  ·exact c
 have hi:isTk ts s 3=true:=by rw [is_view hk h (by decide),←vk_kd hk h,h3];rfl
 refine ⟨hi,?_⟩;unfold numS;rw [if_pos hi,←vk_ok (is_err hi),hw];rfl
theorem day_view {ts:List Tok} {s:St} (hk:Knd ts) (h:Ok ts s):isTk ts s 4=reads (vk ts s).t:=by
 rw [is_view hk h (by decide),←vk_kd hk h];cases k:reads (vk ts s).t
 ·rw [decide_eq_false];intro c;rw [kd_reads c] at k;cases k
 ·rw [reads_kd k];rfl
theorem day_yes {ts:List Tok} {s:St} (hk:Knd ts) (h:Ok ts s) (hr:reads (vk ts s).t=true):dayS ts s=(⟨yearOf (vk ts s).t,monthOf (vk ts s).t,dayOf (vk ts s).t⟩,s.next):=by
 have hi:=(day_view hk h).trans hr;unfold dayS tkn dayOf';rw [if_pos hi,←vk_ok (is_err hi),if_pos hr]
theorem day_no {ts:List Tok} {s:St} (hk:Knd ts) (h:Ok ts s) (hr:reads (vk ts s).t=false):dayS ts s=(⟨0,0,0⟩,wrg ts s 4):=by
 have hi:=(day_view hk h).trans hr;unfold dayS tkn dayOf';rw [hi];rfl
theorem wrg_err {ts:List Tok} {s:St} {e:Int} (he:e≠0):¬ (wrg ts s e).err=0:=by
 unfold wrg;split
 ·exact he
 ·assumption
theorem ok_wrg_next {ts:List Tok} {s:St} {e:Int} (h:Ok ts s.next):Ok ts (wrg ts s e).next:=⟨h.toks,by have:=h.lt;show (wrg ts s e).i+1<_;rw [wrg_i];exact this⟩
end P
namespace P
open Go.RowKit
theorem isDg_dch {k:Nat} (h:k<10):isDg (dch k)=true:=by rw [isDg_iff,dig_toNat h];omega
theorem stB_digits:∀(b a:List UInt8),b.all isDg=true→stB (a++b)=if 0≤stB a then stB a+b.length else stB a
 | [],a,_=>by simp
 | c::t,a,h=>by
   rw [List.all_cons,Bool.and_eq_true] at h;have hc:=isDg_no46 h.1;rw [show a++c::t=(a++[c])++t by simp,stB_digits t (a++[c]) h.2,stB_snoc,if_neg hc];by_cases h0:0≤stB a
   ·rw [if_pos h0,if_pos h0,if_pos (by omega),List.length_cons];omega
   ·rw [if_neg h0,if_neg h0,if_neg h0]
theorem stV_digits:∀(b a:List UInt8),b.all isDg=true→stV (a++b)=stV a*10 ^ b.length+stV b
 | [],a,_=>by simp [stV]
 | c::t,a,h=>by
   rw [List.all_cons,Bool.and_eq_true] at h;have hc:=isDg_no46 h.1;have e:=stV_digits t [c] h.2
   rw [show a++c::t=(a++[c])++t by simp,stV_digits t (a++[c]) h.2,stV_snoc,if_neg hc,show c::t=[c]++t from rfl,e,show stV [c]=10*0+(c.toNat-48) by
    have:=stV_snoc [] c;rw [if_neg hc] at this
    exact this]
   rw [List.length_append,List.length_singleton,Nat.add_comm 1,Nat.pow_succ];generalize 10 ^ t.length=y;generalize c.toNat-48=d;generalize stV a=x;generalize stV t=z;grind
theorem stV_point (a:List UInt8):stV (a++[46])=stV a:=by rw [stV_snoc,if_pos rfl]
theorem stB_point (a:List UInt8):stB (a++[46])=0:=by rw [stB_snoc,if_pos rfl]
theorem dec_digits (q:Nat):(Lib.decDigits q).all isDg=true:=by
 induction q using Nat.strongRecOn with
 | _ q ih=>
   by_cases h:q<10
   ·rw [dec_last h];simp [isDg_dch h]
   ·rw [dec_more h,List.all_append,ih (q / 10) (by omega)];simp [isDg_dch (Nat.mod_lt q (by decide:0<10))]
theorem dec_value (q:Nat):stV (Lib.decDigits q)=q:=by
 induction q using Nat.strongRecOn with
 | _ q ih=>
   have s1:∀k,k<10→∀a,stV (a++[dch k])=10*stV a+k:=fun k hk a=>by
    rw [stV_snoc,if_neg (isDg_no46 (isDg_dch hk)),dig_toNat hk];omega
   by_cases h:q<10
   ·rw [dec_last h];have:=s1 q h [];simpa [stV] using this
   ·rw [dec_more h,s1 (q % 10) (Nat.mod_lt q (by decide)),ih (q / 10) (by omega)];omega
theorem dec_ne (q:Nat):Lib.decDigits q≠[]:=by
 intro h;have:=Lib.decDigits_length q;rw [h] at this;have:=Lib.nDigits_pos q;simp at *;omega
theorem dec_head (q:Nat):(Lib.decDigits q).getD 0 0=48→q=0:=by
 induction q using Nat.strongRecOn with
 | _ q ih=>
   intro h;by_cases hq:q<10
   ·rw [dec_last hq] at h;have:(dch q).toNat=48:=by rw [show dch q=48 from h];rfl
    rw [dig_toNat hq] at this;omega
   ·rw [dec_more hq] at h;have hn:=dec_ne (q / 10)
    have e:(Lib.decDigits (q / 10)++[dch (q % 10)]).getD 0 0=(Lib.decDigits (q / 10)).getD 0 0:=by
     cases hl:Lib.decDigits (q / 10) with
     | nil=>exact absurd hl hn
     | cons a t=>rfl
    rw [e] at h;have:=ih (q / 10) (by omega) h;omega
theorem fs_digits (n:Nat):∀k,(fs n k).all isDg=true
 | 0=>rfl
 | k+1=>by
   rw [fs];split
   ·rw [List.all_cons,fs_digits n k,isDg_dch (Nat.mod_lt _ (by decide))];rfl
   ·rfl
theorem fs_value (n:Nat):∀k,stV (fs n k)*10 ^ (k-(fs n k).length)=n % 10 ^ k
 | 0=>by simp [fs,stV,Nat.mod_one]
 | k+1=>by
   have ih:=fs_value n k;have hl:=fs_length n k
   have hm:n % 10 ^ (k+1)=n / 10 ^ k % 10*10 ^ k+n % 10 ^ k:=by
    rw [Nat.pow_succ,Nat.mod_mul];rw [Nat.mul_comm (10 ^ k),Nat.add_comm]
   by_cases h:fs n k≠[]∨n / 10 ^ k % 10≠0
   ·have hc:n / 10 ^ k % 10<10:=Nat.mod_lt _ (by decide)
    rw [fs_yes h,show dch (n / 10 ^ k % 10)::fs n k=[dch (n / 10 ^ k % 10)]++fs n k from rfl,stV_digits _ _ (fs_digits n k),List.length_append,List.length_singleton,hm,←ih,
     show k+1-(1+(fs n k).length)=k-(fs n k).length by omega,
     show stV [dch (n / 10 ^ k % 10)]=n / 10 ^ k % 10 by
      have:=stV_snoc [] (dch (n / 10 ^ k % 10));rw [if_neg (isDg_no46 (isDg_dch hc)),dig_toNat hc] at this
      simpa [stV] using this,Nat.add_mul,Nat.mul_assoc,←Nat.pow_add,show (fs n k).length+(k-(fs n k).length)=k by omega]
   ·have h1:fs n k=[]:=by
     rcases Decidable.em (fs n k=[]) with a|a
     ·exact a
     ·exact absurd (.inl a) h
    have h2:n / 10 ^ k % 10=0:=by
     rcases Decidable.em (n / 10 ^ k % 10=0) with a|a
     ·exact a
     ·exact absurd (.inr a) h
    rw [h1] at ih;rw [fs_no h1 h2,hm,h2,←ih];simp [stV]
theorem dg_dp {l:List UInt8} (h:l.all isDg=true):l.all isDp=true:=by
 rw [List.all_eq_true] at h ⊢;intro x hx;unfold isDp;rw [h x hx];rfl
theorem dg_count {l:List UInt8} (h:l.all isDg=true):l.count 46=0:=by
 rw [List.count_eq_zero];intro k;rw [List.all_eq_true] at h;exact isDg_no46 (h _ k) rfl
theorem dg_last {l:List UInt8} (h:l.all isDg=true):(l.getLast?==some 46)=false:=by
 rw [beq_eq_false_iff_ne];intro k;rw [List.all_eq_true] at h;exact isDg_no46 (h _ (List.mem_of_getLast? k)) rfl
theorem dg_first {l:List UInt8} (h:l.all isDg=true) (hne:l≠[]):isDg (l.getD 0 0)=true:=by
 cases l with
 | nil=>exact absurd rfl hne
 | cons a t=>rw [List.all_cons,Bool.and_eq_true] at h;exact h.1
theorem fm_whole {a:List UInt8} (ha:a.all isDg=true) (hne:a≠[]) (hh:oddHead a=false):fm a=1:=by
 rw [fm_is (dg_first ha hne) (by unfold evenBody;rw [dg_dp ha,dg_count ha,dg_last ha];rfl) hh,dg_count ha]
theorem getD_app {a b:List UInt8} {i:Nat} (h:i<a.length):(a++b).getD i 0=a.getD i 0:=by
 rw [List.getD_eq_getElem?_getD,List.getElem?_append_left h,←List.getD_eq_getElem?_getD]
theorem getD_len {a b:List UInt8} : (a++b).getD a.length 0=b.getD 0 0:=by
 rw [List.getD_eq_getElem?_getD,List.getElem?_append_right (Nat.le_refl _),Nat.sub_self,←List.getD_eq_getElem?_getD]
theorem head_point {a b:List UInt8} (hne:a≠[]) (hh:oddHead a=false):oddHead (a++46::b)=false:=by
 have hl:0<a.length:=List.length_pos_iff.2 hne;unfold oddHead at hh ⊢;rw [getD_app hl];by_cases h1:1<a.length
 ·rw [getD_app h1];rw [decide_eq_true h1] at hh;rw [decide_eq_true (by simp;omega)];exact hh
 ·have e:a.length=1:=by omega
  have:=getD_len (a:=a) (b:=46::b);rw [e] at this;rw [this];simp
theorem fm_point {a b:List UInt8} (ha:a.all isDg=true) (hne:a≠[]) (hh:oddHead a=false) (hb:b.all isDg=true) (hb0:b≠[]):fm (a++46::b)=2:=by
 have hl:0<a.length:=List.length_pos_iff.2 hne;have hc:(a++46::b).count 46=1:=by rw [List.count_append,dg_count ha,List.count_cons_self,dg_count hb]
 have hlast:(a++46::b).getLast?=b.getLast?:=by
  rw [List.getLast?_append,List.getLast?_cons];cases h:b.getLast? with
  | none=>exact absurd (List.getLast?_eq_none_iff.1 h) hb0
  | some x=>rfl
 rw [fm_is (by rw [getD_app hl];exact dg_first ha hne) (by
  unfold evenBody;rw [hc,hlast,dg_last hb,List.all_append,dg_dp ha,List.all_cons,dg_dp hb]
  rfl) (head_point hne hh),hc]
theorem dec_oddHead (q:Nat):oddHead (Lib.decDigits q)=false:=by
 unfold oddHead;by_cases h:(Lib.decDigits q).getD 0 0=48
 ·have hq:=dec_head q h;subst hq;rw [dec_last (by omega)];rfl
 ·rw [beq_eq_false_iff_ne.2 h];rfl
theorem tail_no {n p:Nat} (h:fs n p=[]):tail n p=[]:=by unfold tail;rw [if_pos h]
theorem tail_yes {n p:Nat} (h:fs n p≠[]):tail n p=46::fs n p:=by unfold tail;rw [if_neg h]
theorem tx_fm (n p:Nat):fm (tx n p)=if fs n p=[] then 1 else 2:=by
 unfold tx;by_cases h:fs n p=[]
 ·rw [tail_no h,List.append_nil,if_pos h];exact fm_whole (dec_digits _) (dec_ne _) (dec_oddHead _)
 ·rw [tail_yes h,if_neg h];exact fm_point (dec_digits _) (dec_ne _) (dec_oddHead _) (fs_digits n p) h
theorem stB_dec (q:Nat):stB (Lib.decDigits q) = -1:=by
 have:=stB_digits (Lib.decDigits q) [] (dec_digits q);simpa [stB] using this
theorem tx_stB (n p:Nat):stB (tx n p)=if fs n p=[] then -1 else ((fs n p).length:Int):=by
 unfold tx;by_cases h:fs n p=[]
 ·rw [tail_no h,List.append_nil,if_pos h,stB_dec]
 ·rw [tail_yes h,if_neg h,show Lib.decDigits (n / 10 ^ p)++46::fs n p=(Lib.decDigits (n / 10 ^ p)++[46])++fs n p by simp,stB_digits _ _ (fs_digits n p),stB_point,if_pos (by omega)];omega
theorem tx_stV (n p:Nat):stV (tx n p)*10 ^ (p-(fs n p).length)=n:=by
 have hv:=fs_value n p;have hl:=fs_length n p;unfold tx;by_cases h:fs n p=[]
 ·rw [h] at hv;rw [tail_no h,List.append_nil,dec_value,h];have h0:n % 10 ^ p=0:=by rw [←hv];simp [stV]
  have:=Nat.div_add_mod n (10 ^ p);rw [h0,Nat.mul_comm] at this;simpa using this
 ·rw [tail_yes h,show Lib.decDigits (n / 10 ^ p)++46::fs n p=(Lib.decDigits (n / 10 ^ p)++[46])++fs n p by simp,stV_digits _ _ (fs_digits n p),stV_point,dec_value,Nat.add_mul,hv,Nat.mul_assoc,←Nat.pow_add,
   show (fs n p).length+(p-(fs n p).length)=p by omega,Nat.mul_comm]
  exact Nat.div_add_mod n (10 ^ p)
theorem tx_pK (n p:Nat):pK (tx n p) p=p-(fs n p).length:=by
 have hl:=fs_length n p;unfold pK;rw [tx_stB];by_cases h:fs n p=[]
 ·rw [if_pos h,h];simp;omega
 ·rw [if_neg h];omega
theorem tx_pV (n p:Nat):pV (tx n p) p=(n:Int):=by
 unfold pV;rw [tx_pK];have:=tx_stV n p
 exact_mod_cast this
theorem tx_pBad {n p:Nat} (hp:p≤9):pBad (tx n p) p=false:=by
 have hl:=fs_length n p;unfold pBad;rw [decide_eq_false_iff_not,tx_fm,tx_stB];by_cases h:fs n p=[]
 ·rw [if_pos h,if_pos h];omega
 ·rw [if_neg h,if_neg h];omega
theorem tx_back {n p:Nat} (hp:p≤9) (most:Int) (hI:I64 (n:Int)) (hm:(n:Int)≤most):pN (tx n p) p most=n∧pW (tx n p) p most=0:=by
 unfold pN pW pGreat;rw [tx_pBad hp,tx_pV,ok64_t hI,decide_eq_false (by omega)];exact ⟨rfl,rfl⟩
def f0 (n p:Nat):List UInt8:=if fs n p=[] then [48] else fs n p
def bs (n p:Nat):List UInt8:=Lib.decDigits (n / 10 ^ p)++46::f0 n p
def zs (k:Nat):List UInt8:=List.replicate k 48
end P
namespace P
open Go.RowKit Mm R6
theorem tiers_cnt (ts:List Tok):∀(n:Nat) (s:St) (acc:List Tier),(tiersS ts n s acc).1.length≤n+acc.length
 | 0,s,acc=>by show acc.length≤_;omega
 | n+1,s,acc=>by
   unfold tiersS;split
   ·have:=tiers_cnt ts n (tierS ts s.next).2 (acc++[(tierS ts s.next).1]);simp only [List.length_append,List.length_singleton] at this;omega
   ·show acc.length≤_;omega
theorem adjs_cnt (ts:List Tok):∀(n:Nat) (s:St) (acc:List Adj),(adjsS ts n s acc).1.length≤n+acc.length
 | 0,s,acc=>by show acc.length≤_;omega
 | n+1,s,acc=>by
   unfold adjsS;simp only;split
   ·show acc.length≤_;omega
   ·have:=adjs_cnt ts n (adjS ts (oneS ts s adjWords).2 (1+(oneS ts s adjWords).1)).2 (acc++[(adjS ts (oneS ts s adjWords).2 (1+(oneS ts s adjWords).1)).1]);simp only [List.length_append,List.length_singleton] at this;omega
theorem charge_cnt (ts:List Tok) (s:St) (l c:Int):(chargeS ts s l c).1.tiers.length≤ts.length+1∧(chargeS ts s l c).1.adjusts.length≤ts.length:=by
 refine ⟨?_,?_⟩
 ·show (_++[_]).length≤_
  rw [List.length_append];have:=tiers_cnt ts ts.length (wnt ts (kindS ts (optS ts (optS ts (wnt ts (winS ts (tkn ts s 1).2).2 sOpen) wAllowance 0).2 wBlock 1).2).2 sOpen) [];simp only [List.length_nil] at this;show _+1≤_
  exact Nat.add_le_add_right this 1
 ·exact adjs_cnt ts ts.length _ []
structure Few (ts:List Tok) (i:Nat) (p:Plan):Prop where
 sum:p.meters.length+p.fees.length+p.charges.length≤i
 parts:∀c∈p.charges,c.tiers.length≤ts.length+1∧c.adjusts.length≤ts.length
theorem item_few {ts:List Tok} {s:St} {p:Plan} (h:Few ts s.i p) (ho:goesOn ts s=true):Few ts (itemS ts s p).2.i (itemS ts s p).1:=by
 rcases item_next ts s p ho with k|⟨k1,_⟩
 ·refine ⟨Nat.le_trans ?_ k,?_⟩
  ·have:=h.sum;unfold itemS;simp only
   repeat' split
   all_goals simp only [List.length_append,List.length_singleton];omega
  ·unfold itemS;simp only
   repeat' split
   ·exact h.parts
   ·exact h.parts
   ·intro c hc;rcases List.mem_append.1 hc with k|k
    ·exact h.parts c k
    ·obtain rfl:=List.mem_singleton.1 k;exact charge_cnt ts _ _ _
   ·exact h.parts
 ·rw [k1,wrg_i];exact h
theorem items_few {ts:List Tok} : ∀(n:Nat) (s:St) (p:Plan),Few ts s.i p→Few ts (itemsS ts n s p).2.i (itemsS ts n s p).1
 | 0,_,_,h=>h
 | n+1,s,p,h=>by
   unfold itemsS;split
   ·rename_i ho
    exact items_few n _ _ (item_few h ho)
   ·exact h
theorem planZ_small:Small planZ:=⟨by decide,by decide,by decide,fun c hc=>by cases hc⟩
theorem plan_small {ts:List Tok} (hf:Fine ts):Small (planS ts).1:=by
 have ok:Ok ts st0:=⟨hf.toks,hf.toks.pos⟩;have fw:=items_few (ts:=ts) ts.length (headS ts st0).2 (headS ts st0).1 ⟨Nat.zero_le _,fun c hc=>by cases hc⟩;have lt:=(Ok.itemsS ts.length _ (headS ts st0).1 ok.headS).lt;have cnt:=hf.cnt;unfold planS;simp only;split
 ·show Small (itemsS ts ts.length (headS ts st0).2 (headS ts st0).1).1
  exact ⟨by have:=fw.sum;omega,by have:=fw.sum;omega,by have:=fw.sum;omega,fun c hc=>by have:=fw.parts c hc;omega⟩
 ·exact planZ_small
theorem parsed_small (l:List UInt8):Small (parsed l).1:=by
 unfold parsed;simp only;split
 ·rename_i h
  exact plan_small (lexed_fine h)
 ·exact planZ_small
end P
end Go.Proofs.YtofbobdhkbmbgaaGreatDoor
