/- What the document's answers for layer 7 (poundageref07) come to: Parse, of every text. -/
import Derived.Test.YtofbobdhkbmbgaaGreatDoorJRef7g
import Derived.Shelf.Strings.OnBuilder
import Derived.Test.YtofbobdhkbmbgaaGreatDoorJDate2
set_option maxHeartbeats 4000000
namespace Go.Proofs.YtofbobdhkbmbgaaGreatDoor
namespace R7
open Go.RowKit Go.Sort P Tl Mm Md
theorem ref_any (l:ByteArray) (w:World):Calls Tryz.prog 12 #[.string l] w (PsQ w (parsed l.data.toList)):=by
 by_cases h:(lexed l.data.toList).2.1=0
 ·have e:parsed l.data.toList=planS (lexed l.data.toList).1:=by unfold parsed;simp only;rw [if_pos h]
  rw [e];exact parse_good l w (lexed l.data.toList).1 (lexed l.data.toList).2.2.1 (lexed l.data.toList).2.2.2 (by rw [←h]) (lexed_fine h)
 ·have e:parsed l.data.toList=(planZ,((lexed l.data.toList).2.1:Int),((lexed l.data.toList).2.2.1:Int),((lexed l.data.toList).2.2.2:Int)):=by unfold parsed;simp only;rw [if_neg h]
  rw [e];exact parse_bad l w _ _ _ _ rfl h
theorem ref_lies (l:ByteArray) (w:World):Calls Tryz.prog 12 #[.string l] w fun e w'=>∃ma mc fa fc ca cc,e=.returned (.tuple #[.agg (planC (parsed l.data.toList).1 ma mc fa fc ca cc).toArray,.int .i64 (parsed l.data.toList).2.1,.int .i64 (parsed l.data.toList).2.2.1,.int .i64 (parsed l.data.toList).2.2.2])∧
  PlanLies w' (planC (parsed l.data.toList).1 ma mc fa fc ca cc) (parsed l.data.toList).1 ma mc fa fc ca cc∧Below w.heap.size w w':=
 (ref_any l w).mono fun _ _ ⟨ma,mc,fa,fc,ca,cc,_,h1,h2,h3,h4⟩=>⟨ma,mc,fa,fc,ca,cc,h1,lies_of h2 (parsed_fits _) h3.own,h4⟩
end R7
namespace Sw
open Go.RowKit P Mm
theorem tellT_len {d:Nat} {ws:List (List UInt8)} : (tellT d ws).length=d+(Lib.join ws [32]).length+2:=by
 unfold tellT ln;simp only [List.length_append,List.length_replicate,List.length_cons,List.length_nil];omega
end Sw
namespace Sw
open Go.RowKit Go.Sort P Mm
def dC (d:Day):Value:=.agg #[d.y,d.m,d.d]
section
def wC (x:Win):Value:=.agg #[x.has,x.a.y,x.a.m,x.a.d,x.b.y,x.b.m,x.b.d]
end
theorem tiersUp_step {ts:List Tier} {i:Nat} {t:Tier} (ht:ts[i]?=some t) {b:Bool} (hb:decide (i+1=ts.length)=b):tiersUp ts (i+1)=tiersUp ts i++tierT b t:=by
 rw [tiersUp,hb,List.getD_eq_getElem?_getD,ht];rfl
section
end
end Sw
namespace R4
open Go.RowKit P Ex
theorem ba_list (l:List UInt8):(⟨l.toArray⟩:ByteArray).toList=l:=by rw [Lib.toList_data]
theorem digit_text (q:Int) (w:World) (h:0≤q):∃B:ByteArray,B=⟨#[dch (q.toNat % 10)]⟩∧
  (convert 176 9 (.slice (some ⟨w.heap.size,0,none⟩) 1 1)).run Tryz.prog (w.alloc (.cells #[.int .u8 (48+q % 10)] 5))=.ok (.string B) (w.alloc (.cells #[.int .u8 (48+q % 10)] 5)):=by
 have hc:q.toNat % 10<10:=Nat.mod_lt _ (by decide);have hx:((dch (q.toNat % 10)).toNat:Int)=48+q % 10:=by rw [dig_toNat hc];omega
 refine ⟨_,rfl,?_⟩
 exact run_convert_bytes_back (P:=Tryz.prog) (w.alloc (.cells #[.int .u8 (48+q % 10)] 5)) 176 9 5 ⟨w.heap.size,0,none⟩ 1 [dch (q.toNat % 10)] Tryz.underlying176 Tryz.underlying5 Tryz.underlying9 (fun j hj=>by
  obtain rfl:j=0:=by simpa using hj
  rw [Lib.add_plain,World.cell?_alloc_new];show some (Value.int .u8 (48+q % 10))=some (Value.int .u8 (((dch (q.toNat % 10)).toNat:Nat):Int))
  rw [hx])
theorem text_no (n places:Int) (w:World) (h:n<0∨places<0∨9<places) :
  Calls Tryz.prog 98 #[.int .i64 n,.int .i64 places] w fun e w'=>e=.returned (.string ⟨#[]⟩)∧Below w.heap.size w w':=by
 have h':n<0∨(¬ n<0∧places<0)∨(¬ n<0∧¬ places<0∧9<places):=by omega
 clear h;go_enter Tryz.func98,Tryz.ntmps98
 rcases h' with h|⟨h0,h⟩|⟨h0,h,h1⟩
 all_goals
  go_wp2;go_ret;exact ⟨rfl,Below.refl _ _⟩
theorem text_yes (n places:Int) (w:World) (h0:0≤n) (hn:I64 n) (p0:0≤places) (p9:places≤9) :
  Calls Tryz.prog 98 #[.int .i64 n,.int .i64 places] w fun e w'=>e=.returned (.string ⟨(tx n.toNat places.toNat).toArray⟩)∧Below w.heap.size w w':=by
 have hTl:(tx n.toNat places.toNat).length≤30:=tx_length (by unfold I64 at hn;omega) (by omega);have hn1:n≤9223372036854775807:=hn.2;clear hn;obtain ⟨T,hT⟩:∃T,T=tx n.toNat places.toNat:=⟨_,rfl⟩;rw [←hT] at hTl ⊢;replace hT:=hid hT;go_enter Tryz.func98,Tryz.ntmps98
 go_wp2;go_loopw [0,5,6] (fun q s k wr=>∃(q' k':Int) (S:ByteArray),q=.int .i64 q'∧s=.string S∧k=.int .i64 k'∧0≤q'∧q'≤9223372036854775807∧0≤k'∧k'≤places∧Hid (q'.toNat=n.toNat / 10 ^ k'.toNat∧S=⟨(fs n.toNat k'.toNat).toArray⟩)∧Below w.heap.size w wr) (fun _ _ k _=>(places-intOf k).toNat)
 case atStart=>exact ⟨n,0,⟨#[]⟩,rfl,rfl,rfl,h0,hn1,by omega,p0,hid ⟨by simp,rfl⟩,Below.refl _ _⟩
 case round=>
  obtain ⟨q',k',S,rfl,rfl,rfl,q0,q1,k0,k1,hq,hb⟩:=hrel;obtain ⟨hqe,hS⟩:=hq.out;have hSl:S.toList=fs n.toNat k'.toNat:=by rw [hS,ba_list]
  have hSz:S.size=(fs n.toNat k'.toNat).length:=by rw [hS,ba_size]
  have hfl:=fs_length n.toNat k'.toNat;by_cases hlt:k'<places
  ·have e1:(k'+1).toNat=k'.toNat+1:=by omega
   have hq2:(q' / 10).toNat=n.toNat / 10 ^ (k'+1).toNat:=by rw [e1,Nat.pow_succ,←Nat.div_div_eq_div_mul,←hqe];omega
   obtain ⟨B,hB,hcv⟩:=digit_text q' wr q0;have hBz:B.size=1:=by rw [hB,ba_size];rfl
   have hs1:¬ 9223372036854775807<B.size+S.size:=by omega
   have put:(fs n.toNat k'.toNat≠[]∨q'.toNat % 10≠0)→Hid ((q' / 10).toNat=n.toNat / 10 ^ (k'+1).toNat∧B++S=⟨(fs n.toNat (k'+1).toNat).toArray⟩):=fun h=>hid ⟨hq2,by
    rw [e1,fs_yes (by rw [←hqe];exact h),hB,hS,ba_append,←hqe]
    rfl⟩
   have skp:fs n.toNat k'.toNat=[]→q'.toNat % 10=0→Hid ((q' / 10).toNat=n.toNat / 10 ^ (k'+1).toNat∧S=⟨(fs n.toNat (k'+1).toNat).toArray⟩):=fun h h2=>hid ⟨hq2,by
    rw [e1,fs_no h (by rw [←hqe];exact h2),hS,h]⟩
   have hb2:=fun o=>hb.alloc hb.size o;by_cases hf:fs n.toNat k'.toNat=[]
   ·have c1:(S.toList==[])=true:=by rw [hSl,hf];rfl
    by_cases hz:q' % 10=0
    ·have H:=skp hf (by omega);have c2:(q' % 10 != 0)=false:=by rw [hz];rfl
     clear put skp hqe hS hSl hq2 hB hq e1;go_wp2;go_roundw
     case rel=>exact ⟨q' / 10,k'+1,S,rfl,rfl,rfl,by omega,by omega,by omega,by omega,H,hb⟩
     case measure=>simp [intOf];omega
    ·have H:=put (.inr (by omega));have c2:(q' % 10 != 0)=true:=by simpa using hz
     clear put skp hqe hS hSl hq2 hB hq e1;go_wp2;go_roundw
     case rel=>exact ⟨q' / 10,k'+1,_,rfl,rfl,rfl,by omega,by omega,by omega,by omega,H,hb2 _⟩
     case measure=>simp [intOf];omega
   ·have H:=put (.inl hf);have c1:(S.toList==[])=false:=by rw [hSl,beq_eq_false_iff_ne];exact hf
    clear put skp hqe hS hSl hq2 hB hq e1;go_wp2;go_roundw
    case rel=>exact ⟨q' / 10,k'+1,_,rfl,rfl,rfl,by omega,by omega,by omega,by omega,H,hb2 _⟩
    case measure=>simp [intOf];omega
  ·obtain rfl:k'=places:=by omega
   have htl:(⟨(tail n.toNat k'.toNat).toArray⟩:ByteArray)=if fs n.toNat k'.toNat=[] then S else ⟨#[46]⟩++S:=by
    rw [hS];unfold tail;split
    ·rename_i h;rw [h]
    ·rw [show (⟨#[46]⟩:ByteArray)=⟨([46]:List UInt8).toArray⟩ from rfl,ba_append];rfl
   have hfull:Lib.decDigits q'.toNat++tail n.toNat k'.toNat=T:=by rw [hT.out,tx,hqe]
   have hone:(⟨#[46]⟩:ByteArray).size=1:=rfl;have hs2:¬ 9223372036854775807<1+S.size:=by omega
   by_cases hf:fs n.toNat k'.toNat=[]
   ·rw [if_pos hf] at htl;have c1:(S.toList==[])=true:=by rw [hSl,hf];rfl
    have HF:=hid hfull;have HT:=hid htl;clear hfull htl hqe hS hSl hq;go_wp2;go_loopw [0,5] (fun q s wx=>∃(q2:Int) (S2:ByteArray),q=.int .i64 q2∧s=.string S2∧0≤q2∧q2≤9223372036854775807∧Hid (∃sl:List UInt8,S2=⟨sl.toArray⟩∧Lib.decDigits q2.toNat++sl=T)∧Below w.heap.size w wx) (fun q _ _=>(intOf q).toNat)
    case atStart=>exact ⟨q',_,rfl,rfl,q0,q1,hid ⟨_,HT.out.symm,HF.out⟩,hb⟩
    case round=>
     obtain ⟨q2,S2,rfl,rfl,r0,r1,hsl,hb2⟩:=hrel;obtain ⟨sl,hS2,hTT⟩:=hsl.out;obtain ⟨B,hB,hcv⟩:=digit_text q2 wr r0;have hBz:B.size=1:=by rw [hB,ba_size];rfl
     have hS2z:S2.size=sl.length:=by rw [hS2,ba_size]
     have hll:(Lib.decDigits q2.toNat++sl).length≤30:=by rw [hTT];exact hTl
     rw [List.length_append] at hll;have hs3:¬ 9223372036854775807<B.size+S2.size:=by omega
     have hb3:=fun o=>hb2.alloc hb2.size o;have hBS:B++S2=⟨(dch (q2.toNat % 10)::sl).toArray⟩:=by rw [hB,hS2,ba_append];rfl
     by_cases hl:q2<10
     ·have hz:q2 / 10=0:=by omega
      have hfin:Hid (B++S2=⟨T.toArray⟩):=hid (by rw [hBS,←hTT,dec_last (by omega),show q2.toNat % 10=q2.toNat by omega];rfl);clear hB hS2 hTT hBS hll hsl;go_wp2;go_ret;exact ⟨ret_s hfin.out,hb3 _⟩
     ·have hz:(q2 / 10==0)=false:=by simp;omega
      have H:Hid (∃sl:List UInt8,B++S2=⟨sl.toArray⟩∧Lib.decDigits (q2 / 10).toNat++sl=T):=hid ⟨_,hBS,by
       rw [←hTT,dec_more (q:=q2.toNat) (by omega),show (q2 / 10).toNat=q2.toNat / 10 by omega,List.append_assoc]
       rfl⟩
      clear hB hS2 hTT hBS hll hsl;go_wp2;go_roundw
      case rel=>exact ⟨_,_,rfl,rfl,by omega,by omega,H,hb3 _⟩
      case measure=>simp [intOf];omega
   ·rw [if_neg hf] at htl;have c1:(S.toList==[])=false:=by rw [hSl,beq_eq_false_iff_ne];exact hf
    have HF:=hid hfull;have HT:=hid htl;clear hfull htl hqe hS hSl hq;go_wp2;go_loopw [0,5] (fun q s wx=>∃(q2:Int) (S2:ByteArray),q=.int .i64 q2∧s=.string S2∧0≤q2∧q2≤9223372036854775807∧Hid (∃sl:List UInt8,S2=⟨sl.toArray⟩∧Lib.decDigits q2.toNat++sl=T)∧Below w.heap.size w wx) (fun q _ _=>(intOf q).toNat)
    case atStart=>exact ⟨q',_,rfl,rfl,q0,q1,hid ⟨_,HT.out.symm,HF.out⟩,hb⟩
    case round=>
     obtain ⟨q2,S2,rfl,rfl,r0,r1,hsl,hb2⟩:=hrel;obtain ⟨sl,hS2,hTT⟩:=hsl.out;obtain ⟨B,hB,hcv⟩:=digit_text q2 wr r0;have hBz:B.size=1:=by rw [hB,ba_size];rfl
     have hS2z:S2.size=sl.length:=by rw [hS2,ba_size]
     have hll:(Lib.decDigits q2.toNat++sl).length≤30:=by rw [hTT];exact hTl
     rw [List.length_append] at hll;have hs3:¬ 9223372036854775807<B.size+S2.size:=by omega
     have hb3:=fun o=>hb2.alloc hb2.size o;have hBS:B++S2=⟨(dch (q2.toNat % 10)::sl).toArray⟩:=by rw [hB,hS2,ba_append];rfl
     by_cases hl:q2<10
     ·have hz:q2 / 10=0:=by omega
      have hfin:Hid (B++S2=⟨T.toArray⟩):=hid (by rw [hBS,←hTT,dec_last (by omega),show q2.toNat % 10=q2.toNat by omega];rfl);clear hB hS2 hTT hBS hll hsl;go_wp2;go_ret;exact ⟨ret_s hfin.out,hb3 _⟩
     ·have hz:(q2 / 10==0)=false:=by simp;omega
      have H:Hid (∃sl:List UInt8,B++S2=⟨sl.toArray⟩∧Lib.decDigits (q2 / 10).toNat++sl=T):=hid ⟨_,hBS,by
       rw [←hTT,dec_more (q:=q2.toNat) (by omega),show (q2 / 10).toNat=q2.toNat / 10 by omega,List.append_assoc]
       rfl⟩
      clear hB hS2 hTT hBS hll hsl;go_wp2;go_roundw
      case rel=>exact ⟨_,_,rfl,rfl,by omega,by omega,H,hb3 _⟩
      case measure=>simp [intOf];omega
end R4
namespace Sw
open Go.RowKit Go.Sort P Mm
def Kz (w:World):Prop:=Dt.Tab w
theorem Kz.later {w w':World} (h:Kz w) (b:Below w.heap.size w w'):Kz w':=Dt.Tab.later h b
structure TxI (K:World→Prop):Prop where
 itoa:∀(n:Int) (w:World),K w→0≤n→I64 n→Calls Tryz.prog 50 #[.int .i64 n] w fun e w'=>e=.returned (.string ⟨(nmbT n).toArray⟩)∧Below w.heap.size w w'
theorem tx:TxI Kz where
 itoa:=fun n w T h0 h1=>by
  unfold I64 at h1;refine (Any.strconv_Itoa Tryz.laysM171 n (by omega) (by omega) w T).mono ?_;rintro e w' ⟨rfl,k,os,rfl⟩;refine ⟨?_,Lib.below_grow _ _ (Nat.le_refl _) _ _⟩;have e:n=(n.toNat:Int):=by omega
  rw [e,Lib.itoa_nonneg];rfl
end Sw
end Go.Proofs.YtofbobdhkbmbgaaGreatDoor
