/- What the document's answers for layer 5 (poundageref05) come to: letter, Words. -/
import Derived.Test.YtofbobdhkbmbgaaGreatDoorJRef4
set_option maxRecDepth 100000
set_option maxHeartbeats 8000000
namespace Go.Proofs.YtofbobdhkbmbgaaGreatDoor
namespace R5
open Go.RowKit P R4
theorem letter_any (x:Int) (w:World):Calls Tryz.prog 61 #[.int .u8 x] w fun e w'=>e=.returned (.bool (ltI x))∧w'=w:=by
 go_enter Tryz.func61,Tryz.ntmps61
 go_wp2
 all_goals
  go_ret;refine ⟨ret_b ?_,rfl⟩;unfold ltI
  simp_all
  try (rw [Bool.eq_iff_iff];simp only [Bool.or_eq_true,Bool.and_eq_true,beq_iff_eq,decide_eq_true_eq];omega)
def wordCells:Array Value:=(words.map fun l=>Value.string ⟨l.toArray⟩).toArray
theorem words_any (w:World):Calls Tryz.prog 111 #[] w fun e w'=>e=.returned (.slice (some ⟨w.heap.size,0,none⟩) 26 26)∧w'=w.alloc (.cells wordCells 9):=by
 go_enter Tryz.func111,Tryz.ntmps111
 go_wp2;go_ret;exact ⟨rfl,rfl⟩
theorem word_cell (w:World) (i:Nat) (hi:i<26):(w.alloc (.cells wordCells 9)).cell? ⟨w.heap.size,i,none⟩=some (.string ⟨(words.getD i []).toArray⟩):=by
 have hl:i<words.length:=hi;rw [World.cell?_alloc_new];show wordCells[i]?=_
 unfold wordCells;simp [List.getElem?_map,List.getElem?_eq_getElem hl]
end R5
namespace P
open Go.RowKit
def okAt (l:List UInt8) (i:Nat):Bool:=if i=4∨i=7 then decide (l.getD i 0=45) else isD (l.getD i 0)
def nvl (l:List UInt8):Nat→Nat
 | 0=>0
 | i+1=>if i=4∨i=7 then nvl l i else 10*nvl l i+((l.getD i 0).toNat-48)
theorem nvl_dash (l:List UInt8) {i:Nat} (h:i=4∨i=7):nvl l (i+1)=nvl l i:=by rw [nvl,if_pos h]
theorem nvl_dig (l:List UInt8) {i:Nat} (h:¬ (i=4∨i=7)):nvl l (i+1)=10*nvl l i+((l.getD i 0).toNat-48):=by rw [nvl,if_neg h]
theorem nvl_lt (l:List UInt8):∀i,(∀j,j<i→okAt l j=true)→nvl l i<10 ^ i
 | 0,_=>by simp [nvl]
 | i+1,h=>by
   have ih:=nvl_lt l i (fun j hj=>h j (by omega));have hi:=h i (by omega);rw [Nat.pow_succ];by_cases hd:i=4∨i=7
   ·rw [nvl_dash l hd];omega
   ·rw [nvl_dig l hd];unfold okAt at hi;rw [if_neg hd] at hi;have:=isD_lt hi;omega
theorem formed_iff {l:List UInt8} (hl:l.length=10):formed l=true↔∀j,j<10→okAt l j=true:=by
 obtain ⟨a,b,c,d,e,f,g,i,j,k,rfl⟩:=ten hl;constructor
 ·intro h;simp [formed] at h;obtain ⟨⟨rfl,rfl⟩,⟨ha,hb,hc,hd⟩,⟨hf,hg⟩,hj,hk⟩:=h;intro n hn;have hn':n=0∨n=1∨n=2∨n=3∨n=4∨n=5∨n=6∨n=7∨n=8∨n=9:=by omega
  rcases hn' with rfl|rfl|rfl|rfl|rfl|rfl|rfl|rfl|rfl|rfl;all_goals simp [okAt, *]
 ·intro h;have h0:=h 0 (by omega);have h1:=h 1 (by omega);have h2:=h 2 (by omega);have h3:=h 3 (by omega);have h4:=h 4 (by omega);have h5:=h 5 (by omega);have h6:=h 6 (by omega);have h7:=h 7 (by omega);have h8:=h 8 (by omega);have h9:=h 9 (by omega);simp [okAt] at h0 h1 h2 h3 h4 h5 h6 h7 h8 h9;simp [formed, *]
theorem not_formed {l:List UInt8} {j:Nat} (hl:l.length=10) (hj:j<10) (h:okAt l j=false):formed l=false:=by
 rw [Bool.eq_false_iff];intro k;have:=(formed_iff hl).1 k j hj;rw [h] at this;cases this
theorem nvl_ten {l:List UInt8} (hl:l.length=10) (h:formed l=true):(nvl l 10:Int) / 10000=yearOf l∧(nvl l 10:Int) / 100 % 100=monthOf l∧(nvl l 10:Int) % 100=dayOf l:=by
 obtain ⟨a,b,c,d,e,f,g,i,j,k,rfl⟩:=ten hl;simp [formed] at h;obtain ⟨⟨rfl,rfl⟩,⟨ha,hb,hc,hd⟩,⟨hf,hg⟩,hj,hk⟩:=h;have l1:=isD_lt ha;have l2:=isD_lt hb;have l3:=isD_lt hc;have l4:=isD_lt hd;have l5:=isD_lt hf;have l6:=isD_lt hg;have l7:=isD_lt hj;have l8:=isD_lt hk;simp only [nvl,yearOf,monthOf,dayOf,List.take,List.drop,val,List.foldl,List.getD_cons_zero,List.getD_cons_succ,Nat.reduceEqDiff,or_true,true_or,or_self,reduceIte];omega
end P
namespace R3
open Go.RowKit Go.Sort P
theorem parse_len (s:ByteArray) (w:World) (h:s.size≠10) :
  Calls Tryz.prog 64 #[.string s] w fun e w'=>e=.returned (.tuple #[.agg #[.int .i64 0,.int .i64 0,.int .i64 0],.bool false])∧Below w.heap.size w w':=by
 have h1:((s.size:Int) != 10)=true:=by simp;omega
 go_enter Tryz.func64,Tryz.ntmps64
 go_wp2;exact bodyPost_ret (v:=.tuple #[.agg #[.int .i64 0,.int .i64 0,.int .i64 0],.bool false]) (by simp [results,Tryz.results64,go_sem]) rfl ⟨rfl,(Below.refl _ _).alloc (Nat.le_refl _) _⟩
theorem byte_at (s:ByteArray) (i:Int) (h0:0≤i) (h1:i<s.size) (W:World):(Instr.index 9 (.string s) (.int .i64 i)).run Tryz.prog W=.ok (.int .u8 ((s.data.toList.getD i.toNat 0).toNat:Int)) W:=by
 have hl:i.toNat<s.data.toList.length:=by show _<s.size;omega
 rw [run_index_string W 9 s .i64 i Tryz.underlying9,dif_pos ⟨h0,h1⟩,List.getD_eq_getElem?_getD,List.getElem?_eq_getElem hl,at_byte s i.toNat (by omega),Option.getD_some]
theorem parse_walk (s:ByteArray) (G:Ending) (w:World) (hs:s.size=10)
  (hN:Hid (reads s.data.toList=false→.returned (.tuple #[.agg #[.int .i64 0,.int .i64 0,.int .i64 0],.bool false])=G))
  (hY:Hid (reads s.data.toList=true→.returned (.tuple #[.agg #[.int .i64 (yearOf s.data.toList),.int .i64 (monthOf s.data.toList),.int .i64 (dayOf s.data.toList)],.bool true])=G)) :
  Calls Tryz.prog 64 #[.string s] w fun e w'=>e=G∧Below w.heap.size w w':=by
 have hl:s.data.toList.length=10:=by simpa using hs
 have h1:(s.size:Int)=10:=by omega
 have B0:Below w.heap.size w (w.alloc (.cells #[.int .i64 0,.int .i64 0,.int .i64 0] 37)):=(Below.refl _ _).alloc (Nat.le_refl _) _;have hbyte:=byte_at s;obtain ⟨l,hlst⟩:∃l,l=s.data.toList:=⟨_,rfl⟩;rw [←hlst] at hN hY hl hbyte;go_enter Tryz.func64,Tryz.ntmps64
 go_wp2
 go_loop [4,5] (fun n i=>∃n' i':Int,n=.int .i64 n'∧i=.int .i64 i'∧0≤i'∧i'≤10∧Hid (n'=(nvl l i'.toNat:Int))∧Hid (∀j,j<i'.toNat→okAt l j=true)) (fun _ i=>(10-intOf i).toNat)
 case atStart=>exact ⟨0,0,rfl,rfl,by omega,by omega,rfl,hid (fun j hj=>by simp at hj)⟩
 case round=>
  obtain ⟨n',i',rfl,rfl,i0,i1,hn,hok⟩:=hrel;by_cases hi:i'<10
  ·have hx:=hbyte i' i0 (by omega);obtain ⟨x,hxx⟩:∃x:Int,x=((l.getD i'.toNat 0).toNat:Int):=⟨_,rfl⟩;rw [←hxx] at hx;have hlt:=nvl_lt l i'.toNat hok.out;have hpw:10 ^ i'.toNat≤10 ^ 9:=Nat.pow_le_pow_right (by decide) (by omega);have hn0:0≤n':=by rw [hn.out];omega
   have hn1:n'<1000000000:=by rw [hn.out];omega
   have e1:(i'+1).toNat=i'.toNat+1:=by omega
   have bad:okAt l i'.toNat=false→Hid (.returned (.tuple #[.agg #[.int .i64 0,.int .i64 0,.int .i64 0],.bool false])=G):=fun k=>hid (hN.out (by
    unfold reads;rw [not_formed hl (by omega) k]
    rfl))
   have nxt:okAt l i'.toNat=true→Hid (∀j,j<(i'+1).toNat→okAt l j=true):=fun k=>hid (fun j hj=>by
    rcases Nat.lt_or_ge j i'.toNat with a|a
    ·exact hok.out j a
    ·rw [show j=i'.toNat by omega];exact k)
   have hx0:0≤x:=by omega
   have hx1:x≤255:=by
    have:=(l.getD i'.toNat 0).toNat_lt;omega
   clear hlt hpw hbyte hN hY;by_cases hd:i'=4∨i'=7
   ·have hd':i'.toNat=4∨i'.toNat=7:=by omega
    have hnv:=nvl_dash l hd';by_cases h45:x=45
    ·have k:okAt l i'.toNat=true:=by
      unfold okAt;rw [if_pos hd',decide_eq_true_eq];exact UInt8.toNat_inj.1 (by show _=45;omega)
     have K:=nxt k;have HN:Hid (n'=(nvl l (i'+1).toNat:Int)):=hid (by rw [e1,hnv];exact hn.out);clear bad nxt k hd' hnv hxx hn hok e1;rcases hd with rfl|rfl
     all_goals
      subst h45;go_wp2
      go_round
      case rel=>exact ⟨n',_,rfl,rfl,by omega,by omega,HN,K⟩
      case measure=>simp [intOf]
    ·have k:okAt l i'.toNat=false:=by
      unfold okAt;rw [if_pos hd',decide_eq_false_iff_not];intro c;rw [c] at hxx;exact h45 hxx
     have hG:=bad k;have hne:(x != 45)=true:=by simpa using h45
     clear bad nxt k hd' hnv hxx hn hok e1;rcases hd with rfl|rfl
     all_goals
      go_wp2;exact bodyPost_ret (v:=.tuple #[.agg #[.int .i64 0,.int .i64 0,.int .i64 0],.bool false]) (by simp [results,Tryz.results64,go_sem, *]) rfl ⟨hG.out,B0⟩
   ·have hd':¬ (i'.toNat=4∨i'.toNat=7):=by omega
    have h4:¬ i'=4:=by omega
    have h7:¬ i'=7:=by omega
    have hnv:=nvl_dig l hd';have h4b:(i'==4)=false:=by simpa using h4
    have h7b:(i'==7)=false:=by simpa using h7
    by_cases hdig:48≤x∧x≤57
    ·have k:okAt l i'.toNat=true:=by
      unfold okAt isD;rw [if_neg hd',decide_eq_true_eq];omega
     have K:=nxt k;have HN:Hid (10*n'+(x-48)=(nvl l (i'+1).toNat:Int)):=hid (by rw [e1,hnv,hn.out];omega);obtain ⟨hg0,hg1⟩:=hdig;clear bad nxt k hd hd' hnv hxx hn hok e1;go_wp2
     go_round
     case rel=>exact ⟨_,i'+1,rfl,rfl,by omega,by omega,HN,K⟩
     case measure=>simp [intOf];omega
    ·have k:okAt l i'.toNat=false:=by
      unfold okAt isD;rw [if_neg hd',decide_eq_false_iff_not];omega
     have hG:=bad k;have hc:x<48∨(¬ x<48∧57<x):=by omega
     clear bad nxt k hd hd' hnv hxx hn hok e1 hdig;rcases hc with hc|⟨hc,hc2⟩
     all_goals
      go_wp2;exact bodyPost_ret (v:=.tuple #[.agg #[.int .i64 0,.int .i64 0,.int .i64 0],.bool false]) (by simp [results,Tryz.results64,go_sem, *]) rfl ⟨hG.out,B0⟩
  ·obtain rfl:i'=10:=by omega
   have hf:formed l=true:=(formed_iff hl).2 (fun j hj=>hok.out j (by simpa using hj));obtain ⟨ey,em,ed⟩:=nvl_ten hl hf;have hnv:n'=(nvl l 10:Int):=hn.out;have hlt:=nvl_lt l 10 (fun j hj=>hok.out j (by simpa using hj));rw [←hnv] at ey em ed;have hn0:0≤n':=by omega
   have hn1:n'<10000000000:=by omega
   have er:reads l=good (yearOf l) (monthOf l) (dayOf l):=by unfold reads;rw [hf];rfl
   have cG:∀W,Calls Tryz.prog 95 #[.agg #[.int .i64 (yearOf l),.int .i64 (monthOf l),.int .i64 (dayOf l)]] W fun e w'=>e=.returned (.bool (good (yearOf l) (monthOf l) (dayOf l)))∧Below W.heap.size W w':=fun W=>good_any _ _ _ W;obtain ⟨Y,hY'⟩:∃Y,Y=yearOf l:=⟨_,rfl⟩;obtain ⟨M,hM'⟩:∃M,M=monthOf l:=⟨_,rfl⟩;obtain ⟨D,hD'⟩:∃D,D=dayOf l:=⟨_,rfl⟩;rw [←hY',←hM',←hD'] at er hY;simp only [←hY',←hM',←hD'] at cG;rw [←hY'] at ey;rw [←hM'] at em;rw [←hD'] at ed;have LA:∀o,Lies3 ((w.alloc (.cells #[.int .i64 0,.int .i64 0,.int .i64 0] 37)).alloc o) w.heap.size (.int .i64 0) (.int .i64 0) (.int .i64 0):=fun o=>(Lies3.new rfl).alloc o;have hsz:(w.alloc (.cells #[.int .i64 0,.int .i64 0,.int .i64 0] 37)).heap.size=w.heap.size+1:=by simp
   clear hok hn hf hlt hY' hM' hD' hnv hbyte hlst hl;cases hg:good Y M D
   ·rw [hg] at cG er;have hG:=hid (hN.out er);clear hN hY er;go_wp2_with (go_at_call 95;refine (cG _).mono ?_;rintro e w2 ⟨rfl,b2⟩;have L2:=(LA _).on b2;have B2:=B0.trans ((box3 b2).2.2.2.2.mono B0.size);obtain ⟨l2,c0,c1,c2,f0,f1,f2⟩:=L2;clear LA B0 b2)
    exact bodyPost_ret (v:=.tuple #[.agg #[.int .i64 0,.int .i64 0,.int .i64 0],.bool false]) (by simp [results,Tryz.results64,go_sem, *]) rfl
     ⟨hG.out,((B2.setCell (Nat.le_refl _) _).setCell (Nat.le_refl _) _).setCell (Nat.le_refl _) _⟩
   ·rw [hg] at cG er;have hG:=hid (hY.out er);clear hN hY er;go_wp2_with (go_at_call 95;refine (cG _).mono ?_;rintro e w2 ⟨rfl,b2⟩;have L2:=(LA _).on b2;have LC:=Lies3.later b2 hsz;have B2:=B0.trans ((box3 b2).2.2.2.2.mono B0.size);obtain ⟨l2,c0,c1,c2,f0,f1,f2⟩:=L2;obtain ⟨l4,k0,k1,k2,q0,q1,q2⟩:=LC;clear LA B0 b2)
    exact bodyPost_ret (v:=.tuple #[.agg #[.int .i64 Y,.int .i64 M,.int .i64 D],.bool true]) (by simp [results,Tryz.results64,go_sem, *]) rfl
     ⟨hG.out,((B2.setCell (Nat.le_refl _) _).setCell (Nat.le_refl _) _).setCell (Nat.le_refl _) _⟩
end R3
namespace R5
open Go.RowKit P R4
theorem below_on {w W w':World} (h:Below w.heap.size w W) (hb:Below W.heap.size W w'):Below w.heap.size w w':=h.trans (hb.mono h.size)
theorem day_any (s:ByteArray):∃v:Value,∃A B C:Int,v=.agg #[.int .i64 A,.int .i64 B,.int .i64 C]∧
  ∀w:World,Calls Tryz.prog 64 #[.string s] w fun e w'=>e=.returned (.tuple #[v,.bool (reads s.data.toList)])∧Below w.heap.size w w':=by
 by_cases hs:s.size=10
 ·cases hr:reads s.data.toList
  ·exact ⟨_,0,0,0,rfl,fun w=>R3.parse_walk s _ w hs (hid fun _=>rfl) (hid fun k=>by rw [hr] at k;cases k)⟩
  ·exact ⟨_,_,_,_,rfl,fun w=>R3.parse_walk s _ w hs (hid fun k=>by rw [hr] at k;cases k) (hid fun _=>rfl)⟩
 ·have hr:reads s.data.toList=false:=by
   have:s.data.toList.length≠10:=by simpa using hs
   unfold reads formed;rw [decide_eq_false this];rfl
  rw [hr];exact ⟨_,0,0,0,rfl,fun w=>R3.parse_len s w hs⟩
theorem below_words {w w2:World} (h:w2=w.alloc (.cells wordCells 9)):Below w.heap.size w w2:=by rw [h];exact (Below.refl _ _).alloc (Nat.le_refl _) _
theorem kd_sign {l:List UInt8} (h:l=[123]∨l=[125]∨l=[59]):kd l=5:=by unfold kd;rw [if_pos h]
theorem kd_none {l:List UInt8} (h:¬ (l=[123]∨l=[125]∨l=[59])) (h2:l=[]∨l.all isLt=false):kd l=0:=by unfold kd;rw [if_neg h,if_pos h2]
theorem kd_word {l:List UInt8} (h:¬ (l=[123]∨l=[125]∨l=[59])) (h2:¬ (l=[]∨l.all isLt=false)) (h3:words.contains l=true):kd l=2:=by unfold kd;rw [if_neg h,if_neg h2,if_pos h3]
theorem kd_rest {l:List UInt8} (h:¬ (l=[123]∨l=[125]∨l=[59])) (h2:¬ (l=[]∨l.all isLt=false)) (h3:words.contains l=false) :
  kd l=if plain l&&!isDg (l.getD 0 0) then 1 else if fm l≠0 then 3 else if reads l then 4 else 0:=by unfold kd;rw [if_neg h,if_neg h2,if_neg (by rw [h3];decide)]
theorem of_any (s:ByteArray) (w:World) (hs:s.size≤1000000):Calls Tryz.prog 62 #[.string s] w fun e w'=>e=.returned (.int .i64 (kd s.data.toList))∧Below w.heap.size w w':=by
 have cD:=fun W=>R4.of_any s W (by omega);obtain ⟨dv,A,B,C,hdv,cP⟩:=day_any s;subst hdv;obtain ⟨l,hl⟩:∃l,l=s.data.toList:=⟨_,rfl⟩;have hbyte:=R4.byte_at s;have hz:l.length=s.size:=by rw [hl];simp
 have htl:s.toList=l:=by rw [Lib.toList_data,hl]
 rw [←hl];rw [←hl] at hbyte;simp only [←hl] at cD cP;clear hl;by_cases hsg:l=[123]∨l=[125]∨l=[59]
 ·have hk:=hid (kd_sign hsg)
  have hc:(l==[123])=true∨((l==[123])=false∧(l==[125])=true)∨((l==[123])=false∧(l==[125])=false∧(l==[59])=true):=by
   rcases hsg with h|h|h<;>rw [h]<;>decide
  clear hsg hbyte cD cP;go_enter Tryz.func62,Tryz.ntmps62
  rcases hc with h|⟨h,h1⟩|⟨h,h1,h2⟩
  all_goals
   go_wp2;go_ret;exact ⟨ret_i (by rw [hk.out];rfl),Below.refl _ _⟩
 ·have t1:(l==[123])=false:=beq_eq_false_iff_ne.2 (fun e=>hsg (.inl e));have t2:(l==[125])=false:=beq_eq_false_iff_ne.2 (fun e=>hsg (.inr (.inl e)));have t3:(l==[59])=false:=beq_eq_false_iff_ne.2 (fun e=>hsg (.inr (.inr e)));have HS:=hid hsg;clear hsg;by_cases hn:l=[]
  ·have hk:=hid (kd_none HS.out (.inl hn));have t4:(l==[])=true:=by rw [hn];rfl
   clear hn hbyte cD cP;go_enter Tryz.func62,Tryz.ntmps62
   go_wp2;go_ret;exact ⟨ret_i (by rw [hk.out];rfl),Below.refl _ _⟩
  ·have t4:(l==[])=false:=beq_eq_false_iff_ne.2 hn;have hlp:0<l.length:=List.length_pos_iff.2 hn;have HN:=hid hn;clear hn;go_enter Tryz.func62,Tryz.ntmps62
   go_wp2
   go_loop [3,4] (fun p i=>∃(p':Bool) (i':Int),p=.bool p'∧i=.int .i64 i'∧0≤i'∧i'≤s.size∧Hid (p'=plain (l.take i'.toNat)∧(l.take i'.toNat).all isLt=true)) (fun _ i=>((s.size:Int)-intOf i).toNat)
   case atStart=>exact ⟨true,0,rfl,rfl,by omega,by omega,hid ⟨rfl,rfl⟩⟩
   case round=>
    obtain ⟨p',i',rfl,rfl,i0,i1,hst⟩:=hrel;by_cases hi:i'<s.size
    ·have hil:i'.toNat<l.length:=by omega
     have hb:=hbyte i' i0 hi;have e1:(i'+1).toNat=i'.toNat+1:=by omega
     obtain ⟨hp,ha⟩:=hst.out;have hlt:=ltI_of (l.getD i'.toNat 0);have hts:=take_snoc hil
     have bad:isLt (l.getD i'.toNat 0)=false→Hid (kd l=0):=fun h=>hid (kd_none HS.out (.inr (by
      rw [Bool.eq_false_iff];intro k;rw [List.all_eq_true] at k;rw [k _ (mem_getD hil)] at h
      cases h)))
     have nxt:isLt (l.getD i'.toNat 0)=true→Hid ((p'&&(!(l.getD i'.toNat 0==46)&&!(l.getD i'.toNat 0==45)))=plain (l.take (i'+1).toNat)∧(l.take (i'+1).toNat).all isLt=true):=fun h=>hid ⟨by
      rw [e1,hts,hp];unfold plain;rw [List.all_append]
      simp,by rw [e1,hts,List.all_append,ha];simpa using h⟩
     have h46:((l.getD i'.toNat 0).toNat:Int)=46↔l.getD i'.toNat 0=46:=by
      constructor
      ·intro h;exact UInt8.toNat_inj.1 (by show _=46;omega)
      ·intro h;rw [h];rfl
     have h45:((l.getD i'.toNat 0).toNat:Int)=45↔l.getD i'.toNat 0=45:=by
      constructor
      ·intro h;exact UInt8.toNat_inj.1 (by show _=45;omega)
      ·intro h;rw [h];rfl
     obtain ⟨c,hc⟩:∃c,c=l.getD i'.toNat 0:=⟨_,rfl⟩;rw [←hc] at hlt bad nxt h46 h45;simp only [←hc] at hb;obtain ⟨z,hz'⟩:∃z:Int,z=(c.toNat:Int):=⟨_,rfl⟩;rw [←hz'] at hlt h46 h45;simp only [←hz'] at hb;clear hst hp ha hts hc hz' hbyte e1;cases hL:isLt c
     ·have hG:=bad hL;rw [hL] at hlt;clear bad nxt h46 h45;go_wp2_with (go_at_call 61;refine (letter_any _ _).mono ?_;rintro e w' ⟨rfl,h'⟩;rw [h'])
      go_ret;exact ⟨ret_i (by rw [hG.out];rfl),Below.refl _ _⟩
     ·have H:=nxt hL;rw [hL] at hlt
      have hzz:(p'=false)∨(p'=true∧z=46)∨(p'=true∧z≠46∧z=45)∨(p'=true∧z≠46∧z≠45):=by
       cases p'<;>simp<;>omega
      have s46:(c==46)=(z==46):=by rw [Bool.eq_iff_iff,beq_iff_eq,beq_iff_eq];exact h46.symm
      have s45:(c==45)=(z==45):=by rw [Bool.eq_iff_iff,beq_iff_eq,beq_iff_eq];exact h45.symm
      rw [s46,s45] at H;clear bad nxt h46 h45 s46 s45 hL;rcases hzz with rfl|⟨rfl,hz1⟩|⟨rfl,hz1,hz2⟩|⟨rfl,hz1,hz2⟩
      ·go_wp2_with (go_at_call 61;refine (letter_any _ _).mono ?_;rintro e w' ⟨rfl,h'⟩;rw [h'])
       go_round
       case rel=>exact ⟨_,i'+1,rfl,rfl,by omega,by omega,H⟩
       case measure=>simp [intOf];omega
      ·have b1:(z != 46)=false:=by rw [hz1];rfl
       rw [show (z==46)=true by rw [hz1];rfl] at H;clear hz1;go_wp2_with (go_at_call 61;refine (letter_any _ _).mono ?_;rintro e w' ⟨rfl,h'⟩;rw [h'])
       go_round
       case rel=>exact ⟨_,i'+1,rfl,rfl,by omega,by omega,H⟩
       case measure=>simp [intOf];omega
      ·have b1:(z != 46)=true:=bne_iff_ne.2 hz1;have b2:(z != 45)=false:=by rw [hz2];rfl
       rw [beq_eq_false_iff_ne.2 hz1,show (z==45)=true by rw [hz2];rfl] at H;clear hz1 hz2;go_wp2_with (go_at_call 61;refine (letter_any _ _).mono ?_;rintro e w' ⟨rfl,h'⟩;rw [h'])
       go_round
       case rel=>exact ⟨_,i'+1,rfl,rfl,by omega,by omega,H⟩
       case measure=>simp [intOf];omega
      ·have b1:(z != 46)=true:=bne_iff_ne.2 hz1;have b2:(z != 45)=true:=bne_iff_ne.2 hz2;rw [beq_eq_false_iff_ne.2 hz1,beq_eq_false_iff_ne.2 hz2] at H;clear hz1 hz2;go_wp2_with (go_at_call 61;refine (letter_any _ _).mono ?_;rintro e w' ⟨rfl,h'⟩;rw [h'])
       go_round
       case rel=>exact ⟨_,i'+1,rfl,rfl,by omega,by omega,H⟩
       case measure=>simp [intOf];omega
    ·obtain rfl:i'=s.size:=by omega
     obtain ⟨hp,ha⟩:=hst.out;rw [show ((s.size:Int)).toNat=l.length by omega,List.take_length] at hp ha;have hnn:¬ (l=[]∨l.all isLt=false):=by rw [ha];rintro (k|k);exact HN.out k;cases k
     have wrd:words.contains l=true→Hid (kd l=2):=fun h=>hid (kd_word HS.out hnn h);have rst:words.contains l=false→Hid (kd l=if plain l&&!isDg (l.getD 0 0) then 1 else if fm l≠0 then 3 else if reads l then 4 else 0):=fun h=>hid (kd_rest HS.out hnn h);have x0:=hbyte 0 (by omega) (by omega);have hd0:=dgI_of (l.getD 0 0);obtain ⟨x,hx⟩:∃x:Int,x=((l.getD (0:Int).toNat 0).toNat:Int):=⟨_,rfl⟩;simp only [←hx] at x0;rw [show ((l.getD 0 0).toNat:Int)=x from hx.symm] at hd0;obtain ⟨F,hF⟩:∃F:Int,F=(fm l:Int):=⟨_,rfl⟩;simp only [←hF] at cD;have HP:=hid hp;clear hst hbyte hx hp;go_wp2_with (go_at_call 111;refine (words_any _).mono ?_;rintro e w2 ⟨rfl,h2⟩;have hcell:=word_cell w;simp only [←h2] at hcell;have B2:=below_words h2;clear h2)
     go_loop [47] (fun i=>∃j':Int,i=.int .i64 j'∧0≤j'∧j'≤26∧Hid (∀j,j<j'.toNat→words.getD j []≠l)) (fun i=>((26:Int)-intOf i).toNat)
     case atStart=>exact ⟨0,rfl,by omega,by omega,hid (fun j hj=>by simp at hj)⟩
     case round=>
      obtain ⟨j',rfl,j0,j1,hj⟩:=hrel;by_cases hlt:j'<26
      ·have hc:=hcell j'.toNat (by omega);obtain ⟨X,hX⟩:∃X:ByteArray,X=⟨(words.getD j'.toNat []).toArray⟩:=⟨_,rfl⟩;rw [←hX] at hc;clear hcell;obtain ⟨wl,hwl⟩:∃wl,wl=words.getD j'.toNat []:=⟨_,rfl⟩;have hXl:X.toList=wl:=by rw [Lib.toList_data,hX,hwl]
       by_cases he:wl=l
       ·have hmem:words.contains l=true:=by
         rw [List.contains_iff_mem,←he,hwl,List.getD_eq_getElem?_getD,List.getElem?_eq_getElem (show j'.toNat<words.length by show _<26;omega)];exact List.getElem_mem _
        have hG:=wrd hmem;have b1:(wl==l)=true:=by rw [he];simp
        clear hX hwl he hj wrd rst;go_wp2;go_ret;exact ⟨ret_i (by rw [hG.out];rfl),B2⟩
       ·have b1:(wl==l)=false:=beq_eq_false_iff_ne.2 he
        have H:Hid (∀j,j<(j'+1).toNat→words.getD j []≠l):=hid (fun j hjj=>by
         rcases Nat.lt_or_ge j j'.toNat with a|a
         ·exact hj.out j a
         ·rw [show j=j'.toNat by omega,←hwl];exact he)
        clear hX hwl he hj;go_wp2
        go_round
        case rel=>exact ⟨j'+1,rfl,by omega,by omega,H⟩
        case measure=>simp [intOf];omega
      ·obtain rfl:j'=26:=by omega
       have hno:words.contains l=false:=by
        rw [Bool.eq_false_iff];intro k;rw [List.contains_iff_mem] at k;obtain ⟨i,hi1,hi2⟩:=List.getElem_of_mem k;refine hj.out i hi1 ?_;rw [List.getD_eq_getElem?_getD,List.getElem?_eq_getElem hi1];exact hi2
       have hR:=(rst hno).out;rw [←HP.out,←hd0] at hR;have hR1:fm l≠0↔F≠0:=by omega
       have hF0:0≤F:=by omega
       clear hcell wrd rst hj hno hnn hF;have fin:∀n:Nat,kd l=n→Hid (((kd l:Nat):Int)=(n:Int)):=fun n h=>hid (by rw [h]);by_cases hdx:dgI x=true
       ·rw [hdx] at hR;simp only [Bool.not_true,Bool.and_false,Bool.false_eq_true,if_false] at hR;have hx48:48≤x:=by unfold dgI at hdx;rw [decide_eq_true_eq] at hdx;omega
        have hx57:x≤57:=by unfold dgI at hdx;rw [decide_eq_true_eq] at hdx;omega
        by_cases hf:F=0
        ·rw [if_neg (by omega)] at hR;subst hf;cases hrd:reads l
         ·rw [hrd] at hR cP;have hG:=fin 0 hR;clear hR hd0 HP fin hdx;cases p'
          all_goals
           go_wp2_with (first
            | (go_at_call 112;refine (cD _).mono ?_;rintro e w' ⟨rfl,h'⟩;rw [h'])
            | (go_at_call 64;refine (cP _).mono ?_;rintro e w3 ⟨rfl,b3⟩;have B3:=below_on B2 b3))
           all_goals
            go_ret;exact ⟨ret_i hG.out.symm,B3.alloc B3.size _⟩
         ·rw [hrd] at hR cP;have hG:=fin 4 hR;clear hR hd0 HP fin hdx;cases p'
          all_goals
           go_wp2_with (first
            | (go_at_call 112;refine (cD _).mono ?_;rintro e w' ⟨rfl,h'⟩;rw [h'])
            | (go_at_call 64;refine (cP _).mono ?_;rintro e w3 ⟨rfl,b3⟩;have B3:=below_on B2 b3))
           all_goals
            go_ret;exact ⟨ret_i hG.out.symm,B3.alloc B3.size _⟩
        ·have hFp:0<F:=by omega
         rw [if_pos (by omega)] at hR;have hG:=fin 3 hR;clear hR hd0 HP fin hdx cP;cases p'
         all_goals
          go_wp2_with (go_at_call 112;refine (cD _).mono ?_;rintro e w' ⟨rfl,h'⟩;rw [h'])
          all_goals
           go_ret;exact ⟨ret_i hG.out.symm,B2⟩
       ·have hdx':dgI x=false:=by simpa using hdx
        have hxr:x<48∨(¬ x<48∧57<x):=by unfold dgI at hdx';rw [decide_eq_false_iff_not] at hdx';omega
        rw [hdx'] at hR;cases p'
        ·simp only [Bool.false_and,Bool.false_eq_true,if_false] at hR;by_cases hf:F=0
         ·rw [if_neg (by omega)] at hR;subst hf;cases hrd:reads l
          all_goals
           rw [hrd] at hR cP;have hG:=fin _ hR;clear hR hd0 HP fin hdx hdx'
           go_wp2_with (first
            | (go_at_call 112;refine (cD _).mono ?_;rintro e w' ⟨rfl,h'⟩;rw [h'])
            | (go_at_call 64;refine (cP _).mono ?_;rintro e w3 ⟨rfl,b3⟩;have B3:=below_on B2 b3))
           all_goals
            go_ret;exact ⟨ret_i hG.out.symm,B3.alloc B3.size _⟩
         ·have hFp:0<F:=by omega
          rw [if_pos (by omega)] at hR;have hG:=fin 3 hR;clear hR hd0 HP fin hdx hdx' cP;go_wp2_with (go_at_call 112;refine (cD _).mono ?_;rintro e w' ⟨rfl,h'⟩;rw [h'])
          all_goals
           go_ret;exact ⟨ret_i hG.out.symm,B2⟩
        ·have hG:=fin 1 hR;clear hR hd0 HP fin hdx hdx' cP cD;rcases hxr with h|⟨h,h2⟩
         all_goals
          go_wp2
          all_goals
           go_ret;exact ⟨ret_i hG.out.symm,B2⟩
def tokCells (ts:List Tok):List Value:=ts.flatMap fun t=>[.int .i64 t.k,.string ⟨t.t.toArray⟩,.int .i64 t.ln,.int .i64 t.cl]
theorem tokCells_snoc (ts:List Tok) (t:Tok):tokCells (ts++[t])=tokCells ts++[.int .i64 t.k,.string ⟨t.t.toArray⟩,.int .i64 t.ln,.int .i64 t.cl]:=by unfold tokCells;simp
theorem owns_below {w w1:World} {base:Nat} {e:TypeId} {size n:Nat} {v:Value} {xs:List Value} (h:w.ownsRow base e size v n xs) (b:Below w.heap.size w w1):w1.ownsRow base e size v n xs:=by
 refine ⟨h.1,?_⟩;rcases h.2 with h2|⟨g,cap,cur,h1,h2,h3,h4⟩
 ·exact .inl h2
 ·have hg:g<w.heap.size:=by
   rcases Nat.lt_or_ge g w.heap.size with k|k
   ·exact k
   ·rw [Array.getElem?_eq_none k] at h3;cases h3
  exact .inr ⟨g,cap,cur,h1,h2,by rw [b.block g hg];exact h3,h4⟩
theorem info_tok:(Tryz.prog.info? 76).map (fun i=>(i.zero,i.size,i.bytes))=some (some (.agg #[.int .i64 0,.string ⟨#[]⟩,.int .i64 0,.int .i64 0]),4,40):=by kernel_rfl
theorem und_toks:Tryz.prog.underlying 69=some (.slice 76):=by kernel_rfl
theorem lex_any (s:ByteArray) (w:World):Calls Tryz.prog 22 #[.string s] w fun e w'=>∃v,e=.returned (.tuple #[v,.int .i64 (lexed s.data.toList).2.1,.int .i64 (lexed s.data.toList).2.2.1,.int .i64 (lexed s.data.toList).2.2.2])∧
  w'.ownsRow w.heap.size 76 4 v (lexed s.data.toList).1.length (tokCells (lexed s.data.toList).1)∧Below w.heap.size w w':=by
 obtain ⟨i0,hi,hz0,hz1,hz2⟩:=info_parts info_tok;have hbyte:=R4.byte_at s;obtain ⟨l,hl⟩:∃l,l=s.data.toList:=⟨_,rfl⟩;have hz:l.length=s.size:=by rw [hl];simp
 rw [←hl];rw [←hl] at hbyte;by_cases hbig:8192<s.size
 ·have hG:=hid (lexed_great (show 8192<l.length by omega));clear hbyte hl;go_enter Tryz.func22,Tryz.ntmps22
  go_wp2;refine bodyPost_ret (v:=.tuple #[.slice none 0 0,.int .i64 6,.int .i64 1,.int .i64 1]) (by simp [results,Tryz.results22,go_sem]) rfl ?_;rw [hG.out];exact ⟨_,rfl,World.ownsRow_nil _ _ _ _,Below.refl _ _⟩
 ·have HY:=hid hbyte;clear hbyte;go_enter Tryz.func22,Tryz.ntmps22
  go_wp2
  go_loopw [6,7,8,9] (fun v ln cl i wr=>∃(L C i':Int) (acc:List Tok),ln=.int .i64 L∧cl=.int .i64 C∧i=.int .i64 i'∧0≤i'∧i'≤s.size∧1≤L∧L≤i'+1∧1≤C∧C≤i'+1∧
   Hid (Sofar l i'.toNat L.toNat C.toNat acc∧wr.ownsRow w.heap.size 76 4 v acc.length (tokCells acc)∧Below w.heap.size w wr)) (fun _ _ _ i _=>((s.size:Int)-intOf i).toNat)
  case atStart=>exact ⟨1,1,0,[],rfl,rfl,rfl,by omega,by omega,by omega,by omega,by omega,by omega,hid ⟨read_start l,World.ownsRow_nil _ _ _ _,Below.refl _ _⟩⟩
  case round=>
   obtain ⟨L,C,i',acc,rfl,rfl,rfl,i0',i1,L0,L1,C0,C1,hst⟩:=hrel;by_cases hlt:i'<s.size
   ·have hb:=HY.out i' i0' hlt;have hil:i'.toNat<l.length:=by omega
    obtain ⟨c,hc⟩:∃c,c=l.getD i'.toNat 0:=⟨_,rfl⟩;simp only [←hc] at hb;have hx:∀n:UInt8,((c.toNat:Int)=(n.toNat:Int)↔c=n):=fun n=>⟨fun h=>UInt8.toNat_inj.1 (by omega),fun h=>by rw [h]⟩;have x35:=hx 35;have x10:=hx 10;have x32:=hx 32;have x9:=hx 9;have x13:=hx 13;have hlc:=ltI_of c;obtain ⟨x,hxx⟩:∃x:Int,x=(c.toNat:Int):=⟨_,rfl⟩;rw [←hxx] at x35 x10 x32 x9 x13 hlc;simp only [←hxx] at hb;simp only [show ((35:UInt8).toNat:Int)=35 from rfl,show ((10:UInt8).toNat:Int)=10 from rfl,show ((32:UInt8).toNat:Int)=32 from rfl,show ((9:UInt8).toNat:Int)=9 from rfl,show ((13:UInt8).toNat:Int)=13 from rfl] at x35 x10 x32 x9 x13;clear hx hxx;have HC:=hid hc;clear hc;obtain ⟨hR,hO,hB⟩:=hst.out;by_cases n35:x=35
    ·-- a note
     subst n35;have c35:=hid (x35.1 rfl);clear x35 x10 x32 x9 x13 hlc hR hO hB;go_wp2
     go_loop [11] (fun k=>∃k':Int,k=.int .i64 k'∧i'+1≤k'∧k'≤s.size∧Hid (∀j:Nat,i'.toNat+1≤j→j<k'.toNat→l.getD j 0≠10)) (fun k=>((s.size:Int)-intOf k).toNat)
     case atStart=>exact ⟨i'+1,rfl,by omega,by omega,hid (fun j a b=>by omega)⟩
     case round=>
      obtain ⟨k',rfl,k0,k1,hk⟩:=hrel;by_cases hkl:k'<s.size
      ·have hbk:=HY.out k' (by omega) hkl;obtain ⟨d,hd⟩:∃d,d=l.getD k'.toNat 0:=⟨_,rfl⟩;simp only [←hd] at hbk;obtain ⟨y,hy⟩:∃y:Int,y=(d.toNat:Int):=⟨_,rfl⟩;have hd10:y=10↔d=10:=⟨fun h=>UInt8.toNat_inj.1 (by show _=10;omega),fun h=>by rw [hy,h];rfl⟩;simp only [←hy] at hbk;clear hy;by_cases hy10:y=10
       ·have hp:=hid (piece_note (k:=k'.toNat) hil (by omega) (by omega) (HC.out.symm.trans c35.out) hk.out (fun _=>hd.symm.trans (hd10.1 hy10)));have b1:(y != 10)=false:=by rw [hy10];rfl
        have hR2:=hid (hst.out.1.skip (k:=k'.toNat) hil (by rw [←HC.out,c35.out];decide) (by rw [←HC.out,c35.out];decide) (by omega) hp.out);clear hd hd10 hy10 hk hp;go_wp2;go_roundw
        case rel=>exact ⟨L,C+(k'-i'),k',acc,rfl,vi (by omega),rfl,by omega,by omega,by omega,by omega,by omega,by omega,hid ⟨by
         rw [show (C+(k'-i')).toNat=C.toNat+(k'.toNat-i'.toNat) by omega];exact hR2.out,hst.out.2⟩⟩
        case measure=>simp [intOf];omega
       ·have b1:(y != 10)=true:=bne_iff_ne.2 hy10
        have hk2:Hid (∀j:Nat,i'.toNat+1≤j→j<(k'+1).toNat→l.getD j 0≠10):=hid (fun j a b=>by
         rcases Nat.lt_or_ge j k'.toNat with h|h
         ·exact hk.out j a h
         ·rw [show j=k'.toNat by omega,←hd];exact fun h=>hy10 (hd10.2 h))
        clear hd hd10 hy10 hk;go_wp2
        go_round
        case rel=>exact ⟨k'+1,rfl,by omega,by omega,hk2⟩
        case measure=>simp [intOf];omega
      ·obtain rfl:k'=s.size:=by omega
       have hp:=hid (piece_note (k:=(s.size:Int).toNat) hil (by omega) (by omega) (HC.out.symm.trans c35.out) hk.out (fun h=>by omega));have hR2:=hid (hst.out.1.skip (k:=(s.size:Int).toNat) hil (by rw [←HC.out,c35.out];decide) (by rw [←HC.out,c35.out];decide) (by omega) hp.out);clear hk hp;go_wp2;go_roundw
       case rel=>exact ⟨L,C+(s.size-i'),s.size,acc,rfl,vi (by omega),rfl,by omega,by omega,by omega,by omega,by omega,by omega,hid ⟨by
        rw [show (C+((s.size:Int)-i')).toNat=C.toNat+((s.size:Int).toNat-i'.toNat) by omega];exact hR2.out,hst.out.2⟩⟩
       case measure=>simp [intOf];omega
    ·by_cases n10:x=10
     ·subst n10;have hR2:=hid (hR.line hil (HC.out.symm.trans (x10.1 rfl)));clear x35 x10 x32 x9 x13 hlc hR hO hB n35;go_wp2;go_roundw
      case rel=>exact ⟨L+1,1,i'+1,acc,rfl,rfl,rfl,by omega,by omega,by omega,by omega,by omega,by omega,hid ⟨by
       rw [show (L+1).toNat=L.toNat+1 by omega,show (i'+1).toNat=i'.toNat+1 by omega];exact hR2.out,hst.out.2⟩⟩
      case measure=>simp [intOf];omega
     ·by_cases hg:x=32∨x=9∨x=13
      ·have hcc:c=32∨c=9∨c=13:=by
        rcases hg with h|h|h
        ·exact .inl (x32.1 h)
        ·exact .inr (.inl (x9.1 h))
        ·exact .inr (.inr (x13.1 h))
       have hgap:isGap c=true∧c≠10∧skips c=true:=by
        rcases hcc with h|h|h<;>rw [h]<;>decide
       have hR2:=hid (hR.skip (k:=i'.toNat+1) hil (by rw [←HC.out];exact hgap.2.2) (by rw [←HC.out];exact hgap.2.1) (by omega) ((piece_gap hil (by rw [←HC.out];exact hgap.1)).trans (by omega)));clear x35 x10 x32 x9 x13 hlc hR hO hB hcc hgap n35 n10
       have hend:Hid (Sofar l (i'+1).toNat L.toNat (C+1).toNat acc):=hid (by
        have:=hR2.out
        rw [show (i'+1).toNat=i'.toNat+1 by omega,show (C+1).toNat=C.toNat+(i'.toNat+1-i'.toNat) by omega];exact this)
       clear hR2;rcases hg with h|h|h
       all_goals
        subst h;go_wp2;go_roundw
        case rel=>exact ⟨L,C+1,i'+1,acc,rfl,vi (by omega),rfl,by omega,by omega,by omega,by omega,by omega,by omega,hid ⟨hend.out,hst.out.2⟩⟩
        case measure=>simp [intOf];omega
      ·have n32:x≠32:=fun h=>hg (.inl h);have n9:x≠9:=fun h=>hg (.inr (.inl h));have n13:x≠13:=fun h=>hg (.inr (.inr h))
       have hsk:skips (l.getD i'.toNat 0)=false:=by
        rw [←HC.out];unfold skips isGap;rw [beq_eq_false_iff_ne.2 (fun h=>n35 (x35.2 h)),beq_eq_false_iff_ne.2 (fun h=>n10 (x10.2 h)),beq_eq_false_iff_ne.2 (fun h=>n32 (x32.2 h)),beq_eq_false_iff_ne.2 (fun h=>n9 (x9.2 h)),beq_eq_false_iff_ne.2 (fun h=>n13 (x13.2 h))];rfl
       have HS:=hid hsk;have b35:(x==35)=false:=beq_eq_false_iff_ne.2 n35;have b10:(x==10)=false:=beq_eq_false_iff_ne.2 n10;have b32:(x != 32)=true:=bne_iff_ne.2 n32;have b9:(x != 9)=true:=bne_iff_ne.2 n9;have bb:(x != 10)=true:=bne_iff_ne.2 n10;have b13:(x != 13)=true:=bne_iff_ne.2 n13;clear x35 x10 x32 x9 x13 hR hO hB n35 n10 n32 n9 n13 hg hsk;go_wp2
       go_loop [11] (fun k=>∃k':Int,k=.int .i64 k'∧i'+1≤k'∧k'≤s.size∧Hid ((∀j:Nat,i'.toNat+1≤j→j<k'.toNat→isLt (l.getD j 0)=true)∧(isLt c=false→k'=i'+1))) (fun k=>((s.size:Int)-intOf k).toNat)
       case atStart=>exact ⟨i'+1,rfl,by omega,by omega,hid ⟨fun j a b=>by omega,fun _=>rfl⟩⟩
       case round=>
        obtain ⟨k',rfl,k0,k1,hk⟩:=hrel;have hbk:k'<s.size→_:=fun h=>HY.out k' (by omega) h;obtain ⟨d,hd⟩:∃d,d=l.getD k'.toNat 0:=⟨_,rfl⟩;simp only [←hd] at hbk;have hlk:=ltI_of d;obtain ⟨y,hy⟩:∃y:Int,y=(d.toNat:Int):=⟨_,rfl⟩;rw [←hy] at hlk;simp only [←hy] at hbk;clear hy;by_cases hgo:ltI x=true∧k'<s.size∧ltI y=true
        ·obtain ⟨g1,g2,g3⟩:=hgo;have hb2:=hbk g2
         have hk2:Hid ((∀j:Nat,i'.toNat+1≤j→j<(k'+1).toNat→isLt (l.getD j 0)=true)∧(isLt c=false→k'+1=i'+1)):=hid ⟨fun j a b=>by
          rcases Nat.lt_or_ge j k'.toNat with h|h
          ·exact hk.out.1 j a h
          ·rw [show j=k'.toNat by omega,←hd,←hlk];exact g3,fun h=>by rw [←hlc,g1] at h;cases h⟩
         clear hbk hd hlk hlc hk;go_wp2_with (go_at_call 61;refine (letter_any _ _).mono ?_;rintro e w' ⟨rfl,h'⟩;rw [h'])
         go_round
         case rel=>exact ⟨k'+1,rfl,by omega,by omega,hk2⟩
         case measure=>simp [intOf];omega
        ·have hex:ltI x=false∨(ltI x=true∧(s.size:Int)≤k')∨(ltI x=true∧k'<s.size∧ltI y=false):=by
          cases h1:ltI x
          ·exact .inl rfl
          ·by_cases h2:k'<s.size
           ·cases h3:ltI y
            ·exact .inr (.inr ⟨rfl,h2,rfl⟩)
            ·exact absurd ⟨h1,h2,h3⟩ hgo
           ·exact .inr (.inl ⟨rfl,by omega⟩)
         have hp:=hid (piece_row (k:=k'.toNat) hil (by omega) (by omega) HS.out hk.out.1 (fun a b=>by
          rw [←HC.out,←hlc] at a;rw [←hd,←hlk];rcases hex with h|⟨_,h⟩|⟨_,_,h⟩
          ·rw [h] at a;cases a
          ·omega
          ·exact h) (fun a=>by have:=hk.out.2 (by rw [HC.out];exact a);omega))
         clear hgo hk hd hlk hlc;obtain ⟨t,ht⟩:∃t,t=(l.drop i'.toNat).take (k'.toNat-i'.toNat):=⟨_,rfl⟩;have hex':(s.extract i'.toNat k'.toNat).data.toList=t:=by rw [Lib.extract_data,←hl,ht]
         have hsl:=fun W=>run_slice_string (P:=Tryz.prog) (w:=W) 9 s .i64 .i64 i' k' Tryz.underlying9 i0' (by omega) k1;have hS0:(s.extract i'.toNat k'.toNat).size≤1000000:=by rw [ByteArray.size_extract];omega
         obtain ⟨S,hSS⟩:∃S,S=s.extract i'.toNat k'.toNat:=⟨_,rfl⟩;simp only [←hSS] at hsl;rw [←hSS] at hex' hS0;have cO:=fun W=>of_any S W hS0;rw [hex'] at cO;obtain ⟨K,hK⟩:∃K:Int,K=(kd t:Int):=⟨_,rfl⟩;simp only [←hK] at cO;have hS:Hid (S=⟨t.toArray⟩):=hid (by rw [hSS,Lib.extract_eq,←hl,ht]);clear hSS hS0;by_cases hK0:K=0
         ·subst hK0;have hE:=hid (lexed_bad (by omega) (hst.out.1.bad (k:=k'.toNat) hil HS.out hp.out (by rw [←ht];omega)));have hBo:=hid hst.out.2.2;clear hex' hK ht hp hst;rcases hex with h1|⟨h1,h2⟩|⟨h1,h2,h3⟩
          all_goals
           try have hb2:=hbk h2
           clear hbk
           go_wp2_with (first
            | (go_at_call 61;refine (letter_any _ _).mono ?_;rintro e w' ⟨rfl,h'⟩;rw [h'])
            | (go_at_call 62;refine (cO _).mono ?_;rintro e w2 ⟨rfl,b2⟩))
           refine bodyPost_ret (v:=.tuple #[.slice none 0 0,.int .i64 3,.int .i64 L,.int .i64 C]) (by simp [results,Tryz.results22,go_sem]) rfl ?_;rw [hE.out];refine ⟨.slice none 0 0,?_,World.ownsRow_nil _ _ _ _,below_on hBo.out b2⟩;show Ending.returned (.tuple #[.slice none 0 0,.int .i64 3,.int .i64 L,.int .i64 C])=Ending.returned (.tuple #[.slice none 0 0,.int .i64 3,.int .i64 (L.toNat:Int),.int .i64 (C.toNat:Int)])
           rw [Int.toNat_of_nonneg (by omega),Int.toNat_of_nonneg (by omega)]
         ·have hTk:=hid (hst.out.1.tok (k:=k'.toNat) hil HS.out (by omega) hp.out (by rw [←ht];omega));have hcnt:=hst.out.1.count;have hn:acc.length+1≤8194:=by omega
          have hO:=hst.out.2.1;have hB:=hst.out.2.2;have hbase:=hB.size;have bK:(K==0)=false:=beq_eq_false_iff_ne.2 hK0;have HK:=hid hK;have HT:=hid ht;clear hex' hK ht hp hst hcnt hK0;have HO:=hid hO;have HB:=hid hB;clear hO hB;rcases hex with h1|⟨h1,h2⟩|⟨h1,h2,h3⟩
          all_goals
           try have hb2:=hbk h2
           clear hbk
           go_wp2_with (first
            | (go_at_call 61;refine (letter_any _ _).mono ?_;rintro e w' ⟨rfl,h'⟩;rw [h'])
            | (go_at_call 62;refine (cO _).mono ?_;rintro e w2 ⟨rfl,b2⟩;have HO2:=owns_below HO.out b2;have b2s:=b2.size)
            | (at_builtin;refine wpList_append_own _ rfl _ _ 69 rfl w.heap.size 76 i0 (.agg #[.int .i64 0,.string ⟨#[]⟩,.int .i64 0,.int .i64 0]) 4 40 und_toks hi hz0 hz1 hz2 rfl (by decide) _ _ _ rfl (HO2.alloc _) ⟨w2.heap.size,0,none⟩ 1 1 [.int .i64 K,.string S,.int .i64 L,.int .i64 C] rfl rfl (by
              intro j u hj
              match j,hj with
              | 0,hj=>simp at hj;subst hj;simp [Addr.add]
              | 1,hj=>simp at hj;subst hj;simp [Addr.add]
              | 2,hj=>simp at hj;subst hj;simp [Addr.add]
              | 3,hj=>simp at hj;subst hj;simp [Addr.add]) (by simp [Value.oneCell']) (by unfold maxLen;omega) (by omega) (by simp;omega) ?_))
           intro v' w1 hown hgrow _;go_wp2;go_roundw
           case rel=>exact ⟨L,C+(k'-i'),k',_,rfl,vi (by omega),rfl,by omega,by omega,by omega,by omega,by omega,by omega,hid ⟨by
            rw [show (C+(k'-i')).toNat=C.toNat+(k'.toNat-i'.toNat) by omega];exact hTk.out,by
            rw [tokCells_snoc,List.length_append,←HT.out,←hS.out];show w1.ownsRow _ _ _ _ _ (_++[.int .i64 (kd t:Int),.string S,.int .i64 (L.toNat:Int),.int .i64 (C.toNat:Int)])
            rw [Int.toNat_of_nonneg (by omega),Int.toNat_of_nonneg (by omega),←HK.out]
            exact hown,((below_on HB.out b2).alloc (by omega) _).grown hgrow (by simp;omega) (fun k hk=>(HO.out.lt k hk).1)⟩⟩
           case measure=>simp [intOf];omega
   ·obtain rfl:i'=s.size:=by omega
    obtain ⟨hR,hO,hB⟩:=hst.out;have hE:=hid (lexed_ok (by omega) (hR.stop (by omega)));have hcnt:=hR.count;have hn:acc.length+1≤8194:=by omega
    clear hcnt;have hsz:=hB.size;go_wp2_with (at_builtin;refine wpList_append_own _ rfl _ _ 69 rfl w.heap.size 76 i0 (.agg #[.int .i64 0,.string ⟨#[]⟩,.int .i64 0,.int .i64 0]) 4 40 und_toks hi hz0 hz1 hz2 rfl (by decide) _ _ _ rfl (hO.alloc _) ⟨wr.heap.size,0,none⟩ 1 1 [.int .i64 0,.string ⟨#[]⟩,.int .i64 L,.int .i64 C] rfl rfl ?c1 ?c2 ?c3 ?c4 ?c5 ?_)
    case c2=>exact ⟨rfl,rfl,rfl,rfl⟩
    case c3=>unfold maxLen;omega
    case c4=>omega
    case c5=>omega
    intro v' w1 hown hgrow _;go_wp2;refine bodyPost_ret (v:=.tuple #[v',.int .i64 0,.int .i64 0,.int .i64 0]) (by simp [results,Tryz.results22,go_sem]) rfl ?_;rw [hE.out];refine ⟨v',rfl,?_,(hB.alloc hB.size _).grown hgrow (by simp;omega) (fun k hk=>(hO.lt k hk).1)⟩;rw [tokCells_snoc,List.length_append];show w1.ownsRow _ _ _ _ _ (_++[.int .i64 0,.string ⟨#[]⟩,.int .i64 (L.toNat:Int),.int .i64 (C.toNat:Int)])
    rw [Int.toNat_of_nonneg (by omega),Int.toNat_of_nonneg (by omega)];exact hown
end R5
namespace Ex
open Go.RowKit P
theorem ret_2 {k:IntKind} {a b:Int} {p q:Bool} (h:a=b) (h':p=q):Ending.returned (.tuple #[.int k a,.bool p])=.returned (.tuple #[.int k b,.bool q]):=by rw [h,h']
theorem add_yes (a b:Int) (w:World) (h:I64 (a+b)) :
  Calls Tryz.prog 120 #[.int .i64 a,.int .i64 b] w fun e w'=>e=.returned (.tuple #[.int .i64 (a+b),.bool true])∧w=w':=by
 have ht:=add_test_yes h;have H:=hid (wrap_in h);clear h;go_enter Tryz.func120,Tryz.ntmps120
 go_wp2;go_ret2;exact ⟨ret_2 H.out rfl,rfl⟩
theorem add_no (a b:Int) (w:World) (ha:I64 a) (hb:I64 b) (h:¬ I64 (a+b)) :
  Calls Tryz.prog 120 #[.int .i64 a,.int .i64 b] w fun e w'=>e=.returned (.tuple #[.int .i64 0,.bool false])∧w=w':=by
 have ht:=add_test_no ha hb h;clear ha hb h;go_enter Tryz.func120,Tryz.ntmps120
 go_wp2;go_ret2;exact ⟨rfl,rfl⟩
theorem add_any (a b:Int) (w:World) (ha:I64 a) (hb:I64 b) :
  Calls Tryz.prog 120 #[.int .i64 a,.int .i64 b] w fun e w'=>e=.returned (.tuple #[.int .i64 (cut64 (a+b)),.bool (ok64 (a+b))])∧w=w':=by
 by_cases h:I64 (a+b)
 ·rw [cut64_t h,ok64_t h];exact add_yes a b w h
 ·rw [cut64_f h,ok64_f h];exact add_no a b w ha hb h
theorem sub_yes (a b:Int) (w:World) (h:I64 (a-b)) :
  Calls Tryz.prog 239 #[.int .i64 a,.int .i64 b] w fun e w'=>e=.returned (.tuple #[.int .i64 (a-b),.bool true])∧w=w':=by
 have ht:=sub_test_yes h;have H:=hid (wrap_in h);clear h;go_enter Tryz.func239,Tryz.ntmps239
 go_wp2;go_ret2;exact ⟨ret_2 H.out rfl,rfl⟩
theorem sub_no (a b:Int) (w:World) (ha:I64 a) (hb:I64 b) (h:¬ I64 (a-b)) :
  Calls Tryz.prog 239 #[.int .i64 a,.int .i64 b] w fun e w'=>e=.returned (.tuple #[.int .i64 0,.bool false])∧w=w':=by
 have ht:=sub_test_no ha hb h;clear ha hb h;go_enter Tryz.func239,Tryz.ntmps239
 go_wp2;go_ret2;exact ⟨rfl,rfl⟩
theorem sub_any (a b:Int) (w:World) (ha:I64 a) (hb:I64 b) :
  Calls Tryz.prog 239 #[.int .i64 a,.int .i64 b] w fun e w'=>e=.returned (.tuple #[.int .i64 (cut64 (a-b)),.bool (ok64 (a-b))])∧w=w':=by
 by_cases h:I64 (a-b)
 ·rw [cut64_t h,ok64_t h];exact sub_yes a b w h
 ·rw [cut64_f h,ok64_f h];exact sub_no a b w ha hb h
theorem mul_any (a b:Int) (w:World) (ha:I64 a) (hb:I64 b) :
  Calls Tryz.prog 223 #[.int .i64 a,.int .i64 b] w fun e w'=>e=.returned (.tuple #[.int .i64 (cut64 (a*b)),.bool (ok64 (a*b))])∧w=w':=by
 by_cases h0:a=0
 ·subst h0;rw [Int.zero_mul,cut64_t i64_0,ok64_t i64_0];clear ha hb;go_enter Tryz.func223,Tryz.ntmps223
  go_wp2;go_ret2;exact ⟨rfl,rfl⟩
 ·by_cases h1:a = -1
  ·subst h1;have e:(-1:Int)*b = -b:=by omega
   rw [e];clear e h0 ha;have hb':Hid (I64 b):=hid hb;clear hb;go_enter Tryz.func223,Tryz.ntmps223
   go_wp2_with (go_at_call 239;refine (sub_any _ _ _ i64_0 hb'.out).mono ?_;rintro e w' ⟨rfl,rfl⟩;simp only [Int.zero_sub])
   go_ret2;exact ⟨rfl,rfl⟩
  ·have e0:(a==0)=false:=by simpa using h0
   have e1:(a == -1)=false:=by simpa using h1
   by_cases h:I64 (a*b)
   ·have ht:(wrap64 ((wrap64 (a*b)).tdiv a) != b)=false:=by rw [mul_test_yes hb h0 h];simp
    have H:=hid (wrap_in h);have H2:=hid h;clear ha hb h h1;go_enter Tryz.func223,Tryz.ntmps223
    go_wp2;go_ret2;exact ⟨ret_2 (by rw [H.out,cut64_t H2.out]) (by rw [ok64_t H2.out]),rfl⟩
   ·have ht:(wrap64 ((wrap64 (a*b)).tdiv a) != b)=true:=by
     rcases mul_test_no ha h0 h with h2|h2
     ·simpa using h2
     ·exact absurd h2 h1
    rw [cut64_f h,ok64_f h];clear ha hb h h1;go_enter Tryz.func223,Tryz.ntmps223
    go_wp2;go_ret2;exact ⟨rfl,rfl⟩
end Ex
end Go.Proofs.YtofbobdhkbmbgaaGreatDoor
