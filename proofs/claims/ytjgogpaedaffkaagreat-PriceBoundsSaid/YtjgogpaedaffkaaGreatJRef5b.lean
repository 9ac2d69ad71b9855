/- What the document's answers for layer 4 (poundageref04) come to: digit, Of. -/
import Derived.Test.YtjgogpaedaffkaaGreatJRef9c
set_option maxHeartbeats 4000000
namespace Go.Proofs.YtjgogpaedaffkaaGreat
namespace P
end P
namespace R4
end R4
namespace R4
open Go.RowKit P
def dgI (x:Int):Bool:=decide (48≤x∧x≤57)
theorem dgI_of (b:UInt8):dgI ((b.toNat:Nat):Int)=isDg b:=by unfold dgI isDg;rw [decide_eq_decide];omega
theorem digit_any (x:Int) (w:World):Calls Tryz.prog 105 #[.int .u8 x] w fun e w'=>e=.returned (.bool (dgI x))∧w'=w:=by
 rcases Decidable.em (48≤x) with h|h
 ·have b:decide (48≤x)=true:=decide_eq_true h;have e:dgI x=decide (x≤57):=by unfold dgI;rw [decide_eq_decide];omega
  have E:=hid e;clear e;go_enter Tryz.func105,Tryz.ntmps105
  go_wp2;go_ret;exact ⟨ret_b E.out.symm,rfl⟩
 ·have b:decide (48≤x)=false:=decide_eq_false h;have e:dgI x=false:=by unfold dgI;rw [decide_eq_false_iff_not];omega
  have E:=hid e;clear e;go_enter Tryz.func105,Tryz.ntmps105
  go_wp2;go_ret;exact ⟨ret_b E.out.symm,rfl⟩
theorem byte_at (s:ByteArray) (i:Int) (h0:0≤i) (h1:i<s.size) (W:World):(Instr.index 9 (.string s) (.int .i64 i)).run Tryz.prog W=.ok (.int .u8 ((s.data.toList.getD i.toNat 0).toNat:Int)) W:=by
 have hl:i.toNat<s.data.toList.length:=by show _<s.size;omega
 have hb:s.data.toList[i.toNat]'hl=s[i.toNat]'(by omega):=by rw [Array.getElem_toList];rfl
 rw [run_index_string W 9 s .i64 i Tryz.underlying9,dif_pos ⟨h0,h1⟩,List.getD_eq_getElem?_getD,List.getElem?_eq_getElem hl,hb,Option.getD_some]
theorem of_any (s:ByteArray) (w:World) (hs:s.size≤9223372036854775807):Calls Tryz.prog 80 #[.string s] w fun e w'=>e=.returned (.int .i64 (fm s.data.toList))∧w'=w:=by
 obtain ⟨l,hl⟩:∃l,l=s.data.toList:=⟨_,rfl⟩;have hbyte:=byte_at s;have hz:l.length=s.size:=by rw [hl];simp
 have htl:s.toList=l:=by rw [Lib.toList_data,hl]
 rw [←hl];rw [←hl] at hbyte;clear hl;by_cases h0:l.length=0
 ·have hn:l=[]:=List.length_eq_zero_iff.1 h0;subst hn;go_enter Tryz.func80,Tryz.ntmps80
  go_wp2;go_ret;exact ⟨ret_i (by rw [fm_empty];rfl),rfl⟩
 ·have x0:=hbyte 0 (by omega) (by omega)
  have hne:(l==[])=false:=by
   rw [beq_eq_false_iff_ne];rintro rfl;exact h0 rfl
  cases hd:isDg (l.getD 0 0)
  ·have hf:=hid (fm_first hd);rw [←dgI_of] at hd;obtain ⟨x,hx⟩:∃x:Int,x=((l.getD 0 0).toNat:Int):=⟨_,rfl⟩;rw [←hx] at hd;have x0':∀W,(Instr.index 9 (.string s) (.int .i64 0)).run Tryz.prog W=.ok (.int .u8 x) W:=fun W=>by rw [hx];exact x0 W
   clear x0 hx;go_enter Tryz.func80,Tryz.ntmps80
   go_wp2_with (go_at_call 105;refine (digit_any _ _).mono ?_;rintro e w' ⟨rfl,h'⟩;rw [h'])
   go_ret;exact ⟨ret_i (by rw [hf.out];rfl),rfl⟩
  ·have hd0:=hd;rw [←dgI_of] at hd;obtain ⟨x,hx⟩:∃x:Int,x=((l.getD 0 0).toNat:Int):=⟨_,rfl⟩;rw [←hx] at hd;have x0':∀W,(Instr.index 9 (.string s) (.int .i64 0)).run Tryz.prog W=.ok (.int .u8 x) W:=fun W=>by rw [hx];exact x0 W
   have HX:=hid hx;have Hd0:=hid hd0;clear x0 hx hd0;go_enter Tryz.func80,Tryz.ntmps80
   go_wp2_with (go_at_call 105;refine (digit_any _ _).mono ?_;rintro e w' ⟨rfl,h'⟩;rw [h'])
   go_loop [3,4] (fun p i=>∃p' i':Int,p=.int .i64 p'∧i=.int .i64 i'∧0≤i'∧0≤p'∧p'≤1∧i'≤s.size∧Hid (Seen l i'.toNat p'.toNat)) (fun _ i=>((s.size:Int)-intOf i).toNat)
   case atStart=>exact ⟨0,0,rfl,rfl,by omega,by omega,by omega,by omega,hid (Seen.start (by omega))⟩
   case round=>
    obtain ⟨p',i',rfl,rfl,i0,p0,p1,i1,S⟩:=hrel;by_cases hi:i'<s.size
    ·have hil:i'.toNat<l.length:=by omega
     have hb:=hbyte i' i0 hi;have e1:(i'+1).toNat=i'.toNat+1:=by omega
     have e2:(p'+1).toNat=p'.toNat+1:=by omega
     have hlast:i'+1=s.size↔i'.toNat+1=l.length:=by omega
     have hdg:=dgI_of (l.getD i'.toNat 0)
     have h46:((l.getD i'.toNat 0).toNat:Int)=46↔l.getD i'.toNat 0=46:=by
      constructor
      ·intro h;exact UInt8.toNat_inj.1 (by show _=46;omega)
      ·intro h;rw [h];rfl
     have S':=S.out;have bad:evenBody l=false→Hid (fm l=0):=fun h=>hid (fm_body h);have f2:=fun a b=>bad (S'.two hil a b);have f3:=fun a b=>bad (ends_point (l:=l) (i:=i'.toNat) a b);have f4:=fun a b=>bad (bad_letter hil a b);have g1:isDg (l.getD i'.toNat 0)=true→Hid (Seen l (i'+1).toNat p'.toNat):=fun h=>hid (by rw [e1];exact S'.digit hil h);have g2:l.getD i'.toNat 0=46→p'.toNat=0→i'.toNat+1≠l.length→Hid (Seen l (i'+1).toNat (p'+1).toNat):=fun a b c=>hid (by rw [e1,e2];exact S'.point hil a b c);obtain ⟨b,hb'⟩:∃b,b=l.getD i'.toNat 0:=⟨_,rfl⟩;rw [←hb'] at hdg h46 f2 f3 f4 g1 g2;simp only [←hb'] at hb;obtain ⟨z,hz'⟩:∃z:Int,z=(b.toNat:Int):=⟨_,rfl⟩;rw [←hz'] at hdg h46;simp only [←hz'] at hb;clear S' S e1 e2 bad hb' hz' hbyte;by_cases hp:z=46
     ·have hp':=h46.1 hp;have b1:(z==46)=true:=by rw [hp];rfl
      by_cases p2:p'=1
      ·have hG:=f2 hp' (by rw [p2];rfl);clear f2 f3 f4 g1 g2 h46 hdg hlast;subst p2;go_wp2;go_ret;exact ⟨ret_i (by rw [hG.out];rfl),rfl⟩
      ·obtain rfl:p'=0:=by omega
       by_cases hl:i'+1=s.size
       ·have hG:=f3 (hlast.1 hl) hp';have b2:(i'==(s.size:Int)-1)=true:=by simp;omega
        clear f2 f3 f4 g1 g2 h46 hdg hlast;go_wp2;go_ret;exact ⟨ret_i (by rw [hG.out];rfl),rfl⟩
       ·have hS:=g2 hp' rfl (fun k=>hl (hlast.2 k));have b2:(i'==(s.size:Int)-1)=false:=by simp;omega
        clear f2 f3 f4 g1 g2 h46 hdg hlast;go_wp2
        go_round
        case rel=>exact ⟨_,i'+1,rfl,rfl,by omega,by omega,by omega,by omega,hS⟩
        case measure=>simp [intOf];omega
     ·have b1:(z==46)=false:=by simpa using hp
      cases hD:isDg b
      ·have hG:=f4 hD (fun k=>hp (h46.2 k));rw [hD] at hdg;clear f2 f3 f4 g1 g2 h46 hlast;go_wp2_with (go_at_call 105;refine (digit_any _ _).mono ?_;rintro e w' ⟨rfl,h'⟩;rw [h'])
       go_ret;exact ⟨ret_i (by rw [hG.out];rfl),rfl⟩
      ·have hS:=g1 hD;rw [hD] at hdg;clear f2 f3 f4 g1 g2 h46 hlast;go_wp2_with (go_at_call 105;refine (digit_any _ _).mono ?_;rintro e w' ⟨rfl,h'⟩;rw [h'])
       go_round
       case rel=>exact ⟨p',i'+1,rfl,rfl,by omega,by omega,by omega,by omega,hS⟩
       case measure=>simp [intOf];omega
    ·obtain rfl:i'=s.size:=by omega
     have hS:Seen l l.length p'.toNat:=by
      have:=S.out
      rwa [show ((s.size:Int)).toNat=l.length by omega] at this
     obtain ⟨he,hc⟩:=hS.done;have yes:oddHead l=false→Hid (fm l=1+p'.toNat):=fun h=>hid (by rw [fm_is Hd0.out he h,hc]);have no:oddHead l=true→Hid (fm l=0):=fun h=>hid (fm_head h)
     have c48:(l.getD 0 0==48)=decide (x=48):=by
      rw [Bool.eq_iff_iff,beq_iff_eq,decide_eq_true_eq,HX.out];constructor
      ·intro h;rw [h];rfl
      ·intro h;exact UInt8.toNat_inj.1 (by show _=48;omega)
     have hp':(1:Int)+p'=((1+p'.toNat:Nat):Int):=by omega
     by_cases hx:x=48
     ·by_cases hl1:(1:Int)<s.size
      ·have hy:=hbyte 1 (by omega) hl1
       have c46:(l.getD 1 0==46)=decide (((l.getD 1 0).toNat:Int)=46):=by
        rw [Bool.eq_iff_iff,beq_iff_eq,decide_eq_true_eq];constructor
        ·intro h;rw [h];rfl
        ·intro h;exact UInt8.toNat_inj.1 (by show _=46;omega)
       obtain ⟨y,hy'⟩:∃y:Int,y=((l.getD 1 0).toNat:Int):=⟨_,rfl⟩;rw [←hy'] at c46;have hy2:∀W,(Instr.index 9 (.string s) (.int .i64 1)).run Tryz.prog W=.ok (.int .u8 y) W:=fun W=>by rw [hy'];exact hy W
       have b1:(x==48)=true:=by simpa using hx
       have hll:decide (1<l.length)=true:=decide_eq_true (by omega);clear hy hy' hbyte S hS;by_cases h46:y=46
       ·have hG:=yes (by unfold oddHead;rw [c48,hll,c46,decide_eq_true h46];simp);have b2:(y != 46)=false:=by simpa using h46
        clear yes no c48 c46 HX Hd0 hd he hc;go_wp2;go_ret;exact ⟨ret_i (by rw [hG.out];omega),rfl⟩
       ·have hG:=no (by unfold oddHead;rw [c48,hll,c46,decide_eq_false h46,decide_eq_true hx];rfl);have b2:(y != 46)=true:=by simpa using h46
        clear yes no c48 c46 HX Hd0 hd he hc;go_wp2;go_ret;exact ⟨ret_i (by rw [hG.out];rfl),rfl⟩
      ·have hG:=yes (by unfold oddHead;rw [decide_eq_false (show ¬ 1<l.length by omega)];simp);have b1:(x==48)=true:=by simpa using hx
       clear yes no c48 HX Hd0 hd he hc hbyte S hS;go_wp2;go_ret;exact ⟨ret_i (by rw [hG.out];omega),rfl⟩
     ·have hG:=yes (by unfold oddHead;rw [c48,decide_eq_false hx];rfl);have b1:(x==48)=false:=by simpa using hx
      clear yes no c48 HX Hd0 hd he hc hbyte S hS;go_wp2;go_ret;exact ⟨ret_i (by rw [hG.out];omega),rfl⟩
end R4
namespace R5
open Go.RowKit P R4
theorem letter_any (x:Int) (w:World):Calls Tryz.prog 51 #[.int .u8 x] w fun e w'=>e=.returned (.bool (ltI x))∧w'=w:=by
 go_enter Tryz.func51,Tryz.ntmps51
 go_wp2
 all_goals
  go_ret;refine ⟨ret_b ?_,rfl⟩;unfold ltI
  simp_all
  try (rw [Bool.eq_iff_iff];simp only [Bool.or_eq_true,Bool.and_eq_true,beq_iff_eq,decide_eq_true_eq];omega)
def wordCells:Array Value:=(words.map fun l=>Value.string ⟨l.toArray⟩).toArray
theorem words_any (w:World):Calls Tryz.prog 79 #[] w fun e w'=>e=.returned (.slice (some ⟨w.heap.size,0,none⟩) 26 26)∧w'=w.alloc (.cells wordCells 9):=by
 go_enter Tryz.func79,Tryz.ntmps79
 go_wp2;go_ret;exact ⟨rfl,rfl⟩
theorem word_cell (w:World) (i:Nat) (hi:i<26):(w.alloc (.cells wordCells 9)).cell? ⟨w.heap.size,i,none⟩=some (.string ⟨(words.getD i []).toArray⟩):=by
 have hl:i<words.length:=hi;rw [World.cell?_alloc_new];show wordCells[i]?=_
 unfold wordCells;simp [List.getElem?_map,List.getElem?_eq_getElem hl]
end R5
namespace P
open Go.RowKit
def okAt (l:List UInt8) (i:Nat):Bool:=if i=4∨i=7 then decide (l.getD i 0=45) else isD (l.getD i 0)
def nvl (l:List UInt8):Nat→Nat
 | 0=>0
 | i+1=>if i=4∨i=7 then nvl l i else 10*nvl l i+((l.getD i 0).toNat-48)
theorem nvl_dash (l:List UInt8) {i:Nat} (h:i=4∨i=7):nvl l (i+1)=nvl l i:=by rw [nvl,if_pos h]
theorem nvl_dig (l:List UInt8) {i:Nat} (h:¬ (i=4∨i=7)):nvl l (i+1)=10*nvl l i+((l.getD i 0).toNat-48):=by rw [nvl,if_neg h]
theorem nvl_lt (l:List UInt8):∀i,(∀j,j<i→okAt l j=true)→nvl l i<10 ^ i
 | 0,_=>by simp [nvl]
 | i+1,h=>by
   have ih:=nvl_lt l i (fun j hj=>h j (by omega));have hi:=h i (by omega);rw [Nat.pow_succ];by_cases hd:i=4∨i=7
   ·rw [nvl_dash l hd];omega
   ·rw [nvl_dig l hd];unfold okAt at hi;rw [if_neg hd] at hi;have:=isD_lt hi;omega
theorem formed_iff {l:List UInt8} (hl:l.length=10):formed l=true↔∀j,j<10→okAt l j=true:=by
 obtain ⟨a,b,c,d,e,f,g,i,j,k,rfl⟩:=ten hl;constructor
 ·intro h;simp [formed] at h;obtain ⟨⟨rfl,rfl⟩,⟨ha,hb,hc,hd⟩,⟨hf,hg⟩,hj,hk⟩:=h;intro n hn;have hn':n=0∨n=1∨n=2∨n=3∨n=4∨n=5∨n=6∨n=7∨n=8∨n=9:=by omega
  rcases hn' with rfl|rfl|rfl|rfl|rfl|rfl|rfl|rfl|rfl|rfl;all_goals simp [okAt, *]
 ·intro h;have h0:=h 0 (by omega);have h1:=h 1 (by omega);have h2:=h 2 (by omega);have h3:=h 3 (by omega);have h4:=h 4 (by omega);have h5:=h 5 (by omega);have h6:=h 6 (by omega);have h7:=h 7 (by omega);have h8:=h 8 (by omega);have h9:=h 9 (by omega);simp [okAt] at h0 h1 h2 h3 h4 h5 h6 h7 h8 h9;simp [formed, *]
theorem not_formed {l:List UInt8} {j:Nat} (hl:l.length=10) (hj:j<10) (h:okAt l j=false):formed l=false:=by
 rw [Bool.eq_false_iff];intro k;have:=(formed_iff hl).1 k j hj;rw [h] at this;cases this
theorem nvl_ten {l:List UInt8} (hl:l.length=10) (h:formed l=true):(nvl l 10:Int) / 10000=yearOf l∧(nvl l 10:Int) / 100 % 100=monthOf l∧(nvl l 10:Int) % 100=dayOf l:=by
 obtain ⟨a,b,c,d,e,f,g,i,j,k,rfl⟩:=ten hl;simp [formed] at h;obtain ⟨⟨rfl,rfl⟩,⟨ha,hb,hc,hd⟩,⟨hf,hg⟩,hj,hk⟩:=h;have l1:=isD_lt ha;have l2:=isD_lt hb;have l3:=isD_lt hc;have l4:=isD_lt hd;have l5:=isD_lt hf;have l6:=isD_lt hg;have l7:=isD_lt hj;have l8:=isD_lt hk;simp only [nvl,yearOf,monthOf,dayOf,List.take,List.drop,val,List.foldl,List.getD_cons_zero,List.getD_cons_succ,Nat.reduceEqDiff,or_true,true_or,or_self,reduceIte];omega
end P
namespace R3
open Go.RowKit Go.Sort P
theorem parse_len (s:ByteArray) (w:World) (h:s.size≠10) :
  Calls Tryz.prog 54 #[.string s] w fun e w'=>e=.returned (.tuple #[.agg #[.int .i64 0,.int .i64 0,.int .i64 0],.bool false])∧Below w.heap.size w w':=by
 have h1:((s.size:Int) != 10)=true:=by simp;omega
 go_enter Tryz.func54,Tryz.ntmps54
 go_wp2;exact bodyPost_ret (v:=.tuple #[.agg #[.int .i64 0,.int .i64 0,.int .i64 0],.bool false]) (by simp [results,Tryz.results54,go_sem]) rfl ⟨rfl,(Below.refl _ _).alloc (Nat.le_refl _) _⟩
theorem byte_at (s:ByteArray) (i:Int) (h0:0≤i) (h1:i<s.size) (W:World):(Instr.index 9 (.string s) (.int .i64 i)).run Tryz.prog W=.ok (.int .u8 ((s.data.toList.getD i.toNat 0).toNat:Int)) W:=by
 have hl:i.toNat<s.data.toList.length:=by show _<s.size;omega
 rw [run_index_string W 9 s .i64 i Tryz.underlying9,dif_pos ⟨h0,h1⟩,List.getD_eq_getElem?_getD,List.getElem?_eq_getElem hl,at_byte s i.toNat (by omega),Option.getD_some]
theorem parse_walk (s:ByteArray) (G:Ending) (w:World) (hs:s.size=10)
  (hN:Hid (reads s.data.toList=false→.returned (.tuple #[.agg #[.int .i64 0,.int .i64 0,.int .i64 0],.bool false])=G))
  (hY:Hid (reads s.data.toList=true→.returned (.tuple #[.agg #[.int .i64 (yearOf s.data.toList),.int .i64 (monthOf s.data.toList),.int .i64 (dayOf s.data.toList)],.bool true])=G)) :
  Calls Tryz.prog 54 #[.string s] w fun e w'=>e=G∧Below w.heap.size w w':=by
 have hl:s.data.toList.length=10:=by simpa using hs
 have h1:(s.size:Int)=10:=by omega
 have B0:Below w.heap.size w (w.alloc (.cells #[.int .i64 0,.int .i64 0,.int .i64 0] 41)):=(Below.refl _ _).alloc (Nat.le_refl _) _;have hbyte:=byte_at s;obtain ⟨l,hlst⟩:∃l,l=s.data.toList:=⟨_,rfl⟩;rw [←hlst] at hN hY hl hbyte;go_enter Tryz.func54,Tryz.ntmps54
 go_wp2
 go_loop [4,5] (fun n i=>∃n' i':Int,n=.int .i64 n'∧i=.int .i64 i'∧0≤i'∧i'≤10∧Hid (n'=(nvl l i'.toNat:Int))∧Hid (∀j,j<i'.toNat→okAt l j=true)) (fun _ i=>(10-intOf i).toNat)
 case atStart=>exact ⟨0,0,rfl,rfl,by omega,by omega,rfl,hid (fun j hj=>by simp at hj)⟩
 case round=>
  obtain ⟨n',i',rfl,rfl,i0,i1,hn,hok⟩:=hrel;by_cases hi:i'<10
  ·have hx:=hbyte i' i0 (by omega);obtain ⟨x,hxx⟩:∃x:Int,x=((l.getD i'.toNat 0).toNat:Int):=⟨_,rfl⟩;rw [←hxx] at hx;have hlt:=nvl_lt l i'.toNat hok.out;have hpw:10 ^ i'.toNat≤10 ^ 9:=Nat.pow_le_pow_right (by decide) (by omega);have hn0:0≤n':=by rw [hn.out];omega
   have hn1:n'<1000000000:=by rw [hn.out];omega
   have e1:(i'+1).toNat=i'.toNat+1:=by omega
   have bad:okAt l i'.toNat=false→Hid (.returned (.tuple #[.agg #[.int .i64 0,.int .i64 0,.int .i64 0],.bool false])=G):=fun k=>hid (hN.out (by
    unfold reads;rw [not_formed hl (by omega) k]
    rfl))
   have nxt:okAt l i'.toNat=true→Hid (∀j,j<(i'+1).toNat→okAt l j=true):=fun k=>hid (fun j hj=>by
    rcases Nat.lt_or_ge j i'.toNat with a|a
    ·exact hok.out j a
    ·rw [show j=i'.toNat by omega];exact k)
   have hx0:0≤x:=by omega
   have hx1:x≤255:=by
    have:=(l.getD i'.toNat 0).toNat_lt;omega
   clear hlt hpw hbyte hN hY;by_cases hd:i'=4∨i'=7
   ·have hd':i'.toNat=4∨i'.toNat=7:=by omega
    have hnv:=nvl_dash l hd';by_cases h45:x=45
    ·have k:okAt l i'.toNat=true:=by
      unfold okAt;rw [if_pos hd',decide_eq_true_eq];exact UInt8.toNat_inj.1 (by show _=45;omega)
     have K:=nxt k;have HN:Hid (n'=(nvl l (i'+1).toNat:Int)):=hid (by rw [e1,hnv];exact hn.out);clear bad nxt k hd' hnv hxx hn hok e1;rcases hd with rfl|rfl
     all_goals
      subst h45;go_wp2
      go_round
      case rel=>exact ⟨n',_,rfl,rfl,by omega,by omega,HN,K⟩
      case measure=>simp [intOf]
    ·have k:okAt l i'.toNat=false:=by
      unfold okAt;rw [if_pos hd',decide_eq_false_iff_not];intro c;rw [c] at hxx;exact h45 hxx
     have hG:=bad k;have hne:(x != 45)=true:=by simpa using h45
     clear bad nxt k hd' hnv hxx hn hok e1;rcases hd with rfl|rfl
     all_goals
      go_wp2;exact bodyPost_ret (v:=.tuple #[.agg #[.int .i64 0,.int .i64 0,.int .i64 0],.bool false]) (by simp [results,Tryz.results54,go_sem, *]) rfl ⟨hG.out,B0⟩
   ·have hd':¬ (i'.toNat=4∨i'.toNat=7):=by omega
    have h4:¬ i'=4:=by omega
    have h7:¬ i'=7:=by omega
    have hnv:=nvl_dig l hd';have h4b:(i'==4)=false:=by simpa using h4
    have h7b:(i'==7)=false:=by simpa using h7
    by_cases hdig:48≤x∧x≤57
    ·have k:okAt l i'.toNat=true:=by
      unfold okAt isD;rw [if_neg hd',decide_eq_true_eq];omega
     have K:=nxt k;have HN:Hid (10*n'+(x-48)=(nvl l (i'+1).toNat:Int)):=hid (by rw [e1,hnv,hn.out];omega);obtain ⟨hg0,hg1⟩:=hdig;clear bad nxt k hd hd' hnv hxx hn hok e1;go_wp2
     go_round
     case rel=>exact ⟨_,i'+1,rfl,rfl,by omega,by omega,HN,K⟩
     case measure=>simp [intOf];omega
    ·have k:okAt l i'.toNat=false:=by
      unfold okAt isD;rw [if_neg hd',decide_eq_false_iff_not];omega
     have hG:=bad k;have hc:x<48∨(¬ x<48∧57<x):=by omega
     clear bad nxt k hd hd' hnv hxx hn hok e1 hdig;rcases hc with hc|⟨hc,hc2⟩
     all_goals
      go_wp2;exact bodyPost_ret (v:=.tuple #[.agg #[.int .i64 0,.int .i64 0,.int .i64 0],.bool false]) (by simp [results,Tryz.results54,go_sem, *]) rfl ⟨hG.out,B0⟩
  ·obtain rfl:i'=10:=by omega
   have hf:formed l=true:=(formed_iff hl).2 (fun j hj=>hok.out j (by simpa using hj));obtain ⟨ey,em,ed⟩:=nvl_ten hl hf;have hnv:n'=(nvl l 10:Int):=hn.out;have hlt:=nvl_lt l 10 (fun j hj=>hok.out j (by simpa using hj));rw [←hnv] at ey em ed;have hn0:0≤n':=by omega
   have hn1:n'<10000000000:=by omega
   have er:reads l=good (yearOf l) (monthOf l) (dayOf l):=by unfold reads;rw [hf];rfl
   have cG:∀W,Calls Tryz.prog 82 #[.agg #[.int .i64 (yearOf l),.int .i64 (monthOf l),.int .i64 (dayOf l)]] W fun e w'=>e=.returned (.bool (good (yearOf l) (monthOf l) (dayOf l)))∧Below W.heap.size W w':=fun W=>good_any _ _ _ W;obtain ⟨Y,hY'⟩:∃Y,Y=yearOf l:=⟨_,rfl⟩;obtain ⟨M,hM'⟩:∃M,M=monthOf l:=⟨_,rfl⟩;obtain ⟨D,hD'⟩:∃D,D=dayOf l:=⟨_,rfl⟩;rw [←hY',←hM',←hD'] at er hY;simp only [←hY',←hM',←hD'] at cG;rw [←hY'] at ey;rw [←hM'] at em;rw [←hD'] at ed;have LA:∀o,Lies3 ((w.alloc (.cells #[.int .i64 0,.int .i64 0,.int .i64 0] 41)).alloc o) w.heap.size (.int .i64 0) (.int .i64 0) (.int .i64 0):=fun o=>(Lies3.new rfl).alloc o;have hsz:(w.alloc (.cells #[.int .i64 0,.int .i64 0,.int .i64 0] 41)).heap.size=w.heap.size+1:=by simp
   clear hok hn hf hlt hY' hM' hD' hnv hbyte hlst hl;cases hg:good Y M D
   ·rw [hg] at cG er;have hG:=hid (hN.out er);clear hN hY er;go_wp2_with (go_at_call 82;refine (cG _).mono ?_;rintro e w2 ⟨rfl,b2⟩;have L2:=(LA _).on b2;have B2:=B0.trans ((box3 b2).2.2.2.2.mono B0.size);obtain ⟨l2,c0,c1,c2,f0,f1,f2⟩:=L2;clear LA B0 b2)
    exact bodyPost_ret (v:=.tuple #[.agg #[.int .i64 0,.int .i64 0,.int .i64 0],.bool false]) (by simp [results,Tryz.results54,go_sem, *]) rfl
     ⟨hG.out,((B2.setCell (Nat.le_refl _) _).setCell (Nat.le_refl _) _).setCell (Nat.le_refl _) _⟩
   ·rw [hg] at cG er;have hG:=hid (hY.out er);clear hN hY er;go_wp2_with (go_at_call 82;refine (cG _).mono ?_;rintro e w2 ⟨rfl,b2⟩;have L2:=(LA _).on b2;have LC:=Lies3.later b2 hsz;have B2:=B0.trans ((box3 b2).2.2.2.2.mono B0.size);obtain ⟨l2,c0,c1,c2,f0,f1,f2⟩:=L2;obtain ⟨l4,k0,k1,k2,q0,q1,q2⟩:=LC;clear LA B0 b2)
    exact bodyPost_ret (v:=.tuple #[.agg #[.int .i64 Y,.int .i64 M,.int .i64 D],.bool true]) (by simp [results,Tryz.results54,go_sem, *]) rfl
     ⟨hG.out,((B2.setCell (Nat.le_refl _) _).setCell (Nat.le_refl _) _).setCell (Nat.le_refl _) _⟩
end R3
namespace R5
open Go.RowKit P R4
theorem below_on {w W w':World} (h:Below w.heap.size w W) (hb:Below W.heap.size W w'):Below w.heap.size w w':=h.trans (hb.mono h.size)
theorem day_any (s:ByteArray):∃v:Value,∃A B C:Int,v=.agg #[.int .i64 A,.int .i64 B,.int .i64 C]∧
  ∀w:World,Calls Tryz.prog 54 #[.string s] w fun e w'=>e=.returned (.tuple #[v,.bool (reads s.data.toList)])∧Below w.heap.size w w':=by
 by_cases hs:s.size=10
 ·cases hr:reads s.data.toList
  ·exact ⟨_,0,0,0,rfl,fun w=>R3.parse_walk s _ w hs (hid fun _=>rfl) (hid fun k=>by rw [hr] at k;cases k)⟩
  ·exact ⟨_,_,_,_,rfl,fun w=>R3.parse_walk s _ w hs (hid fun k=>by rw [hr] at k;cases k) (hid fun _=>rfl)⟩
 ·have hr:reads s.data.toList=false:=by
   have:s.data.toList.length≠10:=by simpa using hs
   unfold reads formed;rw [decide_eq_false this];rfl
  rw [hr];exact ⟨_,0,0,0,rfl,fun w=>R3.parse_len s w hs⟩
theorem below_words {w w2:World} (h:w2=w.alloc (.cells wordCells 9)):Below w.heap.size w w2:=by rw [h];exact (Below.refl _ _).alloc (Nat.le_refl _) _
theorem kd_sign {l:List UInt8} (h:l=[123]∨l=[125]∨l=[59]):kd l=5:=by unfold kd;rw [if_pos h]
theorem kd_none {l:List UInt8} (h:¬ (l=[123]∨l=[125]∨l=[59])) (h2:l=[]∨l.all isLt=false):kd l=0:=by unfold kd;rw [if_neg h,if_pos h2]
theorem kd_word {l:List UInt8} (h:¬ (l=[123]∨l=[125]∨l=[59])) (h2:¬ (l=[]∨l.all isLt=false)) (h3:words.contains l=true):kd l=2:=by unfold kd;rw [if_neg h,if_neg h2,if_pos h3]
theorem kd_rest {l:List UInt8} (h:¬ (l=[123]∨l=[125]∨l=[59])) (h2:¬ (l=[]∨l.all isLt=false)) (h3:words.contains l=false) :
  kd l=if plain l&&!isDg (l.getD 0 0) then 1 else if fm l≠0 then 3 else if reads l then 4 else 0:=by unfold kd;rw [if_neg h,if_neg h2,if_neg (by rw [h3];decide)]
theorem of_any (s:ByteArray) (w:World) (hs:s.size≤1000000):Calls Tryz.prog 52 #[.string s] w fun e w'=>e=.returned (.int .i64 (kd s.data.toList))∧Below w.heap.size w w':=by
 have cD:=fun W=>R4.of_any s W (by omega);obtain ⟨dv,A,B,C,hdv,cP⟩:=day_any s;subst hdv;obtain ⟨l,hl⟩:∃l,l=s.data.toList:=⟨_,rfl⟩;have hbyte:=R4.byte_at s;have hz:l.length=s.size:=by rw [hl];simp
 have htl:s.toList=l:=by rw [Lib.toList_data,hl]
 rw [←hl];rw [←hl] at hbyte;simp only [←hl] at cD cP;clear hl;by_cases hsg:l=[123]∨l=[125]∨l=[59]
 ·have hk:=hid (kd_sign hsg)
  have hc:(l==[123])=true∨((l==[123])=false∧(l==[125])=true)∨((l==[123])=false∧(l==[125])=false∧(l==[59])=true):=by
   rcases hsg with h|h|h<;>rw [h]<;>decide
  clear hsg hbyte cD cP;go_enter Tryz.func52,Tryz.ntmps52
  rcases hc with h|⟨h,h1⟩|⟨h,h1,h2⟩
  all_goals
   go_wp2;go_ret;exact ⟨ret_i (by rw [hk.out];rfl),Below.refl _ _⟩
 ·have t1:(l==[123])=false:=beq_eq_false_iff_ne.2 (fun e=>hsg (.inl e));have t2:(l==[125])=false:=beq_eq_false_iff_ne.2 (fun e=>hsg (.inr (.inl e)));have t3:(l==[59])=false:=beq_eq_false_iff_ne.2 (fun e=>hsg (.inr (.inr e)));have HS:=hid hsg;clear hsg;by_cases hn:l=[]
  ·have hk:=hid (kd_none HS.out (.inl hn));have t4:(l==[])=true:=by rw [hn];rfl
   clear hn hbyte cD cP;go_enter Tryz.func52,Tryz.ntmps52
   go_wp2;go_ret;exact ⟨ret_i (by rw [hk.out];rfl),Below.refl _ _⟩
  ·have t4:(l==[])=false:=beq_eq_false_iff_ne.2 hn;have hlp:0<l.length:=List.length_pos_iff.2 hn;have HN:=hid hn;clear hn;go_enter Tryz.func52,Tryz.ntmps52
   go_wp2
   go_loop [3,4] (fun p i=>∃(p':Bool) (i':Int),p=.bool p'∧i=.int .i64 i'∧0≤i'∧i'≤s.size∧Hid (p'=plain (l.take i'.toNat)∧(l.take i'.toNat).all isLt=true)) (fun _ i=>((s.size:Int)-intOf i).toNat)
   case atStart=>exact ⟨true,0,rfl,rfl,by omega,by omega,hid ⟨rfl,rfl⟩⟩
   case round=>
    obtain ⟨p',i',rfl,rfl,i0,i1,hst⟩:=hrel;by_cases hi:i'<s.size
    ·have hil:i'.toNat<l.length:=by omega
     have hb:=hbyte i' i0 hi;have e1:(i'+1).toNat=i'.toNat+1:=by omega
     obtain ⟨hp,ha⟩:=hst.out;have hlt:=ltI_of (l.getD i'.toNat 0);have hts:=take_snoc hil
     have bad:isLt (l.getD i'.toNat 0)=false→Hid (kd l=0):=fun h=>hid (kd_none HS.out (.inr (by
      rw [Bool.eq_false_iff];intro k;rw [List.all_eq_true] at k;rw [k _ (mem_getD hil)] at h
      cases h)))
     have nxt:isLt (l.getD i'.toNat 0)=true→Hid ((p'&&(!(l.getD i'.toNat 0==46)&&!(l.getD i'.toNat 0==45)))=plain (l.take (i'+1).toNat)∧(l.take (i'+1).toNat).all isLt=true):=fun h=>hid ⟨by
      rw [e1,hts,hp];unfold plain;rw [List.all_append]
      simp,by rw [e1,hts,List.all_append,ha];simpa using h⟩
     have h46:((l.getD i'.toNat 0).toNat:Int)=46↔l.getD i'.toNat 0=46:=by
      constructor
      ·intro h;exact UInt8.toNat_inj.1 (by show _=46;omega)
      ·intro h;rw [h];rfl
     have h45:((l.getD i'.toNat 0).toNat:Int)=45↔l.getD i'.toNat 0=45:=by
      constructor
      ·intro h;exact UInt8.toNat_inj.1 (by show _=45;omega)
      ·intro h;rw [h];rfl
     obtain ⟨c,hc⟩:∃c,c=l.getD i'.toNat 0:=⟨_,rfl⟩;rw [←hc] at hlt bad nxt h46 h45;simp only [←hc] at hb;obtain ⟨z,hz'⟩:∃z:Int,z=(c.toNat:Int):=⟨_,rfl⟩;rw [←hz'] at hlt h46 h45;simp only [←hz'] at hb;clear hst hp ha hts hc hz' hbyte e1;cases hL:isLt c
     ·have hG:=bad hL;rw [hL] at hlt;clear bad nxt h46 h45;go_wp2_with (go_at_call 51;refine (letter_any _ _).mono ?_;rintro e w' ⟨rfl,h'⟩;rw [h'])
      go_ret;exact ⟨ret_i (by rw [hG.out];rfl),Below.refl _ _⟩
     ·have H:=nxt hL;rw [hL] at hlt
      have hzz:(p'=false)∨(p'=true∧z=46)∨(p'=true∧z≠46∧z=45)∨(p'=true∧z≠46∧z≠45):=by
       cases p'<;>simp<;>omega
      have s46:(c==46)=(z==46):=by rw [Bool.eq_iff_iff,beq_iff_eq,beq_iff_eq];exact h46.symm
      have s45:(c==45)=(z==45):=by rw [Bool.eq_iff_iff,beq_iff_eq,beq_iff_eq];exact h45.symm
      rw [s46,s45] at H;clear bad nxt h46 h45 s46 s45 hL;rcases hzz with rfl|⟨rfl,hz1⟩|⟨rfl,hz1,hz2⟩|⟨rfl,hz1,hz2⟩
      ·go_wp2_with (go_at_call 51;refine (letter_any _ _).mono ?_;rintro e w' ⟨rfl,h'⟩;rw [h'])
       go_round
       case rel=>exact ⟨_,i'+1,rfl,rfl,by omega,by omega,H⟩
       case measure=>simp [intOf];omega
      ·have b1:(z != 46)=false:=by rw [hz1];rfl
       rw [show (z==46)=true by rw [hz1];rfl] at H;clear hz1;go_wp2_with (go_at_call 51;refine (letter_any _ _).mono ?_;rintro e w' ⟨rfl,h'⟩;rw [h'])
       go_round
       case rel=>exact ⟨_,i'+1,rfl,rfl,by omega,by omega,H⟩
       case measure=>simp [intOf];omega
      ·have b1:(z != 46)=true:=bne_iff_ne.2 hz1;have b2:(z != 45)=false:=by rw [hz2];rfl
       rw [beq_eq_false_iff_ne.2 hz1,show (z==45)=true by rw [hz2];rfl] at H;clear hz1 hz2;go_wp2_with (go_at_call 51;refine (letter_any _ _).mono ?_;rintro e w' ⟨rfl,h'⟩;rw [h'])
       go_round
       case rel=>exact ⟨_,i'+1,rfl,rfl,by omega,by omega,H⟩
       case measure=>simp [intOf];omega
      ·have b1:(z != 46)=true:=bne_iff_ne.2 hz1;have b2:(z != 45)=true:=bne_iff_ne.2 hz2;rw [beq_eq_false_iff_ne.2 hz1,beq_eq_false_iff_ne.2 hz2] at H;clear hz1 hz2;go_wp2_with (go_at_call 51;refine (letter_any _ _).mono ?_;rintro e w' ⟨rfl,h'⟩;rw [h'])
       go_round
       case rel=>exact ⟨_,i'+1,rfl,rfl,by omega,by omega,H⟩
       case measure=>simp [intOf];omega
    ·obtain rfl:i'=s.size:=by omega
     obtain ⟨hp,ha⟩:=hst.out;rw [show ((s.size:Int)).toNat=l.length by omega,List.take_length] at hp ha;have hnn:¬ (l=[]∨l.all isLt=false):=by rw [ha];rintro (k|k);exact HN.out k;cases k
     have wrd:words.contains l=true→Hid (kd l=2):=fun h=>hid (kd_word HS.out hnn h);have rst:words.contains l=false→Hid (kd l=if plain l&&!isDg (l.getD 0 0) then 1 else if fm l≠0 then 3 else if reads l then 4 else 0):=fun h=>hid (kd_rest HS.out hnn h);have x0:=hbyte 0 (by omega) (by omega);have hd0:=dgI_of (l.getD 0 0);obtain ⟨x,hx⟩:∃x:Int,x=((l.getD (0:Int).toNat 0).toNat:Int):=⟨_,rfl⟩;simp only [←hx] at x0;rw [show ((l.getD 0 0).toNat:Int)=x from hx.symm] at hd0;obtain ⟨F,hF⟩:∃F:Int,F=(fm l:Int):=⟨_,rfl⟩;simp only [←hF] at cD;have HP:=hid hp;clear hst hbyte hx hp;go_wp2_with (go_at_call 79;refine (words_any _).mono ?_;rintro e w2 ⟨rfl,h2⟩;have hcell:=word_cell w;simp only [←h2] at hcell;have B2:=below_words h2;clear h2)
     go_loop [47] (fun i=>∃j':Int,i=.int .i64 j'∧0≤j'∧j'≤26∧Hid (∀j,j<j'.toNat→words.getD j []≠l)) (fun i=>((26:Int)-intOf i).toNat)
     case atStart=>exact ⟨0,rfl,by omega,by omega,hid (fun j hj=>by simp at hj)⟩
     case round=>
      obtain ⟨j',rfl,j0,j1,hj⟩:=hrel;by_cases hlt:j'<26
      ·have hc:=hcell j'.toNat (by omega);obtain ⟨X,hX⟩:∃X:ByteArray,X=⟨(words.getD j'.toNat []).toArray⟩:=⟨_,rfl⟩;rw [←hX] at hc;clear hcell;obtain ⟨wl,hwl⟩:∃wl,wl=words.getD j'.toNat []:=⟨_,rfl⟩;have hXl:X.toList=wl:=by rw [Lib.toList_data,hX,hwl]
       by_cases he:wl=l
       ·have hmem:words.contains l=true:=by
         rw [List.contains_iff_mem,←he,hwl,List.getD_eq_getElem?_getD,List.getElem?_eq_getElem (show j'.toNat<words.length by show _<26;omega)];exact List.getElem_mem _
        have hG:=wrd hmem;have b1:(wl==l)=true:=by rw [he];simp
        clear hX hwl he hj wrd rst;go_wp2;go_ret;exact ⟨ret_i (by rw [hG.out];rfl),B2⟩
       ·have b1:(wl==l)=false:=beq_eq_false_iff_ne.2 he
        have H:Hid (∀j,j<(j'+1).toNat→words.getD j []≠l):=hid (fun j hjj=>by
         rcases Nat.lt_or_ge j j'.toNat with a|a
         ·exact hj.out j a
         ·rw [show j=j'.toNat by omega,←hwl];exact he)
        clear hX hwl he hj;go_wp2
        go_round
        case rel=>exact ⟨j'+1,rfl,by omega,by omega,H⟩
        case measure=>simp [intOf];omega
      ·obtain rfl:j'=26:=by omega
       have hno:words.contains l=false:=by
        rw [Bool.eq_false_iff];intro k;rw [List.contains_iff_mem] at k;obtain ⟨i,hi1,hi2⟩:=List.getElem_of_mem k;refine hj.out i hi1 ?_;rw [List.getD_eq_getElem?_getD,List.getElem?_eq_getElem hi1];exact hi2
       have hR:=(rst hno).out;rw [←HP.out,←hd0] at hR;have hR1:fm l≠0↔F≠0:=by omega
       have hF0:0≤F:=by omega
       clear hcell wrd rst hj hno hnn hF;have fin:∀n:Nat,kd l=n→Hid (((kd l:Nat):Int)=(n:Int)):=fun n h=>hid (by rw [h]);by_cases hdx:dgI x=true
       ·rw [hdx] at hR;simp only [Bool.not_true,Bool.and_false,Bool.false_eq_true,if_false] at hR;have hx48:48≤x:=by unfold dgI at hdx;rw [decide_eq_true_eq] at hdx;omega
        have hx57:x≤57:=by unfold dgI at hdx;rw [decide_eq_true_eq] at hdx;omega
        by_cases hf:F=0
        ·rw [if_neg (by omega)] at hR;subst hf;cases hrd:reads l
         ·rw [hrd] at hR cP;have hG:=fin 0 hR;clear hR hd0 HP fin hdx;cases p'
          all_goals
           go_wp2_with (first
            | (go_at_call 80;refine (cD _).mono ?_;rintro e w' ⟨rfl,h'⟩;rw [h'])
            | (go_at_call 54;refine (cP _).mono ?_;rintro e w3 ⟨rfl,b3⟩;have B3:=below_on B2 b3))
           all_goals
            go_ret;exact ⟨ret_i hG.out.symm,B3.alloc B3.size _⟩
         ·rw [hrd] at hR cP;have hG:=fin 4 hR;clear hR hd0 HP fin hdx;cases p'
          all_goals
           go_wp2_with (first
            | (go_at_call 80;refine (cD _).mono ?_;rintro e w' ⟨rfl,h'⟩;rw [h'])
            | (go_at_call 54;refine (cP _).mono ?_;rintro e w3 ⟨rfl,b3⟩;have B3:=below_on B2 b3))
           all_goals
            go_ret;exact ⟨ret_i hG.out.symm,B3.alloc B3.size _⟩
        ·have hFp:0<F:=by omega
         rw [if_pos (by omega)] at hR;have hG:=fin 3 hR;clear hR hd0 HP fin hdx cP;cases p'
         all_goals
          go_wp2_with (go_at_call 80;refine (cD _).mono ?_;rintro e w' ⟨rfl,h'⟩;rw [h'])
          all_goals
           go_ret;exact ⟨ret_i hG.out.symm,B2⟩
       ·have hdx':dgI x=false:=by simpa using hdx
        have hxr:x<48∨(¬ x<48∧57<x):=by unfold dgI at hdx';rw [decide_eq_false_iff_not] at hdx';omega
        rw [hdx'] at hR;cases p'
        ·simp only [Bool.false_and,Bool.false_eq_true,if_false] at hR;by_cases hf:F=0
         ·rw [if_neg (by omega)] at hR;subst hf;cases hrd:reads l
          all_goals
           rw [hrd] at hR cP;have hG:=fin _ hR;clear hR hd0 HP fin hdx hdx'
           go_wp2_with (first
            | (go_at_call 80;refine (cD _).mono ?_;rintro e w' ⟨rfl,h'⟩;rw [h'])
            | (go_at_call 54;refine (cP _).mono ?_;rintro e w3 ⟨rfl,b3⟩;have B3:=below_on B2 b3))
           all_goals
            go_ret;exact ⟨ret_i hG.out.symm,B3.alloc B3.size _⟩
         ·have hFp:0<F:=by omega
          rw [if_pos (by omega)] at hR;have hG:=fin 3 hR;clear hR hd0 HP fin hdx hdx' cP;go_wp2_with (go_at_call 80;refine (cD _).mono ?_;rintro e w' ⟨rfl,h'⟩;rw [h'])
          all_goals
           go_ret;exact ⟨ret_i hG.out.symm,B2⟩
        ·have hG:=fin 1 hR;clear hR hd0 HP fin hdx hdx' cP cD;rcases hxr with h|⟨h,h2⟩
         all_goals
          go_wp2
          all_goals
           go_ret;exact ⟨ret_i hG.out.symm,B2⟩
end R5
end Go.Proofs.YtjgogpaedaffkaaGreat
