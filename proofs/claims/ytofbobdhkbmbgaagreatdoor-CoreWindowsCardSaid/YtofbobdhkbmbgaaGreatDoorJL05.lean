/- What package lex does: letters, signs, words, names. -/
import Derived.Test.YtofbobdhkbmbgaaGreatDoorJPa5
set_option maxHeartbeats 4000000
namespace Go.Proofs.YtofbobdhkbmbgaaGreatDoor
namespace Le
open Go.RowKit P R4 R5
theorem digit_any (x:Int) (w:World):Calls Tryz.prog 180 #[.int .u8 x] w fun e w'=>e=.returned (.bool (dgI x))∧w'=w:=by
 go_enter Tryz.func180,Tryz.ntmps180
 go_wp2
 all_goals
  go_ret;refine ⟨ret_b ?_,rfl⟩;unfold dgI
  simp_all
  try omega
theorem inName_any (x:Int) (w:World):Calls Tryz.prog 179 #[.int .u8 x] w fun e w'=>e=.returned (.bool (nmI x))∧w'=w:=by
 go_enter Tryz.func179,Tryz.ntmps179
 go_wp2_with (go_at_call 180;refine (digit_any _ _).mono ?_;rintro e w' ⟨rfl,h'⟩;rw [h'])
 all_goals
  go_ret;refine ⟨ret_b ?_,rfl⟩;unfold nmI;try unfold dgI
  simp_all
  try (rw [Bool.eq_iff_iff];simp only [Bool.or_eq_true,Bool.and_eq_true,beq_iff_eq,decide_eq_true_eq];omega)
theorem inRow_any (x:Int) (w:World):Calls Tryz.prog 138 #[.int .u8 x] w fun e w'=>e=.returned (.bool (ltI x))∧w'=w:=by
 have e:ltI x=(nmI x||(x==46||x==45)):=by
  rw [Bool.eq_iff_iff];unfold ltI nmI;simp only [Bool.or_eq_true,beq_iff_eq,decide_eq_true_eq];omega
 rw [e];clear e;rcases Bool.eq_false_or_eq_true (nmI x) with hn|hn
 all_goals
  have cN:=inName_any x w;rw [hn] at cN;have HN:=hid hn;clear hn;go_enter Tryz.func138,Tryz.ntmps138
  go_wp2_with (go_at_call 179;refine cN.mono ?_;rintro e w' ⟨rfl,h'⟩;rw [h'])
  all_goals
   go_ret;refine ⟨ret_b ?_,rfl⟩;rw [HN.out];first|rfl|(simp_all;done)|exact Bool.or_assoc _ _ _
theorem blank_any (x:Int) (w:World):Calls Tryz.prog 101 #[.int .u8 x] w fun e w'=>e=.returned (.bool (x==32||(x==9||x==13)))∧w'=w:=by
 go_enter Tryz.func101,Tryz.ntmps101
 go_wp2
 all_goals
  go_ret;refine ⟨ret_b ?_,rfl⟩;first|rfl|(simp_all;done)|exact Bool.or_assoc _ _ _
theorem note_any (x:Int) (w:World):Calls Tryz.prog 137 #[.int .u8 x] w fun e w'=>e=.returned (.bool (x != 10))∧w'=w:=by
 go_enter Tryz.func137,Tryz.ntmps137
 go_wp2;go_ret;exact ⟨rfl,rfl⟩
theorem sign_any (s:ByteArray) (w:World):Calls Tryz.prog 139 #[.string s] w fun e w'=>e=.returned (.bool (sgn s.data.toList))∧w'=w:=by
 have htl:s.toList=s.data.toList:=Lib.toList_data s;obtain ⟨l,hl⟩:∃l,l=s.data.toList:=⟨_,rfl⟩;rw [←hl] at htl ⊢;clear hl;go_enter Tryz.func139,Tryz.ntmps139
 go_wp2
 all_goals
  go_ret;refine ⟨ret_b ?_,rfl⟩;unfold sgn;first|rfl|(simp_all;done)|exact Bool.or_assoc _ _ _
theorem word_any (s:ByteArray) (w:World):Calls Tryz.prog 140 #[.string s] w fun e w'=>e=.returned (.bool (words.contains s.data.toList))∧w'=w:=by
 have htl:s.toList=s.data.toList:=Lib.toList_data s;obtain ⟨l,hl⟩:∃l,l=s.data.toList:=⟨_,rfl⟩;rw [←hl] at htl ⊢;clear hl;go_enter Tryz.func140,Tryz.ntmps140
 go_wp2
 all_goals
  go_ret;refine ⟨ret_b ?_,rfl⟩;unfold words;first|rfl|(simp_all;done)|exact Bool.or_assoc _ _ _
theorem nm_bad {l:List UInt8} {i:Nat} (h:i<l.length) (hn:isNm (l.getD i 0)=false):nm l=false:=by
 unfold nm
 have:l.all isNm=false:=by
  rw [Bool.eq_false_iff];intro k;rw [List.all_eq_true] at k;rw [k _ (mem_getD h)] at hn;cases hn
 rw [this];rfl
theorem name_any (s:ByteArray) (w:World) (hs:s.size≤1000000):Calls Tryz.prog 141 #[.string s] w fun e w'=>e=.returned (.bool (nm s.data.toList))∧w'=w:=by
 have hbyte:=R4.byte_at s;have htl:s.toList=s.data.toList:=Lib.toList_data s;obtain ⟨l,hl⟩:∃l,l=s.data.toList:=⟨_,rfl⟩;have hz:l.length=s.size:=by rw [hl];simp
 rw [←hl] at htl hbyte ⊢;clear hl;have HY:=hid hbyte;clear hbyte;obtain ⟨N,hN⟩:∃N:Bool,N=nm l:=⟨_,rfl⟩;rw [←hN];replace hN:=hid hN;go_enter Tryz.func141,Tryz.ntmps141
 go_wp2
 go_loop [6] (fun i=>∃i':Int,i=.int .i64 i'∧0≤i'∧i'≤s.size∧Hid ((l.take i'.toNat).all isNm=true)) (fun i=>((s.size:Int)-intOf i).toNat)
 case atStart=>exact ⟨0,rfl,by omega,by omega,hid rfl⟩
 case round=>
  obtain ⟨i',rfl,i0,i1,hst⟩:=hrel;by_cases hi:i'<s.size
  ·have hil:i'.toNat<l.length:=by omega
   have hb:=HY.out i' i0 hi;have hts:=take_snoc hil;have hcn:=nmI_of (l.getD i'.toNat 0);have bad:isNm (l.getD i'.toNat 0)=false→Hid (N=false):=fun h=>hid (hN.out.trans (nm_bad hil h))
   have nxt:isNm (l.getD i'.toNat 0)=true→Hid ((l.take (i'+1).toNat).all isNm=true):=fun h=>hid (by
    rw [show (i'+1).toNat=i'.toNat+1 by omega,hts,List.all_append,hst.out];simpa using h)
   obtain ⟨c,hc⟩:∃c,c=l.getD i'.toNat 0:=⟨_,rfl⟩;rw [←hc] at hcn bad nxt;simp only [←hc] at hb;obtain ⟨z,hz'⟩:∃z:Int,z=(c.toNat:Int):=⟨_,rfl⟩;rw [←hz'] at hcn;simp only [←hz'] at hb;have cI:=fun W=>inName_any z W;rw [hcn] at cI;clear hst hts hc hz' hcn;cases hL:isNm c
   ·have hG:=bad hL;rw [hL] at cI;clear bad nxt hL;go_wp2_with (go_at_call 179;refine (cI _).mono ?_;rintro e w' ⟨rfl,h'⟩;rw [h'])
    go_ret;exact ⟨ret_b hG.out.symm,rfl⟩
   ·have H:=nxt hL;rw [hL] at cI;clear bad nxt hL;go_wp2_with (go_at_call 179;refine (cI _).mono ?_;rintro e w' ⟨rfl,h'⟩;rw [h'])
    go_round
    case rel=>exact ⟨i'+1,rfl,by omega,by omega,H⟩
    case measure=>simp [intOf];omega
  ·obtain rfl:i'=s.size:=by omega
   have ha:=hst.out;rw [show ((s.size:Int)).toNat=l.length by omega,List.take_length] at ha;by_cases hn:l=[]
   ·have hG:Hid (N=false):=hid (by rw [hN.out,hn];rfl);have t4:(l==[])=true:=by rw [hn];rfl
    clear hst ha;go_wp2;go_ret;exact ⟨ret_b hG.out.symm,rfl⟩
   ·have t4:(l==[])=false:=beq_eq_false_iff_ne.2 hn;have hlp:0<l.length:=List.length_pos_iff.2 hn;have x0:=HY.out 0 (by omega) (by omega);have hd0:=dgI_of (l.getD 0 0)
    have hG:Hid (N = !isDg (l.getD 0 0)):=hid (by
     rw [hN.out];unfold nm;rw [ha];cases l with
     | nil=>exact absurd rfl hn
     | cons a r=>simp)
    rw [←hd0] at hG;obtain ⟨x,hx⟩:∃x:Int,x=((l.getD (0:Int).toNat 0).toNat:Int):=⟨_,rfl⟩;simp only [←hx] at x0;rw [show ((l.getD 0 0).toNat:Int)=x from hx.symm] at hG;have cD:=fun W=>digit_any x W;generalize dgI x=D at *;clear hst ha hx hd0 hn;go_wp2_with (go_at_call 180;refine (cD _).mono ?_;rintro e w' ⟨rfl,h'⟩;rw [h'])
    go_ret;exact ⟨ret_b hG.out.symm,rfl⟩
theorem piece_lone {l:List UInt8} {i:Nat} (hi:i<l.length) (h35:l.getD i 0≠35) (hlt:isLt (l.getD i 0)=false):ends l i=i+1:=by
 unfold ends;cases hg:isGap (l.getD i 0)
 ·rw [drop_cons0 hi,piece_cons,if_neg (by simpa using h35),if_neg (by rw [hg];decide),if_neg (by rw [hlt];decide)]
 ·rw [piece_gap hi hg]
theorem end_note (s:ByteArray) (i:Int) (w:World) (hs:s.size≤1000000) (i0:0≤i) (i1:i<s.size) (hc:s.data.toList.getD i.toNat 0=35) :
  Calls Tryz.prog 100 #[.string s,.int .i64 i] w fun e w'=>e=.returned (.int .i64 (ends s.data.toList i.toNat))∧w'=w:=by
 have hbyte:=R4.byte_at s;obtain ⟨l,hl⟩:∃l,l=s.data.toList:=⟨_,rfl⟩;have hz:l.length=s.size:=by rw [hl];simp
 rw [←hl] at hbyte hc ⊢;clear hl;have hb0:=hbyte i i0 i1;simp only [hc] at hb0;have HC:=hid hc;have HY:=hid hbyte;clear hbyte hc;have hil:i.toNat<l.length:=by omega
 obtain ⟨N,hN⟩:∃N:Int,N=(ends l i.toNat:Int):=⟨_,rfl⟩;rw [←hN];replace hN:=hid hN;go_enter Tryz.func100,Tryz.ntmps100
 go_wp2
 go_loop [23] (fun k=>∃k':Int,k=.int .i64 k'∧0≤k'∧k'≤s.size-i∧Hid (∀j:Nat,i.toNat+1≤j→j<(i+k').toNat→l.getD j 0≠10)) (fun k=>((s.size:Int)-intOf k).toNat)
 case atStart=>exact ⟨0,rfl,by omega,by omega,hid (fun j a b=>by omega)⟩
 case round=>
  obtain ⟨k',rfl,k0,k1,hk⟩:=hrel;by_cases hkl:k'<s.size-i
  ·have hbk:=HY.out (i+k') (by omega) (by omega);obtain ⟨d,hd⟩:∃d,d=l.getD (i+k').toNat 0:=⟨_,rfl⟩;simp only [←hd] at hbk;obtain ⟨y,hy⟩:∃y:Int,y=(d.toNat:Int):=⟨_,rfl⟩;have hd10:y=10↔d=10:=⟨fun h=>UInt8.toNat_inj.1 (by show _=10;omega),fun h=>by rw [hy,h];rfl⟩;simp only [←hy] at hbk;clear hy;have cN:=fun W=>note_any y W;by_cases hy10:y=10
   ·have hkk:1≤k':=by
     rcases Int.lt_or_le 0 k' with h|h
     ·exact h
     ·exfalso
      obtain rfl:k'=0:=by omega
      rw [Int.add_zero,HC.out] at hd;rw [hd] at hd10;exact absurd (hd10.1 hy10) (by decide)
    have hp:=hid (piece_note (k:=(i+k').toNat) hil (by omega) (by omega) HC.out hk.out (fun _=>hd.symm.trans (hd10.1 hy10)));have hG:Hid (N=i+k'):=hid (by rw [hN.out];unfold ends;rw [hp.out];omega);rw [show (y != 10)=false by rw [hy10];rfl] at cN;clear hd hd10 hy10 hk hp;go_wp2_with fail
    refine (cN _).mono ?_;rintro e w' ⟨rfl,h'⟩;rw [h'];go_wp2;go_ret;exact ⟨ret_i hG.out.symm,rfl⟩
   ·rw [show (y != 10)=true from bne_iff_ne.2 hy10] at cN
    have hk2:Hid (∀j:Nat,i.toNat+1≤j→j<(i+(k'+1)).toNat→l.getD j 0≠10):=hid (fun j a b=>by
     rcases Nat.lt_or_ge j (i+k').toNat with h|h
     ·exact hk.out j a h
     ·rw [show j=(i+k').toNat by omega,←hd];exact fun h=>hy10 (hd10.2 h))
    clear hd hd10 hy10 hk;go_wp2_with fail
    refine (cN _).mono ?_;rintro e w' ⟨rfl,h'⟩;rw [h'];go_wp2
    go_round
    case rel=>exact ⟨k'+1,rfl,by omega,by omega,hk2⟩
    case measure=>simp [intOf];omega
  ·obtain rfl:k'=s.size-i:=by omega
   have hp:=hid (piece_note (k:=s.size) hil (by omega) (by omega) HC.out (fun j a b=>hk.out j a (by omega)) (fun h=>by omega));have hG:Hid (N=s.size):=hid (by rw [hN.out];unfold ends;rw [hp.out];omega);clear hk hp;go_wp2;go_ret;exact ⟨ret_i hG.out.symm,rfl⟩
theorem end_row (s:ByteArray) (i:Int) (w:World) (hs:s.size≤1000000) (i0:0≤i) (i1:i<s.size) (hc:isLt (s.data.toList.getD i.toNat 0)=true) :
  Calls Tryz.prog 100 #[.string s,.int .i64 i] w fun e w'=>e=.returned (.int .i64 (ends s.data.toList i.toNat))∧w'=w:=by
 have hbyte:=R4.byte_at s;obtain ⟨l,hl⟩:∃l,l=s.data.toList:=⟨_,rfl⟩;have hz:l.length=s.size:=by rw [hl];simp
 rw [←hl] at hbyte hc ⊢;clear hl;have hb0:=hbyte i i0 i1;have HC:=hid hc;have HY:=hid hbyte;clear hbyte;have hil:i.toNat<l.length:=by omega
 have hsk:Hid (skips (l.getD i.toNat 0)=false):=hid (by
  have h:=hc;generalize l.getD i.toNat 0=c at *;unfold skips isGap;rw [byte_is,byte_is,byte_is,byte_is,byte_is];unfold isLt at h;rw [decide_eq_true_eq] at h;simp only [Bool.or_eq_false_iff,decide_eq_false_iff_not];show ¬ c.toNat=35∧((¬ c.toNat=32∧¬ c.toNat=9)∧¬ c.toNat=10)∧¬ c.toNat=13
  omega)
 have hx0:=ltI_of (l.getD i.toNat 0);rw [hc] at hx0
 have h35:((l.getD i.toNat 0).toNat:Int)≠35:=by
  have h:=hc;generalize l.getD i.toNat 0=c at *;unfold isLt at h;rw [decide_eq_true_eq] at h;omega
 clear hc;obtain ⟨x,hx⟩:∃x:Int,x=((l.getD i.toNat 0).toNat:Int):=⟨_,rfl⟩;simp only [←hx] at hb0 hx0 h35;clear hx;have b35:(x==35)=false:=beq_eq_false_iff_ne.2 h35;have cX:=fun W=>inRow_any x W;rw [hx0] at cX;clear hx0 h35;obtain ⟨N,hN⟩:∃N:Int,N=(ends l i.toNat:Int):=⟨_,rfl⟩;rw [←hN];replace hN:=hid hN;go_enter Tryz.func100,Tryz.ntmps100
 go_wp2_with (go_at_call 138;refine (cX _).mono ?_;rintro e w' ⟨rfl,h'⟩;rw [h'])
 go_loop [23] (fun k=>∃k':Int,k=.int .i64 k'∧0≤k'∧k'≤s.size-i∧Hid (∀j:Nat,i.toNat+1≤j→j<(i+k').toNat→isLt (l.getD j 0)=true)) (fun k=>((s.size:Int)-intOf k).toNat)
 case atStart=>exact ⟨0,rfl,by omega,by omega,hid (fun j a b=>by omega)⟩
 case round=>
  obtain ⟨k',rfl,k0,k1,hk⟩:=hrel;clear cX;by_cases hkl:k'<s.size-i
  ·have hbk:=HY.out (i+k') (by omega) (by omega);obtain ⟨d,hd⟩:∃d,d=l.getD (i+k').toNat 0:=⟨_,rfl⟩;simp only [←hd] at hbk;have hlk:=ltI_of d;obtain ⟨y,hy⟩:∃y:Int,y=(d.toNat:Int):=⟨_,rfl⟩;rw [←hy] at hlk;simp only [←hy] at hbk;clear hy;have cN:=fun W=>inRow_any y W;rw [hlk] at cN;clear hlk;cases hL:isLt d
   ·have hkk:1≤k':=by
     rcases Int.lt_or_le 0 k' with h|h
     ·exact h
     ·exfalso
      obtain rfl:k'=0:=by omega
      rw [Int.add_zero] at hd;rw [hd,HC.out] at hL;cases hL
    have hp:=hid (piece_row (k:=(i+k').toNat) hil (by omega) (by omega) hsk.out hk.out (fun _ _=>by rw [←hd];exact hL) (fun h=>by rw [HC.out] at h;cases h));have hG:Hid (N=i+k'):=hid (by rw [hN.out];unfold ends;rw [hp.out];omega);rw [hL] at cN;clear hd hL hk hp;go_wp2_with fail
    refine (cN _).mono ?_;rintro e w' ⟨rfl,h'⟩;rw [h'];go_wp2;go_ret;exact ⟨ret_i hG.out.symm,rfl⟩
   ·have hk2:Hid (∀j:Nat,i.toNat+1≤j→j<(i+(k'+1)).toNat→isLt (l.getD j 0)=true):=hid (fun j a b=>by
     rcases Nat.lt_or_ge j (i+k').toNat with h|h
     ·exact hk.out j a h
     ·rw [show j=(i+k').toNat by omega,←hd];exact hL)
    rw [hL] at cN;clear hd hL hk;go_wp2_with fail
    refine (cN _).mono ?_;rintro e w' ⟨rfl,h'⟩;rw [h'];go_wp2
    go_round
    case rel=>exact ⟨k'+1,rfl,by omega,by omega,hk2⟩
    case measure=>simp [intOf];omega
  ·obtain rfl:k'=s.size-i:=by omega
   have hp:=hid (piece_row (k:=s.size) hil (by omega) (by omega) hsk.out (fun j a b=>hk.out j a (by omega)) (fun _ h=>by omega) (fun h=>by rw [HC.out] at h;cases h));have hG:Hid (N=s.size):=hid (by rw [hN.out];unfold ends;rw [hp.out];omega);clear hk hp;go_wp2;go_ret;exact ⟨ret_i hG.out.symm,rfl⟩
theorem end_lone (s:ByteArray) (i:Int) (w:World) (hs:s.size≤1000000) (i0:0≤i) (i1:i<s.size) (h35:s.data.toList.getD i.toNat 0≠35) (hc:isLt (s.data.toList.getD i.toNat 0)=false) :
  Calls Tryz.prog 100 #[.string s,.int .i64 i] w fun e w'=>e=.returned (.int .i64 (ends s.data.toList i.toNat))∧w'=w:=by
 have hb0:=fun W=>R4.byte_at s i i0 i1 W;have hz:s.data.toList.length=s.size:=by simp
 have hx0:=ltI_of (s.data.toList.getD i.toNat 0);rw [hc] at hx0;have hN:=hid (piece_lone (by omega) h35 hc);have hx35:((s.data.toList.getD i.toNat 0).toNat:Int)≠35:=fun h=>h35 (UInt8.toNat_inj.1 (by show _=35;omega));obtain ⟨x,hx⟩:∃x:Int,x=((s.data.toList.getD i.toNat 0).toNat:Int):=⟨_,rfl⟩;rw [←hx] at hx0 hx35;simp only [←hx] at hb0;have b35:(x==35)=false:=beq_eq_false_iff_ne.2 hx35;have cX:=fun W=>inRow_any x W;rw [hx0] at cX;have hE:Hid ((ends s.data.toList i.toNat:Int)=i+1):=hid (by rw [hN.out];omega);clear hx0 hx35 hx hN hc h35;generalize (ends s.data.toList i.toNat:Int)=N at *;go_enter Tryz.func100,Tryz.ntmps100
 go_wp2_with (go_at_call 138;refine (cX _).mono ?_;rintro e w' ⟨rfl,h'⟩;rw [h'])
 go_ret;exact ⟨ret_i hE.out.symm,rfl⟩
theorem end_any (s:ByteArray) (i:Int) (w:World) (hs:s.size≤1000000) (i0:0≤i) (i1:i<s.size) :
  Calls Tryz.prog 100 #[.string s,.int .i64 i] w fun e w'=>e=.returned (.int .i64 (ends s.data.toList i.toNat))∧w'=w:=by
 by_cases h35:s.data.toList.getD i.toNat 0=35
 ·exact end_note s i w hs i0 i1 h35
 ·cases hc:isLt (s.data.toList.getD i.toNat 0)
  ·exact end_lone s i w hs i0 i1 h35 hc
  ·exact end_row s i w hs i0 i1 hc
theorem day_any (s:ByteArray) (w:World):Calls Tryz.prog 143 #[.string s] w fun e w'=>e=.returned (.bool (reads s.data.toList))∧Below w.heap.size w w':=by
 have cP:=fun W=>Dt.parse_any s W;unfold dv at cP;cases hr:reads s.data.toList
 ·simp only [hr,Bool.false_eq_true,if_false] at cP;go_enter Tryz.func143,Tryz.ntmps143
  go_wp2_with (go_at_call 148;refine (cP _).mono ?_;rintro e w1 ⟨rfl,b1⟩)
  go_ret
  first
   | exact ⟨rfl,b1⟩
   | exact ⟨rfl,b1.alloc b1.size _⟩
 ·simp only [hr,if_true] at cP;generalize yearOf s.data.toList=Y at *;generalize monthOf s.data.toList=M at *;generalize dayOf s.data.toList=D at *;go_enter Tryz.func143,Tryz.ntmps143
  go_wp2_with (go_at_call 148;refine (cP _).mono ?_;rintro e w1 ⟨rfl,b1⟩)
  go_ret
  first
   | exact ⟨rfl,b1⟩
   | exact ⟨rfl,b1.alloc b1.size _⟩
theorem of_any (s:ByteArray) (w:World) (k:Dc.Mx w) (hs:s.size≤1000000):Calls Tryz.prog 102 #[.string s] w fun e w'=>e=.returned (.int .i64 (kd s.data.toList))∧Below w.heap.size w w':=by
 have cS:=fun W=>sign_any s W;have cW:=fun W=>word_any s W;have cN:=fun W=>name_any s W hs;have cF:=Dc.of_mx s w k hs;have cD:=fun W=>day_any s W;rw [kd_kw];generalize sgn s.data.toList=a at *;generalize words.contains s.data.toList=b at *;generalize nm s.data.toList=c at *;generalize reads s.data.toList=d at *;generalize fm s.data.toList=f at *;obtain ⟨F,hF⟩:∃F:Int,F=(f:Int):=⟨_,rfl⟩;rw [←hF] at cF;cases a
 ·cases b
  ·cases c
   ·by_cases hf:f=0
    ·subst hf;obtain rfl:F=0:=hF;cases d
     all_goals
      go_enter Tryz.func102,Tryz.ntmps102
      go_wp2_with (first
       | (go_at_call 139;refine (cS _).mono ?_;rintro e w' ⟨rfl,h'⟩;rw [h'])
       | (go_at_call 140;refine (cW _).mono ?_;rintro e w' ⟨rfl,h'⟩;rw [h'])
       | (go_at_call 141;refine (cN _).mono ?_;rintro e w' ⟨rfl,h'⟩;rw [h'])
       | (go_at_call 142;refine cF.mono ?_;rintro e w1 ⟨rfl,b1⟩)
       | (go_at_call 143;go_loud (refine (cD _).mono ?_;rintro e w2 ⟨rfl,b2⟩;have B2:=b1.trans (b2.mono b1.size))))
      go_ret;exact ⟨rfl,B2⟩
    ·have hb:(F != 0)=true:=bne_iff_ne.2 (by omega);have hk:Hid (kw false false false f d=3):=hid (by unfold kw;rw [if_neg (by decide),if_neg (by decide),if_neg (by decide),if_pos hf]);clear hf hF;go_enter Tryz.func102,Tryz.ntmps102
     go_wp2_with (first
      | (go_at_call 139;refine (cS _).mono ?_;rintro e w' ⟨rfl,h'⟩;rw [h'])
      | (go_at_call 140;refine (cW _).mono ?_;rintro e w' ⟨rfl,h'⟩;rw [h'])
      | (go_at_call 141;refine (cN _).mono ?_;rintro e w' ⟨rfl,h'⟩;rw [h'])
      | (go_at_call 142;refine cF.mono ?_;rintro e w1 ⟨rfl,b1⟩))
     go_ret;exact ⟨ret_i (by rw [hk.out];rfl),b1⟩
   ·clear cF cD;go_enter Tryz.func102,Tryz.ntmps102
    go_wp2_with (first
     | (go_at_call 139;refine (cS _).mono ?_;rintro e w' ⟨rfl,h'⟩;rw [h'])
     | (go_at_call 140;refine (cW _).mono ?_;rintro e w' ⟨rfl,h'⟩;rw [h'])
     | (go_at_call 141;refine (cN _).mono ?_;rintro e w' ⟨rfl,h'⟩;rw [h']))
    go_ret;exact ⟨rfl,Below.refl _ _⟩
  ·clear cF cD cN;go_enter Tryz.func102,Tryz.ntmps102
   go_wp2_with (first
    | (go_at_call 139;refine (cS _).mono ?_;rintro e w' ⟨rfl,h'⟩;rw [h'])
    | (go_at_call 140;refine (cW _).mono ?_;rintro e w' ⟨rfl,h'⟩;rw [h']))
   go_ret;exact ⟨rfl,Below.refl _ _⟩
 ·clear cF cD cN cW;go_enter Tryz.func102,Tryz.ntmps102
  go_wp2_with (go_at_call 139;refine (cS _).mono ?_;rintro e w' ⟨rfl,h'⟩;rw [h'])
  go_ret;exact ⟨rfl,Below.refl _ _⟩
end Le
namespace L05
open Go.RowKit Go.Sort P R4 R5
def LieAt (w:World) (b o:Nat) (ts:List Tok):Prop:=b<w.heap.size∧
    ∀j t,ts[j]?=some t→w.cell? ⟨b,o+j*4,none⟩=some (.int .i64 t.k)∧w.cell? ⟨b,o+j*4+1,none⟩=some (.string ⟨t.t.toArray⟩)∧w.cell? ⟨b,o+j*4+2,none⟩=some (.int .i64 t.ln)∧w.cell? ⟨b,o+j*4+3,none⟩=some (.int .i64 t.cl)
theorem LieAt.on {w w1:World} {b o:Nat} {ts:List Tok} (h:LieAt w b o ts) (hb:Below w.heap.size w w1):LieAt w1 b o ts:=by
 refine ⟨Nat.lt_of_lt_of_le h.1 hb.size,fun j t hj=>?_⟩;obtain ⟨a0,a1,a2,a3⟩:=h.2 j t hj;rw [hb.cell h.1,hb.cell h.1,hb.cell h.1,hb.cell h.1];exact ⟨a0,a1,a2,a3⟩
def Form (w:World) (ao:Option Addr) (ts:List Tok):Prop:=ts≠[]→∃b o,ao=some ⟨b,o,none⟩∧LieAt w b o ts
def Holds (w:World) (v:Value) (ts:List Tok):Prop:=∃ao cap,v=.slice ao ts.length cap∧Form w ao ts
theorem tokCells_at (ts:List Tok) (j:Nat) (t:Tok) (h:ts[j]?=some t):(tokCells ts)[j*4]?=some (.int .i64 t.k)∧(tokCells ts)[j*4+1]?=some (.string ⟨t.t.toArray⟩)∧(tokCells ts)[j*4+2]?=some (.int .i64 t.ln)∧(tokCells ts)[j*4+3]?=some (.int .i64 t.cl):=by
 induction ts generalizing j with
 | nil=>cases j<;>cases h
 | cons a r ih=>
   have e:tokCells (a::r)=.int .i64 a.k::.string ⟨a.t.toArray⟩::.int .i64 a.ln::.int .i64 a.cl::tokCells r:=rfl;rw [e];cases j with
   | zero=>
     obtain rfl:a=t:=by simpa using h
     exact ⟨rfl,rfl,rfl,rfl⟩
   | succ j=>
     rw [show (j+1)*4=j*4+1+1+1+1 by omega];exact ih j (by simpa using h)
theorem holds_own {w:World} {base:Nat} {e:TypeId} {v:Value} {ts:List Tok} (h:w.ownsRow base e 4 v ts.length (tokCells ts)):Holds w v ts:=by
 rcases h.2 with ⟨h1,h2⟩|⟨g,cap,cur,h1,h2,h3,h4,h5,h6,h7⟩
 ·obtain rfl:ts=[]:=List.eq_nil_of_length_eq_zero h2;exact ⟨none,0,h1,fun n=>absurd rfl n⟩
 ·have hg:g<w.heap.size:=by
   rcases Nat.lt_or_ge g w.heap.size with k|k
   ·exact k
   ·rw [Array.getElem?_eq_none k] at h3;cases h3
  subst h1;have hc:=fun j hj=>h.cellAt j hj;refine ⟨some ⟨g,0,none⟩,cap,rfl,fun _=>⟨g,0,rfl,hg,fun j t hj=>?_⟩⟩;have hl:j<ts.length:=(List.getElem?_eq_some_iff.1 hj).1;obtain ⟨a0,a1,a2,a3⟩:=tokCells_at ts j t hj;rw [Nat.zero_add,hc _ (by omega),hc _ (by omega),hc _ (by omega),hc _ (by omega)];exact ⟨a0,a1,a2,a3⟩
def HoldsC (w:World) (v:Value) (ts:List Tok):Prop:=∃ao cap,v=.slice ao ts.length cap∧ts.length≤cap∧cap≤9223372036854775807∧(ts≠[]→∃b,ao=some ⟨b,0,none⟩∧LieAt w b 0 ts)
theorem holdsC_nil (w:World):HoldsC w (.slice none 0 0) []:=⟨none,0,rfl,Nat.le_refl _,by omega,fun n=>absurd rfl n⟩
theorem holdsC_own {w:World} {base:Nat} {e:TypeId} {v:Value} {ts:List Tok} (h:w.ownsRow base e 4 v ts.length (tokCells ts)):HoldsC w v ts:=by
 rcases h.2 with ⟨h1,h2⟩|⟨g,cap,cur,h1,h2,h3,h4,h5,h6,h7⟩
 ·obtain rfl:ts=[]:=List.eq_nil_of_length_eq_zero h2;exact ⟨none,0,h1,Nat.le_refl _,by omega,fun n=>absurd rfl n⟩
 ·have hg:g<w.heap.size:=by
   rcases Nat.lt_or_ge g w.heap.size with k|k
   ·exact k
   ·rw [Array.getElem?_eq_none k] at h3;cases h3
  subst h1;have hc:=fun j hj=>h.cellAt j hj;refine ⟨some ⟨g,0,none⟩,cap,rfl,h4,by unfold maxLen at h5;omega,fun _=>⟨g,rfl,hg,fun j t hj=>?_⟩⟩;have hl:j<ts.length:=(List.getElem?_eq_some_iff.1 hj).1;obtain ⟨a0,a1,a2,a3⟩:=tokCells_at ts j t hj;rw [Nat.zero_add,hc _ (by omega),hc _ (by omega),hc _ (by omega),hc _ (by omega)];exact ⟨a0,a1,a2,a3⟩
def flt (f:Nat×Nat×Nat):Value:=.agg #[.int .i64 f.1,.int .i64 f.2.1,.int .i64 f.2.2]
end L05
end Go.Proofs.YtofbobdhkbmbgaaGreatDoor
