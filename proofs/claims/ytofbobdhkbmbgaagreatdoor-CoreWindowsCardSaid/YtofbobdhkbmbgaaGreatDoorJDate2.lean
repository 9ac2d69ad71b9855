/- What package decimal does: digits, plain, goodPlaces, tens, number. -/
import Derived.Test.YtofbobdhkbmbgaaGreatDoorJExact
import Derived.Lib.AppendIntMem
set_option maxHeartbeats 1000000
namespace Go.Proofs.YtofbobdhkbmbgaaGreatDoor
namespace Dc
open Go.RowKit Go.Sort P Ex
theorem take_byte (s:ByteArray) (i:Nat) (h:i<s.size):s.data.toList.take (i+1)=s.data.toList.take i++[s[i]'h]:=by
 have hl:i<s.data.toList.length:=by simpa using h
 rw [←at_byte s i h,List.take_add_one,List.getElem?_eq_getElem hl];rfl
theorem rune_of (s:ByteArray) (i:Nat) (h:i<s.size):(isDg (s[i]'h)=true∧Utf8.decode s i=((s[i]'h).toNat,1))∨(isDg (s[i]'h)=false∧((Utf8.decode s i).1<48∨57<(Utf8.decode s i).1)):=by
 by_cases ha:(s[i]'h).toNat<128
 ·have e:=decode_ascii s i h ha;by_cases hd:isDg (s[i]'h)=true
  ·exact .inl ⟨hd,e⟩
  ·refine .inr ⟨by simpa using hd,?_⟩;rw [isDg_iff] at hd;rw [e];show (s[i]'h).toNat<48∨57<(s[i]'h).toNat
   omega
 ·have e:=(decode_high s i h (by omega)).1;refine .inr ⟨?_,.inr (by omega)⟩;unfold isDg;rw [decide_eq_false_iff_not];omega
theorem not_all (s:ByteArray) (i:Nat) (h:i<s.size) (hb:isDg (s[i]'h)=false):s.data.toList.all isDg=false:=by
 rw [Bool.eq_false_iff];intro k;rw [List.all_eq_true] at k;have hl:i<s.data.toList.length:=by simpa using h
 have:=k _ (List.getElem_mem hl);rw [at_byte s i h,hb] at this;cases this
theorem all_at (s:ByteArray) (i:Nat) (h:i<s.size) (ha:s.data.toList.all isDg=true):isDg (s[i]'h)=true:=by
 rw [List.all_eq_true] at ha;have hl:i<s.data.toList.length:=by simpa using h
 have:=ha _ (List.getElem_mem hl)
 rwa [at_byte s i h] at this
theorem good_any (p:Int) (w:World):Calls Tryz.prog 245 #[.int .i64 p] w fun e w'=>e=.returned (.bool (decide (0≤p∧p≤9)))∧w=w':=by
 by_cases h0:0≤p
 ·by_cases h1:p≤9
  ·have e:decide (0≤p∧p≤9)=true:=decide_eq_true ⟨h0,h1⟩;rw [e];clear e;go_enter Tryz.func245,Tryz.ntmps245
   go_wp2;go_ret;exact ⟨rfl,rfl⟩
  ·have e:decide (0≤p∧p≤9)=false:=decide_eq_false (by omega);rw [e];clear e;go_enter Tryz.func245,Tryz.ntmps245
   go_wp2;go_ret;exact ⟨rfl,rfl⟩
 ·have e:decide (0≤p∧p≤9)=false:=decide_eq_false (by omega);rw [e];clear e;go_enter Tryz.func245,Tryz.ntmps245
  go_wp2;go_ret;exact ⟨rfl,rfl⟩
theorem digits_any (s:ByteArray) (w:World) :
  Calls Tryz.prog 183 #[.string s] w fun e w'=>e=.returned (.bool (s.data.toList.all isDg&&!s.data.toList.isEmpty))∧Below w.heap.size w w':=by
 obtain ⟨A,hA⟩:∃A:Bool,A=(s.data.toList.all isDg&&!s.data.toList.isEmpty):=⟨_,rfl⟩;rw [←hA];replace hA:=hid hA;go_enter Tryz.func183,Tryz.ntmps183
 go_wp2;go_loopw [] (fun wr=>∃(pos:Nat),pos≤s.size∧(s.data.toList.take pos).all isDg=true∧wr.heap[w.heap.size]?=some (.stringIter s pos)∧Below w.heap.size w wr) (fun wr=>s.size-wr.iterPos w.heap.size)
 case atStart=>exact ⟨0,Nat.zero_le _,rfl,World.iter_heap w s 0,(Below.refl _ _).alloc (Nat.le_refl _) _⟩
 case round=>
  obtain ⟨pos,hp0,hall,hit,hbw⟩:=hrel;by_cases hp:pos<s.size
  ·have hb2:=Lib.below_iterAt hbw (k:=w.heap.size) (Nat.le_refl _) s;rcases rune_of s pos hp with ⟨hd,he⟩|⟨hd,he⟩
   ·have hnx:∀ty,(Instr.next (.pointer (some ⟨w.heap.size,0,none⟩)) true ty).run Tryz.prog wr=_:=fun ty=>Lib.run_next_any_at wr w.heap.size s pos ty hit hp;rw [he] at hnx;have hit2:=Lib.iterAt_heap wr w.heap.size s pos (pos+1) hit;have hb3:=hb2 (pos+1);have hd':=(isDg_iff _).1 hd;have hk:=take_byte s pos hp;have hal:(s.data.toList.take (pos+1)).all isDg=true:=by rw [hk,List.all_append,hall];simpa using hd
    obtain ⟨x,hx⟩:∃x:Int,x=((s[pos]'hp).toNat:Int):=⟨_,rfl⟩;have hx0:48≤x:=by omega
    have hx1:x≤57:=by omega
    simp only [←hx] at hnx;clear hk hd hd' he hx hall;go_wp2;go_roundw
    case rel=>exact ⟨pos+1,by omega,hal,hit2,hb3⟩
    case measure=>
     simp only [World.iterPos,hit2,hit];omega
   ·have hna:=not_all s pos hp hd;have hb3:=hb2 (pos+(Utf8.decode s pos).2);have hnx:∀ty,(Instr.next (.pointer (some ⟨w.heap.size,0,none⟩)) true ty).run Tryz.prog wr=_:=fun ty=>Lib.run_next_any_at wr w.heap.size s pos ty hit hp;obtain ⟨x,hx⟩:∃x:Int,x=((Utf8.decode s pos).1:Int):=⟨_,rfl⟩;obtain ⟨W2,hW2⟩:∃W2,W2=wr.iterAt w.heap.size s (pos+(Utf8.decode s pos).2):=⟨_,rfl⟩;rw [←hx,←hW2] at hnx;rw [←hW2] at hb3;have hx1:x<48∨57<x:=by omega
    have Hna:Hid (A=false):=hid (by rw [hA.out,hna];rfl);clear hna he hd hx hW2 hall;rcases hx1 with hx1|hx1
    ·go_wp2;go_ret;exact ⟨ret_b Hna.out.symm,hb3⟩
    ·have hx2:¬ x<48:=by omega
     go_wp2;go_ret;exact ⟨ret_b Hna.out.symm,hb3⟩
  ·have hnx:∀ty,(Instr.next (.pointer (some ⟨w.heap.size,0,none⟩)) true ty).run Tryz.prog wr=_:=fun ty=>Lib.run_next_end_at wr w.heap.size s pos ty hit hp;have e:s.data.toList.take pos=s.data.toList:=List.take_of_length_le (by show s.size≤_;omega);rw [e] at hall;have Hna:Hid (A = !s.data.toList.isEmpty):=hid (by rw [hA.out,hall];rfl);clear hall e;go_wp2;go_ret;exact ⟨ret_b (by rw [Hna.out,ByteArray.toList_eq]),hbw⟩
theorem plain_any (s:ByteArray) (w:World) :
  Calls Tryz.prog 182 #[.string s] w fun e w'=>e=.returned (.bool (pl s.data.toList))∧Below w.heap.size w w':=by
 have cD:=digits_any s w;have hz:s.data.toList.length=s.size:=by show _=s.data.size;simp
 by_cases hA:(s.data.toList.all isDg&&!s.data.toList.isEmpty)=true
 ·have hA2:=hA;rw [Bool.and_eq_true] at hA2
  have hpos:0<s.size:=by
   cases h:s.data.toList with
   | nil=>rw [h] at hA2;cases hA2.2
   | cons a r=>rw [←hz,h];simp
  have h0:s.data.toList.getD 0 0=s[0]'hpos:=by
   rw [←at_byte s 0 hpos,List.getD_eq_getElem?_getD,List.getElem?_eq_getElem];rfl
  rw [hA] at cD;by_cases h1:(s.size:Int)=1
  ·have fin:pl s.data.toList=true:=by unfold pl;rw [hA,decide_eq_true (by omega)];rfl
   rw [fin];clear fin hA hA2 h0 hz;go_enter Tryz.func182,Tryz.ntmps182
   go_wp2_with (go_at_call 183;refine cD.mono ?_;rintro e w1 ⟨rfl,b1⟩)
   go_ret;exact ⟨rfl,b1⟩
  ·have fin:pl s.data.toList = !(s[0]'hpos==48):=by unfold pl;rw [hA,decide_eq_false (by omega),h0];rfl
   have e48:(s[0]'hpos==48)=(((s[0]'hpos).toNat:Int)==48):=by
    rw [Bool.eq_iff_iff,beq_iff_eq,beq_iff_eq,←UInt8.toNat_inj];show _↔_
    have:(48:UInt8).toNat=48:=rfl;omega
   rw [fin,e48];have h1':((s.size:Int)==1)=false:=by simpa using h1
   clear fin hA hA2 h0 hz e48;go_enter Tryz.func182,Tryz.ntmps182
   go_wp2_with (go_at_call 183;refine cD.mono ?_;rintro e w1 ⟨rfl,b1⟩)
   go_ret;exact ⟨rfl,b1⟩
 ·have hA':(s.data.toList.all isDg&&!s.data.toList.isEmpty)=false:=by simpa using hA
  have fin:pl s.data.toList=false:=by unfold pl;rw [hA'];rfl
  rw [fin];rw [hA'] at cD;clear fin hA hA';go_enter Tryz.func182,Tryz.ntmps182
  go_wp2_with (go_at_call 183;refine cD.mono ?_;rintro e w1 ⟨rfl,b1⟩)
  go_ret;exact ⟨rfl,b1⟩
theorem pow_step (n:Int) (j k:Nat) (h:j<k) (hn:0≤n):n*10 ^ j*10=n*10 ^ (j+1)∧n*10 ^ (j+1)≤n*10 ^ k∧0≤n*10 ^ (j+1):=by
 refine ⟨by rw [Int.mul_assoc,Int.pow_succ],Int.mul_le_mul_of_nonneg_left ?_ hn,Int.mul_nonneg hn (Int.pow_nonneg (by omega))⟩;have:(10:Nat) ^ (j+1)≤10 ^ k:=Nat.pow_le_pow_right (by decide) h
 exact_mod_cast this
theorem tens_any (n:Int) (k:Nat) (w:World) (hn:0≤n) (hI:I64 n) (hk:k≤9) :
  Calls Tryz.prog 247 #[.int .i64 n,.int .i64 (k:Int)] w fun e w'=>e=.returned (.tuple #[.int .i64 (cut64 (n*10 ^ k)),.bool (ok64 (n*10 ^ k))])∧w=w':=by
 obtain ⟨V,hV⟩:∃V:Int,V=n*10 ^ k:=⟨_,rfl⟩;rw [←hV];have H:=hid hV;clear hV;go_enter Tryz.func247,Tryz.ntmps247
 go_wp2
 go_loop [0,9] (fun a i=>∃(j:Nat) (v:Int),j≤k∧a=.int .i64 v∧i=.int .i64 (j:Int)∧0≤v∧I64 v∧Hid (v=n*10 ^ j)) (fun _ i=>k-(intOf i).toNat)
 case atStart=>exact ⟨0,n,Nat.zero_le _,rfl,rfl,hn,hI,hid (by simp)⟩
 case round=>
  obtain ⟨j,v,hj,rfl,rfl,hv0,hvI,hv⟩:=hrel;by_cases h:j<k
  ·have hlt:(j:Int)<k:=by omega
   have P1:=pow_step n j k h hn;have cM:=mul_any v 10 w hvI (by unfold I64;omega);by_cases ho:I64 (v*10)
   ·rw [cut64_t ho,ok64_t ho] at cM;have hv':Hid (v*10=n*10 ^ (j+1)):=hid (by rw [hv.out,P1.1]);obtain ⟨v',hv''⟩:∃v',v'=v*10:=⟨_,rfl⟩;rw [←hv''] at cM ho hv';have h0':0≤v':=by omega
    clear P1 hv'';go_wp2_with (go_at_call 223;refine cM.mono ?_;rintro e w1 ⟨rfl,rfl⟩)
    go_round
    case rel=>exact ⟨j+1,v',by omega,rfl,rfl,h0',ho,hv'⟩
    case measure=>simp [intOf];omega
   ·rw [cut64_f ho,ok64_f ho] at cM
    have hbig:¬ I64 V:=by
     have h1:=P1.1;rw [←hv.out] at h1;have h2:=P1.2.1;rw [←H.out] at h2;unfold I64 at *;omega
    have e1:=cut64_f hbig;have e2:=ok64_f hbig;have E:=hid (And.intro e1 e2);clear P1 hbig ho e1 e2;go_wp2_with (go_at_call 223;refine cM.mono ?_;rintro e w1 ⟨rfl,rfl⟩)
    go_ret2;exact ⟨Ex.ret_2 E.out.1.symm E.out.2.symm,rfl⟩
  ·have hlt:¬ (j:Int)<k:=by omega
   obtain rfl:j=k:=by omega
   have hvV:v=V:=by rw [hv.out,H.out]
   have E:=hid (And.intro (cut64_t (hvV ▸ hvI)) (ok64_t (hvV ▸ hvI)));have H2:=hid hvV;clear hvV;go_wp2;go_ret2;exact ⟨Ex.ret_2 (H2.out.trans E.out.1.symm) E.out.2.symm,rfl⟩
theorem stV_ge:∀(b a:List UInt8),b.all isDg=true→stV a≤stV (a++b)
 | b,a,h=>by
   rw [stV_digits b a h];have:0<10 ^ b.length:=Nat.pow_pos (by decide);have h2:stV a*1≤stV a*10 ^ b.length:=Nat.mul_le_mul_left _ (by omega);omega
theorem stV_take (l:List UInt8) (i:Nat) (h:l.all isDg=true):stV (l.take i)≤stV l:=by
 have h2:(l.drop i).all isDg=true:=by
  rw [List.all_eq_true] at *;exact fun b hb=>h b (List.mem_of_mem_drop hb)
 have:=stV_ge (l.drop i) (l.take i) h2
 rwa [List.take_append_drop] at this
theorem number_any (s:ByteArray) (w:World) (hd:s.data.toList.all isDg=true) :
  Calls Tryz.prog 246 #[.string s] w fun e w'=>e=.returned (.tuple #[.int .i64 (cut64 (stV s.data.toList)),.bool (ok64 (stV s.data.toList))])∧Below w.heap.size w w':=by
 obtain ⟨V,hV⟩:∃V:Int,V=(stV s.data.toList:Int):=⟨_,rfl⟩;rw [←hV];have H:=hid hV;clear hV;go_enter Tryz.func246,Tryz.ntmps246
 go_wp2;go_loopw [4] (fun n wr=>∃(pos:Nat) (v:Int),n=.int .i64 v∧0≤v∧I64 v∧pos≤s.size∧Hid (v=(stV (s.data.toList.take pos):Int))∧wr.heap[w.heap.size]?=some (.stringIter s pos)∧Below w.heap.size w wr) (fun _ wr=>s.size-wr.iterPos w.heap.size)
 case atStart=>exact ⟨0,0,rfl,Int.le_refl _,i64_0,Nat.zero_le _,hid rfl,World.iter_heap w s 0,(Below.refl _ _).alloc (Nat.le_refl _) _⟩
 case round=>
  obtain ⟨pos,v,rfl,hv0,hvI,hp0,hv,hit,hbw⟩:=hrel;by_cases hp:pos<s.size
  ·have hb2:=Lib.below_iterAt hbw (k:=w.heap.size) (Nat.le_refl _) s;have hdg:=all_at s pos hp hd
   have he:Utf8.decode s pos=((s[pos]'hp).toNat,1):=by
    rcases rune_of s pos hp with ⟨_,he⟩|⟨hx,_⟩
    ·exact he
    ·rw [hdg] at hx;cases hx
   have hnx:∀ty,(Instr.next (.pointer (some ⟨w.heap.size,0,none⟩)) true ty).run Tryz.prog wr=_:=fun ty=>Lib.run_next_any_at wr w.heap.size s pos ty hit hp;rw [he] at hnx;have hit2:=Lib.iterAt_heap wr w.heap.size s pos (pos+1) hit;have hb3:=hb2 (pos+1);have hd':=(isDg_iff _).1 hdg;have hk:=take_byte s pos hp
   have hsn:(stV (s.data.toList.take (pos+1)):Int)=v*10+(((s[pos]'hp).toNat:Int)-48):=by
    rw [hk,stV_snoc,if_neg (isDg_no46 hdg),hv.out];omega
   have hle:=stV_take s.data.toList (pos+1) hd;obtain ⟨x,hx⟩:∃x:Int,x=((s[pos]'hp).toNat:Int):=⟨_,rfl⟩;have hx0:48≤x:=by omega
   have hx1:x≤57:=by omega
   rw [←hx] at hsn;simp only [←hx] at hnx;have hVle:v*10+(x-48)≤V:=by rw [H.out,←hsn];omega
   obtain ⟨W2,hW2⟩:∃W2,W2=wr.iterAt w.heap.size s (pos+1):=⟨_,rfl⟩;rw [←hW2] at hb3 hit2 hnx;have cT:=tens_any v 1 W2 hv0 hvI (by decide);rw [show v*10 ^ 1=v*10 by simp] at cT;by_cases h1:I64 (v*10)
   ·rw [cut64_t h1,ok64_t h1] at cT;have cA:=add_any (v*10) (x-48) W2 h1 (by unfold I64;omega);by_cases h2:I64 (v*10+(x-48))
    ·rw [cut64_t h2,ok64_t h2] at cA;obtain ⟨y,hy⟩:∃y,y=v*10:=⟨_,rfl⟩;obtain ⟨z,hz⟩:∃z,z=y+(x-48):=⟨_,rfl⟩;rw [←hy] at cT cA h2 hsn;rw [←hz] at cA h2 hsn;have hz0:0≤z:=by omega
     have hfin:Hid (z=(stV (s.data.toList.take (pos+1)):Int)):=hid hsn.symm;have hW3:=hid hW2;clear hsn hle hk hd' hdg he hx hVle h1 hy hz hW2
     go_wp2_with (first
      | (go_at_call 247;refine cT.mono ?_;rintro e w1 ⟨rfl,rfl⟩)
      | (go_at_call 120;refine cA.mono ?_;rintro e w1 ⟨rfl,rfl⟩))
     go_roundw
     case rel=>exact ⟨pos+1,z,rfl,hz0,h2,by omega,hfin,hit2,hb3⟩
     case measure=>
      simp only [World.iterPos,hit2,hit];omega
    ·rw [cut64_f h2,ok64_f h2] at cA;have hbig:¬ I64 V:=by unfold I64 at *;omega
     have E:=hid (And.intro (cut64_f hbig) (ok64_f hbig));obtain ⟨y,hy⟩:∃y,y=v*10:=⟨_,rfl⟩;rw [←hy] at cT cA;clear hsn hle hk hd' hdg he hx hVle h1 h2 hy hW2 hbig
     go_wp2_with (first
      | (go_at_call 247;refine cT.mono ?_;rintro e w1 ⟨rfl,rfl⟩)
      | (go_at_call 120;refine cA.mono ?_;rintro e w1 ⟨rfl,rfl⟩))
     go_ret2;exact ⟨Ex.ret_2 E.out.1.symm E.out.2.symm,hb3⟩
   ·rw [cut64_f h1,ok64_f h1] at cT;have hbig:¬ I64 V:=by unfold I64 at *;omega
    have E:=hid (And.intro (cut64_f hbig) (ok64_f hbig));clear hsn hle hk hd' hdg he hx hVle h1 hW2 hbig;go_wp2_with (go_at_call 247;refine cT.mono ?_;rintro e w1 ⟨rfl,rfl⟩)
    go_ret2;exact ⟨Ex.ret_2 E.out.1.symm E.out.2.symm,hb3⟩
  ·have hnx:∀ty,(Instr.next (.pointer (some ⟨w.heap.size,0,none⟩)) true ty).run Tryz.prog wr=_:=fun ty=>Lib.run_next_end_at wr w.heap.size s pos ty hit hp;have e:s.data.toList.take pos=s.data.toList:=List.take_of_length_le (by show s.size≤_;omega);have hvV:v=V:=by rw [hv.out,e,H.out]
   have E:=hid (And.intro (cut64_t (hvV ▸ hvI)) (ok64_t (hvV ▸ hvI)));have H2:=hid hvV;clear hvV e;go_wp2;go_ret2;exact ⟨Ex.ret_2 (H2.out.trans E.out.1.symm) E.out.2.symm,hbw⟩
def Mx (w:World):Prop:=∃m,w.cell? ⟨6,0,none⟩=some (.int .i64 m)
theorem mx_of {w:World} (h:w.ShapedOpen Tryz.prog):Mx w:=Tryz.laysM145.s1_3 w h
theorem Mx.later {w w':World} (h:Mx w) (b:Below w.heap.size w w'):Mx w':=by
 obtain ⟨m,hm⟩:=h;exact ⟨m,(b.cell (World.block_lt_of_cell? w _ hm)).trans hm⟩
theorem cut_mx (s:ByteArray) (w:World) (k:Mx w) (hs:s.size≤1000000) :
  Calls Tryz.prog 181 #[.string s,.string ⟨#[46]⟩] w fun e w'=>e=.returned (.tuple #[.string ⟨(Lib.cut s.data.toList [46]).1.toArray⟩,.string ⟨(Lib.cut s.data.toList [46]).2.1.toArray⟩,.bool (Lib.cut s.data.toList [46]).2.2])∧Below w.heap.size w w':=by
 obtain ⟨m,hm⟩:=k;refine (Any.strings_Cut { Tryz.laysM145 with } s ⟨#[46]⟩ m w (by omega) hm).mono ?_;rintro e w' ⟨rfl,n,rfl⟩;exact ⟨rfl,bel_drewN (Below.refl _ _) n⟩
def fc (a b:List UInt8) (found:Bool):Int:=if pl a then (if found then (if b.all isDg&&!b.isEmpty then 2 else 0) else 1) else 0
theorem fm_fc (l:List UInt8):(fm l:Int)=fc (Lib.cut l [46]).1 (Lib.cut l [46]).2.1 (Lib.cut l [46]).2.2:=by
 rcases cut_one l 46 with ⟨h,e⟩|⟨a,b,h,h2,e⟩
 ·rw [e,fm_cut_no h];unfold fc;cases pl l<;>rfl
 ·rw [e,h,fm_cut_yes h2];unfold fc;cases pl a<;>cases (b.all isDg&&!b.isEmpty)<;>rfl
theorem mk_list (l:List UInt8):(⟨l.toArray⟩:ByteArray).data.toList=l:=by simp
theorem of_mx (s:ByteArray) (w:World) (k:Mx w) (hs:s.size≤1000000) :
  Calls Tryz.prog 142 #[.string s] w fun e w'=>e=.returned (.int .i64 (fm s.data.toList))∧Below w.heap.size w w':=by
 have cC:=cut_mx s w k hs;rw [fm_fc];generalize (Lib.cut s.data.toList [46]).1=a at *;generalize (Lib.cut s.data.toList [46]).2.1=b at *;generalize (Lib.cut s.data.toList [46]).2.2=f at *;have cP:=fun W=>plain_any ⟨a.toArray⟩ W;have cD:=fun W=>digits_any ⟨b.toArray⟩ W;rw [mk_list] at cP cD;unfold fc;generalize pl a=p at *;generalize (b.all isDg&&!b.isEmpty)=d at *;rcases Bool.eq_false_or_eq_true p with rfl|rfl
 ·rcases Bool.eq_false_or_eq_true f with rfl|rfl
  ·rcases Bool.eq_false_or_eq_true d with rfl|rfl
   all_goals
    go_enter Tryz.func142,Tryz.ntmps142
    go_wp2_with (first
     | (go_at_call 181;refine cC.mono ?_;rintro e w1 ⟨rfl,b1⟩)
     | (go_at_call 182;refine (cP _).mono ?_;rintro e w2 ⟨rfl,b2⟩;have B2:=b1.trans (b2.mono b1.size))
     | (go_at_call 183;refine (cD _).mono ?_;rintro e w3 ⟨rfl,b3⟩;have B3:=B2.trans (b3.mono B2.size)))
    go_ret;exact ⟨rfl,B3⟩
  ·go_enter Tryz.func142,Tryz.ntmps142
   go_wp2_with (first
    | (go_at_call 181;refine cC.mono ?_;rintro e w1 ⟨rfl,b1⟩)
    | (go_at_call 182;refine (cP _).mono ?_;rintro e w2 ⟨rfl,b2⟩;have B2:=b1.trans (b2.mono b1.size)))
   go_ret;exact ⟨rfl,B2⟩
 ·go_enter Tryz.func142,Tryz.ntmps142
  go_wp2_with (first
   | (go_at_call 181;refine cC.mono ?_;rintro e w1 ⟨rfl,b1⟩)
   | (go_at_call 182;refine (cP _).mono ?_;rintro e w2 ⟨rfl,b2⟩;have B2:=b1.trans (b2.mono b1.size)))
  go_ret;exact ⟨rfl,B2⟩
theorem cut_tells {l:List UInt8} (h:fm l≠0):∃a b f,Lib.cut l [46]=(a,b,f)∧(a++b).all isDg=true∧stV (a++b)=stV l∧max (stB l) 0=b.length∧a.length+b.length≤l.length:=by
 rcases cut_one l 46 with ⟨h1,e⟩|⟨a,b,h1,h2,e⟩
 ·rw [fm_cut_no h1] at h
  have hp:pl l=true:=by
   cases k:pl l
   ·rw [k] at h;exact absurd rfl h
   ·rfl
  obtain ⟨x,_,_⟩:=pl_oddHead hp;refine ⟨l,[],false,e,by rwa [List.append_nil],by rw [List.append_nil],?_,by simp⟩;rw [stB_plain x];rfl
 ·rw [h1,fm_cut_yes h2] at h
  have hp:(pl a&&(b.all isDg&&!b.isEmpty))=true:=by
   cases k:(pl a&&(b.all isDg&&!b.isEmpty))
   ·rw [k] at h;exact absurd rfl h
   ·rfl
  rw [Bool.and_eq_true,Bool.and_eq_true] at hp;obtain ⟨x,_,_⟩:=pl_oddHead hp.1;refine ⟨a,b,true,e,by rw [List.all_append,x,hp.2.1];rfl,by rw [h1,stV_cut hp.2.1],?_,by rw [h1];simp⟩;rw [h1,stB_cut hp.2.1];omega
theorem pw_bad {l:List UInt8} {p:Int} (most:Int) (h:pBad l p=true):pN l p most=0∧pW l p most=1:=by
 unfold pN pW;rw [h];exact ⟨rfl,rfl⟩
theorem pw_great {l:List UInt8} {p most:Int} (h:pBad l p=false) (g:pGreat l p most=true):pN l p most=0∧pW l p most=2:=by
 unfold pN pW;rw [h,g];exact ⟨rfl,rfl⟩
theorem pw_fine {l:List UInt8} {p most:Int} (h:pBad l p=false) (g:pGreat l p most=false):pN l p most=pV l p∧pW l p most=0:=by
 unfold pN pW;rw [h,g];exact ⟨rfl,rfl⟩
theorem big_pow {v:Int} {j:Nat} (hv0:0≤v) (h:¬ I64 v):¬ I64 (v*10 ^ j):=by
 have hp:(0:Int)<10 ^ j:=Int.pow_pos (by decide);obtain ⟨y,hy⟩:∃y:Int,y=10 ^ j:=⟨_,rfl⟩;rw [←hy] at hp ⊢;have h5:v*1≤v*y:=Int.mul_le_mul_of_nonneg_left (by omega) hv0;obtain ⟨z,hz⟩:∃z:Int,z=v*y:=⟨_,rfl⟩;rw [←hz] at h5 ⊢;clear hz hy;unfold I64 at *;omega
theorem parse_mx (s:ByteArray) (places most:Int) (w:World) (k:Mx w) (hs:s.size≤1000000) :
  Calls Tryz.prog 237 #[.string s,.int .i64 places,.int .i64 most] w fun e w'=>
   e=.returned (.tuple #[.int .i64 (pN s.data.toList places most),.int .i64 (pW s.data.toList places most)])∧Below w.heap.size w w':=by
 have cG:=fun W=>good_any places W;by_cases hg:0≤places∧places≤9
 ·rw [decide_eq_true hg] at cG;have cO:=of_mx s w k hs;by_cases hf:fm s.data.toList=0
  ·have hb:pBad s.data.toList places=true:=by unfold pBad;exact decide_eq_true (.inl hf)
   obtain ⟨e1,e2⟩:=pw_bad most hb;rw [e1,e2];rw [hf] at cO;clear hb e1 e2 hf hg;go_enter Tryz.func237,Tryz.ntmps237
   go_wp2_with (first
    | (go_at_call 245;refine (cG _).mono ?_;rintro e w1 ⟨rfl,rfl⟩)
    | (go_at_call 142;refine cO.mono ?_;rintro e w1 ⟨rfl,b1⟩))
   go_ret2;exact ⟨rfl,b1⟩
  ·obtain ⟨a,b,f,hc,hd,hv,hB,hl⟩:=cut_tells hf;have cC:=fun W kW=>cut_mx s W kW hs;rw [hc] at cC;obtain ⟨F,hF⟩:∃F:Int,F=(fm s.data.toList:Int):=⟨_,rfl⟩;rw [←hF] at cO;have hF0:(F==0)=false:=by simp;omega
   obtain ⟨bS,hbS⟩:∃bS:ByteArray,bS=⟨b.toArray⟩:=⟨_,rfl⟩;obtain ⟨aS,haS⟩:∃aS:ByteArray,aS=⟨a.toArray⟩:=⟨_,rfl⟩;have hbl:bS.size=b.length:=by rw [hbS,ba_size]
   have hal:aS.size=a.length:=by rw [haS,ba_size]
   have hll:s.data.toList.length=s.size:=by show _=s.data.size;simp
   simp only [←hbS,←haS] at cC;by_cases hp:places<(bS.size:Int)
   ·have hb:pBad s.data.toList places=true:=by unfold pBad;refine decide_eq_true (.inr (.inr (.inr ?_)));omega
    obtain ⟨e1,e2⟩:=pw_bad most hb;rw [e1,e2];clear hb e1 e2 hf hg hF hc hd hv hB hl hbS haS hbl hal hll;go_enter Tryz.func237,Tryz.ntmps237
    go_wp2_with (first
     | (go_at_call 245;refine (cG _).mono ?_;rintro e w1 ⟨rfl,rfl⟩)
     | (go_at_call 142;refine cO.mono ?_;rintro e w1 ⟨rfl,b1⟩;have k1:=k.later b1)
     | (go_at_call 181;refine (cC _ k1).mono ?_;rintro e w2 ⟨rfl,b2⟩;have B2:=b1.trans (b2.mono b1.size)))
    go_ret2;exact ⟨rfl,B2⟩
   ·have hb:pBad s.data.toList places=false:=by unfold pBad;refine decide_eq_false ?_;rintro (q|q|q|q)<;>omega
    obtain ⟨kk,hkk⟩:∃kk:Nat,kk=pK s.data.toList places:=⟨_,rfl⟩;have hk1:places-(bS.size:Int)=(kk:Int):=by rw [hkk];unfold pK;omega
    have hk9:kk≤9:=by omega
    have hwk:wrap64 (kk:Int)=kk:=wrap_in (by unfold I64;omega);have cN:=fun W=>number_any (aS++bS) W (by rw [haS,hbS,ba_append,mk_list];exact hd);have e0:(aS++bS).data.toList=a++b:=by rw [haS,hbS,ba_append,mk_list]
    rw [e0,hv] at cN;have hV:pV s.data.toList places=(stV s.data.toList:Int)*10 ^ kk:=by unfold pV;rw [hkk]
    obtain ⟨v,hvv⟩:∃v:Int,v=(stV s.data.toList:Int):=⟨_,rfl⟩;rw [←hvv] at cN hV;have hv0:0≤v:=by omega
    have hn:¬ 9223372036854775807<aS.size+bS.size:=by omega
    by_cases h1:I64 v
    ·rw [cut64_t h1,ok64_t h1] at cN;have cT:=fun W=>tens_any v kk W hv0 h1 hk9;rw [←hV] at cT;obtain ⟨V,hVV⟩:∃V:Int,V=pV s.data.toList places:=⟨_,rfl⟩;rw [←hVV] at cT;have hG:pGreat s.data.toList places most=(!ok64 V||decide (most<V)):=by unfold pGreat;rw [hVV]
     by_cases h2:I64 V
     ·rw [cut64_t h2,ok64_t h2] at cT;rw [ok64_t h2] at hG;by_cases h3:most<V
      ·rw [decide_eq_true h3] at hG;obtain ⟨e1,e2⟩:=pw_great hb hG;rw [e1,e2];clear hb e1 e2 hf hg hF hc hd hv hB hl hbS haS hbl hal hll hV hVV hG e0 hkk hvv hv0 h1 h2 hk9;go_enter Tryz.func237,Tryz.ntmps237
       go_wp2_with (first
        | (go_at_call 245;refine (cG _).mono ?_;rintro e w1 ⟨rfl,rfl⟩)
        | (go_at_call 142;refine cO.mono ?_;rintro e w1 ⟨rfl,b1⟩;have k1:=k.later b1)
        | (go_at_call 181;refine (cC _ k1).mono ?_;rintro e w2 ⟨rfl,b2⟩;have B2:=b1.trans (b2.mono b1.size))
        | (go_at_call 246;refine (cN _).mono ?_;rintro e w3 ⟨rfl,b3⟩;have B3:=B2.trans (b3.mono B2.size))
        | (go_at_call 247;rw [hwk];refine (cT _).mono ?_;rintro e w4 ⟨rfl,rfl⟩))
       go_ret2;exact ⟨rfl,B3⟩
      ·rw [decide_eq_false h3] at hG;obtain ⟨e1,e2⟩:=pw_fine hb hG;rw [e1,e2,←hVV];clear hb e1 e2 hf hg hF hc hd hv hB hl hbS haS hbl hal hll hV hVV hG e0 hkk hvv hv0 h1 h2 hk9;go_enter Tryz.func237,Tryz.ntmps237
       go_wp2_with (first
        | (go_at_call 245;refine (cG _).mono ?_;rintro e w1 ⟨rfl,rfl⟩)
        | (go_at_call 142;refine cO.mono ?_;rintro e w1 ⟨rfl,b1⟩;have k1:=k.later b1)
        | (go_at_call 181;refine (cC _ k1).mono ?_;rintro e w2 ⟨rfl,b2⟩;have B2:=b1.trans (b2.mono b1.size))
        | (go_at_call 246;refine (cN _).mono ?_;rintro e w3 ⟨rfl,b3⟩;have B3:=B2.trans (b3.mono B2.size))
        | (go_at_call 247;rw [hwk];refine (cT _).mono ?_;rintro e w4 ⟨rfl,rfl⟩))
       go_ret2;exact ⟨rfl,B3⟩
     ·rw [cut64_f h2,ok64_f h2] at cT;rw [ok64_f h2] at hG;obtain ⟨e1,e2⟩:=pw_great hb hG;rw [e1,e2];clear hb e1 e2 hf hg hF hc hd hv hB hl hbS haS hbl hal hll hV hVV hG e0 hkk hvv hv0 h1 h2 hk9;go_enter Tryz.func237,Tryz.ntmps237
      go_wp2_with (first
       | (go_at_call 245;refine (cG _).mono ?_;rintro e w1 ⟨rfl,rfl⟩)
       | (go_at_call 142;refine cO.mono ?_;rintro e w1 ⟨rfl,b1⟩;have k1:=k.later b1)
       | (go_at_call 181;refine (cC _ k1).mono ?_;rintro e w2 ⟨rfl,b2⟩;have B2:=b1.trans (b2.mono b1.size))
       | (go_at_call 246;refine (cN _).mono ?_;rintro e w3 ⟨rfl,b3⟩;have B3:=B2.trans (b3.mono B2.size))
       | (go_at_call 247;rw [hwk];refine (cT _).mono ?_;rintro e w4 ⟨rfl,rfl⟩))
      go_ret2;exact ⟨rfl,B3⟩
    ·rw [cut64_f h1,ok64_f h1] at cN;have hbig:¬ I64 (pV s.data.toList places):=hV ▸ big_pow hv0 h1;have hG:pGreat s.data.toList places most=true:=by unfold pGreat;rw [ok64_f hbig];rfl
     obtain ⟨e1,e2⟩:=pw_great hb hG;rw [e1,e2];clear hb e1 e2 hf hg hF hc hd hv hB hl hbS haS hbl hal hll hV hG e0 hkk hvv hv0 h1 hk9 hbig;go_enter Tryz.func237,Tryz.ntmps237
     go_wp2_with (first
      | (go_at_call 245;refine (cG _).mono ?_;rintro e w1 ⟨rfl,rfl⟩)
      | (go_at_call 142;refine cO.mono ?_;rintro e w1 ⟨rfl,b1⟩;have k1:=k.later b1)
      | (go_at_call 181;refine (cC _ k1).mono ?_;rintro e w2 ⟨rfl,b2⟩;have B2:=b1.trans (b2.mono b1.size))
      | (go_at_call 246;refine (cN _).mono ?_;rintro e w3 ⟨rfl,b3⟩;have B3:=B2.trans (b3.mono B2.size)))
     go_ret2;exact ⟨rfl,B3⟩
 ·have hb:pBad s.data.toList places=true:=by unfold pBad;refine decide_eq_true ?_;omega
  obtain ⟨e1,e2⟩:=pw_bad most hb;rw [e1,e2];rw [decide_eq_false hg] at cG;clear hb e1 e2 hg;go_enter Tryz.func237,Tryz.ntmps237
  go_wp2_with (go_at_call 245;refine (cG _).mono ?_;rintro e w1 ⟨rfl,rfl⟩)
  go_ret2;exact ⟨rfl,Below.refl _ _⟩
end Dc
namespace Pa
open Go.RowKit Go.Sort P Tl
theorem grown_refl (w:World) (row:Option Nat):w.grownBy w row:=⟨rfl,rfl,rfl,Nat.le_refl _,fun _ _ _=>rfl⟩
theorem grown_trans {w w1 w2:World} {row:Option Nat} (a:w.grownBy w1 row) (b:w1.grownBy w2 row):w.grownBy w2 row:=
 ⟨b.os.trans a.os,b.tape.trans a.tape,b.output.trans a.output,Nat.le_trans a.size b.size,fun k hk hne=>(b.block k (Nat.lt_of_lt_of_le hk a.size) hne).trans (a.block k hk hne)⟩
theorem grown_below {w w1:World} {row:Option Nat} (a:Below w.heap.size w w1):w.grownBy w1 row:=⟨a.os,a.tape,a.output,a.size,fun k hk _=>a.block k hk⟩
theorem grown_set (w:World) (b k:Nat) (u:Value):w.grownBy (w.setCell ⟨b,k,none⟩ u) (some b):=
 ⟨rfl,rfl,rfl,by simp,fun j _ hne=>Below.heap_setCell w ⟨b,k,none⟩ u j (fun e=>hne (by rw [e]))⟩
theorem grown_put {w w2:World} {row:Option Nat} (h:w.grownBy w2 row) {k:Nat} (hk:w.heap.size≤k) (o:Nat) (u:Value):w.grownBy (w2.setCell ⟨k,o,none⟩ u) row:=
 ⟨h.os,h.tape,h.output,by simpa using h.size,fun j hj hne=>(Below.heap_setCell w2 ⟨k,o,none⟩ u j (by show j≠k;omega)).trans (h.block j hj hne)⟩
def Md (w:World):Prop:=∀j l,modes[j]?=some l→w.cell? ⟨1,j,none⟩=some (.string ⟨l.toArray⟩)
def Ky (w:World):Prop:=Dc.Mx w∧Md w
theorem Ky.blocks {w w':World} (h:Ky w) (h1:w'.heap[6]?=w.heap[6]?) (h2:w'.heap[1]?=w.heap[1]?):Ky w':=by
 obtain ⟨⟨m,hm⟩,hd⟩:=h;exact ⟨⟨m,(World.cell?_of_block h1).trans hm⟩,fun j l hj=>(World.cell?_of_block h2).trans (hd j l hj)⟩
theorem Ky.lt {w:World} (h:Ky w):6<w.heap.size∧1<w.heap.size:=by
 obtain ⟨⟨m,hm⟩,hd⟩:=h;exact ⟨World.block_lt_of_cell? w _ hm,World.block_lt_of_cell? w _ (hd 0 _ rfl)⟩
theorem Ky.later {w w':World} (h:Ky w) (b:Below w.heap.size w w'):Ky w':=h.blocks (b.block _ h.lt.1) (b.block _ h.lt.2)
structure Rd (w:World) (b tb cap:Nat) (ts:List Tok) (s:St):Prop where
 lt:b<w.heap.size
 c0:w.cell? ⟨b,0,none⟩=some (.slice (some ⟨tb,vw ts s*4,none⟩) (ts.length-vw ts s) (cap-vw ts s))
 c1:w.cell? ⟨b,1,none⟩=some (.int .i64 s.err)
 c2:w.cell? ⟨b,2,none⟩=some (.int .i64 s.ln)
 c3:w.cell? ⟨b,3,none⟩=some (.int .i64 s.cl)
 fr:∀j,w.frozen? ⟨b,j,none⟩=false
 tlt:tb<b
 tok:∀j t,ts[j]?=some t→w.cell? ⟨tb,j*4,none⟩=some (.int .i64 t.k)∧w.cell? ⟨tb,j*4+1,none⟩=some (.string ⟨t.t.toArray⟩)∧w.cell? ⟨tb,j*4+2,none⟩=some (.int .i64 t.ln)∧w.cell? ⟨tb,j*4+3,none⟩=some (.int .i64 t.cl)
 cnt:ts.length≤100000
 room:ts.length≤cap∧cap≤9223372036854775807
 str:∀t∈ts,t.t.length≤1000000
 knd:Knd ts
 ok:Ok ts s
 z:s.err=0→s.ln=0∧s.cl=0
 ky:Ky w
 far:6<b∧1<b
section
variable {w w':World} {b tb cap:Nat} {ts:List Tok} {s s':St}
theorem Rd.of_grown (h:Rd w b tb cap ts s) (hg:w.grownBy w' (some b)) (ok:Ok ts s') (z:s'.err=0→s'.ln=0∧s'.cl=0)
  (c0:w'.cell? ⟨b,0,none⟩=some (.slice (some ⟨tb,vw ts s'*4,none⟩) (ts.length-vw ts s') (cap-vw ts s'))) (c1:w'.cell? ⟨b,1,none⟩=some (.int .i64 s'.err)) (c2:w'.cell? ⟨b,2,none⟩=some (.int .i64 s'.ln))
  (c3:w'.cell? ⟨b,3,none⟩=some (.int .i64 s'.cl)) (fr:∀j,w'.frozen? ⟨b,j,none⟩=false):Rd w' b tb cap ts s':=by
 have l1:=h.tlt;have l2:=h.lt;have hb:w'.heap[tb]?=w.heap[tb]?:=hg.block tb (by omega) (fun e=>by have:=Option.some.inj e;omega);have hc:∀o,w'.cell? ⟨tb,o,none⟩=w.cell? ⟨tb,o,none⟩:=fun o=>World.cell?_of_block hb
 exact ⟨Nat.lt_of_lt_of_le h.lt hg.size,c0,c1,c2,c3,fr,h.tlt,fun j t hj=>by rw [hc,hc,hc,hc];exact h.tok j t hj,h.cnt,h.room,h.str,h.knd,ok,z,
  h.ky.blocks (hg.block _ h.ky.lt.1 (fun e=>by have:=Option.some.inj e;have:=h.far.1;omega)) (hg.block _ h.ky.lt.2 (fun e=>by have:=Option.some.inj e;have:=h.far.2;omega)),h.far⟩
theorem Rd.other {row:Option Nat} (h:Rd w b tb cap ts s) (hg:w.grownBy w' row) (h1:∀k,row=some k→b<k):Rd w' b tb cap ts s:=by
 have nb:∀k,k≤b→some k≠row:=fun k hk e=>by have:=h1 k e.symm;omega
 have e:=hg.block b h.lt (nb b (Nat.le_refl _));have hc:∀o,w'.cell? ⟨b,o,none⟩=w.cell? ⟨b,o,none⟩:=fun o=>World.cell?_of_block e;have hf:∀o,w'.frozen? ⟨b,o,none⟩=w.frozen? ⟨b,o,none⟩:=fun o=>World.frozen?_of_block e;have l1:=h.tlt;have l2:=h.lt;have e2:=hg.block tb (by omega) (nb tb (by omega));have hc2:∀o,w'.cell? ⟨tb,o,none⟩=w.cell? ⟨tb,o,none⟩:=fun o=>World.cell?_of_block e2
 exact ⟨Nat.lt_of_lt_of_le h.lt hg.size,by rw [hc];exact h.c0,by rw [hc];exact h.c1,by rw [hc];exact h.c2,by rw [hc];exact h.c3,fun j=>by rw [hf];exact h.fr j,h.tlt,
  fun j t hj=>by rw [hc2,hc2,hc2,hc2];exact h.tok j t hj,h.cnt,h.room,h.str,h.knd,h.ok,h.z,
  h.ky.blocks (hg.block _ h.ky.lt.1 (nb _ (Nat.le_of_lt h.far.1))) (hg.block _ h.ky.lt.2 (nb _ (Nat.le_of_lt h.far.2))),h.far⟩
theorem Rd.on (h:Rd w b tb cap ts s) (hb:Below w.heap.size w w'):Rd w' b tb cap ts s:=h.other (row:=none) (grown_below hb) (fun _ e=>by cases e)
theorem Rd.aside (h:Rd w b tb cap ts s) {k:Nat} (hk:b<k) (o:Nat) (u:Value):Rd (w.setCell ⟨k,o,none⟩ u) b tb cap ts s:=
 h.other (grown_set _ _ _ _) (fun j e=>by have:=Option.some.inj e;omega)
theorem Rd.far' (h:Rd w' b tb cap ts s) (hb:b<w.heap.size) {k:Nat} (hk:w.heap.size≤k) (o:Nat) (u:Value):Rd (w'.setCell ⟨k,o,none⟩ u) b tb cap ts s:=h.aside (by omega) o u
theorem Rd.at (h:Rd w b tb cap ts s):w.cell? ⟨tb,vw ts s*4,none⟩=some (.int .i64 (vk ts s).k)∧w.cell? ⟨tb,vw ts s*4+1,none⟩=some (.string ⟨(vk ts s).t.toArray⟩)∧w.cell? ⟨tb,vw ts s*4+2,none⟩=some (.int .i64 (vk ts s).ln)∧w.cell? ⟨tb,vw ts s*4+3,none⟩=some (.int .i64 (vk ts s).cl):=h.tok _ _ (vk_at h.ok)
theorem Rd.str_at (h:Rd w b tb cap ts s):(vk ts s).t.length≤1000000:=h.str _ (List.mem_of_getElem? (vk_at h.ok))
theorem Rd.step (h:Rd w b tb cap ts s) (e:s.err=0) (ok:Ok ts s.next):Rd (w.setCell ⟨b,0,none⟩ (.slice (some ⟨tb,s.i*4+4,none⟩) (ts.length-s.i-1) (cap-s.i-1))) b tb cap ts s.next:=by
 have c0:=h.c0;have c1:=h.c1;have c2:=h.c2;have c3:=h.c3;have hl:=h.lt;have e1:vw ts s.next=s.i+1:=vw_ok (s:=s.next) e;refine h.of_grown (grown_set _ _ _ _) ok h.z ?_ ?_ ?_ ?_ ?_
 ·rw [e1,show (s.i+1)*4=s.i*4+4 by omega,show ts.length-(s.i+1)=ts.length-s.i-1 by omega,show cap-(s.i+1)=cap-s.i-1 by omega];go_simp
 ·show _=some (Value.int .i64 s.err);go_simp
 ·show _=some (Value.int .i64 s.ln);go_simp
 ·show _=some (Value.int .i64 s.cl);go_simp
 ·intro j;simpa using h.fr j
theorem Rd.refused (h:Rd w b tb cap ts s) (e:s.err=0) {x:Int} (hx:x≠0) (hw:w.grownBy w' (some b)) (c0:w'.cell? ⟨b,0,none⟩=some (.slice (some ⟨tb,(ts.length-1)*4,none⟩) 1 (cap-(ts.length-1))))
  (c1:w'.cell? ⟨b,1,none⟩=some (.int .i64 x)) (c2:w'.cell? ⟨b,2,none⟩=some (.int .i64 (tk ts s).ln)) (c3:w'.cell? ⟨b,3,none⟩=some (.int .i64 (tk ts s).cl)) (fr:∀j,w'.frozen? ⟨b,j,none⟩=false):Rd w' b tb cap ts (wrg ts s x):=by
 have e1:wrg ts s x = { s with err:=x,ln:=(tk ts s).ln,cl:=(tk ts s).cl }:=if_pos e;have e2:vw ts (wrg ts s x)=ts.length-1:=vw_bad (by rw [e1];exact hx);have hl:=h.ok.lt;refine h.of_grown hw (h.ok.wrg x) (fun c=>absurd (by rw [e1] at c;exact c) hx) ?_ ?_ ?_ ?_ fr
 ·rw [e2,c0,show ts.length-(ts.length-1)=1 by omega]
 ·rw [e1];exact c1
 ·rw [e1];exact c2
 ·rw [e1];exact c3
theorem Rd.behind (h:Rd w b tb cap ts s) (e:¬ s.err=0) (ok:Ok ts s.next):Rd w b tb cap ts s.next:=by
 have e1:vw ts s.next=vw ts s:=(vw_bad (s:=s.next) e).trans (vw_bad e).symm;refine h.of_grown (grown_refl _ _) ok h.z ?_ h.c1 h.c2 h.c3 h.fr;rw [e1];exact h.c0
end
theorem pass_any (b tb cap:Nat) (ts:List Tok) (s:St) (w:World) (h:Rd w b tb cap ts s) (e:s.err=0) (ok:Ok ts s.next) :
  Calls Tryz.prog 146 #[.pointer (some ⟨b,0,none⟩)] w fun x w'=>x=.returned (.tuple #[])∧Rd w' b tb cap ts s.next∧w.grownBy w' (some b):=by
 have H:=hid h;have hb:=h.lt;have c0:=h.c0;rw [vw_ok e] at c0;have f0:=h.fr 0;have i1:=ok.lt;have i2:s.i+1<ts.length:=i1;have r1:=h.room.1;have HE:=hid e;have HO:=hid ok;have hc1:1≤ts.length-s.i:=by omega
 have hc2:¬ cap-s.i=1:=by omega
 clear h e ok i1;go_enter Tryz.func146,Tryz.ntmps146
 go_wp2
 go_end0
 exact ⟨rfl,H.out.step HE.out HO.out,grown_set _ _ _ _⟩
theorem refuse_any (b tb cap:Nat) (ts:List Tok) (s:St) (x:Int) (hx:x≠0) (w:World) (h:Rd w b tb cap ts s) :
  Calls Tryz.prog 145 #[.pointer (some ⟨b,0,none⟩),.int .i64 x] w fun e w'=>e=.returned (.tuple #[])∧Rd w' b tb cap ts (wrg ts s x)∧w.grownBy w' (some b):=by
 have H:=hid h;have hb:=h.lt;have c1:=h.c1;have c2:=h.c2;have c3:=h.c3;by_cases h0:s.err=0
 ·rw [h0] at c1;rw [(h.z h0).1] at c2;rw [(h.z h0).2] at c3;have HX:=hid hx;have HE:=hid h0;have c0:=h.c0;rw [vw_ok h0] at c0;have i1:=h.ok.lt;have r1:=h.room.1;have hc1:1≤ts.length-s.i:=by omega
  have hcn:=h.cnt;obtain ⟨a0,a1,a2,a3⟩:=h.at;rw [vw_ok h0,vk_ok h0] at a2 a3;clear hx h0 h a0 a1;go_enter Tryz.func145,Tryz.ntmps145
  go_upto_region 1 with fail
  have k0:=cell_regrown c0;have k2:=cell_regrown a2;have k3:=cell_regrown a3;refine region_tail_below 19 (by kernel_rfl) (by kernel_rfl) ?_;simp only [List.take_succ_cons,List.take_zero,List.drop_succ_cons,List.drop_zero];repeat (go_big_quiet_step (fail))
  refine wpQuiet_nil ?_;intro _ hw';obtain ⟨⟨dq,osq⟩,hw''⟩:=hw';subst hw'';obtain ⟨w1,hw1⟩:∃w1,w1=grow (redrawn w dq) osq:=⟨_,rfl⟩;have b1:Below w.heap.size w w1:=by rw [hw1];exact below_regrown w dq osq
  rw [←hw1];have q0:=c0;clear k0 k2 k3 a2 a3 c0 c1 c2 c3 hb;have c0:w1.cell? ⟨b,0,none⟩=_:=(b1.cell H.out.lt).trans q0;have c1:w1.cell? ⟨b,1,none⟩=_:=(b1.cell H.out.lt).trans H.out.c1;have c2:w1.cell? ⟨b,2,none⟩=_:=(b1.cell H.out.lt).trans H.out.c2;have c3:w1.cell? ⟨b,3,none⟩=_:=(b1.cell H.out.lt).trans H.out.c3;have hb:b<w1.heap.size:=Nat.lt_of_lt_of_le H.out.lt b1.size;have fr:∀j,w1.frozen? ⟨b,j,none⟩=false:=fun j=>(b1.frozen H.out.lt).trans (H.out.fr j);have f1:=fr 1;have f2:=fr 2;have f3:=fr 3;have HB1:=hid b1;have FR:=hid fr;clear q0 hw1 b1 fr;go_wp2;obtain ⟨w2,hw2⟩:∃w2,w2=((w1.setCell ⟨b,1,none⟩ (.int .i64 x)).setCell ⟨b,2,none⟩ (.int .i64 (tk ts s).ln)).setCell ⟨b,3,none⟩ (.int .i64 (tk ts s).cl):=⟨_,rfl⟩;rw [←hw2];have e0:w2.cell? ⟨b,0,none⟩=some (.slice (some ⟨tb,s.i*4,none⟩) (ts.length-s.i) (cap-s.i)):=by rw [hw2];go_simp
  have e1:w2.cell? ⟨b,1,none⟩=some (.int .i64 x):=by rw [hw2];go_simp
  have e2:w2.cell? ⟨b,2,none⟩=some (.int .i64 (tk ts s).ln):=by rw [hw2];go_simp
  have e3:w2.cell? ⟨b,3,none⟩=some (.int .i64 (tk ts s).cl):=by rw [hw2];go_simp
  have fr:∀j,w2.frozen? ⟨b,j,none⟩=false:=fun j=>by rw [hw2];simpa using FR.out j
  have g2:w.grownBy w2 (some b):=by rw [hw2];exact grown_trans (grown_below HB1.out) (grown_trans (grown_set _ _ _ _) (grown_trans (grown_set _ _ _ _) (grown_set _ _ _ _)))
  have hb2:b<w2.heap.size:=Nat.lt_of_lt_of_le H.out.lt g2.size;have E1:=hid e1;have E2:=hid e2;have E3:=hid e3;have HF:=hid fr;have G2:=hid g2;have k0:=cell_regrown e0;clear c0 c1 c2 c3 f1 f2 f3 hb hw2 FR e1 e2 e3 fr g2;refine region_tail_below 14 (by kernel_rfl) (by kernel_rfl) ?_;simp only [List.take_succ_cons,List.take_zero,List.drop_succ_cons,List.drop_zero];repeat (go_big_quiet_step (fail))
  refine wpQuiet_nil ?_;intro _ hw';obtain ⟨⟨dq,osq⟩,hw''⟩:=hw';subst hw'';obtain ⟨w3,hw3⟩:∃w3,w3=grow (redrawn w2 dq) osq:=⟨_,rfl⟩;have b3:Below w2.heap.size w2 w3:=by rw [hw3];exact below_regrown w2 dq osq
  rw [←hw3];have hb3:b<w3.heap.size:=Nat.lt_of_lt_of_le hb2 b3.size;have f0:w3.frozen? ⟨b,0,none⟩=false:=(b3.frozen hb2).trans (HF.out 0);have c0:w3.cell? ⟨b,0,none⟩=_:=(b3.cell hb2).trans e0;have HB3:=hid b3;have HB:=hid hb2;clear hw3 b3 hb2 k0;go_wp2
  go_end0
  have g3:w.grownBy (w3.setCell ⟨b,0,none⟩ (.slice (some ⟨tb,s.i*4+(ts.length-s.i-1)*4,none⟩) (ts.length-s.i-(ts.length-s.i-1)) (cap-s.i-(ts.length-s.i-1)))) (some b):=grown_trans G2.out (grown_trans (grown_below HB3.out) (grown_set _ _ _ _));refine ⟨rfl,H.out.refused HE.out HX.out g3 ?_ ?_ ?_ ?_ ?_,g3⟩
  ·rw [show s.i*4+(ts.length-s.i-1)*4=(ts.length-1)*4 by omega,show ts.length-s.i-(ts.length-s.i-1)=1 by omega,show cap-s.i-(ts.length-s.i-1)=cap-(ts.length-1) by omega];go_simp
  ·have d:w3.cell? ⟨b,1,none⟩=_:=(HB3.out.cell HB.out).trans E1.out;go_simp
  ·have d:w3.cell? ⟨b,2,none⟩=_:=(HB3.out.cell HB.out).trans E2.out;go_simp
  ·have d:w3.cell? ⟨b,3,none⟩=_:=(HB3.out.cell HB.out).trans E3.out;go_simp
  ·intro j;have d:w3.frozen? ⟨b,j,none⟩=false:=(HB3.out.frozen HB.out).trans (HF.out j);simpa using d
 ·have he:wrg ts s x=s:=by unfold wrg;rw [if_neg h0]
  rw [he];have z:(s.err==0)=false:=by simpa using h0
  clear he h h0 hx;go_enter Tryz.func145,Tryz.ntmps145
  go_wp2
  (try simp only [Exit.inBlock,Exit.then]);refine bodyPost_ret (results_none rfl _ _ _) rfl ?_
  exact ⟨rfl,H.out,grown_refl _ _⟩
end Pa
namespace Dt
open Go.RowKit Go.Sort P
def Tab (w : World) : Prop := Lib.TabIs Tryz.prog w "internal/strconv.uint64pow10" .u64 Lib.pow10Tab
theorem Tab.later {w w':World} (h:Tab w) (b:Below w.heap.size w w'):Tab w':=Lib.tabBelow_of_tabIs h _ b
end Dt
end Go.Proofs.YtofbobdhkbmbgaaGreatDoor
