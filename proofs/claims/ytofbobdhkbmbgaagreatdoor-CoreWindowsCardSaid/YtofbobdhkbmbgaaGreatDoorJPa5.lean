/- What package date does: reading a day's text. -/
import Derived.Test.YtofbobdhkbmbgaaGreatDoorJDate2
namespace Go.Proofs.YtofbobdhkbmbgaaGreatDoor
namespace Dt
open Go.RowKit Go.Sort P
def nv (l:List UInt8):Int:=if l.all isD then (val l:Int) else 0
theorem take_byte (s:ByteArray) (i:Nat) (h:i<s.size):s.data.toList.take (i+1)=s.data.toList.take i++[s[i]'h]:=by
 have hl:i<s.data.toList.length:=by simpa using h
 rw [←at_byte s i h,List.take_add_one,List.getElem?_eq_getElem hl];rfl
theorem rune_of (s:ByteArray) (i:Nat) (h:i<s.size):(isD (s[i]'h)=true∧Utf8.decode s i=((s[i]'h).toNat,1))∨(isD (s[i]'h)=false∧((Utf8.decode s i).1<48∨57<(Utf8.decode s i).1)):=by
 by_cases ha:(s[i]'h).toNat<128
 ·have e:=decode_ascii s i h ha;by_cases hd:isD (s[i]'h)=true
  ·exact .inl ⟨hd,e⟩
  ·refine .inr ⟨by simpa using hd,?_⟩;unfold isD at hd;rw [decide_eq_true_eq] at hd;rw [e];show (s[i]'h).toNat<48∨57<(s[i]'h).toNat
   omega
 ·have e:=(decode_high s i h (by omega)).1;refine .inr ⟨?_,.inr (by omega)⟩;unfold isD;rw [decide_eq_false_iff_not];omega
theorem not_all (s:ByteArray) (i:Nat) (h:i<s.size) (hb:isD (s[i]'h)=false):s.data.toList.all isD=false:=by
 rw [Bool.eq_false_iff];intro k;rw [List.all_eq_true] at k;have hl:i<s.data.toList.length:=by simpa using h
 have:=k _ (List.getElem_mem hl);rw [at_byte s i h,hb] at this;cases this
theorem number_any (s:ByteArray) (w:World) (hs:s.size≤4) :
  Calls Tryz.prog 186 #[.string s] w fun e w'=>e=.returned (.tuple #[.int .i64 (nv s.data.toList),.bool (s.data.toList.all isD)])∧Below w.heap.size w w':=by
 obtain ⟨A,hA⟩:∃A:Bool,A=s.data.toList.all isD:=⟨_,rfl⟩;obtain ⟨V,hV⟩:∃V:Int,V=nv s.data.toList:=⟨_,rfl⟩;rw [←hA,←hV];replace hA:=hid hA;replace hV:=hid hV;go_enter Tryz.func186,Tryz.ntmps186
 go_wp2;go_loopw [4] (fun n wr=>∃(pos:Nat) (v:Int),n=.int .i64 v∧v=(val (s.data.toList.take pos):Int)∧val (s.data.toList.take pos)<10 ^ pos∧pos≤s.size∧(s.data.toList.take pos).all isD=true∧wr.heap[w.heap.size]?=some (.stringIter s pos)∧Below w.heap.size w wr) (fun _ wr=>s.size-wr.iterPos w.heap.size)
 case atStart=>exact ⟨0,0,rfl,rfl,by simp [val],Nat.zero_le _,rfl,World.iter_heap w s 0,(Below.refl _ _).alloc (Nat.le_refl _) _⟩
 case round=>
  obtain ⟨pos,v,rfl,hv,hlt,hp0,hall,hit,hbw⟩:=hrel;have hp4:10 ^ pos≤10 ^ 4:=Nat.pow_le_pow_right (by decide) (by omega);by_cases hp:pos<s.size
  ·have hb2:=Lib.below_iterAt hbw (k:=w.heap.size) (Nat.le_refl _) s;rcases rune_of s pos hp with ⟨hd,he⟩|⟨hd,he⟩
   ·have hnx:∀ty,(Instr.next (.pointer (some ⟨w.heap.size,0,none⟩)) true ty).run Tryz.prog wr=_:=fun ty=>Lib.run_next_any_at wr w.heap.size s pos ty hit hp;rw [he] at hnx;have hit2:=Lib.iterAt_heap wr w.heap.size s pos (pos+1) hit;have hb3:=hb2 (pos+1);have hd':=hd;unfold isD at hd';rw [decide_eq_true_eq] at hd';have hk:=take_byte s pos hp;have hsn:val (s.data.toList.take (pos+1))=10*val (s.data.toList.take pos)+((s[pos]'hp).toNat-48):=by rw [hk,val_snoc]
    have hal:(s.data.toList.take (pos+1)).all isD=true:=by rw [hk,List.all_append,hall];simpa using hd
    obtain ⟨x,hx⟩:∃x:Int,x=((s[pos]'hp).toNat:Int):=⟨_,rfl⟩;have hx0:48≤x:=by omega
    have hx1:x≤57:=by omega
    have hv0:0≤v:=by omega
    have hv1:v≤10000:=by omega
    have hfin:10*v+(x-48)=(val (s.data.toList.take (pos+1)):Int):=by omega
    have hl2:val (s.data.toList.take (pos+1))<10 ^ (pos+1):=by rw [Nat.pow_succ];omega
    simp only [←hx] at hnx;have Hfin:=hid hfin;clear hfin hsn hk hd hd' he hx hv hlt hall hp4;go_wp2;go_roundw
    case rel=>exact ⟨pos+1,_,rfl,Hfin.out,hl2,by omega,hal,hit2,hb3⟩
    case measure=>
     simp only [World.iterPos,hit2,hit];omega
   ·have hna:=not_all s pos hp hd;have hnv:nv s.data.toList=0:=by unfold nv;rw [hna];rfl
    have hr:=decode_le s pos;have hb3:=hb2 (pos+(Utf8.decode s pos).2);have hnx:∀ty,(Instr.next (.pointer (some ⟨w.heap.size,0,none⟩)) true ty).run Tryz.prog wr=_:=fun ty=>Lib.run_next_any_at wr w.heap.size s pos ty hit hp;obtain ⟨x,hx⟩:∃x:Int,x=((Utf8.decode s pos).1:Int):=⟨_,rfl⟩;obtain ⟨W2,hW2⟩:∃W2,W2=wr.iterAt w.heap.size s (pos+(Utf8.decode s pos).2):=⟨_,rfl⟩;rw [←hx,←hW2] at hnx;rw [←hW2] at hb3;have hx1:x<48∨57<x:=by omega
    have Hna:=hid hna;have Hnv:=hid hnv;clear hna hnv he hd hx hW2 hr hv hlt hall;rcases hx1 with hx1|hx1
    ·go_wp2;go_ret2;exact ⟨ret_2 (vi (Hnv.out.symm.trans hV.out.symm)) (congrArg Value.bool (Hna.out.symm.trans hA.out.symm)),hb3⟩
    ·have hx2:¬ x<48:=by omega
     go_wp2;go_ret2;exact ⟨ret_2 (vi (Hnv.out.symm.trans hV.out.symm)) (congrArg Value.bool (Hna.out.symm.trans hA.out.symm)),hb3⟩
  ·have hnx:∀ty,(Instr.next (.pointer (some ⟨w.heap.size,0,none⟩)) true ty).run Tryz.prog wr=_:=fun ty=>Lib.run_next_end_at wr w.heap.size s pos ty hit hp;have e:s.data.toList.take pos=s.data.toList:=List.take_of_length_le (by show s.size≤_;omega);rw [e] at hall hv;have hnv:nv s.data.toList=v:=by unfold nv;rw [hall,hv];rfl
   have Hna:=hid hall;have Hnv:=hid hnv;clear hall hnv hv hlt e;go_wp2;go_ret2;exact ⟨ret_2 (vi (Hnv.out.symm.trans hV.out.symm)) (congrArg Value.bool (Hna.out.symm.trans hA.out.symm)),hbw⟩
theorem parts_len (s:ByteArray) (w:World) (h:s.size≠10) :
  Calls Tryz.prog 185 #[.string s] w fun e w'=>e=.returned (.tuple #[.agg #[.string ⟨#[]⟩,.string ⟨#[]⟩,.string ⟨#[]⟩],.bool false])∧Below w.heap.size w w':=by
 have h1:((s.size:Int) != 10)=true:=by simp;omega
 go_enter Tryz.func185,Tryz.ntmps185
 go_wp2;exact bodyPost_ret (v:=.tuple #[.agg #[.string ⟨#[]⟩,.string ⟨#[]⟩,.string ⟨#[]⟩],.bool false]) (by simp [results,Tryz.results185,go_sem]) rfl ⟨rfl,(Below.refl _ _).alloc (Nat.le_refl _) _⟩
theorem parts_four (s:ByteArray) (w:World) (h:s.size=10) (h4:¬ ((s[4]'(by omega)).toNat:Int)=45) :
  Calls Tryz.prog 185 #[.string s] w fun e w'=>e=.returned (.tuple #[.agg #[.string ⟨#[]⟩,.string ⟨#[]⟩,.string ⟨#[]⟩],.bool false])∧Below w.heap.size w w':=by
 have h1:((s.size:Int))=10:=by omega
 go_enter Tryz.func185,Tryz.ntmps185
 go_wp2;exact bodyPost_ret (v:=.tuple #[.agg #[.string ⟨#[]⟩,.string ⟨#[]⟩,.string ⟨#[]⟩],.bool false]) (by simp [results,Tryz.results185,go_sem]) rfl ⟨rfl,(Below.refl _ _).alloc (Nat.le_refl _) _⟩
theorem parts_seven (s:ByteArray) (w:World) (h:s.size=10) (h4:((s[4]'(by omega)).toNat:Int)=45) (h7:¬ ((s[7]'(by omega)).toNat:Int)=45) :
  Calls Tryz.prog 185 #[.string s] w fun e w'=>e=.returned (.tuple #[.agg #[.string ⟨#[]⟩,.string ⟨#[]⟩,.string ⟨#[]⟩],.bool false])∧Below w.heap.size w w':=by
 have h1:((s.size:Int))=10:=by omega
 have h8:(((s[7]'(by omega)).toNat:Int) != 45)=true:=by simpa using h7
 go_enter Tryz.func185,Tryz.ntmps185
 go_wp2;exact bodyPost_ret (v:=.tuple #[.agg #[.string ⟨#[]⟩,.string ⟨#[]⟩,.string ⟨#[]⟩],.bool false]) (by simp [results,Tryz.results185,go_sem]) rfl ⟨rfl,(Below.refl _ _).alloc (Nat.le_refl _) _⟩
theorem parts_yes (s:ByteArray) (w:World) (h:s.size=10) (h4:((s[4]'(by omega)).toNat:Int)=45) (h7:((s[7]'(by omega)).toNat:Int)=45) :
  Calls Tryz.prog 185 #[.string s] w fun e w'=>e=.returned (.tuple #[.agg #[.string (s.extract 0 4),.string (s.extract 5 7),.string (s.extract 8 10)],.bool true])∧Below w.heap.size w w':=by
 have h1:((s.size:Int))=10:=by omega
 have h8:(((s[7]'(by omega)).toNat:Int) != 45)=false:=by simpa using h7
 go_enter Tryz.func185,Tryz.ntmps185
 go_wp2
 go_region
 go_wp2;exact bodyPost_ret (v:=.tuple #[.agg #[.string (s.extract 0 4),.string (s.extract 5 7),.string (s.extract 8 10)],.bool true]) (by simp [results,Tryz.results185,go_sem]) rfl ⟨rfl,((Below.refl _ _).alloc (Nat.le_refl _) _).drew⟩
theorem parse_bad (s:ByteArray) (w:World)
  (hp:∀W,Calls Tryz.prog 185 #[.string s] W fun e w'=>e=.returned (.tuple #[.agg #[.string ⟨#[]⟩,.string ⟨#[]⟩,.string ⟨#[]⟩],.bool false])∧Below W.heap.size W w') :
  Calls Tryz.prog 148 #[.string s] w fun e w'=>e=.returned (.tuple #[dv 0 0 0,.bool false])∧Below w.heap.size w w':=by
 go_enter Tryz.func148,Tryz.ntmps148
 go_wp2_with (go_at_call 185;refine (hp _).mono ?_;rintro e w1 ⟨rfl,b1⟩;have M:=Lies3.later b1 rfl;obtain ⟨l,c0,c1,c2,f0,f1,f2⟩:=M;have bw:=(box3 b1).2.2.2.2;clear b1)
 exact bodyPost_ret (v:=.tuple #[.agg #[.int .i64 0,.int .i64 0,.int .i64 0],.bool false]) (by simp [results,Tryz.results148,go_sem, *]) rfl
  ⟨rfl,(((bw.setCell (Nat.le_refl _) _).setCell (Nat.le_refl _) _).setCell (Nat.le_refl _) _).alloc (by simp;omega) _⟩
theorem ix0 (T0 T1 T2:ByteArray) (W:World):(Instr.index 212 (.agg #[.string T0,.string T1,.string T2]) (.int .i64 0)).run Tryz.prog W=.ok (.string T0) W:=by kernel_rfl
theorem ix1 (T0 T1 T2:ByteArray) (W:World):(Instr.index 212 (.agg #[.string T0,.string T1,.string T2]) (.int .i64 1)).run Tryz.prog W=.ok (.string T1) W:=by kernel_rfl
theorem ix2 (T0 T1 T2:ByteArray) (W:World):(Instr.index 212 (.agg #[.string T0,.string T1,.string T2]) (.int .i64 2)).run Tryz.prog W=.ok (.string T2) W:=by kernel_rfl
theorem parse_walk (s T0 T1 T2:ByteArray) (n0 n1 n2:Int) (d0 d1 d2:Bool) (G:Ending) (w:World)
  (hp:∀W,Calls Tryz.prog 185 #[.string s] W fun e w'=>e=.returned (.tuple #[.agg #[.string T0,.string T1,.string T2],.bool true])∧Below W.heap.size W w')
  (cn0:∀W,Calls Tryz.prog 186 #[.string T0] W fun e w'=>e=.returned (.tuple #[.int .i64 n0,.bool d0])∧Below W.heap.size W w')
  (cn1:∀W,Calls Tryz.prog 186 #[.string T1] W fun e w'=>e=.returned (.tuple #[.int .i64 n1,.bool d1])∧Below W.heap.size W w')
  (cn2:∀W,Calls Tryz.prog 186 #[.string T2] W fun e w'=>e=.returned (.tuple #[.int .i64 n2,.bool d2])∧Below W.heap.size W w')
  (hN:Hid ((d0&&d1&&d2&&good n0 n1 n2)=false→.returned (.tuple #[dv 0 0 0,.bool false])=G))
  (hY:Hid ((d0&&d1&&d2&&good n0 n1 n2)=true→.returned (.tuple #[dv n0 n1 n2,.bool true])=G)) :
  Calls Tryz.prog 148 #[.string s] w fun e w'=>e=G∧Below w.heap.size w w':=by
 have i0:=ix0 T0 T1 T2;have i1:=ix1 T0 T1 T2;have i2:=ix2 T0 T1 T2;go_enter Tryz.func148,Tryz.ntmps148
 go_wp2_with (go_at_call 185;refine (hp _).mono ?_;rintro e w1 ⟨rfl,b1⟩;have M:=Lies3.later b1 rfl;obtain ⟨l,c0,c1,c2,f0,f1,f2⟩:=M;have bw:=(box3 b1).2.2.2.2;clear b1)
 have hbig:w.heap.size≠w1.heap.size+1:=by omega
 have hbig':w1.heap.size+1≠w.heap.size:=by omega
 go_loopw [19] (fun i wr=>∃i' x0 x1 x2:Int,i=.int .i64 i'∧0≤i'∧i'≤3∧Lies3 wr w.heap.size (.int .i64 0) (.int .i64 0) (.int .i64 0)∧
  Lies3 wr (w1.heap.size+1) (.int .i64 x0) (.int .i64 x1) (.int .i64 x2)∧Below w.heap.size w wr∧(0<i'→x0=n0∧d0=true)∧(1<i'→x1=n1∧d1=true)∧(2<i'→x2=n2∧d2=true)) (fun i _=>(3-intOf i).toNat)
 case atStart=>
  refine ⟨0,0,0,0,rfl,by omega,by omega,?_,?_,?_,by omega,by omega,by omega⟩
  ·exact (Lies3.mk l c0 c1 c2 f0 f1 f2).alloc _ |>.alloc _
  ·exact Lies3.new (by simp)
  ·exact (bw.alloc (Nat.le_of_lt l) _).alloc (by simp;omega) _
 case round=>
  obtain ⟨i',x0,x1,x2,rfl,hi0,hi3,LA,LB,hbw,e0,e1,e2⟩:=hrel;have hi:i'=0∨i'=1∨i'=2∨i'=3:=by omega
  clear c0 c1 c2 f0 f1 f2;rcases hi with rfl|rfl|rfl|rfl
  ·clear e0 e1 e2;cases d0
   ·have hG:=hid (hN.out (by simp));clear hN hY;go_wp2_with (go_at_call 186;refine (cn0 _).mono ?_;rintro e w2 ⟨rfl,b2⟩;have LA2:=LA.on b2;have LB2:=LB.on b2;have bw2:=hbw.trans (b2.mono hbw.size);obtain ⟨l2,c0,c1,c2,f0,f1,f2⟩:=LA2;obtain ⟨l3,c0',c1',c2',f0',f1',f2'⟩:=LB2;clear LA LB hbw b2)
    exact bodyPost_ret (v:=.tuple #[.agg #[.int .i64 0,.int .i64 0,.int .i64 0],.bool false]) (by simp [results,Tryz.results148,go_sem, *]) rfl
     ⟨hG.out,(((bw2.setCell (by simp;omega) _).setCell (Nat.le_refl _) _).setCell (Nat.le_refl _) _).setCell (Nat.le_refl _) _⟩
   ·go_wp2_with (go_at_call 186;refine (cn0 _).mono ?_;rintro e w2 ⟨rfl,b2⟩;have LA2:=LA.on b2;have LB2:=LB.on b2;have bw2:=hbw.trans (b2.mono hbw.size);obtain ⟨l2,c0,c1,c2,f0,f1,f2⟩:=LA2;obtain ⟨l3,c0',c1',c2',f0',f1',f2'⟩:=LB2;clear LA LB hbw b2)
    have LA3:=(Lies3.mk l2 c0 c1 c2 f0 f1 f2).other (j:=w1.heap.size+1) (o:=0) hbig (.int .i64 n0);have LB3:=(Lies3.mk l3 c0' c1' c2' f0' f1' f2').set0 (.int .i64 n0);have bw3:=bw2.setCell (p:=⟨w1.heap.size+1,0,none⟩) (by show w.heap.size≤w1.heap.size+1;omega) (.int .i64 n0);clear c0 c1 c2 f0 f1 f2 c0' c1' c2' f0' f1' f2';go_roundw
    case rel=>exact ⟨1,n0,x1,x2,rfl,by omega,by omega,LA3,LB3,bw3,by simp,by omega,by omega⟩
    case measure=>simp [intOf]
  ·obtain ⟨rfl,rfl⟩:=e0 (by omega);clear e0 e1 e2;cases d1
   ·have hG:=hid (hN.out (by simp));clear hN hY;go_wp2_with (go_at_call 186;refine (cn1 _).mono ?_;rintro e w2 ⟨rfl,b2⟩;have LA2:=LA.on b2;have LB2:=LB.on b2;have bw2:=hbw.trans (b2.mono hbw.size);obtain ⟨l2,c0,c1,c2,f0,f1,f2⟩:=LA2;obtain ⟨l3,c0',c1',c2',f0',f1',f2'⟩:=LB2;clear LA LB hbw b2)
    exact bodyPost_ret (v:=.tuple #[.agg #[.int .i64 0,.int .i64 0,.int .i64 0],.bool false]) (by simp [results,Tryz.results148,go_sem, *]) rfl
     ⟨hG.out,(((bw2.setCell (by simp;omega) _).setCell (Nat.le_refl _) _).setCell (Nat.le_refl _) _).setCell (Nat.le_refl _) _⟩
   ·go_wp2_with (go_at_call 186;refine (cn1 _).mono ?_;rintro e w2 ⟨rfl,b2⟩;have LA2:=LA.on b2;have LB2:=LB.on b2;have bw2:=hbw.trans (b2.mono hbw.size);obtain ⟨l2,c0,c1,c2,f0,f1,f2⟩:=LA2;obtain ⟨l3,c0',c1',c2',f0',f1',f2'⟩:=LB2;clear LA LB hbw b2)
    have LA3:=(Lies3.mk l2 c0 c1 c2 f0 f1 f2).other (j:=w1.heap.size+1) (o:=1) hbig (.int .i64 n1);have LB3:=(Lies3.mk l3 c0' c1' c2' f0' f1' f2').set1 (.int .i64 n1);have bw3:=bw2.setCell (p:=⟨w1.heap.size+1,1,none⟩) (by show w.heap.size≤w1.heap.size+1;omega) (.int .i64 n1);clear c0 c1 c2 f0 f1 f2 c0' c1' c2' f0' f1' f2';go_roundw
    case rel=>exact ⟨2,_,n1,x2,rfl,by omega,by omega,LA3,LB3,bw3,by simp,by simp,by omega⟩
    case measure=>simp [intOf]
  ·obtain ⟨rfl,rfl⟩:=e0 (by omega);obtain ⟨rfl,rfl⟩:=e1 (by omega);clear e0 e1 e2;cases d2
   ·have hG:=hid (hN.out (by simp));clear hN hY;go_wp2_with (go_at_call 186;refine (cn2 _).mono ?_;rintro e w2 ⟨rfl,b2⟩;have LA2:=LA.on b2;have LB2:=LB.on b2;have bw2:=hbw.trans (b2.mono hbw.size);obtain ⟨l2,c0,c1,c2,f0,f1,f2⟩:=LA2;obtain ⟨l3,c0',c1',c2',f0',f1',f2'⟩:=LB2;clear LA LB hbw b2)
    exact bodyPost_ret (v:=.tuple #[.agg #[.int .i64 0,.int .i64 0,.int .i64 0],.bool false]) (by simp [results,Tryz.results148,go_sem, *]) rfl
     ⟨hG.out,(((bw2.setCell (by simp;omega) _).setCell (Nat.le_refl _) _).setCell (Nat.le_refl _) _).setCell (Nat.le_refl _) _⟩
   ·go_wp2_with (go_at_call 186;refine (cn2 _).mono ?_;rintro e w2 ⟨rfl,b2⟩;have LA2:=LA.on b2;have LB2:=LB.on b2;have bw2:=hbw.trans (b2.mono hbw.size);obtain ⟨l2,c0,c1,c2,f0,f1,f2⟩:=LA2;obtain ⟨l3,c0',c1',c2',f0',f1',f2'⟩:=LB2;clear LA LB hbw b2)
    have LA3:=(Lies3.mk l2 c0 c1 c2 f0 f1 f2).other (j:=w1.heap.size+1) (o:=2) hbig (.int .i64 n2);have LB3:=(Lies3.mk l3 c0' c1' c2' f0' f1' f2').set2 (.int .i64 n2);have bw3:=bw2.setCell (p:=⟨w1.heap.size+1,2,none⟩) (by show w.heap.size≤w1.heap.size+1;omega) (.int .i64 n2);clear c0 c1 c2 f0 f1 f2 c0' c1' c2' f0' f1' f2';go_roundw
    case rel=>exact ⟨3,_,_,n2,rfl,by omega,by omega,LA3,LB3,bw3,by simp,by simp,by simp⟩
    case measure=>simp [intOf]
  ·obtain ⟨rfl,rfl⟩:=e0 (by omega);obtain ⟨rfl,rfl⟩:=e1 (by omega);obtain ⟨rfl,rfl⟩:=e2 (by omega);have cG:∀W,Calls Tryz.prog 124 #[.agg #[.int .i64 x0,.int .i64 x1,.int .i64 x2]] W fun e w'=>e=.returned (.bool (good x0 x1 x2))∧Below W.heap.size W w':=fun W=>good_any x0 x1 x2 W;obtain ⟨l3,c0',c1',c2',f0',f1',f2'⟩:=LB;have LA1:=fun o=>LA.alloc o;cases hg:good x0 x1 x2
   ·rw [hg] at cG hN;have hG:=hid (hN.out (by simp));clear hN hY e0 e1 e2 hg;go_wp2_with (go_at_call 124;refine (cG _).mono ?_;rintro e w2 ⟨rfl,b2⟩;have LA2:=(LA1 _).on b2;have bw2:=hbw.trans ((box3 b2).2.2.2.2.mono hbw.size);obtain ⟨l2,c0,c1,c2,f0,f1,f2⟩:=LA2;clear LA LA1 hbw b2)
    exact bodyPost_ret (v:=.tuple #[.agg #[.int .i64 0,.int .i64 0,.int .i64 0],.bool false]) (by simp [results,Tryz.results148,go_sem, *]) rfl
     ⟨hG.out,((bw2.setCell (Nat.le_refl _) _).setCell (Nat.le_refl _) _).setCell (Nat.le_refl _) _⟩
   ·rw [hg] at cG hY;have hG:=hid (hY.out (by simp));clear hN hY e0 e1 e2 hg;go_wp2_with (go_at_call 124;refine (cG _).mono ?_;rintro e w2 ⟨rfl,b2⟩;have LA2:=(LA1 _).on b2;have LC:=Lies3.later b2 rfl;have bw2:=hbw.trans ((box3 b2).2.2.2.2.mono hbw.size);obtain ⟨l2,c0,c1,c2,f0,f1,f2⟩:=LA2;obtain ⟨l4,k0,k1,k2,q0,q1,q2⟩:=LC;clear LA LA1 hbw b2)
    exact bodyPost_ret (v:=.tuple #[.agg #[.int .i64 x0,.int .i64 x1,.int .i64 x2],.bool true]) (by simp [results,Tryz.results148,go_sem, *]) rfl
     ⟨hG.out,((bw2.setCell (Nat.le_refl _) _).setCell (Nat.le_refl _) _).setCell (Nat.le_refl _) _⟩
theorem part_of (s:ByteArray) (i j:Nat):(s.extract i j).data.toList=(s.data.toList.drop i).take (j-i):=Lib.extract_data s i j
theorem nv_all {l:List UInt8} (h:l.all isD=true):nv l=(val l:Int):=by unfold nv;rw [h];rfl
theorem at_ten (s:ByteArray) (i:Nat) (h:i<s.size) (b:UInt8):s.data.toList.getD i 0=b↔(((s[i]'h).toNat:Int)=(b.toNat:Int)):=by
 have hl:i<s.data.toList.length:=by simpa using h
 rw [List.getD_eq_getElem?_getD,List.getElem?_eq_getElem hl,at_byte s i h,Option.getD_some];constructor
 ·rintro rfl;rfl
 ·intro k;exact UInt8.toNat_inj.1 (by omega)
theorem parse_any (s:ByteArray) (w:World) :
  Calls Tryz.prog 148 #[.string s] w fun e w'=>e=(if reads s.data.toList=true then .returned (.tuple #[dv (yearOf s.data.toList) (monthOf s.data.toList) (dayOf s.data.toList),.bool true]) else .returned (.tuple #[dv 0 0 0,.bool false]))∧Below w.heap.size w w':=by
 by_cases hs:s.size=10
 ·have hl:s.data.toList.length=10:=by simpa using hs
  by_cases h4:((s[4]'(by omega)).toNat:Int)=45
  ·by_cases h7:((s[7]'(by omega)).toNat:Int)=45
   ·have k4:=(at_ten s 4 (by omega) 45).2 h4;have k7:=(at_ten s 7 (by omega) 45).2 h7;have c0:=fun W=>number_any (s.extract 0 4) W (by simp [hs]);have c1:=fun W=>number_any (s.extract 5 7) W (by simp [hs]);have c2:=fun W=>number_any (s.extract 8 10) W (by simp [hs]);have e3:((s.data.toList.drop 8).take 2)=s.data.toList.drop 8:=List.take_of_length_le (by rw [List.length_drop];omega);simp only [part_of,List.drop_zero,Nat.sub_zero,show 7-5=2 from rfl,e3] at c0 c1 c2
    have key:((s.data.toList.take 4).all isD&&((s.data.toList.drop 5).take 2).all isD&&(s.data.toList.drop 8).all isD&&good (nv (s.data.toList.take 4)) (nv ((s.data.toList.drop 5).take 2)) (nv (s.data.toList.drop 8)))=reads s.data.toList:=by
     unfold reads formed yearOf monthOf dayOf;rw [hl,k4,k7];cases d0:(s.data.toList.take 4).all isD
     ·rfl
     ·cases d1:((s.data.toList.drop 5).take 2).all isD
      ·rfl
      ·cases d2:(s.data.toList.drop 8).all isD
       ·rfl
       ·rw [nv_all d0,nv_all d1,nv_all d2];rfl
    refine parse_walk s _ _ _ _ _ _ _ _ _ _ w (fun W=>parts_yes s W hs h4 h7) c0 c1 c2 (hid fun h=>?_) (hid fun h=>?_)
    ·rw [key] at h;rw [if_neg (by rw [h];decide)]
    ·have h':=h;rw [key] at h';rw [if_pos h'];simp only [Bool.and_eq_true] at h;rw [nv_all h.1.1.1,nv_all h.1.1.2,nv_all h.1.2];rfl
   ·have e:reads s.data.toList=false:=by
     have:s.data.toList.getD 7 0≠45:=fun k=>h7 ((at_ten s 7 (by omega) 45).1 k);unfold reads formed;rw [decide_eq_false this];simp
    rw [if_neg (by rw [e];decide)];exact parse_bad s w (fun W=>parts_seven s W hs h4 h7)
  ·have e:reads s.data.toList=false:=by
    have:s.data.toList.getD 4 0≠45:=fun k=>h4 ((at_ten s 4 (by omega) 45).1 k);unfold reads formed;rw [decide_eq_false this];simp
   rw [if_neg (by rw [e];decide)];exact parse_bad s w (fun W=>parts_four s W hs h4)
 ·have e:reads s.data.toList=false:=by
   have:s.data.toList.length≠10:=by simpa using hs
   unfold reads formed;rw [decide_eq_false this];rfl
  rw [if_neg (by rw [e];decide)];exact parse_bad s w (fun W=>parts_len s W hs)
end Dt
namespace Pa
open Go.RowKit Go.Sort P Tl
theorem next_any (b tb cap:Nat) (ts:List Tok) (s:St) (l:ByteArray) (hl:Wd l.data.toList) (w:World) (h:Rd w b tb cap ts s) :
  Calls Tryz.prog 144 #[.pointer (some ⟨b,0,none⟩),.string l] w fun e w'=>e=.returned (.bool (tke ts s l.data.toList).1)∧Rd w' b tb cap ts (tke ts s l.data.toList).2∧w.grownBy w' (some b):=by
 have H:=hid h;have hb:=h.lt;have c0:=h.c0;obtain ⟨a0,a1,a2,a3⟩:=h.at;have ho:=on_view h.knd h.ok hl;obtain ⟨T,hT⟩:∃T:ByteArray,T=⟨(vk ts s).t.toArray⟩:=⟨_,rfl⟩;rw [←hT] at a1;have hq:(T.toList==l.toList)=onW ts s l.data.toList:=by rw [ho,Lib.toList_data,Lib.toList_data,hT]
 have hc:1≤ts.length-vw ts s:=by have:=vw_lt h.ok;omega
 clear ho hT a0 a2 a3;cases ho:onW ts s l.data.toList
 ·have e:tke ts s l.data.toList=(false,s):=by unfold tke;rw [ho];rfl
  rw [e];rw [ho] at hq;clear e ho h hl;go_enter Tryz.func144,Tryz.ntmps144
  go_wp2;go_ret;exact ⟨rfl,H.out,grown_refl _ _⟩
 ·have e:tke ts s l.data.toList=(true,s.next):=by unfold tke;rw [ho];rfl
  rw [e];rw [ho] at hq;have cP:=pass_any b tb cap ts s w h (on_err ho) (h.ok.next (onW_k ho));clear e ho h hl;go_enter Tryz.func144,Tryz.ntmps144
  go_wp2_with (go_at_call 146;refine cP.mono ?_;rintro e w1 ⟨rfl,q1,g1⟩;have Q1:=hid q1;clear q1)
  go_ret;exact ⟨rfl,Q1.out,g1⟩
theorem need_any (b tb cap:Nat) (ts:List Tok) (s:St) (l:ByteArray) (hl:Wd l.data.toList) (w:World) (h:Rd w b tb cap ts s) :
  Calls Tryz.prog 103 #[.pointer (some ⟨b,0,none⟩),.string l] w fun e w'=>e=.returned (.tuple #[])∧Rd w' b tb cap ts (wnt ts s l.data.toList)∧w.grownBy w' (some b):=by
 have cT:=next_any b tb cap ts s l hl w h;cases ho:onW ts s l.data.toList
 ·have e:tke ts s l.data.toList=(false,s):=by unfold tke;rw [ho];rfl
  have e2:wnt ts s l.data.toList=wrg ts s 4:=by unfold wnt;rw [ho];rfl
  rw [e2];rw [e] at cT;clear e e2 ho h hl;go_enter Tryz.func103,Tryz.ntmps103
  go_wp2_with (first
   | (go_at_call 144;refine cT.mono ?_;rintro e w1 ⟨rfl,q1,g1⟩;have Q1:=hid q1;clear q1)
   | (go_at_call 145;refine (refuse_any _ _ _ _ _ 4 (by decide) _ Q1.out).mono ?_;rintro e w2 ⟨rfl,q2,g2⟩;have Q2:=hid q2;clear q2))
  go_end0
  exact ⟨rfl,Q2.out,grown_trans g1 g2⟩
 ·have e:tke ts s l.data.toList=(true,s.next):=by unfold tke;rw [ho];rfl
  have e2:wnt ts s l.data.toList=s.next:=by unfold wnt;rw [ho];rfl
  rw [e2];rw [e] at cT;clear e e2 ho h hl;go_enter Tryz.func103,Tryz.ntmps103
  go_wp2_with (go_at_call 144;refine cT.mono ?_;rintro e w1 ⟨rfl,q1,g1⟩;have Q1:=hid q1;clear q1)
  go_end0
  exact ⟨rfl,Q1.out,g1⟩
theorem clone_any (x:ByteArray) (w:World) (hx:x.size≤1000000):Calls Tryz.prog 147 #[.string x] w fun e w'=>e=.returned (.string x)∧Below w.heap.size w w':=by
 have cC:=Any.stringslite_Clone Tryz.laysM316 x w (by omega);clear hx;go_enter Tryz.func147,Tryz.ntmps147
 go_wp2_with (go_at_call 184;refine cC.mono ?_;rintro e w1 ⟨rfl,b1⟩)
 go_ret;exact ⟨rfl,b1⟩
structure Bx (W:World) (b:Nat) (cs:List Value):Prop where
 lt:b<W.heap.size
 cell:∀j u,cs[j]?=some u→W.cell? ⟨b,j,none⟩=some u
 free:∀j,W.frozen? ⟨b,j,none⟩=false
theorem Bx.new (w:World) (cs:List Value) (t:TypeId):Bx (w.alloc (.cells cs.toArray t)) w.heap.size cs:=by
 refine ⟨by simp,fun j u h=>?_,fun j=>?_⟩
 ·rw [World.cell?_alloc_new];simpa using h
 ·simp
theorem Bx.on {W W':World} {b:Nat} {cs:List Value} (h:Bx W b cs) (hb:Below W.heap.size W W'):Bx W' b cs:=
 ⟨Nat.lt_of_lt_of_le h.lt hb.size,fun j u k=>by rw [hb.cell h.lt];exact h.cell j u k,fun j=>by rw [hb.frozen h.lt];exact h.free j⟩
theorem Bx.grown {W W':World} {b:Nat} {cs:List Value} (h:Bx W b cs) {row:Option Nat} (hg:W.grownBy W' row) (hne:some b≠row):Bx W' b cs:=
 ⟨Nat.lt_of_lt_of_le h.lt hg.size,fun j u k=>by rw [World.cell?_of_block (w:=W) (hg.block b h.lt hne)];exact h.cell j u k,fun j=>by rw [World.frozen?_of_block (w:=W) (hg.block b h.lt hne)];exact h.free j⟩
theorem Bx.set {W:World} {b:Nat} {cs:List Value} (h:Bx W b cs) (i:Nat) (u:Value):Bx (W.setCell ⟨b,i,none⟩ u) b (cs.set i u):=by
 refine ⟨by simpa using h.lt,fun j v k=>?_,fun j=>?_⟩
 ·rw [List.getElem?_set] at k;split at k
  ·rename_i e
   subst e;split at k
   ·rename_i hi
    obtain rfl:u=v:=by simpa using k
    have:=h.cell i (cs[i]'hi) (List.getElem?_eq_getElem hi);exact World.cell?_setCell_same (h:=this) ..
   ·cases k
  ·rename_i e
   rw [World.cell?_setCell_other (h:=show (⟨b,i,none⟩:Addr)≠⟨b,j,none⟩ by simp only [ne_eq,Addr.mk.injEq,and_true,true_and];exact e) ..];exact h.cell j v k
 ·simpa using h.free j
theorem Bx.other {W:World} {b:Nat} {cs:List Value} (h:Bx W b cs) {p:Addr} (hp:b≠p.block) (u:Value):Bx (W.setCell p u) b cs:=
 ⟨by simpa using h.lt,fun j v k=>by rw [World.cell?_of_block (w:=W) (Below.heap_setCell _ _ _ _ hp)];exact h.cell j v k,fun j=>by rw [World.frozen?_of_block (w:=W) (Below.heap_setCell _ _ _ _ hp)];exact h.free j⟩
theorem loaded (w:World) (vs:List Value) (t:TypeId):∃w1,(w.alloc (.cells vs.toArray t))=w1∧Below w.heap.size w w1∧Bx w1 w.heap.size vs:=
 ⟨_,rfl,(Below.refl _ _).alloc (Nat.le_refl _) _,Bx.new _ _ _⟩
theorem name_any (b tb cap:Nat) (ts:List Tok) (s:St) (w:World) (h:Rd w b tb cap ts s) :
  Calls Tryz.prog 104 #[.pointer (some ⟨b,0,none⟩)] w fun e w'=>e=.returned (.string ⟨(tkn ts s 1).1.toArray⟩)∧Rd w' b tb cap ts (tkn ts s 1).2∧w.grownBy w' (some b):=by
 have H:=hid h;have hb:=h.lt;have c0:=h.c0;obtain ⟨a0,a1,a2,a3⟩:=h.at;have ho:=is_view h.knd h.ok (k:=1) (by decide);obtain ⟨T,hT⟩:∃T:ByteArray,T=⟨(vk ts s).t.toArray⟩:=⟨_,rfl⟩;obtain ⟨K,hK⟩:∃K:Int,K=((vk ts s).k:Int):=⟨_,rfl⟩;obtain ⟨L,hL⟩:∃L:Int,L=((vk ts s).ln:Int):=⟨_,rfl⟩;obtain ⟨C,hC⟩:∃C:Int,C=((vk ts s).cl:Int):=⟨_,rfl⟩;rw [←hT] at a1;rw [←hK] at a0;rw [←hL] at a2;rw [←hC] at a3;have hs:T.size≤1000000:=by rw [hT,ba_size];exact h.str_at
 have hq:isTk ts s 1=(K==1):=by
  rw [ho,Bool.eq_iff_iff,decide_eq_true_eq,beq_iff_eq];omega
 have hc:1≤ts.length-vw ts s:=by have:=vw_lt h.ok;omega
 obtain ⟨w1,hw1,b1,B1⟩:=loaded w [.int .i64 K,.string T,.int .i64 L,.int .i64 C] 154;have HW:Hid (w.alloc (.cells #[.int .i64 K,.string T,.int .i64 L,.int .i64 C] 154)=w1):=hid hw1;have R1:=h.on b1;have HB1:=hid B1;have HR1:=hid R1;have nb:some w.heap.size≠some b:=fun e=>by have:=Option.some.inj e;omega
 have cC:=fun W=>clone_any T W hs;clear ho hK hL hC;cases ho:isTk ts s 1
 ·have e:tkn ts s 1=([],wrg ts s 4):=by unfold tkn;rw [ho];rfl
  rw [e];rw [ho] at hq;have n1:(K != 1)=true:=by rw [bne,←hq];rfl
  clear hq;have cR:=refuse_any b tb cap ts s 4 (by decide) w1 R1;have d0:=B1.cell 0 _ rfl;have G1:=hid b1;clear e ho h hw1 b1 B1 R1 hT;go_enter Tryz.func104,Tryz.ntmps104
  go_upto_region 2 with fail
  rw [HW.out];clear a0 a1 a2 a3 c0;go_wp2_with (go_at_call 145;refine cR.mono ?_;rintro e w2 ⟨rfl,q2,g2⟩;have Q2:=hid q2;clear q2)
  go_ret;exact ⟨rfl,Q2.out,grown_trans (grown_below G1.out) g2⟩
 ·have e:tkn ts s 1=((tk ts s).t,s.next):=by unfold tkn;rw [ho];rfl
  rw [e];rw [ho] at hq;have n1:(K != 1)=false:=by rw [bne,←hq];rfl
  clear hq;have cP:=pass_any b tb cap ts s w1 R1 (is_err ho) (h.ok.next (isTk_k ho (by decide)));have hTk:T=⟨(tk ts s).t.toArray⟩:=by rw [hT,vk_ok (is_err ho)]
  have d0:=B1.cell 0 _ rfl;have G1:=hid b1;have HT:=hid hTk;clear e ho h hw1 b1 B1 R1 hT hTk;go_enter Tryz.func104,Tryz.ntmps104
  go_upto_region 2 with fail
  rw [HW.out];clear a0 a1 a2 a3 c0
  go_wp2_with (first
   | (go_at_call 146;refine cP.mono ?_;rintro e w2 ⟨rfl,q2,g2⟩;have e1:=(HB1.out.grown g2 nb).cell 1 _ rfl;have lb:=(HB1.out.grown g2 nb).lt;have Q2:=hid q2;clear q2)
   | (go_at_call 147;refine (cC _).mono ?_;rintro e w3 ⟨rfl,b3⟩))
  go_ret;exact ⟨ret_s HT.out,Q2.out.on b3,grown_trans (grown_below G1.out) (grown_trans g2 (grown_below b3))⟩
def dayV (d:Mm.Day):Value:=.agg #[d.y,d.m,d.d]
theorem date_any (s:ByteArray) (w:World):Calls Tryz.prog 148 #[.string s] w fun e w'=>e=.returned (.tuple #[dayV (dayOf' s.data.toList),.bool (reads s.data.toList)])∧Below w.heap.size w w':=by
 refine (Dt.parse_any s w).mono ?_;rintro e w' ⟨rfl,b⟩;refine ⟨?_,b⟩;unfold dayV dayOf' dv;cases reads s.data.toList<;>rfl
theorem day_any (b tb cap:Nat) (ts:List Tok) (s:St) (w:World) (h:Rd w b tb cap ts s) :
  Calls Tryz.prog 105 #[.pointer (some ⟨b,0,none⟩)] w fun e w'=>e=.returned (dayV (dayS ts s).1)∧Rd w' b tb cap ts (dayS ts s).2∧w.grownBy w' (some b):=by
 obtain ⟨w0,hw0,b0,B0⟩:=loaded w [.int .i64 0,.int .i64 0,.int .i64 0] 37;have HW:Hid (w.alloc (.cells #[.int .i64 0,.int .i64 0,.int .i64 0] 37)=w0):=hid hw0;have R0:=h.on b0;have hb:=R0.lt;have hbw:=h.lt;have c0:=R0.c0;obtain ⟨a0,a1,a2,a3⟩:=R0.at;obtain ⟨T,hT⟩:∃T:ByteArray,T=⟨(vk ts s).t.toArray⟩:=⟨_,rfl⟩;rw [←hT] at a1;have hTl:T.data.toList=(vk ts s).t:=by rw [hT]
 have hc:1≤ts.length-vw ts s:=by have:=vw_lt h.ok;omega
 have cD:=date_any T w0;rw [hTl] at cD;have nb:some w.heap.size≠some b:=fun e=>by have:=Option.some.inj e;omega
 have HB0:=hid B0;have HR0:=hid R0;have G0:=hid b0;have HH:=hid h;unfold dayV at cD ⊢;clear hT hTl a0 a2 a3 hw0 b0 B0 R0;cases hr:reads (vk ts s).t
 ·have e:=day_no h.knd h.ok hr;rw [e];rw [hr,show dayOf' (vk ts s).t=⟨0,0,0⟩ by unfold dayOf';rw [hr];rfl] at cD;clear e hr h;go_enter Tryz.func105,Tryz.ntmps105
  go_upto_region 1 with fail
  rw [HW.out]
  go_wp2_with (first
   | (go_at_call 148;refine cD.mono ?_;rintro e w1 ⟨rfl,b1⟩;have Q1:=hid (HR0.out.on b1);have Z1:=HB0.out.on b1;have HZ1:=hid Z1;have G1:=hid (grown_trans (grown_below (row:=some b) G0.out) (grown_below b1));clear b1 Z1)
   | (go_at_call 145;refine (refuse_any b tb cap ts s 4 (by decide) _ (Q1.out.on ((Below.refl _ _).alloc (Nat.le_refl _) _))).mono ?_;rintro e w2 ⟨rfl,q2,g2⟩
      have Z2:=(HZ1.out.on ((Below.refl _ _).alloc (Nat.le_refl _) _)).grown g2 nb
      have z0:=Z2.cell 0 _ rfl;have z1:=Z2.cell 1 _ rfl;have z2:=Z2.cell 2 _ rfl;have f0:=Z2.free 0;have f1:=Z2.free 1;have f2:=Z2.free 2;have Q2:=hid q2;have G2:=hid (grown_trans G1.out (grown_trans (grown_below ((Below.refl _ _).alloc (Nat.le_refl _) _)) g2));have lz:=Z2.lt;clear q2 g2 Z2))
  exact bodyPost_ret (v:=.agg #[.int .i64 0,.int .i64 0,.int .i64 0]) (by simp [results,Tryz.results105,go_sem, *]) rfl ⟨rfl,((Q2.out.far' hbw (Nat.le_refl _) _ _).far' hbw (Nat.le_refl _) _ _).far' hbw (Nat.le_refl _) _ _,grown_put (grown_put (grown_put G2.out (Nat.le_refl _) _ _) (Nat.le_refl _) _ _) (Nat.le_refl _) _ _⟩
 ·have e:=day_yes h.knd h.ok hr;have hi:=(day_view h.knd h.ok).trans hr;have HE:=hid (is_err hi);have HO:=hid (h.ok.next (isTk_k hi (by decide)));rw [e];rw [hr,show dayOf' (vk ts s).t=⟨yearOf (vk ts s).t,monthOf (vk ts s).t,dayOf (vk ts s).t⟩ by unfold dayOf';rw [hr];rfl] at cD;simp only at cD ⊢;generalize yearOf (vk ts s).t=Y at *;generalize monthOf (vk ts s).t=M at *;generalize dayOf (vk ts s).t=D at *;clear e hr h hi;go_enter Tryz.func105,Tryz.ntmps105
  go_upto_region 1 with fail
  rw [HW.out]
  go_wp2_with (first
   | (go_at_call 148;refine cD.mono ?_;rintro e w1 ⟨rfl,b1⟩;have Q1:=hid (HR0.out.on b1);have Z1:=HB0.out.on b1;have HZ1:=hid Z1;have G1:=hid (grown_trans (grown_below (row:=some b) G0.out) (grown_below b1));clear b1 Z1)
   | (go_at_call 146;refine (pass_any b tb cap ts s _ (Q1.out.on ((Below.refl _ _).alloc (Nat.le_refl _) _)) HE.out HO.out).mono ?_;rintro e w2 ⟨rfl,q2,g2⟩
      have Z2:=(HZ1.out.on ((Below.refl _ _).alloc (Nat.le_refl _) _)).grown g2 nb;have X2:=(Bx.new w1 [.int .i64 Y,.int .i64 M,.int .i64 D] 37).grown g2 (fun e=>by have:=Option.some.inj e;have:=Q1.out.lt;omega);have x0:=X2.cell 0 _ rfl;have x1:=X2.cell 1 _ rfl;have x2:=X2.cell 2 _ rfl
      have z0:=Z2.cell 0 _ rfl;have z1:=Z2.cell 1 _ rfl;have z2:=Z2.cell 2 _ rfl;have f0:=Z2.free 0;have f1:=Z2.free 1;have f2:=Z2.free 2;have Q2:=hid q2;have G2:=hid (grown_trans G1.out (grown_trans (grown_below ((Below.refl _ _).alloc (Nat.le_refl _) _)) g2));have lz:=Z2.lt;have lx:=X2.lt;clear q2 g2 Z2 X2))
  exact bodyPost_ret (v:=.agg #[.int .i64 Y,.int .i64 M,.int .i64 D]) (by simp [results,Tryz.results105,go_sem, *]) rfl ⟨rfl,((Q2.out.far' hbw (Nat.le_refl _) _ _).far' hbw (Nat.le_refl _) _ _).far' hbw (Nat.le_refl _) _ _,grown_put (grown_put (grown_put G2.out (Nat.le_refl _) _ _) (Nat.le_refl _) _ _) (Nat.le_refl _) _ _⟩
theorem number_any (b tb cap:Nat) (ts:List Tok) (s:St) (places most:Int) (w:World) (h:Rd w b tb cap ts s) :
  Calls Tryz.prog 217 #[.pointer (some ⟨b,0,none⟩),.int .i64 places,.int .i64 most] w fun e w'=>e=.returned (.int .i64 (numS ts s places most).1)∧Rd w' b tb cap ts (numS ts s places most).2∧w.grownBy w' (some b):=by
 have H:=hid h;have hb:=h.lt;have c0:=h.c0;obtain ⟨a0,a1,a2,a3⟩:=h.at;obtain ⟨T,hT⟩:∃T:ByteArray,T=⟨(vk ts s).t.toArray⟩:=⟨_,rfl⟩;rw [←hT] at a1;have hTl:T.data.toList=(vk ts s).t:=by rw [hT]
 have hs:T.size≤1000000:=by rw [hT,ba_size];exact h.str_at
 have hc:1≤ts.length-vw ts s:=by have:=vw_lt h.ok;omega
 have cD:=Dc.parse_mx T places most w h.ky.1 hs;rw [hTl] at cD;rcases pw_cases (vk ts s).t places most with hw|hw|hw
 ·obtain ⟨hi,e⟩:=num_yes h.knd h.ok hw;have HE:=hid (is_err hi);have HO:=hid (h.ok.next (isTk_k hi (by decide)));rw [e];rw [hw] at cD;simp only at cD ⊢;generalize pN (vk ts s).t places most=N at *;clear hT hTl a0 a2 a3 e hi hw hs h;go_enter Tryz.func217,Tryz.ntmps217
  go_wp2_with (first
   | (go_at_call 237;refine cD.mono ?_;rintro e w1 ⟨rfl,b1⟩;have Q1:=hid (H.out.on b1);have G1:=hid (grown_below (row:=some b) b1);clear b1)
   | (go_at_call 146;refine (pass_any b tb cap ts s _ Q1.out HE.out HO.out).mono ?_;rintro e w2 ⟨rfl,q2,g2⟩;have Q2:=hid q2;have G2:=hid g2;clear q2 g2))
  go_ret;exact ⟨rfl,Q2.out,grown_trans G1.out G2.out⟩
 ·have e:=num_no (ts:=ts) (s:=s) hw;obtain ⟨X,hX⟩:∃X,X=numS ts s places most:=⟨_,rfl⟩;have hX1:X.1=pN (vk ts s).t places most:=by rw [hX];rcases e with e|⟨_,e⟩<;>rw [e]
  have KX:Hid (∀W,Rd W b tb cap ts (wrg ts s 4)→Rd W b tb cap ts X.2):=hid fun W k=>by
   rw [hX];rcases e with e|⟨hi,e⟩
   ·rw [e];exact k
   ·rw [e];exact k.behind (wrg_err (by decide)) (ok_wrg_next (h.ok.next (isTk_k hi (by decide))))
  rw [←hX,hX1];rw [hw] at cD;generalize pN (vk ts s).t places most=N at *;clear hT hTl a0 a2 a3 e hw hs h hX1 hX;go_enter Tryz.func217,Tryz.ntmps217
  go_wp2_with (first
   | (go_at_call 237;refine cD.mono ?_;rintro e w1 ⟨rfl,b1⟩;have Q1:=hid (H.out.on b1);have G1:=hid (grown_below (row:=some b) b1);clear b1)
   | (go_at_call 145;refine (refuse_any b tb cap ts s 4 (by decide) _ Q1.out).mono ?_;rintro e w2 ⟨rfl,q2,g2⟩;have Q2:=hid q2;have G2:=hid g2;clear q2 g2))
  go_ret;exact ⟨rfl,KX.out _ Q2.out,grown_trans G1.out G2.out⟩
 ·obtain ⟨hi,e⟩:=num_great h.knd h.ok hw;have HO:=hid (h.ok.next (isTk_k hi (by decide)));rw [e];rw [hw] at cD;simp only at cD ⊢;generalize pN (vk ts s).t places most=N at *;clear hT hTl a0 a2 a3 e hi hw hs h;go_enter Tryz.func217,Tryz.ntmps217
  go_wp2_with (first
   | (go_at_call 237;refine cD.mono ?_;rintro e w1 ⟨rfl,b1⟩;have Q1:=hid (H.out.on b1);have G1:=hid (grown_below (row:=some b) b1);clear b1)
   | (go_at_call 145;refine (refuse_any b tb cap ts s 6 (by decide) _ Q1.out).mono ?_;rintro e w2 ⟨rfl,q2,g2⟩;have Q2:=hid q2;have G2:=hid g2;clear q2 g2))
  go_ret;exact ⟨rfl,Q2.out.behind (wrg_err (by decide)) (ok_wrg_next HO.out),grown_trans G1.out G2.out⟩
theorem whole_any (b tb cap:Nat) (ts:List Tok) (s:St) (most:Int) (w:World) (h:Rd w b tb cap ts s) :
  Calls Tryz.prog 187 #[.pointer (some ⟨b,0,none⟩),.int .i64 most] w fun e w'=>e=.returned (.int .i64 (numS ts s 0 most).1)∧Rd w' b tb cap ts (numS ts s 0 most).2∧w.grownBy w' (some b):=by
 have cN:=number_any b tb cap ts s 0 most w h;generalize numS ts s 0 most=X at *;clear h;go_enter Tryz.func187,Tryz.ntmps187
 go_wp2_with (go_at_call 217;refine cN.mono ?_;rintro e w1 ⟨rfl,q1,g1⟩;have Q1:=hid q1;clear q1)
 go_ret;exact ⟨rfl,Q1.out,g1⟩
def rateS (ts:List Tok) (s:St):Int×St:=((numS ts (wnt ts s wRate) 6 1000000000000).1,wnt ts (numS ts (wnt ts s wRate) 6 1000000000000).2 sSemi)
theorem rate_any (b tb cap:Nat) (ts:List Tok) (s:St) (w:World) (h:Rd w b tb cap ts s) :
  Calls Tryz.prog 218 #[.pointer (some ⟨b,0,none⟩)] w fun e w'=>e=.returned (.int .i64 (rateS ts s).1)∧Rd w' b tb cap ts (rateS ts s).2∧w.grownBy w' (some b):=by
 obtain ⟨s1,h1⟩:∃s1,s1=wnt ts s wRate:=⟨_,rfl⟩;obtain ⟨n,h2⟩:∃n,n=numS ts s1 6 1000000000000:=⟨_,rfl⟩;obtain ⟨s3,h3⟩:∃s3,s3=wnt ts n.2 sSemi:=⟨_,rfl⟩;have e:rateS ts s=(n.1,s3):=by rw [h3,h2,h1];rfl
 rw [e];have c1:=need_any b tb cap ts s ⟨#[114,97,116,101]⟩ (by decide) w h;rw [show (⟨#[114,97,116,101]⟩:ByteArray).data.toList=wRate from rfl,←h1] at c1;have H2:=hid h2;have H3:=hid h3;clear h1 h2 h3 e h;go_enter Tryz.func218,Tryz.ntmps218
 go_wp2_with fail
 refine c1.mono ?_;rintro e w1 ⟨rfl,q1,g1⟩;have c2:=number_any b tb cap ts s1 6 1000000000000 w1 q1;rw [←H2.out] at c2;clear q1;go_wp2_with fail
 refine c2.mono ?_;rintro e w2 ⟨rfl,q2,g2⟩;have c3:=need_any b tb cap ts n.2 ⟨#[59]⟩ (by decide) w2 q2;rw [show (⟨#[59]⟩:ByteArray).data.toList=sSemi from rfl,←H3.out] at c3;clear q2;go_wp2_with fail
 refine c3.mono ?_;rintro e w3 ⟨rfl,q3,g3⟩;have Q3:=hid q3;clear q3;go_wp2;go_ret;exact ⟨rfl,Q3.out,grown_trans g1 (grown_trans g2 g3)⟩
theorem kind_any (b tb cap:Nat) (ts:List Tok) (s:St) (w:World) (h:Rd w b tb cap ts s) :
  Calls Tryz.prog 189 #[.pointer (some ⟨b,0,none⟩)] w fun e w'=>e=.returned (.int .i64 (kindS ts s).1)∧Rd w' b tb cap ts (kindS ts s).2∧w.grownBy w' (some b):=by
 have c1:=next_any b tb cap ts s ⟨#[103,114,97,100,117,97,116,101,100]⟩ (by decide) w h;rw [show (⟨#[103,114,97,100,117,97,116,101,100]⟩:ByteArray).data.toList=wGraduated from rfl] at c1;cases o1:onW ts s wGraduated
 ·have e1:tke ts s wGraduated=(false,s):=by unfold tke;rw [o1];rfl
  rw [e1] at c1;cases o2:onW ts s wVolume
  ·have e2:tke ts s wVolume=(false,s):=by unfold tke;rw [o2];rfl
   have e:kindS ts s=(0,wrg ts s 4):=by unfold kindS oneS kinds oneAt;rw [o1];simp only [Bool.false_eq_true,if_false];unfold oneAt;rw [o2];rfl
   rw [e];have HE:=hid e2;clear e e1 e2 o1 o2 h;go_enter Tryz.func189,Tryz.ntmps189
   go_wp2_with fail
   refine c1.mono ?_;rintro e w1 ⟨rfl,q1,g1⟩;have c2:=next_any b tb cap ts s ⟨#[118,111,108,117,109,101]⟩ (by decide) w1 q1;rw [show (⟨#[118,111,108,117,109,101]⟩:ByteArray).data.toList=wVolume from rfl,HE.out] at c2;clear q1;go_wp2_with fail
   refine c2.mono ?_;rintro e w2 ⟨rfl,q2,g2⟩;have c3:=refuse_any b tb cap ts s 4 (by decide) w2 q2;clear q2;go_wp2_with fail
   refine c3.mono ?_;rintro e w3 ⟨rfl,q3,g3⟩;have Q3:=hid q3;clear q3;go_wp2;go_ret;exact ⟨rfl,Q3.out,grown_trans g1 (grown_trans g2 g3)⟩
  ·have e2:tke ts s wVolume=(true,s.next):=by unfold tke;rw [o2];rfl
   have e:kindS ts s=(2,s.next):=by unfold kindS oneS kinds oneAt;rw [o1];simp only [Bool.false_eq_true,if_false];unfold oneAt;rw [o2];rfl
   rw [e];have HE:=hid e2;clear e e1 e2 o1 o2 h;go_enter Tryz.func189,Tryz.ntmps189
   go_wp2_with fail
   refine c1.mono ?_;rintro e w1 ⟨rfl,q1,g1⟩;have c2:=next_any b tb cap ts s ⟨#[118,111,108,117,109,101]⟩ (by decide) w1 q1;rw [show (⟨#[118,111,108,117,109,101]⟩:ByteArray).data.toList=wVolume from rfl,HE.out] at c2;clear q1;go_wp2_with fail
   refine c2.mono ?_;rintro e w2 ⟨rfl,q2,g2⟩;have Q2:=hid q2;clear q2;go_wp2;go_ret;exact ⟨rfl,Q2.out,grown_trans g1 g2⟩
 ·have e1:tke ts s wGraduated=(true,s.next):=by unfold tke;rw [o1];rfl
  have e:kindS ts s=(1,s.next):=by unfold kindS oneS kinds oneAt;rw [o1];rfl
  rw [e1] at c1;rw [e];clear e e1 o1 h;go_enter Tryz.func189,Tryz.ntmps189
  go_wp2_with fail
  refine c1.mono ?_;rintro e w1 ⟨rfl,q1,g1⟩;have Q1:=hid q1;clear q1;go_wp2;go_ret;exact ⟨rfl,Q1.out,g1⟩
end Pa
end Go.Proofs.YtofbobdhkbmbgaaGreatDoor
