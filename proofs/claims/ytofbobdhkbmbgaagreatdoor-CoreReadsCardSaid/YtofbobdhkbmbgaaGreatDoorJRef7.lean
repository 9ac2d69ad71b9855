/- What the document's answers for layer 1 come to, the second half: back from a wide number, and the product. -/
import Derived.Test.YtofbobdhkbmbgaaGreatDoorJRef1
set_option maxRecDepth 100000
set_option maxHeartbeats 4000000
namespace Go.Proofs.YtofbobdhkbmbgaaGreatDoor
namespace R1
open Go.RowKit P
theorem int_neg (l:Int) (w:World) (h1:1≤l) (h2:¬ 9223372036854775808<l) :
  Calls Tryz.prog 153 #[.agg #[.bool true,.int .u64 0,.int .u64 l]] w fun e w'=>e=.returned (.tuple #[.int .i64 (-l),.bool true])∧Below w.heap.size w w':=by
 have ht:decide (9223372036854775808<l)=false:=by simpa using h2
 have h0:(l==0)=false:=by simp;omega
 have E:Hid (wrap64 (wrap64 (-wrap64 (IntKind.u64.wrap (l-1)))-1) = -l):=by
  show _=_
  rw [u64_mod];unfold wrap64;omega
 clear h1 h2;go_enter Tryz.func153,Tryz.ntmps153
 go_wp2;go_ret2;exact ⟨Ex.ret_2 E.out rfl,(Below.refl _ _).alloc (Nat.le_refl _) _⟩
theorem int_pos (l:Int) (w:World) (h1:0≤l) (h2:¬ 9223372036854775808≤l) :
  Calls Tryz.prog 153 #[.agg #[.bool false,.int .u64 0,.int .u64 l]] w fun e w'=>e=.returned (.tuple #[.int .i64 l,.bool true])∧Below w.heap.size w w':=by
 have ht:decide (9223372036854775808≤l)=false:=by simpa using h2
 have E:Hid (wrap64 l=l):=by show _=_;unfold wrap64;omega
 clear h1 h2;go_enter Tryz.func153,Tryz.ntmps153
 go_wp2;go_ret2;exact ⟨Ex.ret_2 E.out rfl,(Below.refl _ _).alloc (Nat.le_refl _) _⟩
theorem int_past (s:Bool) (l:Int) (w:World) (h2:if s=true then 9223372036854775808<l else 9223372036854775808≤l) :
  Calls Tryz.prog 153 #[.agg #[.bool s,.int .u64 0,.int .u64 l]] w fun e w'=>e=.returned (.tuple #[.int .i64 0,.bool false])∧Below w.heap.size w w':=by
 cases s
 ·have ht:decide (9223372036854775808≤l)=true:=by simpa using h2
  clear h2;go_enter Tryz.func153,Tryz.ntmps153
  go_wp2;go_ret2;exact ⟨rfl,(Below.refl _ _).alloc (Nat.le_refl _) _⟩
 ·have ht:decide (9223372036854775808<l)=true:=by simpa using h2
  clear h2;go_enter Tryz.func153,Tryz.ntmps153
  go_wp2;go_ret2;exact ⟨rfl,(Below.refl _ _).alloc (Nat.le_refl _) _⟩
theorem int_high (s:Bool) (m:Nat) (w:World) (ht:(((hiN m:Nat):Int)==0)=false) :
  Calls Tryz.prog 153 #[wide s m] w fun e w'=>e=.returned (.tuple #[.int .i64 0,.bool false])∧Below w.heap.size w w':=by
 unfold wide;go_enter Tryz.func153,Tryz.ntmps153
 go_wp2;go_ret2;exact ⟨rfl,(Below.refl _ _).alloc (Nat.le_refl _) _⟩
theorem int_any (v:Int) (w:World) :
  Calls Tryz.prog 153 #[W v] w fun e w'=>e=.returned (.tuple #[.int .i64 (cut64 v),.bool (ok64 v)])∧Below w.heap.size w w':=by
 by_cases hh:hiN v.natAbs=0
 ·have hl:((loN v.natAbs:Nat):Int)=(v.natAbs:Int):=by unfold loN;unfold hiN at hh;omega
  have e:W v=.agg #[.bool (decide (v<0)),.int .u64 0,.int .u64 (v.natAbs:Int)]:=by
   unfold W wide;rw [hh,hl];rfl
  rw [e];by_cases hi:I64 v
  ·rw [cut64_t hi,ok64_t hi];unfold I64 at hi;by_cases h0:v<0
   ·rw [decide_eq_true h0];have:=int_neg (v.natAbs:Int) w (by omega) (by omega);rw [show -(v.natAbs:Int)=v by omega] at this;exact this
   ·rw [decide_eq_false h0];have:=int_pos (v.natAbs:Int) w (by omega) (by omega);rw [show (v.natAbs:Int)=v by omega] at this ⊢;exact this
  ·rw [cut64_f hi,ok64_f hi];unfold I64 at hi;refine int_past _ _ w ?_;by_cases h0:v<0
   ·rw [decide_eq_true h0,if_pos rfl];omega
   ·rw [decide_eq_false h0,if_neg (by simp)];omega
 ·have ht:(((hiN v.natAbs:Nat):Int)==0)=false:=by simp;omega
  have hn:¬ I64 v:=by unfold I64;unfold hiN at hh;omega
  rw [cut64_f hn,ok64_f hn];exact int_high _ _ w ht
theorem of_small (a:Int) (w:World) (ha:I64 a) :
  Calls Tryz.prog 155 #[.int .i64 a] w fun e w'=>e=.returned (.agg #[.bool (decide (a<0)),.int .u64 0,.int .u64 (a.natAbs:Int)])∧Below w.heap.size w w':=by
 have h:=of_any a w ha;have hh:hiN a.natAbs=0:=hiN_small (by unfold I64 at ha;omega);have hl:loN a.natAbs=a.natAbs:=loN_small (by unfold I64 at ha;omega);unfold W wide at h;rw [hh,hl] at h;exact h
theorem plus_eq {s t:Bool} {m n:Nat} {h1 l1 h2 l2:Int} (w:World) (e1:h1=hiN m) (e2:l1=loN m) (e3:h2=hiN n) (e4:l2=loN n) (hs:m+n<two128) :
  Calls Tryz.prog 196 #[.agg #[.bool s,.int .u64 h1,.int .u64 l1],.agg #[.bool t,.int .u64 h2,.int .u64 l2]] w
   fun e w'=>e=.returned (.agg #[.bool false,.int .u64 (hiN (m+n)),.int .u64 (loN (m+n))])∧Below w.heap.size w w':=by
 subst e1 e2 e3 e4;exact plus_any s t m n w hs
theorem mul_sign {a b:Int} : (decide (a*b<0))=(!(decide (a<0)==decide (b<0))&&!((a.natAbs*b.natAbs)==0)):=by
 rw [←Int.natAbs_mul];by_cases ha:a<0
 ·by_cases hb:b<0
  ·have:0<a*b:=Int.mul_pos_of_neg_of_neg ha hb;simp [ha,hb];omega
  ·by_cases h0:b=0
   ·subst h0;simp
   ·have:a*b<0:=Int.mul_neg_of_neg_of_pos ha (by omega);simp [ha,hb,this];omega
 ·by_cases hb:b<0
  ·by_cases h0:a=0
   ·subst h0;simp
   ·have:a*b<0:=Int.mul_neg_of_pos_of_neg (by omega) hb;simp [ha,hb,this];omega
  ·have:0≤a*b:=Int.mul_nonneg (by omega) (by omega);simp [ha,hb];omega
theorem mul_walk (a b:Int) (w:World) (ha:I64 a) (hb:I64 b) (t z:Bool) (ht:(decide (a<0)==decide (b<0)) = !t) (hz:t=true→(M0 a.natAbs b.natAbs+M1 a.natAbs b.natAbs+M2 a.natAbs b.natAbs==0)=z) :
  Calls Tryz.prog 157 #[.int .i64 a,.int .i64 b] w fun e w'=>e=.returned (wide (t&&!z) (M0 a.natAbs b.natAbs+M1 a.natAbs b.natAbs+M2 a.natAbs b.natAbs))∧Below w.heap.size w w':=by
 have hx:a.natAbs≤9223372036854775808:=by unfold I64 at ha;omega
 have hy:b.natAbs≤9223372036854775808:=by unfold I64 at hb;omega
 have E1:=hid (m0_hi hx hy);have E2:=hid (@m0_lo a.natAbs b.natAbs);have E3:=hid (@m1_hi a.natAbs b.natAbs hy);have E4:=hid (@m1_lo a.natAbs b.natAbs);have E5:=hid (@m2_hi a.natAbs b.natAbs hx);have E6:=hid (@m2_lo a.natAbs b.natAbs);have S2:Hid (M0 a.natAbs b.natAbs+M1 a.natAbs b.natAbs+M2 a.natAbs b.natAbs<two128):=by show _<_;rw [mul_parts];exact prod_lt hx hy
 have S1:Hid (M0 a.natAbs b.natAbs+M1 a.natAbs b.natAbs<two128):=by have:=S2.out;show _<_;omega
 have HA:=hid ha;have HB:=hid hb;have HT:=hid ht;have HZ:=hid hz;clear ha hb hx hy ht hz;go_enter Tryz.func157,Tryz.ntmps157
 go_wp2_with fail
 refine (of_small _ _ HA.out).mono ?_;rintro e w1 ⟨rfl,hb1⟩;obtain ⟨hc1,hf1⟩:=bcell hb1;have k0:w.heap.size<w1.heap.size:=by have:=hb1.size;simp at this;omega
 go_wp2_with fail
 refine (of_small _ _ HB.out).mono ?_;rintro e w2 ⟨rfl,hb2⟩;obtain ⟨hc2,hf2⟩:=bcell hb2;have j0:w1.heap.size≤w2.heap.size:=hb2.size;have j1:w.heap.size<w2.heap.size:=by omega
 generalize hx:a.natAbs=x at *;generalize hy:b.natAbs=y at *;have HX:=hid hx.symm;have HY:=hid hy.symm;clear hx hy;generalize decide (a<0)=sa at *;generalize decide (b<0)=sb at *;have hbel:Below w.heap.size w w2:=below_via (below_via ((Below.refl _ _).alloc (Nat.le_refl _) _) hb1 (by simp)) hb2 (by omega)
 have hc:w2.cell? ⟨w.heap.size,0,none⟩=some (.bool false)∧w2.cell? ⟨w.heap.size,1,none⟩=some (.int .u64 0)∧w2.cell? ⟨w.heap.size,2,none⟩=some (.int .u64 0):=by
  refine ⟨?_,?_,?_⟩<;>(rw [hc2 _ _ (by omega),hc1 _ _ (by simp)];simp)
 obtain ⟨c0,c1,c2⟩:=hc
 have hf:∀o,w2.frozen? ⟨w.heap.size,o,none⟩=false:=by
  intro o;rw [hf2 _ _ (by omega),hf1 _ _ (by simp)];simp
 have BEL:=hid hbel;clear hc1 hf1 hc2 hf2 hb1 hb2 j0 k0 hbel;go_wp2
 go_quiet (fail)
 go_wp2
 go_quiet (fail)
 go_wp2;refine wp_loop_rounds 3 ?_;rw [rounds_succ];go_wp2_with fail
 refine (plus_eq _ E1.out E2.out E3.out E4.out S1.out).mono ?_;rintro e w3 ⟨rfl,hb3⟩;have q0:w.heap.size<w2.heap.size+1:=by omega
 have q1:w.heap.size<w2.heap.size+1+1:=by omega
 have q2:w.heap.size<w2.heap.size+1+1+1:=by omega
 obtain ⟨hc3,hf3⟩:=bcell hb3
 obtain ⟨p30,p31,p32,p33,p34⟩:w.heap.size<w3.heap.size∧w2.heap.size<w3.heap.size∧w2.heap.size+1<w3.heap.size∧w2.heap.size+1+1<w3.heap.size∧w2.heap.size+1+1+1<w3.heap.size:=by
  have:=hb3.size;simp at this;omega
 have ra3:w3.cell? ⟨w.heap.size,0,none⟩=some (.bool false):=by rw [hc3 _ _ (by first|omega|(simp<;>omega))];go_simp
 have rb3:w3.cell? ⟨w.heap.size,1,none⟩=some (.int .u64 0):=by rw [hc3 _ _ (by first|omega|(simp<;>omega))];go_simp
 have rc3:w3.cell? ⟨w.heap.size,2,none⟩=some (.int .u64 0):=by rw [hc3 _ _ (by first|omega|(simp<;>omega))];go_simp
 have xa3:w3.cell? ⟨w2.heap.size,0,none⟩=some (.bool sa):=by rw [hc3 _ _ (by first|omega|(simp<;>omega))];go_simp
 have ya3:w3.cell? ⟨w2.heap.size+1,0,none⟩=some (.bool sb):=by rw [hc3 _ _ (by first|omega|(simp<;>omega))];go_simp
 have oa3:w3.cell? ⟨w2.heap.size+1+1,0,none⟩=some (.bool false):=by rw [hc3 _ _ (by first|omega|(simp<;>omega))];go_simp
 have ob3:w3.cell? ⟨w2.heap.size+1+1,1,none⟩=some (.int .u64 (IntKind.u64.wrap ((x:Int) / 4294967296*((y:Int) / 4294967296)))):=by rw [hc3 _ _ (by first|omega|(simp<;>omega))];go_simp
 have oc3:w3.cell? ⟨w2.heap.size+1+1,2,none⟩=some (.int .u64 (IntKind.u64.wrap ((x:Int) % 4294967296*((y:Int) % 4294967296)))):=by rw [hc3 _ _ (by first|omega|(simp<;>omega))];go_simp
 have ta3:w3.cell? ⟨w2.heap.size+1+1+1,0,none⟩=some (.int .u64 (IntKind.u64.wrap ((x:Int) % 4294967296*((y:Int) / 4294967296)))):=by rw [hc3 _ _ (by first|omega|(simp<;>omega))];go_simp
 have tb3:w3.cell? ⟨w2.heap.size+1+1+1,1,none⟩=some (.int .u64 (IntKind.u64.wrap ((x:Int) / 4294967296*((y:Int) % 4294967296)))):=by rw [hc3 _ _ (by first|omega|(simp<;>omega))];go_simp
 have fr3:∀o,w3.frozen? ⟨w.heap.size,o,none⟩=false:=by intro o;rw [hf3 _ _ (by first|omega|(simp<;>omega))];go_simp
 have fo3:∀o,w3.frozen? ⟨w2.heap.size+1+1,o,none⟩=false:=by intro o;rw [hf3 _ _ (by first|omega|(simp<;>omega))];go_simp
 have B3:Hid (Below w.heap.size w w3):=by
  refine below_via ?_ hb3 (by first|omega|(simp<;>omega));repeat (first|(refine Below.setCell ?_ (by first|omega|(simp<;>omega)) _)|(refine Below.alloc ?_ (by first|omega|(simp<;>omega)) _)|(refine below_drewN ?_ _)|exact BEL.out)
 clear hc3 hf3 hb3 BEL c0 c1 c2 hf;go_wp2;rw [rounds_succ];go_wp2_with fail
 refine (plus_eq _ rfl rfl E5.out E6.out S2.out).mono ?_;rintro e w4 ⟨rfl,hb4⟩;obtain ⟨hc4,hf4⟩:=bcell hb4
 obtain ⟨p40,p41,p42,p43,p44⟩:w.heap.size<w4.heap.size∧w2.heap.size<w4.heap.size∧w2.heap.size+1<w4.heap.size∧w2.heap.size+1+1<w4.heap.size∧w2.heap.size+1+1+1<w4.heap.size:=by
  have:=hb4.size;simp at this;omega
 have ra4:w4.cell? ⟨w.heap.size,0,none⟩=some (.bool false):=by rw [hc4 _ _ (by first|omega|(simp<;>omega))];go_simp
 have rb4:w4.cell? ⟨w.heap.size,1,none⟩=some (.int .u64 0):=by rw [hc4 _ _ (by first|omega|(simp<;>omega))];go_simp
 have rc4:w4.cell? ⟨w.heap.size,2,none⟩=some (.int .u64 0):=by rw [hc4 _ _ (by first|omega|(simp<;>omega))];go_simp
 have xa4:w4.cell? ⟨w2.heap.size,0,none⟩=some (.bool sa):=by rw [hc4 _ _ (by first|omega|(simp<;>omega))];go_simp
 have ya4:w4.cell? ⟨w2.heap.size+1,0,none⟩=some (.bool sb):=by rw [hc4 _ _ (by first|omega|(simp<;>omega))];go_simp
 have oa4:w4.cell? ⟨w2.heap.size+1+1,0,none⟩=some (.bool false):=by rw [hc4 _ _ (by first|omega|(simp<;>omega))];go_simp
 have ob4:w4.cell? ⟨w2.heap.size+1+1,1,none⟩=some (.int .u64 (hiN (M0 x y+M1 x y))):=by rw [hc4 _ _ (by first|omega|(simp<;>omega))];go_simp
 have oc4:w4.cell? ⟨w2.heap.size+1+1,2,none⟩=some (.int .u64 (loN (M0 x y+M1 x y))):=by rw [hc4 _ _ (by first|omega|(simp<;>omega))];go_simp
 have fr4:∀o,w4.frozen? ⟨w.heap.size,o,none⟩=false:=by intro o;rw [hf4 _ _ (by first|omega|(simp<;>omega))];go_simp
 have fo4:∀o,w4.frozen? ⟨w2.heap.size+1+1,o,none⟩=false:=by intro o;rw [hf4 _ _ (by first|omega|(simp<;>omega))];go_simp
 have B4:Hid (Below w.heap.size w w4):=by
  refine below_via ?_ hb4 (by first|omega|(simp<;>omega));repeat (first|(refine Below.setCell ?_ (by first|omega|(simp<;>omega)) _)|(refine Below.alloc ?_ (by first|omega|(simp<;>omega)) _)|(refine below_drewN ?_ _)|exact B3.out)
 clear hc4 hf4 hb4 B3 ra3 rb3 rc3 xa3 ya3 oa3 ob3 oc3 fr3 fo3 ta3 tb3 p30 p31 p32 p33 p34;go_wp2;rw [rounds_succ];cases t
 ·have HS:(sa==sb)=true:=HT.out;go_wp2
  refine bodyPost_ret (v:=.agg #[.bool false,.int .u64 (hiN (M0 x y+M1 x y+M2 x y)),.int .u64 (loN (M0 x y+M1 x y+M2 x y))])
   (by simp only [results,Tryz.results157];go_simp) rfl ⟨by simp only [wide,Bool.false_and];rw [HX.out,HY.out],?_⟩
  repeat (first|(refine Below.setCell ?_ (by first|omega|(simp<;>omega)) _)|(refine Below.alloc ?_ (by first|omega|(simp<;>omega)) _)|(refine below_drewN ?_ _)|exact B4.out)
 ·have HS:(sa==sb)=false:=HT.out;have hz:=HZ.out rfl;have HZ1:=hid hz;clear hz;go_wp2_with fail
  refine (zero_any _ _ _).mono ?_;rintro e w5 ⟨rfl,hb5⟩;rw [HZ1.out];obtain ⟨hc5,hf5⟩:=bcell hb5
  obtain ⟨p50,p51,p52,p53,p54⟩:w.heap.size<w5.heap.size∧w2.heap.size<w5.heap.size∧w2.heap.size+1<w5.heap.size∧w2.heap.size+1+1<w5.heap.size∧w2.heap.size+1+1+1<w5.heap.size:=by
   have:=hb5.size;simp at this;omega
  have ra5:w5.cell? ⟨w.heap.size,0,none⟩=some (.bool false):=by rw [hc5 _ _ (by first|omega|(simp<;>omega))];go_simp
  have rb5:w5.cell? ⟨w.heap.size,1,none⟩=some (.int .u64 0):=by rw [hc5 _ _ (by first|omega|(simp<;>omega))];go_simp
  have rc5:w5.cell? ⟨w.heap.size,2,none⟩=some (.int .u64 0):=by rw [hc5 _ _ (by first|omega|(simp<;>omega))];go_simp
  have oa5:w5.cell? ⟨w2.heap.size+1+1,0,none⟩=some (.bool false):=by rw [hc5 _ _ (by first|omega|(simp<;>omega))];go_simp
  have ob5:w5.cell? ⟨w2.heap.size+1+1,1,none⟩=some (.int .u64 (hiN (M0 x y+M1 x y+M2 x y))):=by rw [hc5 _ _ (by first|omega|(simp<;>omega))];go_simp
  have oc5:w5.cell? ⟨w2.heap.size+1+1,2,none⟩=some (.int .u64 (loN (M0 x y+M1 x y+M2 x y))):=by rw [hc5 _ _ (by first|omega|(simp<;>omega))];go_simp
  have fr5:∀o,w5.frozen? ⟨w.heap.size,o,none⟩=false:=by intro o;rw [hf5 _ _ (by first|omega|(simp<;>omega))];go_simp
  have fo5:∀o,w5.frozen? ⟨w2.heap.size+1+1,o,none⟩=false:=by intro o;rw [hf5 _ _ (by first|omega|(simp<;>omega))];go_simp
  have B5:Hid (Below w.heap.size w w5):=by
   refine below_via ?_ hb5 (by first|omega|(simp<;>omega));repeat (first|(refine Below.setCell ?_ (by first|omega|(simp<;>omega)) _)|exact B4.out)
  clear hc5 hf5 hb5 B4 ra4 rb4 rc4 xa4 ya4 oa4 ob4 oc4 fr4 fo4;go_wp2
  refine bodyPost_ret (v:=.agg #[.bool (!z),.int .u64 (hiN (M0 x y+M1 x y+M2 x y)),.int .u64 (loN (M0 x y+M1 x y+M2 x y))])
   (by simp only [results,Tryz.results157];go_simp) rfl ⟨by simp only [wide,Bool.true_and];rw [HX.out,HY.out],?_⟩
  repeat (first|(refine Below.setCell ?_ (by first|omega|(simp<;>omega)) _)|exact B5.out)
theorem mul_any (a b:Int) (w:World) (ha:I64 a) (hb:I64 b) :
  Calls Tryz.prog 157 #[.int .i64 a,.int .i64 b] w fun e w'=>e=.returned (W (a*b))∧Below w.heap.size w w':=by
 have h:=mul_walk a b w ha hb (!(decide (a<0)==decide (b<0))) (M0 a.natAbs b.natAbs+M1 a.natAbs b.natAbs+M2 a.natAbs b.natAbs==0) (by simp) (fun _=>rfl);rw [mul_parts] at h;unfold W;rw [mul_sign,Int.natAbs_mul];exact h
end R1
namespace R4
open Go.RowKit P Ex
theorem more_any (n d:Int) (ok:Bool) (w:World) (hn:I64 n) (hd:I64 d) :
  Calls Tryz.prog 114 #[.int .i64 n,.int .i64 d,.bool ok] w fun e w'=>e=.returned (.tuple #[.int .i64 (if ok&&ok64 (n*10+d) then n*10+d else 0),.bool (ok&&ok64 (n*10+d))])∧Below w.heap.size w w':=by
 have cM:=fun W=>R1.mul_any n 10 W hn (by unfold I64;omega);have cO:=fun W=>R1.of_any d W hd;have h1:(n*10).natAbs<two127:=by unfold I64 at hn;unfold two127;omega
 have h2:d.natAbs<two127:=by unfold I64 at hd;unfold two127;omega
 have cA:=fun W=>R1.add_any (n*10) d W h1 h2;have cI:=fun W=>R1.int_any (n*10+d) W;obtain ⟨V,hV⟩:∃V,V=n*10+d:=⟨_,rfl⟩;rw [←hV];simp only [←hV] at cA cI;obtain ⟨A,hA⟩:∃A,A=R1.W (n*10):=⟨_,rfl⟩;obtain ⟨D,hD⟩:∃D,D=R1.W d:=⟨_,rfl⟩;obtain ⟨S,hS⟩:∃S,S=R1.W V:=⟨_,rfl⟩;simp only [←hA] at cM cA;simp only [←hD] at cO cA;simp only [←hS] at cA cI;obtain ⟨K,hK⟩:∃K,K=ok64 V:=⟨_,rfl⟩;have hc:cut64 V=if K=true then V else 0:=by unfold cut64;rw [hK]
 rw [←hK];simp only [←hK,hc] at cI;clear hn hd h1 h2 hV hA hD hS hK hc;cases ok<;>cases K
 all_goals
  go_enter Tryz.func114,Tryz.ntmps114
  go_wp2_with (first
   | (go_at_call 157;refine (cM _).mono ?_;rintro e w1 ⟨rfl,b1⟩)
   | (go_at_call 155;refine (cO _).mono ?_;rintro e w2 ⟨rfl,b2⟩;have B2:=b1.trans (b2.mono b1.size))
   | (go_at_call 154;refine (cA _).mono ?_;rintro e w3 ⟨rfl,b3⟩;have B3:=B2.trans (b3.mono B2.size))
   | (go_at_call 153;refine (cI _).mono ?_;rintro e w4 ⟨rfl,b4⟩;have B4:=B3.trans (b4.mono B3.size)))
  go_ret2;exact ⟨Ex.ret_2 rfl rfl,B4⟩
theorem below_on {w W w':World} (h:Below w.heap.size w W) (hb:Below W.heap.size W w'):Below w.heap.size w w':=h.trans (hb.mono h.size)
theorem more_acc (v d:Int) (w:World) (hv:0≤v) (hd:0≤d) (hd1:d≤9) :
  Calls Tryz.prog 114 #[.int .i64 (cut64 v),.int .i64 d,.bool (ok64 v)] w fun e w'=>e=.returned (.tuple #[.int .i64 (cut64 (v*10+d)),.bool (ok64 (v*10+d))])∧Below w.heap.size w w':=by
 have h:=more_any (cut64 v) d (ok64 v) w (i64_cut v) (by unfold I64;omega);obtain ⟨e1,e2⟩:=acc_step hv hd;rw [e2,e1] at h;exact h
theorem parse_any (s:ByteArray) (places most:Int) (w:World) (hs:s.size≤4611686018427387904) :
  Calls Tryz.prog 65 #[.string s,.int .i64 places,.int .i64 most] w fun e w'=>e=.returned (.tuple #[.int .i64 (pN s.data.toList places most),.int .i64 (pW s.data.toList places most)])∧Below w.heap.size w w':=by
 have cO:=fun W=>of_any s W (by omega);obtain ⟨l,hl⟩:∃l,l=s.data.toList:=⟨_,rfl⟩;have hbyte:=byte_at s;have hz:l.length=s.size:=by rw [hl];simp
 rw [←hl];rw [←hl] at hbyte;simp only [←hl] at cO;clear hl;obtain ⟨F,hF⟩:∃F:Int,F=(fm l:Int):=⟨_,rfl⟩;simp only [←hF] at cO;by_cases h:F=0∨places<0∨9<places
 ·have hb:pBad l places=true:=by unfold pBad;rw [decide_eq_true_eq];omega
  have e1:=hid (show pN l places most=0 by unfold pN;rw [hb];rfl);have e2:=hid (show pW l places most=1 by unfold pW;rw [hb];rfl);clear hb hF hz hbyte;have h':F=0∨(F≠0∧places<0)∨(F≠0∧¬ places<0∧9<places):=by omega
  clear h;go_enter Tryz.func65,Tryz.ntmps65
  rcases h' with h|⟨h0,h⟩|⟨h0,h,h1⟩
  ·have b0:(F==0)=true:=by simpa using h
   go_wp2_with (go_at_call 112;refine (cO _).mono ?_;rintro e w' ⟨rfl,h'⟩;rw [h'])
   go_ret2;exact ⟨ret_2 (vi e1.out.symm) (vi e2.out.symm),Below.refl _ _⟩
  ·have b0:(F==0)=false:=by simpa using h0
   go_wp2_with (go_at_call 112;refine (cO _).mono ?_;rintro e w' ⟨rfl,h'⟩;rw [h'])
   go_ret2;exact ⟨ret_2 (vi e1.out.symm) (vi e2.out.symm),Below.refl _ _⟩
  ·have b0:(F==0)=false:=by simpa using h0
   go_wp2_with (go_at_call 112;refine (cO _).mono ?_;rintro e w' ⟨rfl,h'⟩;rw [h'])
   go_ret2;exact ⟨ret_2 (vi e1.out.symm) (vi e2.out.symm),Below.refl _ _⟩
 ·have b0:(F==0)=false:=by simp;omega
  have hfm:fm l≠0:=by omega
  have hall:=fm_all hfm;have h0:0≤places:=by omega
  have h9:places≤9:=by omega
  have hBad:pBad l places=decide (places<stB l):=by unfold pBad;rw [decide_eq_decide];omega
  clear h hF;go_enter Tryz.func65,Tryz.ntmps65
  go_wp2_with (go_at_call 112;refine (cO _).mono ?_;rintro e w' ⟨rfl,h'⟩;rw [h'])
  clear cO
  go_loopw [8,9,10,11] (fun b n ok i wr=>∃(b' v' i':Int),b=.int .i64 b'∧n=.int .i64 (cut64 v')∧ok=.bool (ok64 v')∧i=.int .i64 i'∧0≤i'∧i'≤s.size∧-1≤b'∧b'≤i'∧0≤v'∧
   Hid (b'=stB (l.take i'.toNat)∧v'=(stV (l.take i'.toNat):Int))∧Below w.heap.size w wr) (fun _ _ _ i _=>((s.size:Int)-intOf i).toNat)
  case atStart=>exact ⟨-1,0,0,rfl,rfl,rfl,rfl,by omega,by omega,by omega,by omega,by omega,hid ⟨rfl,rfl⟩,Below.refl _ _⟩
  case round=>
   obtain ⟨b',v',i',rfl,rfl,rfl,rfl,i0,i1,bl,bu,v0,hst,hbw⟩:=hrel;by_cases hi:i'<s.size
   ·have hil:i'.toNat<l.length:=by omega
    have hb:=hbyte i' i0 hi;have e1:(i'+1).toNat=i'.toNat+1:=by omega
    have hdp:=dp_or hall hil;have hts:=take_snoc hil;obtain ⟨hB,hV⟩:=hst.out;have sB:=stB_snoc (l.take i'.toNat) (l.getD i'.toNat 0);have sV:=stV_snoc (l.take i'.toNat) (l.getD i'.toNat 0);rw [←hts] at sB sV;obtain ⟨c,hc⟩:∃c,c=l.getD i'.toNat 0:=⟨_,rfl⟩;rw [←hc] at sB sV hdp;simp only [←hc] at hb;obtain ⟨z,hz'⟩:∃z:Int,z=(c.toNat:Int):=⟨_,rfl⟩;simp only [←hz'] at hb;clear hc hts hbyte hst;rcases hdp with hp46|hdg
    ·have b1:(z==46)=true:=by rw [hz',hp46];rfl
     rw [if_pos hp46] at sB sV;have H:Hid ((0:Int)=stB (l.take (i'+1).toNat)∧v'=(stV (l.take (i'+1).toNat):Int)):=hid (by rw [e1,sB,sV];exact ⟨rfl,hV⟩);clear sB sV hz' hp46 hB hV e1;go_wp2;go_roundw
     case rel=>exact ⟨0,v',i'+1,rfl,rfl,rfl,rfl,by omega,by omega,by omega,by omega,v0,H,hbw⟩
     case measure=>simp [intOf];omega
    ·have hne:=isDg_no46 hdg;rw [isDg_iff] at hdg;have b1:(z==46)=false:=by simp;omega
     rw [if_neg hne] at sB sV;have z0:48≤z:=by omega
     have z1:z≤57:=by omega
     have cM:=fun W=>more_acc v' (z-48) W v0 (by omega) (by omega);by_cases hb0:0≤b'
     ·rw [if_pos (by omega)] at sB;have H:Hid (b'+1=stB (l.take (i'+1).toNat)∧v'*10+(z-48)=(stV (l.take (i'+1).toNat):Int)):=hid (by rw [e1,sB,sV];omega);clear sB sV hz' hne hB hV e1 hdg;go_wp2_with (go_at_call 114;refine (cM _).mono ?_;rintro e w2 ⟨rfl,b2⟩;have B2:=below_on hbw b2)
      go_roundw
      case rel=>exact ⟨b'+1,_,i'+1,rfl,rfl,rfl,rfl,by omega,by omega,by omega,by omega,by omega,H,B2⟩
      case measure=>simp [intOf];omega
     ·rw [if_neg (by omega)] at sB;have H:Hid (b'=stB (l.take (i'+1).toNat)∧v'*10+(z-48)=(stV (l.take (i'+1).toNat):Int)):=hid (by rw [e1,sB,sV];omega);clear sB sV hz' hne hB hV e1 hdg;go_wp2_with (go_at_call 114;refine (cM _).mono ?_;rintro e w2 ⟨rfl,b2⟩;have B2:=below_on hbw b2)
      go_roundw
      case rel=>exact ⟨b',_,i'+1,rfl,rfl,rfl,rfl,by omega,by omega,by omega,by omega,by omega,H,B2⟩
      case measure=>simp [intOf];omega
   ·obtain rfl:i'=s.size:=by omega
    obtain ⟨hB,hV⟩:=hst.out;rw [show ((s.size:Int)).toNat=l.length by omega,List.take_length] at hB hV;rw [←hB] at hBad;by_cases hgt:places<b'
    ·have e1:=hid (show pN l places most=0 by unfold pN;rw [hBad,decide_eq_true hgt];rfl);have e2:=hid (show pW l places most=1 by unfold pW;rw [hBad,decide_eq_true hgt];rfl);clear hBad hB hV hst hbyte;go_wp2;go_ret2;exact ⟨ret_2 (vi e1.out.symm) (vi e2.out.symm),hbw⟩
    ·rw [decide_eq_false hgt] at hBad;have hk:pK l places=(places-max b' 0).toNat:=by unfold pK;rw [←hB]
     have hpv:pV l places=v'*10 ^ (places-max b' 0).toNat:=by unfold pV;rw [hk,←hV]
     obtain ⟨k0,hk0⟩:∃k0,k0=max b' 0:=⟨_,rfl⟩;have k00:0≤k0:=by omega
     have k01:k0≤places:=by omega
     rw [←hk0] at hpv;have hmx:(if b'<0 then 0 else b')=k0:=by rw [hk0];split<;>omega
     have HP:=hid hpv;have HB:=hid hBad;clear hBad hB hst hbyte hk hpv hV;go_wp2;go_loopw [9,10,12] (fun n ok k wx=>∃u k':Int,n=.int .i64 (cut64 u)∧ok=.bool (ok64 u)∧k=.int .i64 k'∧k0≤k'∧k'≤places∧0≤u∧Hid (u=v'*10 ^ (k'-k0).toNat)∧Below w.heap.size w wx) (fun _ _ k _=>(places-intOf k).toNat)
     case atStart=>exact ⟨v',k0,rfl,rfl,vi hk0.symm,by omega,k01,v0,hid (by simp),hbw⟩
     case round=>
      obtain ⟨u,k',rfl,rfl,rfl,q0,q1,u0,hu,hb2⟩:=hrel;by_cases hlt:k'<places
      ·have cM:=fun W=>more_acc u 0 W u0 (by omega) (by omega)
       have H:Hid (u*10=v'*10 ^ (k'+1-k0).toNat):=hid (by
        rw [show (k'+1-k0).toNat=(k'-k0).toNat+1 by omega,Int.pow_succ,←Int.mul_assoc,←hu.out])
       clear hu hmx hk0;go_wp2_with (go_at_call 114;refine (cM _).mono ?_;rintro e w2 ⟨rfl,b2⟩;have B2:=below_on hb2 b2)
       go_roundw
       case rel=>exact ⟨_,k'+1,rfl,rfl,rfl,by omega,by omega,by omega,H,B2⟩
       case measure=>simp [intOf];omega
      ·obtain rfl:k'=places:=by omega
       have hpu:pV l k'=u:=by rw [HP.out,hu.out]
       have hb:=HB.out;clear hmx hk0;cases hk:ok64 u
       ·have e1:=hid (show pN l k' most=0 by unfold pN pGreat;rw [hb,hpu,hk];rfl);have e2:=hid (show pW l k' most=2 by unfold pW pGreat;rw [hb,hpu,hk];rfl);clear hpu hb hu;go_wp2;go_ret2;exact ⟨ret_2 (vi e1.out.symm) (vi e2.out.symm),hb2⟩
       ·have hI:=(ok64_iff u).1 hk;have hcu:cut64 u=u:=cut64_t hI;rw [hcu];by_cases hm:most<u
        ·have e1:=hid (show pN l k' most=0 by unfold pN pGreat;rw [hb,hpu,hk,decide_eq_true hm];rfl);have e2:=hid (show pW l k' most=2 by unfold pW pGreat;rw [hb,hpu,hk,decide_eq_true hm];rfl);clear hpu hb hu;go_wp2;go_ret2;exact ⟨ret_2 (vi e1.out.symm) (vi e2.out.symm),hb2⟩
        ·have e1:=hid (show pN l k' most=u by unfold pN pGreat;rw [hb,hpu,hk,decide_eq_false hm];rfl);have e2:=hid (show pW l k' most=0 by unfold pW pGreat;rw [hb,hpu,hk,decide_eq_false hm];rfl);clear hpu hb hu;go_wp2;go_ret2;exact ⟨ret_2 (vi e1.out.symm) (vi e2.out.symm),hb2⟩
end R4
namespace R7
open Go.RowKit Go.Sort P Tl
structure Ps (w:World) (b tb cap:Nat) (ts:List Tok) (s:St):Prop where
 lt:b<w.heap.size
 c0:w.cell? ⟨b,0,none⟩=some (.slice (some ⟨tb,0,none⟩) ts.length cap)
 c1:w.cell? ⟨b,1,none⟩=some (.int .i64 s.i)
 c2:w.cell? ⟨b,2,none⟩=some (.int .i64 s.err)
 c3:w.cell? ⟨b,3,none⟩=some (.int .i64 s.ln)
 c4:w.cell? ⟨b,4,none⟩=some (.int .i64 s.cl)
 fr:∀j,w.frozen? ⟨b,j,none⟩=false
 ne:tb≠b
 tl:tb<w.heap.size
 tok:∀j t,ts[j]?=some t→w.cell? ⟨tb,j*4,none⟩=some (.int .i64 t.k)∧w.cell? ⟨tb,j*4+1,none⟩=some (.string ⟨t.t.toArray⟩)∧w.cell? ⟨tb,j*4+2,none⟩=some (.int .i64 t.ln)∧w.cell? ⟨tb,j*4+3,none⟩=some (.int .i64 t.cl)
 cnt:ts.length≤100000
 str:∀t∈ts,t.t.length≤1000000
 ok:Ok ts s
theorem grown_refl (w:World) (row:Option Nat):w.grownBy w row:=⟨rfl,rfl,rfl,Nat.le_refl _,fun _ _ _=>rfl⟩
theorem grown_trans {w w1 w2:World} {row:Option Nat} (a:w.grownBy w1 row) (b:w1.grownBy w2 row):w.grownBy w2 row:=
 ⟨b.os.trans a.os,b.tape.trans a.tape,b.output.trans a.output,Nat.le_trans a.size b.size,fun k hk hne=>(b.block k (Nat.lt_of_lt_of_le hk a.size) hne).trans (a.block k hk hne)⟩
theorem grown_below {w w1:World} {row:Option Nat} (a:Below w.heap.size w w1):w.grownBy w1 row:=⟨a.os,a.tape,a.output,a.size,fun k hk _=>a.block k hk⟩
theorem grown_set (w:World) (b k:Nat) (u:Value):w.grownBy (w.setCell ⟨b,k,none⟩ u) (some b):=
 ⟨rfl,rfl,rfl,by simp,fun j _ hne=>Below.heap_setCell w ⟨b,k,none⟩ u j (fun e=>hne (by rw [e]))⟩
theorem Ps.of_grown {w w':World} {b tb cap:Nat} {ts:List Tok} {s s':St} (h:Ps w b tb cap ts s) (hg:w.grownBy w' (some b)) (ok:Ok ts s')
  (c0:w'.cell? ⟨b,0,none⟩=some (.slice (some ⟨tb,0,none⟩) ts.length cap)) (c1:w'.cell? ⟨b,1,none⟩=some (.int .i64 s'.i)) (c2:w'.cell? ⟨b,2,none⟩=some (.int .i64 s'.err))
  (c3:w'.cell? ⟨b,3,none⟩=some (.int .i64 s'.ln)) (c4:w'.cell? ⟨b,4,none⟩=some (.int .i64 s'.cl)) (fr:∀j,w'.frozen? ⟨b,j,none⟩=false):Ps w' b tb cap ts s':=by
 have hb:w'.heap[tb]?=w.heap[tb]?:=hg.block tb h.tl (fun e=>h.ne (Option.some.inj e));have hc:∀o,w'.cell? ⟨tb,o,none⟩=w.cell? ⟨tb,o,none⟩:=fun o=>World.cell?_of_block hb;exact ⟨Nat.lt_of_lt_of_le h.lt hg.size,c0,c1,c2,c3,c4,fr,h.ne,Nat.lt_of_lt_of_le h.tl hg.size,fun j t hj=>by rw [hc,hc,hc,hc];exact h.tok j t hj,h.cnt,h.str,ok⟩
theorem Ps.on {w w':World} {b tb cap:Nat} {ts:List Tok} {s:St} (h:Ps w b tb cap ts s) (hb:Below w.heap.size w w'):Ps w' b tb cap ts s:=by
 have hc:∀o,w'.cell? ⟨b,o,none⟩=w.cell? ⟨b,o,none⟩:=fun o=>hb.cell h.lt;have hf:∀o,w'.frozen? ⟨b,o,none⟩=w.frozen? ⟨b,o,none⟩:=fun o=>hb.frozen h.lt;exact h.of_grown (grown_below hb) h.ok (by rw [hc];exact h.c0) (by rw [hc];exact h.c1) (by rw [hc];exact h.c2) (by rw [hc];exact h.c3) (by rw [hc];exact h.c4) (fun j=>by rw [hf];exact h.fr j)
theorem Ps.other {w w':World} {b tb cap:Nat} {ts:List Tok} {s:St} {row:Option Nat} (h:Ps w b tb cap ts s) (hg:w.grownBy w' row) (h1:some b≠row) (h2:some tb≠row):Ps w' b tb cap ts s:=by
 have e:=hg.block b h.lt h1;have hc:∀o,w'.cell? ⟨b,o,none⟩=w.cell? ⟨b,o,none⟩:=fun o=>World.cell?_of_block e;have hf:∀o,w'.frozen? ⟨b,o,none⟩=w.frozen? ⟨b,o,none⟩:=fun o=>World.frozen?_of_block e;have e2:=hg.block tb h.tl h2;have hc2:∀o,w'.cell? ⟨tb,o,none⟩=w.cell? ⟨tb,o,none⟩:=fun o=>World.cell?_of_block e2
 exact ⟨Nat.lt_of_lt_of_le h.lt hg.size,by rw [hc];exact h.c0,by rw [hc];exact h.c1,by rw [hc];exact h.c2,by rw [hc];exact h.c3,by rw [hc];exact h.c4,fun j=>by rw [hf];exact h.fr j,h.ne,Nat.lt_of_lt_of_le h.tl hg.size,
  fun j t hj=>by rw [hc2,hc2,hc2,hc2];exact h.tok j t hj,h.cnt,h.str,h.ok⟩
theorem Ps.at {w:World} {b tb cap:Nat} {ts:List Tok} {s:St} (h:Ps w b tb cap ts s) :
  w.cell? ⟨tb,s.i*4,none⟩=some (.int .i64 (tk ts s).k)∧w.cell? ⟨tb,s.i*4+1,none⟩=some (.string ⟨(tk ts s).t.toArray⟩)∧w.cell? ⟨tb,s.i*4+2,none⟩=some (.int .i64 (tk ts s).ln)∧w.cell? ⟨tb,s.i*4+3,none⟩=some (.int .i64 (tk ts s).cl):=h.tok _ _ h.ok.at
theorem Ps.str_at {w:World} {b tb cap:Nat} {ts:List Tok} {s:St} (h:Ps w b tb cap ts s):(tk ts s).t.length≤1000000:=h.str _ (List.mem_of_getElem? h.ok.at)
theorem Ps.step {w:World} {b tb cap:Nat} {ts:List Tok} {s:St} (h:Ps w b tb cap ts s) (ok:Ok ts s.next):Ps (w.setCell ⟨b,1,none⟩ (.int .i64 ((s.i:Int)+1))) b tb cap ts s.next:=by
 obtain ⟨lt,c0,c1,c2,c3,c4,fr,ne,tl,tok,cnt,str,_⟩:=h;have h':Ps w b tb cap ts s:=⟨lt,c0,c1,c2,c3,c4,fr,ne,tl,tok,cnt,str,by assumption⟩;have e:(.int .i64 (s.next.i:Int):Value)=.int .i64 ((s.i:Int)+1):=by show Value.int .i64 ((s.i+1:Nat):Int)=_;rw [Int.natCast_add];rfl
 refine h'.of_grown (grown_set _ _ _ _) ok ?_ ?_ ?_ ?_ ?_ ?_
 ·go_simp
 ·rw [e];go_simp
 ·show _=some (Value.int .i64 s.err);go_simp
 ·show _=some (Value.int .i64 s.ln);go_simp
 ·show _=some (Value.int .i64 s.cl);go_simp
 ·intro j;simpa using fr j
theorem Ps.put2 {w:World} {b tb cap:Nat} {ts:List Tok} {s:St} (h:Ps w b tb cap ts s) (e:Int):Ps (w.setCell ⟨b,2,none⟩ (.int .i64 e)) b tb cap ts { s with err:=e }:=by
 obtain ⟨lt,c0,c1,c2,c3,c4,fr,ne,tl,tok,cnt,str,ok⟩:=h;have h':Ps w b tb cap ts s:=⟨lt,c0,c1,c2,c3,c4,fr,ne,tl,tok,cnt,str,ok⟩;refine h'.of_grown (grown_set _ _ _ _) ⟨ok.toks,ok.lt⟩ ?_ ?_ ?_ ?_ ?_ ?_
 ·go_simp
 ·show _=some (Value.int .i64 (s.i:Int));go_simp
 ·show _=some (Value.int .i64 e);go_simp
 ·show _=some (Value.int .i64 s.ln);go_simp
 ·show _=some (Value.int .i64 s.cl);go_simp
 ·intro j;simpa using fr j
theorem Ps.put3 {w:World} {b tb cap:Nat} {ts:List Tok} {s:St} (h:Ps w b tb cap ts s) (e:Int):Ps (w.setCell ⟨b,3,none⟩ (.int .i64 e)) b tb cap ts { s with ln:=e }:=by
 obtain ⟨lt,c0,c1,c2,c3,c4,fr,ne,tl,tok,cnt,str,ok⟩:=h;have h':Ps w b tb cap ts s:=⟨lt,c0,c1,c2,c3,c4,fr,ne,tl,tok,cnt,str,ok⟩;refine h'.of_grown (grown_set _ _ _ _) ⟨ok.toks,ok.lt⟩ ?_ ?_ ?_ ?_ ?_ ?_
 ·go_simp
 ·show _=some (Value.int .i64 (s.i:Int));go_simp
 ·show _=some (Value.int .i64 s.err);go_simp
 ·show _=some (Value.int .i64 e);go_simp
 ·show _=some (Value.int .i64 s.cl);go_simp
 ·intro j;simpa using fr j
theorem Ps.put4 {w:World} {b tb cap:Nat} {ts:List Tok} {s:St} (h:Ps w b tb cap ts s) (e:Int):Ps (w.setCell ⟨b,4,none⟩ (.int .i64 e)) b tb cap ts { s with cl:=e }:=by
 obtain ⟨lt,c0,c1,c2,c3,c4,fr,ne,tl,tok,cnt,str,ok⟩:=h;have h':Ps w b tb cap ts s:=⟨lt,c0,c1,c2,c3,c4,fr,ne,tl,tok,cnt,str,ok⟩;refine h'.of_grown (grown_set _ _ _ _) ⟨ok.toks,ok.lt⟩ ?_ ?_ ?_ ?_ ?_ ?_
 ·go_simp
 ·show _=some (Value.int .i64 (s.i:Int));go_simp
 ·show _=some (Value.int .i64 s.err);go_simp
 ·show _=some (Value.int .i64 s.ln);go_simp
 ·show _=some (Value.int .i64 e);go_simp
 ·intro j;simpa using fr j
theorem wrong_any (b tb cap:Nat) (ts:List Tok) (s:St) (e:Int) (w:World) (h:Ps w b tb cap ts s) :
  Calls Tryz.prog 30 #[.pointer (some ⟨b,0,none⟩),.int .i64 e] w fun x w'=>x=.returned (.tuple #[])∧Ps w' b tb cap ts (wrg ts s e)∧w.grownBy w' (some b):=by
 have H:=hid h;have hb:=h.lt;have c2:=h.c2;by_cases h0:s.err=0
 ·have he:wrg ts s e = { s with err:=e,ln:=(tk ts s).ln,cl:=(tk ts s).cl }:=by unfold wrg;rw [if_pos h0]
  have HE:=hid he;have z:(s.err==0)=true:=by simpa using h0
  have f2:=h.fr 2;have i1:(0:Int)≤s.i:=by omega
  have i2:(s.i:Int)<ts.length:=by have:=h.ok.lt;omega
  have hc:=h.cnt;rw [h0] at c2;clear he z h0 h;go_enter Tryz.func30,Tryz.ntmps30
  go_wp2;obtain ⟨w1,hw1⟩:∃w1,w1=w.setCell ⟨b,2,none⟩ (.int .i64 e):=⟨_,rfl⟩;rw [←hw1];have Q1:Ps w1 b tb cap ts { s with err:=e }:=by rw [hw1];exact H.out.put2 e
  have g1:w.grownBy w1 (some b):=by rw [hw1];exact grown_set _ _ _ _
  have k0:=cell_regrown Q1.c0;have k1:=cell_regrown (show w1.cell? ⟨b,1,none⟩=some (.int .i64 s.i) from Q1.c1);have k3:=cell_regrown (show w1.cell? ⟨tb,s.i*4+2,none⟩=some (.int .i64 (tk ts s).ln) from Q1.at.2.2.1);have HQ1:=hid Q1;clear hw1 Q1 c2 f2 hb;refine region_tail_below 14 (by kernel_rfl) (by kernel_rfl) ?_;simp only [List.take_succ_cons,List.take_zero,List.drop_succ_cons,List.drop_zero];repeat (go_big_quiet_step (fail))
  refine wpQuiet_nil ?_;intro _ hw';obtain ⟨⟨dq,osq⟩,hw''⟩:=hw';subst hw'';obtain ⟨w2,hw2⟩:∃w2,w2=grow (redrawn w1 dq) osq:=⟨_,rfl⟩;have b2:Below w1.heap.size w1 w2:=by rw [hw2];exact below_regrown w1 dq osq
  rw [←hw2];have Q2:=HQ1.out.on b2;have c3:=Q2.c3;have f3:=Q2.fr 3;have hb:=Q2.lt;have HQ2:=hid Q2;clear hw2 k0 k1 k3 Q2;go_wp2;obtain ⟨w3,hw3⟩:∃w3,w3=w2.setCell ⟨b,3,none⟩ (.int .i64 (tk ts s).ln):=⟨_,rfl⟩;rw [←hw3];have Q3:Ps w3 b tb cap ts { s with err:=e,ln:=(tk ts s).ln }:=by rw [hw3];exact HQ2.out.put3 (tk ts s).ln
  have g3:w.grownBy w3 (some b):=by rw [hw3];exact grown_trans g1 (grown_trans (grown_below b2) (grown_set _ _ _ _))
  have k0:=cell_regrown Q3.c0;have k1:=cell_regrown (show w3.cell? ⟨b,1,none⟩=some (.int .i64 s.i) from Q3.c1);have k3:=cell_regrown (show w3.cell? ⟨tb,s.i*4+3,none⟩=some (.int .i64 (tk ts s).cl) from Q3.at.2.2.2);have HQ3:=hid Q3;clear hw3 Q3 c3 f3 hb;refine region_tail_below 14 (by kernel_rfl) (by kernel_rfl) ?_;simp only [List.take_succ_cons,List.take_zero,List.drop_succ_cons,List.drop_zero];repeat (go_big_quiet_step (fail))
  refine wpQuiet_nil ?_;intro _ hw';obtain ⟨⟨dq,osq⟩,hw''⟩:=hw';subst hw'';obtain ⟨w4,hw4⟩:∃w4,w4=grow (redrawn w3 dq) osq:=⟨_,rfl⟩;have b4:Below w3.heap.size w3 w4:=by rw [hw4];exact below_regrown w3 dq osq
  rw [←hw4];have Q4:=HQ3.out.on b4;have c4:=Q4.c4;have f4:=Q4.fr 4;have hb:=Q4.lt;have HQ4:=hid Q4;clear hw4 k0 k1 k3 Q4;go_wp2
  go_end0
  refine ⟨rfl,?_,grown_trans g3 (grown_trans (grown_below b4) (grown_set _ _ _ _))⟩;rw [HE.out];exact HQ4.out.put4 (tk ts s).cl
 ·have he:wrg ts s e=s:=by unfold wrg;rw [if_neg h0]
  rw [he];have z:(s.err==0)=false:=by simpa using h0
  clear he h;go_enter Tryz.func30,Tryz.ntmps30
  go_wp2
  go_end0
  exact ⟨rfl,H.out,grown_refl _ _⟩
theorem alloc_on {w W:World} (h:Below w.heap.size w W) (o:Obj):Below w.heap.size w (W.alloc o):=h.alloc h.size o
theorem loaded (w:World) (vs:List Value) (t:TypeId):∃w1,(w.alloc (.cells vs.toArray t)).drew=w1∧Below w.heap.size w w1∧w.heap.size<w1.heap.size∧∀j u,vs[j]?=some u→w1.cell? ⟨w.heap.size,j,none⟩=some u:=
 ⟨_,rfl,((Below.refl _ _).alloc (Nat.le_refl _) _).drew,by simp,fun j u h=>by
  show (w.alloc _).cell? _=_
  rw [World.cell?_alloc_new];simpa using h⟩
theorem on_any (b tb cap:Nat) (ts:List Tok) (s:St) (l:ByteArray) (w:World) (h:Ps w b tb cap ts s) :
  Calls Tryz.prog 113 #[.pointer (some ⟨b,0,none⟩),.string l] w fun x w'=>x=.returned (.bool (onW ts s l.data.toList))∧Below w.heap.size w w':=by
 have H:=hid h;obtain ⟨R,hR⟩:∃R:Bool,R=onW ts s l.data.toList:=⟨_,rfl⟩;rw [←hR];replace hR:=hid hR;have hb:=h.lt;have ht:=h.tl;have c0:=h.c0;have c1:=h.c1;have i1:(0:Int)≤s.i:=by omega
 have i2:(s.i:Int)<ts.length:=by have:=h.ok.lt;omega
 have hc:=h.cnt;obtain ⟨a0,a1,a2,a3⟩:=h.at
 have KP:Hid (∀w',Below w.heap.size w w'→w'.cell? ⟨b,0,none⟩=some (.slice (some ⟨tb,0,none⟩) ts.length cap)∧w'.cell? ⟨b,1,none⟩=some (.int .i64 s.i)∧w'.cell? ⟨tb,s.i*4,none⟩=some (.int .i64 (tk ts s).k)∧w'.cell? ⟨tb,s.i*4+1,none⟩=some (.string ⟨(tk ts s).t.toArray⟩)∧w'.cell? ⟨tb,s.i*4+2,none⟩=some (.int .i64 (tk ts s).ln)∧w'.cell? ⟨tb,s.i*4+3,none⟩=some (.int .i64 (tk ts s).cl)∧Below w.heap.size w w'):=hid fun w' hb=>by
  have h':=H.out.on hb;exact ⟨h'.c0,h'.c1,h'.at.1,h'.at.2.1,h'.at.2.2.1,h'.at.2.2.2,hb⟩
 clear h;go_enter Tryz.func113,Tryz.ntmps113
 go_upto_region 1 with fail
 go_region_held3 (fun w'=>w'.cell? ⟨b,0,none⟩=some (.slice (some ⟨tb,0,none⟩) ts.length cap)∧w'.cell? ⟨b,1,none⟩=some (.int .i64 s.i)∧w'.cell? ⟨tb,s.i*4,none⟩=some (.int .i64 (tk ts s).k)∧w'.cell? ⟨tb,s.i*4+1,none⟩=some (.string ⟨(tk ts s).t.toArray⟩)∧w'.cell? ⟨tb,s.i*4+2,none⟩=some (.int .i64 (tk ts s).ln)∧w'.cell? ⟨tb,s.i*4+3,none⟩=some (.int .i64 (tk ts s).cl)∧Below w.heap.size w w')
  ((refine KP.out _ ?_;repeat (first|assumption|exact Below.refl _ _|(refine Below.drew ?_)|(refine alloc_on ?_ _)|(refine Below.setCell ?_ (by first|omega|(simp<;>omega)) _))))
  (fail)
 obtain ⟨T,hT⟩:∃T:ByteArray,T=⟨(tk ts s).t.toArray⟩:=⟨_,rfl⟩;have hTl:T.toList=(tk ts s).t:=by rw [Lib.toList_data,hT]
 obtain ⟨K,hK⟩:∃K:Int,K=((tk ts s).k:Int):=⟨_,rfl⟩;rw [←hT,←hK];obtain ⟨w2,hw2,b2,lt2,cell⟩:=loaded w [.int .i64 K,.string T,.int .i64 (tk ts s).ln,.int .i64 (tk ts s).cl] 76;rw [hw2];have d0:=cell 0 _ rfl;have d1:=cell 1 _ rfl;have c2:w2.cell? ⟨b,2,none⟩=some (.int .i64 s.err):=(H.out.on b2).c2;have hb2:b<w2.heap.size:=Nat.lt_of_lt_of_le hb b2.size;have hll:l.toList=l.data.toList:=Lib.toList_data l
 have hon:onW ts s l.data.toList=((s.err==0)&&((K==2||K==5)&&((tk ts s).t==l.data.toList))):=by
  unfold onW;have e1:decide (s.err=0)=(s.err==0):=by rw [Bool.eq_iff_iff,decide_eq_true_eq,beq_iff_eq]
  have e2:decide ((tk ts s).k=2)=(K==2):=by rw [Bool.eq_iff_iff,decide_eq_true_eq,beq_iff_eq];omega
  have e3:decide ((tk ts s).k=5)=(K==5):=by rw [Bool.eq_iff_iff,decide_eq_true_eq,beq_iff_eq];omega
  rw [e1,e2,e3]
 rw [hon] at hR;obtain ⟨E,hE⟩:∃E,E=s.err:=⟨_,rfl⟩;obtain ⟨u,hu⟩:∃u,u=(tk ts s).t:=⟨_,rfl⟩;rw [←hE] at c2 hR;rw [←hu] at hTl hR;clear hw2 cell hT hK hon hE hu hb ht i1 i2 hc KP;rcases Bool.eq_false_or_eq_true (E==0) with h1|h1
 ·rcases Bool.eq_false_or_eq_true (K==2) with h2|h2
  ·have G:Hid (R=(u==l.data.toList)):=hid (by rw [hR.out,h1,h2];simp);clear hR;go_wp2;go_ret;exact ⟨ret_b G.out.symm,b2⟩
  ·rcases Bool.eq_false_or_eq_true (K==5) with h3|h3
   ·have G:Hid (R=(u==l.data.toList)):=hid (by rw [hR.out,h1,h2,h3];simp);clear hR;go_wp2;go_ret;exact ⟨ret_b G.out.symm,b2⟩
   ·have G:Hid (R=false):=hid (by rw [hR.out,h1,h2,h3];simp);clear hR;go_wp2;go_ret;exact ⟨ret_b G.out.symm,b2⟩
 ·have G:Hid (R=false):=hid (by rw [hR.out,h1];simp);clear hR;go_wp2;go_ret;exact ⟨ret_b G.out.symm,b2⟩
end R7
end Go.Proofs.YtofbobdhkbmbgaaGreatDoor
