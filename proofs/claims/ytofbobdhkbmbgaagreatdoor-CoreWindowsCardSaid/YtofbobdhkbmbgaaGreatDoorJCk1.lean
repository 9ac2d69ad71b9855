/- What math/bits answers in this program: Mul64, Len64, LeadingZeros64: contracts over the walked program. -/
import Derived.Test.YtofbobdhkbmbgaaGreatDoorJExactL
set_option maxRecDepth 100000
set_option maxHeartbeats 4000000
namespace Go.Proofs.YtofbobdhkbmbgaaGreatDoor
namespace Bt
open Go.RowKit P
theorem mask_any {n:Int} : bits .and .u64 (IntKind.u64.wrap n) 4294967295=IntKind.u64.wrap n % 4294967296:=and32 (by rw [u64_mod];omega) (by rw [u64_mod];omega)
theorem upper_half (X Y:Int) (x0:0≤X) (x1:X<18446744073709551616) (y0:0≤Y) (y1:Y<18446744073709551616) :
  IntKind.u64.wrap (IntKind.u64.wrap (IntKind.u64.wrap (X / 4294967296*(Y / 4294967296))+IntKind.u64.wrap (IntKind.u64.wrap (X / 4294967296*(Y % 4294967296))+IntKind.u64.wrap (X % 4294967296*(Y % 4294967296)) / 4294967296) / 4294967296) +
   IntKind.u64.wrap (IntKind.u64.wrap (IntKind.u64.wrap (X / 4294967296*(Y % 4294967296))+IntKind.u64.wrap (X % 4294967296*(Y % 4294967296)) / 4294967296) % 4294967296+IntKind.u64.wrap (X % 4294967296*(Y / 4294967296))) / 4294967296)=X*Y / 18446744073709551616:=by
 have le:∀a b:Int,0≤a→a≤4294967295→0≤b→b≤4294967295→0≤a*b∧a*b≤18446744065119617025:=fun a b h1 h2 h3 h4=>by
  have h5:=Int.mul_le_mul h2 h4 h3 (by omega:(0:Int)≤4294967295);exact ⟨Int.mul_nonneg h1 h3,by omega⟩
 have e:X*Y=X / 4294967296*(Y / 4294967296)*18446744073709551616+(X / 4294967296*(Y % 4294967296)+X % 4294967296*(Y / 4294967296))*4294967296+X % 4294967296*(Y % 4294967296):=by
  have hx:=Int.mul_ediv_add_emod X 4294967296;have hy:=Int.mul_ediv_add_emod Y 4294967296;have key:∀a b c d:Int,(4294967296*a+b)*(4294967296*c+d)=a*c*18446744073709551616+(a*d+b*c)*4294967296+b*d:=by intro a b c d;grind
  have:=key (X / 4294967296) (X % 4294967296) (Y / 4294967296) (Y % 4294967296);rw [hx,hy] at this;exact this
 have p1:=le (X / 4294967296) (Y / 4294967296) (by omega) (by omega) (by omega) (by omega);have p2:=le (X / 4294967296) (Y % 4294967296) (by omega) (by omega) (by omega) (by omega);have p3:=le (X % 4294967296) (Y / 4294967296) (by omega) (by omega) (by omega) (by omega);have p4:=le (X % 4294967296) (Y % 4294967296) (by omega) (by omega) (by omega) (by omega);rw [e];generalize X / 4294967296*(Y / 4294967296)=A at *;generalize X / 4294967296*(Y % 4294967296)=B at *;generalize X % 4294967296*(Y / 4294967296)=C at *;generalize X % 4294967296*(Y % 4294967296)=D at *;simp only [u64_mod];clear e le x0 x1 y0 y1;omega
theorem mul64_int (X Y:Int) (x0:0≤X) (x1:X<18446744073709551616) (y0:0≤Y) (y1:Y<18446744073709551616) (w:World) :
  Calls Tryz.prog 225 #[.int .u64 X,.int .u64 Y] w fun e w'=>e=.returned (.tuple #[.int .u64 (X*Y / 18446744073709551616),.int .u64 (IntKind.u64.wrap (X*Y))])∧w=w':=by
 have E:=hid (upper_half X Y x0 x1 y0 y1);have EX:=hid (and32 x0 x1);have EY:=hid (and32 y0 y1);clear x0 x1 y0 y1;go_enter Tryz.func225,Tryz.ntmps225
 go_wp2;rw [EX.out,EY.out,mask_any,E.out];go_ret2;exact ⟨rfl,rfl⟩
theorem mul64_any (x y:Nat) (hx:x<18446744073709551616) (hy:y<18446744073709551616) (w:World) :
  Calls Tryz.prog 225 #[.int .u64 x,.int .u64 y] w fun e w'=>e=.returned (.tuple #[.int .u64 (hiN (x*y)),.int .u64 (loN (x*y))])∧w=w':=by
 have h:=mul64_int x y (by omega) (by omega) (by omega) (by omega) w;have e1:(x:Int)*y / 18446744073709551616=(hiN (x*y):Int):=by rw [←Int.natCast_mul];unfold hiN;omega
 have e2:IntKind.u64.wrap ((x:Int)*y)=(loN (x*y):Int):=by rw [←Int.natCast_mul,u64_mod];unfold loN;omega
 rw [e1,e2] at h;exact h
theorem tab_len (n:Nat) (h:n<Lib.len8tab.size):(Lib.len8tab[n]'h).toNat=Lib.bitLen n:=by
 have h2:n<256:=by rw [Lib.len8tab_size] at h;exact h
 have e:=Lib.len8_eq ⟨n,h2⟩;simp only [Lib.len8,Int.toNat_natCast,ByteArray.getElem?_lt' _ _ h,Option.getD_some] at e;omega
theorem tab_le (n:Nat) (h:n<Lib.len8tab.size):Lib.bitLen n≤8:=by
 have h2:n<256:=by rw [Lib.len8tab_size] at h;exact h
 exact Lib.bitLen_le8 ⟨n,h2⟩
theorem len_close {k:Nat} {x d:Int} {e:Int} (h:d.toNat<Lib.len8tab.size) (hk:e=k) (h1:x≤18446744073709551615) (h0:0≤x) (hx:2 ^ k≤x.toNat) (hd:d.toNat=x.toNat / 2 ^ k) (k56:k≤56) :
  wrap64 (e+wrap64 ((Lib.len8tab[d.toNat]'h).toNat:Int))=(Lib.bitLen x.toNat:Int):=by
 rw [tab_len,Lib.bitLen_shift k x.toNat hx (by omega),←hd];have:=tab_le _ h;unfold wrap64;omega
theorem len_close0 {x:Int} (h:x.toNat<Lib.len8tab.size):wrap64 (wrap64 ((Lib.len8tab[x.toNat]'h).toNat:Int))=(Lib.bitLen x.toNat:Int):=by
 rw [tab_len];have:=tab_le _ h;unfold wrap64;omega
theorem len64_int (x:Int) (w:World) (h0:0≤x) (h1:x≤18446744073709551615) :
  Calls Tryz.prog 171 #[.int .u64 x] w fun e w'=>e=.returned (.int .i64 (Lib.bitLen x.toNat))∧w=w':=by
 have hs:=Lib.len8tab_size;go_enter Tryz.func171,Tryz.ntmps171
 go_wp2
 all_goals first
  | (exfalso;omega)
  | (go_ret
     refine ⟨congrArg Ending.returned (congrArg (Value.int IntKind.i64) ?_),rfl⟩
     first
      | exact len_close0 _
      | exact len_close (k:=56) _ rfl h1 h0 (by omega) (by omega) (by omega)
      | exact len_close (k:=48) _ rfl h1 h0 (by omega) (by omega) (by omega)
      | exact len_close (k:=40) _ rfl h1 h0 (by omega) (by omega) (by omega)
      | exact len_close (k:=32) _ rfl h1 h0 (by omega) (by omega) (by omega)
      | exact len_close (k:=24) _ rfl h1 h0 (by omega) (by omega) (by omega)
      | exact len_close (k:=16) _ rfl h1 h0 (by omega) (by omega) (by omega)
      | exact len_close (k:=8) _ rfl h1 h0 (by omega) (by omega) (by omega))
theorem len_bounds (x:Nat) (hx:x<2 ^ 64) (h0:x≠0):∃k,Lib.bitLen x=k+1∧2 ^ k≤x∧x<2 ^ (k+1):=by
 induction x using Nat.strongRecOn with
 | ind x ih=>
   by_cases h1:x=1
   ·subst h1;exact ⟨0,by decide,by decide,by decide⟩
   ·obtain ⟨k,e,l,u⟩:=ih (x / 2) (by omega) (by omega) (by omega);refine ⟨k+1,by rw [Lib.bitLen_half x h0 hx,e];omega,?_,?_⟩
    ·rw [Nat.pow_succ] at *;omega
    ·rw [Nat.pow_succ] at *;omega
def lz (x:Nat):Nat:=64-Lib.bitLen x
theorem lz_le (x:Nat) (hx:x<2 ^ 64) (h0:x≠0):lz x≤63:=by
 obtain ⟨k,e,_,_⟩:=len_bounds x hx h0;unfold lz;omega
theorem lz_norm (x:Nat) (hx:x<2 ^ 64) (h0:x≠0):2 ^ 63≤x*2 ^ lz x∧x*2 ^ lz x<2 ^ 64:=by
 obtain ⟨k,e,l,u⟩:=len_bounds x hx h0
 have hk:k<64:=by
  rcases Nat.lt_or_ge k 64 with h|h
  ·exact h
  ·exact absurd (Nat.le_trans (Nat.pow_le_pow_right (by omega) h) l) (by omega)
 have e1:lz x=63-k:=by unfold lz;omega
 rw [e1];have p1:(2:Nat) ^ 63=2 ^ k*2 ^ (63-k):=by rw [←Nat.pow_add];congr 1;omega
 have p2:(2:Nat) ^ 64=2 ^ (k+1)*2 ^ (63-k):=by rw [←Nat.pow_add];congr 1;omega
 rw [p1,p2];exact ⟨Nat.mul_le_mul_right _ l,Nat.mul_lt_mul_of_pos_right u (Nat.pow_pos (by omega))⟩
theorem lead_any (x:Int) (w:World) (h0:0≤x) (h1:x≤18446744073709551615) :
  Calls Tryz.prog 240 #[.int .u64 x] w fun e w'=>e=.returned (.int .i64 (64-(Lib.bitLen x.toNat:Int)))∧w=w':=by
 have hl:Lib.bitLen x.toNat≤64:=Lib.bitLen_le _ _ (Nat.le_refl _) (by omega);have E:Hid (wrap64 (64-(Lib.bitLen x.toNat:Int))=64-(Lib.bitLen x.toNat:Int)):=by show _=_;unfold wrap64;omega
 clear hl;go_enter Tryz.func240,Tryz.ntmps240
 go_wp2_with (go_at_call 171;refine (len64_int _ _ h0 h1).mono ?_;rintro e w' ⟨rfl,rfl⟩)
 go_ret;exact ⟨by rw [E.out];rfl,rfl⟩
theorem lead_ex (x:Int) (w:World) (h0:0<x) (h1:x≤18446744073709551615) :
  Calls Tryz.prog 240 #[.int .u64 x] w fun e w'=>∃s:Nat,s≤63∧9223372036854775808≤x*2 ^ s∧x*2 ^ s<18446744073709551616∧e=.returned (.int .i64 s)∧w=w':=by
 have hx:x.toNat<2 ^ 64:=by omega
 have hn:x.toNat≠0:=by omega
 have hl:Lib.bitLen x.toNat≤64:=Lib.bitLen_le _ _ (Nat.le_refl _) hx;have h2:=lz_norm x.toNat hx hn
 have e2:((x.toNat*2 ^ lz x.toNat:Nat):Int)=x*2 ^ lz x.toNat:=by
  rw [Int.natCast_mul,Int.natCast_pow,Int.toNat_of_nonneg (by omega)];rfl
 refine (lead_any x w (by omega) h1).mono ?_;rintro e w' ⟨rfl,rfl⟩;refine ⟨lz x.toNat,lz_le _ hx hn,by omega,by omega,?_,rfl⟩;rw [show ((lz x.toNat:Nat):Int)=64-(Lib.bitLen x.toNat:Int) by unfold lz;omega]
theorem div64_low (lo y:Int) (w:World) (h2:0<y) (h3:y≤18446744073709551615) (h4:0≤lo) (h5:lo≤18446744073709551615) :
  Calls Tryz.prog 227 #[.int .u64 0,.int .u64 lo,.int .u64 y] w fun e w'=>e=.returned (.tuple #[.int .u64 (lo / y),.int .u64 (lo % y)])∧∃n,w'=w.drewN n:=by
 have e1:(y==0)=false:=by simp;omega
 have e2:decide (y≤0)=false:=by simp;omega
 have d1:lo.tdiv y=lo / y:=Int.tdiv_eq_ediv_of_nonneg h4;have d2:lo.tmod y=lo % y:=Int.tmod_eq_emod_of_nonneg h4;have d3:0≤lo / y:=Int.ediv_nonneg h4 (by omega);have d4:lo / y≤lo:=Int.ediv_le_self _ h4;have D1:Hid (IntKind.u64.wrap (lo.tdiv y)=lo / y):=by show _=_;rw [d1];exact u64_in d3 (by omega)
 have D2:=hid d2;clear d1 d2 d3 d4 h3 h4 h5;go_enter Tryz.func227,Tryz.ntmps227
 go_wp2
 go_quiet (fail)
 go_wp2;go_ret2;exact ⟨by rw [D1.out,D2.out];rfl,_,rfl⟩
theorem div64_big (hi lo y:Int) (w:World) (h1:0<hi) (h2:hi<y) (h3:y≤18446744073709551615) (h4:0≤lo) (h5:lo≤18446744073709551615) :
  Calls Tryz.prog 227 #[.int .u64 hi,.int .u64 lo,.int .u64 y] w fun e w'=>e=.returned (.tuple #[.int .u64 ((hi*18446744073709551616+lo) / y),.int .u64 ((hi*18446744073709551616+lo) % y)])∧w=w':=by
 have e1:(y==0)=false:=by simp;omega
 have e2:decide (y≤hi)=false:=by simp;omega
 have e3:(hi==0)=false:=by simp;omega
 go_enter Tryz.func227,Tryz.ntmps227
 go_upto_block 0 with (go_at_call 240;refine (lead_ex _ _ (by omega) h3).mono ?_;rintro e w' ⟨s,hs,n1,n2,rfl,rfl⟩)
 obtain ⟨u,y1,y0,c1,c0,f1,f2,f3,f4,f5,f6,f7,f8,f9,g1,g2,g3,g4,g5,g6,g7,g8⟩:=div_front h1 h2 h4 h5 hs n1 n2;rw [f1,f2,f3,f4,f5];have F7:=hid f7;have F6:=hid f6;have N1:=hid n1;have N2:=hid n2
 have d1:IntKind.u64.wrap (u.tdiv y1)=u / y1:=by
  rw [Int.tdiv_eq_ediv_of_nonneg f8];exact u64_in (Int.ediv_nonneg f8 (by omega)) (by have:=Int.ediv_le_self y1 f8;omega)
 have d2:IntKind.u64.wrap (u-IntKind.u64.wrap (u / y1*y1))=u % y1:=by
  have a1:=Int.mul_ediv_add_emod u y1;have a2:=Int.emod_nonneg u (show y1≠0 by omega);have a3:=Int.emod_lt_of_pos u (show 0<y1 by omega);rw [Int.mul_comm] at a1;rw [u64_mod,u64_mod];omega
 rw [d1,d2]
 obtain ⟨Q1,R1,q1,q2,q3⟩:∃Q R:Int,u*4294967296+c1=Q*(y1*4294967296+y0)+R∧0≤R∧R<y1*4294967296+y0:=
  ⟨(u*4294967296+c1) / (y1*4294967296+y0),(u*4294967296+c1) % (y1*4294967296+y0),by have:=Int.mul_ediv_add_emod (u*4294967296+c1) (y1*4294967296+y0);rw [Int.mul_comm] at this;omega,Int.emod_nonneg _ (by omega),Int.emod_lt_of_pos _ (by omega)⟩
 have S1:Hid (Step u y1 y0 c1 Q1):=⟨g1,g2,g3,g4,g5,g6,f8,by omega,by omega,by omega⟩;rw [f6];clear f1 f2 f3 f4 f5 f6 f7 d1 d2 n1 n2;go_cut [15,16] (fun q _r wx=>q=.int .u64 Q1∧w=wx)
 case first=>
  go_wp2_with fail
  go_loop [15,16] (fun q r=>∃q' r':Int,q=.int .u64 q'∧r=.int .u64 r'∧Hid (Guess u y1 y0 c1 Q1 q' r')) (fun q _=>(intOf q).toNat)
  case atStart=>exact ⟨_,_,rfl,rfl,S1.out.start⟩
  case round=>
   obtain ⟨q,r,rfl,rfl,G⟩:=hrel;have r0:=G.out.r0;have r1:=G.out.r1;have k0:=S1.out.small.1;have k1:=G.out.le;have k2:=G.out.top;by_cases hq:4294967296≤q
   ·have hlt:=S1.out.big G.out hq;by_cases hr:4294967296≤r+y1
    ·have E:=hid (G.out.last S1.out hlt hr);go_wp2;go_meet;exact ⟨by rw [E.out],rfl⟩
    ·have G2:=hid (G.out.next S1.out hlt (by omega));go_wp2
     go_round
     case rel=>exact ⟨q-1,r+y1,rfl,rfl,G2.out⟩
     case measure=>simp [intOf];omega
   ·obtain ⟨p0,p1,p2⟩:=S1.out.fits G.out (by omega);by_cases hc:4294967296*r+c1<q*y0
    ·have hlt:=S1.out.yes G.out.eq hc;by_cases hr:4294967296≤r+y1
     ·have E:=hid (G.out.last S1.out hlt hr);go_wp2;go_meet;exact ⟨by rw [E.out],rfl⟩
     ·have G2:=hid (G.out.next S1.out hlt (by omega));go_wp2
      go_round
      case rel=>exact ⟨q-1,r+y1,rfl,rfl,G2.out⟩
      case measure=>simp [intOf];omega
    ·have E:=hid (G.out.done S1.out (by omega));go_wp2;go_meet;exact ⟨by rw [E.out],rfl⟩
 case rest=>
  obtain ⟨rfl,rfl⟩:=hcut;go_upto_block 2 with fail
  have g9:=F6.out;have g10:=N2.out;rw [mid q1 q2 (by omega),quot_wrap q2 (by omega) (by omega),rest_wrap q2 (by omega) (by omega)];obtain ⟨Q2,R2,p1,p2,p3⟩:=cut_num (R1*4294967296+c0) (y1*4294967296+y0) (by omega);have S2:Hid (Step R1 y1 y0 c0 Q2):=⟨g1,g2,g3,g4,g7,g8,q2,q3,by omega,by omega⟩;have P1:=hid p1;have Q1':=hid q1;clear p1 q1 g9 g10;go_cut [18,16] (fun q _r wx=>q=.int .u64 Q2∧w=wx)
  case first=>
   go_wp2_with fail
   go_loop [18,16] (fun q r=>∃q' r':Int,q=.int .u64 q'∧r=.int .u64 r'∧Hid (Guess R1 y1 y0 c0 Q2 q' r')) (fun q _=>(intOf q).toNat)
   case atStart=>exact ⟨_,_,rfl,rfl,S2.out.start⟩
   case round=>
    obtain ⟨q,r,rfl,rfl,G⟩:=hrel;have r0:=G.out.r0;have r1:=G.out.r1;have k0:=S2.out.small.1;have k1:=G.out.le;have k2:=G.out.top;by_cases hq:4294967296≤q
    ·have hlt:=S2.out.big G.out hq;by_cases hr:4294967296≤r+y1
     ·have E:=hid (G.out.last S2.out hlt hr);go_wp2;go_meet;exact ⟨by rw [E.out],rfl⟩
     ·have G2:=hid (G.out.next S2.out hlt (by omega));go_wp2
      go_round
      case rel=>exact ⟨q-1,r+y1,rfl,rfl,G2.out⟩
      case measure=>simp [intOf];omega
    ·obtain ⟨p0,p1,p2⟩:=S2.out.fits G.out (by omega);by_cases hc:4294967296*r+c0<q*y0
     ·have hlt:=S2.out.yes G.out.eq hc;by_cases hr:4294967296≤r+y1
      ·have E:=hid (G.out.last S2.out hlt hr);go_wp2;go_meet;exact ⟨by rw [E.out],rfl⟩
      ·have G2:=hid (G.out.next S2.out hlt (by omega));go_wp2
       go_round
       case rel=>exact ⟨q-1,r+y1,rfl,rfl,G2.out⟩
       case measure=>simp [intOf];omega
     ·have E:=hid (G.out.done S2.out (by omega));go_wp2;go_meet;exact ⟨by rw [E.out],rfl⟩
  case rest=>
   obtain ⟨rfl,rfl⟩:=hcut;go_wp2;have a1:=S1.out.small;have a2:=S2.out.small;have g9:=F6.out;have g10:=N2.out;obtain ⟨b1,b2⟩:=div_back (Int.pow_pos (by omega):(0:Int)<2 ^ s) (by omega:0<y) F6.out F7.out Q1'.out P1.out p2 p3;rw [quot_join a1.1 a1.2 a2.1 a2.2,mid P1.out p2 (by omega),b1,b2];go_ret2;exact ⟨rfl,rfl⟩
theorem div64_any (hi lo y:Int) (w:World) (h1:0≤hi) (h2:hi<y) (h3:y≤18446744073709551615) (h4:0≤lo) (h5:lo≤18446744073709551615) :
  Calls Tryz.prog 227 #[.int .u64 hi,.int .u64 lo,.int .u64 y] w fun e w'=>e=.returned (.tuple #[.int .u64 ((hi*18446744073709551616+lo) / y),.int .u64 ((hi*18446744073709551616+lo) % y)])∧∃n,w'=w.drewN n:=by
 by_cases h:hi=0
 ·subst h;rw [Int.zero_mul,Int.zero_add];exact div64_low lo y w h2 h3 h4 h5
 ·refine (div64_big hi lo y w (by omega) h2 h3 h4 h5).mono ?_;rintro e w' ⟨rfl,rfl⟩;exact ⟨rfl,0,rfl⟩
end Bt
namespace Rd
open Go.RowKit P Ex Bt
theorem size_any (n:Int) (w:World) (hn:I64 n) :
  Calls Tryz.prog 226 #[.int .i64 n] w fun e w'=>e=.returned (.int .u64 (n.natAbs:Int))∧w=w':=by
 by_cases h:n<0
 ·have E:Hid (IntKind.u64.wrap (-IntKind.u64.wrap n)=(n.natAbs:Int)):=by
   show _=_;rw [u64_mod,u64_mod];unfold I64 at hn;omega
  clear hn;go_enter Tryz.func226,Tryz.ntmps226
  go_wp2;go_ret;exact ⟨by rw [←E.out];rfl,rfl⟩
 ·have E:Hid (n=(n.natAbs:Int)):=by show _=_;omega
  have h1:0≤n:=by omega
  have h2:n≤9223372036854775807:=by unfold I64 at hn;omega
  clear hn;go_enter Tryz.func226,Tryz.ntmps226
  go_wp2;go_ret;exact ⟨by rw [←E.out];rfl,rfl⟩
theorem good_any (mode:Int) (w:World) :
  Calls Tryz.prog 224 #[.int .i64 mode] w fun e w'=>e=.returned (.bool (goodm mode))∧w=w':=by
 by_cases h:goodm mode=true
 ·rw [h];have hg:=(goodm_iff mode).1 h;have hm:mode=0∨mode=1∨mode=2∨mode=3:=by omega
  clear hg h;rcases hm with rfl|rfl|rfl|rfl
  all_goals
   go_enter Tryz.func224,Tryz.ntmps224
   go_wp2;go_ret;exact ⟨rfl,rfl⟩
 ·have e:goodm mode=false:=by simpa using h
  rw [e];have hg:¬ (0≤mode∧mode≤3):=fun k=>h ((goodm_iff mode).2 k);have e0:(mode==0)=false:=by simp;omega
  have e1:(mode==1)=false:=by simp;omega
  have e2:(mode==2)=false:=by simp;omega
  have e3:(mode==3)=false:=by simp;omega
  clear hg h e;go_enter Tryz.func224,Tryz.ntmps224
  go_wp2;go_ret;exact ⟨rfl,rfl⟩
theorem signed_any (n:Int) (b:Bool) (w:World) (h0:0≤n) (h1:n<18446744073709551616) :
  Calls Tryz.prog 229 #[.int .u64 n,.bool b] w fun e w'=>e=.returned (.tuple #[.int .i64 (cut64 (sgnB b n)),.bool (ok64 (sgnB b n))])∧w=w':=by
 cases b
 ·show Calls _ _ _ _ fun e w'=>e=.returned (.tuple #[.int .i64 (cut64 n),.bool (ok64 n)])∧w=w'
  by_cases h:n<9223372036854775808
  ·have hi:I64 n:=by unfold I64;omega
   rw [cut64_t hi,ok64_t hi];have E:=hid (wrap_in hi);clear hi;go_enter Tryz.func229,Tryz.ntmps229
   go_wp2;go_ret2;exact ⟨by first|rfl|(rw [←E.out];rfl),rfl⟩
  ·have hi:¬ I64 n:=by unfold I64;omega
   rw [cut64_f hi,ok64_f hi];clear hi;go_enter Tryz.func229,Tryz.ntmps229
   go_wp2;go_ret2;exact ⟨rfl,rfl⟩
 ·show Calls _ _ _ _ fun e w'=>e=.returned (.tuple #[.int .i64 (cut64 (-n)),.bool (ok64 (-n))])∧w=w'
  by_cases h:n≤9223372036854775808
  ·have hi:I64 (-n):=by unfold I64;omega
   rw [cut64_t hi,ok64_t hi];have E:Hid (wrap64 (IntKind.u64.wrap (-n)) = -n):=by show _=_;rw [u64_mod];unfold wrap64;omega
   clear hi;go_enter Tryz.func229,Tryz.ntmps229
   go_wp2;go_ret2;exact ⟨by rw [E.out];rfl,rfl⟩
  ·have hi:¬ I64 (-n):=by unfold I64;omega
   rw [cut64_f hi,ok64_f hi];clear hi;go_enter Tryz.func229,Tryz.ntmps229
   go_wp2;go_ret2;exact ⟨rfl,rfl⟩
theorem outward_any (q r c mode:Int) (b:Bool) (w:World) (h0:0≤q) (h1:q<18446744073709551616) (r0:0≤r) (r1:r<9223372036854775808) :
  Calls Tryz.prog 228 #[.int .u64 q,.int .u64 r,.int .u64 c,.bool b,.int .i64 mode] w fun e w'=>e=.returned (.bool (outB q r c b mode))∧w=w':=by
 unfold outB;by_cases hr:r=0
 ·subst hr;rw [if_pos rfl];go_enter Tryz.func228,Tryz.ntmps228
  go_wp2;go_ret;exact ⟨rfl,rfl⟩
 ·rw [if_neg hr];have e0:(r==0)=false:=by simpa using hr
  by_cases m0:mode=0
  ·subst m0;rw [if_pos rfl];go_enter Tryz.func228,Tryz.ntmps228
   go_wp2;go_ret;exact ⟨rfl,rfl⟩
  ·rw [if_neg m0];have e1:(mode==0)=false:=by simpa using m0
   by_cases m1:mode=1
   ·subst m1;rw [if_pos rfl];go_enter Tryz.func228,Tryz.ntmps228
    go_wp2;go_ret;exact ⟨rfl,rfl⟩
   ·rw [if_neg m1];have e2:(mode==1)=false:=by simpa using m1
    have t0:0≤2*r:=by omega
    have t1:2*r<18446744073709551616:=by omega
    by_cases hc:2*r=c
    ·have e3:(2*r==c)=true:=by simpa using hc
     rw [if_neg (by omega)];by_cases m2:mode=2
     ·subst m2;rw [if_pos rfl];clear hc;go_enter Tryz.func228,Tryz.ntmps228
      go_wp2;go_ret;exact ⟨rfl,rfl⟩
     ·rw [if_neg m2];have e4:(mode==2)=false:=by simpa using m2
      have E:Hid ((q.tmod 2==1)=decide (q % 2=1)):=by
       show _=_;rw [Int.tmod_eq_emod_of_nonneg h0];rfl
      clear hc;go_enter Tryz.func228,Tryz.ntmps228
      go_wp2;go_ret;exact ⟨by first|(rw [←E.out];rfl)|rfl,rfl⟩
    ·have e3:(2*r==c)=false:=by simpa using hc
     rw [if_pos hc];clear hc;go_enter Tryz.func228,Tryz.ntmps228
     go_wp2;go_ret;exact ⟨rfl,rfl⟩
theorem below_sgn (a b:Int):sgnB (!(decide (a<0)==decide (b<0))) ((a.natAbs*b.natAbs:Nat):Int)=a*b:=by
 rw [←Int.natAbs_mul];by_cases ha:a<0
 ·by_cases hb:b<0
  ·rw [decide_eq_true ha,decide_eq_true hb];have:=Int.mul_pos_of_neg_of_neg ha hb;show ((a*b).natAbs:Int)=_;omega
  ·rw [decide_eq_true ha,decide_eq_false hb];have:=Int.mul_nonpos_of_nonpos_of_nonneg (show a≤0 by omega) (show 0≤b by omega);show -((a*b).natAbs:Int)=_;omega
 ·by_cases hb:b<0
  ·rw [decide_eq_false ha,decide_eq_true hb];have:=Int.mul_nonpos_of_nonneg_of_nonpos (show 0≤a by omega) (show b≤0 by omega);show -((a*b).natAbs:Int)=_;omega
  ·rw [decide_eq_false ha,decide_eq_false hb];have:=Int.mul_nonneg (show 0≤a by omega) (show 0≤b by omega);show ((a*b).natAbs:Int)=_;omega
theorem muldiv_good (a b c mode:Int) (w:World) (ha:I64 a) (hb:I64 b) (hc:I64 c) (hc0:0<c) (hm:goodm mode=true) :
  Calls Tryz.prog 201 #[.int .i64 a,.int .i64 b,.int .i64 c,.int .i64 mode] w fun e w'=>e=.returned (.tuple #[.int .i64 (cut64 (rnd (a*b) c mode)),.bool (ok64 (rnd (a*b) c mode))])∧∃n,w'=w.drewN n:=by
 have hx:a.natAbs<18446744073709551616:=by unfold I64 at ha;omega
 have hy:b.natAbs<18446744073709551616:=by unfold I64 at hb;omega
 have c1:c≤9223372036854775807:=by unfold I64 at hc;omega
 have e0:decide (c≤0)=false:=by simp;omega
 have HA:=hid ha;have HB:=hid hb;have HM:=hid hm;clear ha hb hc;go_enter Tryz.func201,Tryz.ntmps201
 go_wp2_with fail
 refine (good_any _ _).mono ?_;rintro e w1 ⟨rfl,rfl⟩;rw [HM.out];go_wp2_with fail
 refine (size_any _ _ HA.out).mono ?_;rintro e w1 ⟨rfl,rfl⟩;go_wp2_with fail
 refine (size_any _ _ HB.out).mono ?_;rintro e w1 ⟨rfl,rfl⟩;go_wp2_with fail
 refine (mul64_any _ _ hx hy _).mono ?_;rintro e w1 ⟨rfl,rfl⟩;have hs:=below_sgn a b;generalize hmm:a.natAbs*b.natAbs=m at *;obtain ⟨t,ht⟩:∃t,(!(decide (a<0)==decide (b<0)))=t:=⟨_,rfl⟩;rw [ht] at hs;have HS:=hid hs;have HL:Hid (loN m<18446744073709551616):=loN_lt m;clear hmm hs;by_cases hq:c≤(hiN m:Int)
 ·have hbig:=big_quot hc0 hq
  have hn:¬ I64 (rnd (a*b) c mode):=by
   rw [←HS.out];exact rnd_sgn_big t hc0 HM.out (by split<;>omega)
  have HN:=hid hn;clear hbig hn;go_wp2;go_ret2;exact ⟨Ex.ret_2 (cut64_f HN.out).symm (ok64_f HN.out).symm,0,rfl⟩
 ·have hsm:=small_quot hc0 hq;have r0:=Int.emod_nonneg (m:Int) (show c≠0 by omega);have r1:=Int.emod_lt_of_pos (m:Int) hc0;go_wp2_with fail
  refine (div64_any _ _ _ _ (by omega) (by omega) (by omega) (by omega) (by have:=HL.out;omega)).mono ?_;rintro e w1 ⟨rfl,n,rfl⟩;rw [hi_lo_int];have hout:=out_rnd (m:=(m:Int)) t hc0 HM.out;rw [HS.out] at hout;generalize hqq:(m:Int) / c=q at *;generalize hrr:(m:Int) % c=r at *;have HO:=hid hout;clear hqq hrr hout;go_wp2_with fail
  obtain ⟨q0,q1⟩:=hsm;refine (outward_any q r c mode t _ q0 q1 r0 (by omega)).mono ?_;rintro e w1 ⟨rfl,rfl⟩;generalize outB q r c t mode=o at *;cases o
  ·have HP:Hid (sgnB t q=rnd (a*b) c mode):=by show _=_;rw [←HO.out];simp
   clear HO;go_wp2_with fail
   refine (signed_any q t _ q0 q1).mono ?_;rintro e w1 ⟨rfl,rfl⟩;go_wp2;go_ret2;exact ⟨Ex.ret_2 (by rw [HP.out]) (by rw [HP.out]),n,rfl⟩
  ·by_cases hl:q=18446744073709551615
   ·have HN:Hid (¬ I64 (rnd (a*b) c mode)):=by
     show ¬ _
     rw [←HO.out,hl];unfold I64 sgnB;cases t<;>simp
    clear HO;have e1:(q==18446744073709551615)=true:=by simpa using hl
    clear hl;go_wp2;go_ret2;exact ⟨Ex.ret_2 (cut64_f HN.out).symm (ok64_f HN.out).symm,n,rfl⟩
   ·have HP:Hid (sgnB t (q+1)=rnd (a*b) c mode):=by show _=_;rw [←HO.out];simp
    clear HO;have e1:(q==18446744073709551615)=false:=by simpa using hl
    have q2:q+1<18446744073709551616:=by omega
    clear hl;go_wp2_with fail
    refine (signed_any (q+1) t _ (by omega) q2).mono ?_;rintro e w1 ⟨rfl,rfl⟩;go_wp2;go_ret2;exact ⟨Ex.ret_2 (by rw [HP.out]) (by rw [HP.out]),n,rfl⟩
theorem muldiv_any (a b c mode:Int) (w:World) (ha:I64 a) (hb:I64 b) (hc:I64 c) :
  Calls Tryz.prog 201 #[.int .i64 a,.int .i64 b,.int .i64 c,.int .i64 mode] w fun e w'=>e=.returned (.tuple #[.int .i64 (mdn (a*b) c mode),.bool (mdb (a*b) c mode)])∧∃n,w'=w.drewN n:=by
 by_cases hc0:0<c
 ·by_cases hm:goodm mode=true
  ·rw [mdn_good hc0 hm,mdb_good hc0 hm];exact muldiv_good a b c mode w ha hb hc hc0 hm
  ·have hm':goodm mode=false:=by simpa using hm
   rw [mdn_m hm',mdb_m hm'];have e0:decide (c≤0)=false:=by simp;omega
   have HM:=hid hm';clear hm hm' ha hb hc;go_enter Tryz.func201,Tryz.ntmps201
   go_wp2_with fail
   refine (good_any _ _).mono ?_;rintro e w1 ⟨rfl,rfl⟩;rw [HM.out];go_wp2;go_ret2;exact ⟨rfl,0,rfl⟩
 ·rw [mdn_c (by omega),mdb_c (by omega)];have e0:decide (c≤0)=true:=by simp;omega
  clear ha hb hc;go_enter Tryz.func201,Tryz.ntmps201
  go_wp2;go_ret2;exact ⟨rfl,0,rfl⟩
theorem div_any (a c mode:Int) (w:World) (ha:I64 a) (hc:I64 c) :
  Calls Tryz.prog 222 #[.int .i64 a,.int .i64 c,.int .i64 mode] w fun e w'=>e=.returned (.tuple #[.int .i64 (mdn a c mode),.bool (mdb a c mode)])∧∃n,w'=w.drewN n:=by
 have h:=fun w=>muldiv_any a 1 c mode w ha (by unfold I64;omega) hc;rw [Int.mul_one] at h;have H:=hid h;clear h ha hc;go_enter Tryz.func222,Tryz.ntmps222
 go_wp2_with fail
 refine (H.out _).mono ?_;rintro e w1 ⟨rfl,n,rfl⟩;go_wp2;go_ret2;exact ⟨rfl,n,rfl⟩
def upn (a c:Int):Int:=if mdb a c 1=true then cut64 (mdn a c 1*c) else 0
def upb (a c:Int):Bool:=mdb a c 1&&ok64 (mdn a c 1*c)
theorem i64_mdn (p c mode:Int):I64 (mdn p c mode):=by
 unfold mdn;split
 ·exact i64_cut _
 ·exact i64_0
theorem up_any (a c:Int) (w:World) (ha:I64 a) (hc:I64 c) :
  Calls Tryz.prog 200 #[.int .i64 a,.int .i64 c] w fun e w'=>e=.returned (.tuple #[.int .i64 (upn a c),.bool (upb a c)])∧∃n,w'=w.drewN n:=by
 have HA:=hid ha;have HC:=hid hc;have HI:=hid (i64_mdn a c 1);clear ha hc;rcases Bool.eq_false_or_eq_true (mdb a c 1) with hy|hy
 ·rw [show upn a c=cut64 (mdn a c 1*c) by unfold upn;rw [hy];rfl,show upb a c=ok64 (mdn a c 1*c) by unfold upb;rw [hy];rfl];have HY:=hid hy;clear hy;go_enter Tryz.func200,Tryz.ntmps200
  go_wp2_with fail
  refine (div_any a c 1 _ HA.out HC.out).mono ?_;rintro e w1 ⟨rfl,n,rfl⟩;rw [HY.out];go_wp2_with fail
  refine (Ex.mul_any _ c _ HI.out HC.out).mono ?_;rintro e w1 ⟨rfl,rfl⟩;go_wp2;go_ret2;exact ⟨rfl,n,rfl⟩
 ·rw [show upn a c=0 by unfold upn;rw [hy];rfl,show upb a c=false by unfold upb;rw [hy];rfl];have HY:=hid hy;clear hy;go_enter Tryz.func200,Tryz.ntmps200
  go_wp2_with fail
  refine (div_any a c 1 _ HA.out HC.out).mono ?_;rintro e w1 ⟨rfl,n,rfl⟩;rw [HY.out];go_wp2;go_ret2;exact ⟨rfl,n,rfl⟩
end Rd
namespace Cc
open Go.RowKit Go.Sort P Mm Md R6 L06 R9
theorem num4 (d:Day) (h:DayOk d) (w:World):Calls Tryz.prog 78 #[.agg #[d.y,d.m,d.d]] w fun e w'=>e=.returned (.tuple #[.int .i64 (dn d),.bool true])∧Below w.heap.size w w':=Dt.number_yes d.y d.m d.d w h
theorem ret_d {a b:Int} {k:IntKind} {w w':World} {B:Nat} (h:a=b) (x:Below B w w'):(Ending.returned (.int k a):Ending)=.returned (.int k b)∧Below B w w':=⟨by rw [h],x⟩
theorem days_any (x y:Day) (w:World) (gx:DayOk x) (gy:DayOk y):Calls Tryz.prog 115 #[.agg #[x.y,x.m,x.d],.agg #[y.y,y.m,y.d]] w fun e w'=>e=.returned (.int .i64 (dn y-dn x))∧Below w.heap.size w w':=by
 obtain ⟨w2,hw2⟩:∃W,W=(w.alloc (.cells #[x.y,x.m,x.d] 37)).alloc (.cells #[y.y,y.m,y.d] 37):=⟨_,rfl⟩;have b2:Below w.heap.size w w2:=by rw [hw2];exact bel_on (bel_alloc _ _) (bel_alloc _ _)
 have X2:Box w2 (w.heap.size+1) [y.y,y.m,y.d]:=by rw [hw2];have:=Box.new (w.alloc (.cells #[x.y,x.m,x.d] 37)) [y.y,y.m,y.d] 37;simpa using this
 have X1:Box w2 w.heap.size [x.y,x.m,x.d]:=by rw [hw2];exact (Box.new w [x.y,x.m,x.d] 37).on (bel_alloc _ _)
 obtain ⟨A,hA⟩:∃A,A=dn x:=⟨_,rfl⟩;obtain ⟨B,hB⟩:∃A,A=dn y:=⟨_,rfl⟩;have cA:=hid (num4 x gx);have cB:=hid (num4 y gy);have ra:=num_range gx;have rb:=num_range gy;rw [←hA] at cA ra ⊢;rw [←hB] at cB rb ⊢;have d0:=X1.cell 0 _ rfl;have d1:=X1.cell 1 _ rfl;have d2:=X1.cell 2 _ rfl;have HX:=hid (fun W (b:Below w2.heap.size w2 W)=>(⟨X2.on b,bel_on b2 b⟩:Box W (w.heap.size+1) _∧Below w.heap.size w W));have HW:=hid hw2;clear hA hB b2 X1 X2 hw2;go_enter Tryz.func115,Tryz.ntmps115
 go_upto_region 1 with fail
 rw [←HW.out];clear HW;go_wp2_with fail
 refine (cA.out w2).mono ?_;rintro e w3 ⟨rfl,b3⟩;obtain ⟨Y,BW⟩:=HX.out w3 b3;have e0:=Y.cell 0 _ rfl;have e1:=Y.cell 1 _ rfl;have e2:=Y.cell 2 _ rfl;have BF:=hid BW;clear Y BW b3 d0 d1 d2 cA;go_wp2_with fail
 refine (cB.out w3).mono ?_;rintro e w4 ⟨rfl,b4⟩;have BG:=hid (bel_on BF.out b4);clear b4 e0 e1 e2 cB HX BF;obtain ⟨ra0,ra1⟩:=ra;obtain ⟨rb0,rb1⟩:=rb;go_wp2;go_ret;exact ret_d rfl BG.out
theorem holds_any (p:Plan) (x:Win) (ma:Option Addr) (mc:Nat) (fa:Option Addr) (fc:Nat) (ca:Option Addr) (cc:Nat) (w:World) (gp:DayOk p.a∧DayOk p.b) (gx:WinOk x) :
  Calls Tryz.prog 116 #[.agg #[p.name,p.cur,p.a.y,p.a.m,p.a.d,p.b.y,p.b.m,p.b.d,.slice ma p.meters.length mc,.slice fa p.fees.length fc,.slice ca p.charges.length cc,p.line,p.col],.agg #[x.has,x.a.y,x.a.m,x.a.d,x.b.y,x.b.m,x.b.d]] w fun e w'=>e=.returned (.bool (winIn p x))∧Below w.heap.size w w':=by
 cases hx:x.has with
 | false=>
   have e:winIn p x=true:=by unfold winIn;rw [hx];rfl
   rw [e];have BB:=hid (bel_on (bel_alloc w (.cells #[p.name,p.cur,p.a.y,p.a.m,p.a.d,p.b.y,p.b.m,p.b.d,.slice ma p.meters.length mc,.slice fa p.fees.length fc,.slice ca p.charges.length cc,p.line,p.col] 41)) (bel_alloc (w.alloc (.cells #[p.name,p.cur,p.a.y,p.a.m,p.a.d,p.b.y,p.b.m,p.b.d,.slice ma p.meters.length mc,.slice fa p.fees.length fc,.slice ca p.charges.length cc,p.line,p.col] 41)) (.cells #[.bool false,x.a.y,x.a.m,x.a.d,x.b.y,x.b.m,x.b.d] 51)));clear gp gx hx e;go_enter Tryz.func116,Tryz.ntmps116
   go_wp2;go_ret;exact ⟨rfl,BB.out⟩
 | true=>
   obtain ⟨ga,gb⟩:DayOk x.a∧DayOk x.b:=by
    rcases gx with ⟨_,h⟩|h
    ·exact h
    ·rw [h] at hx;cases hx
   obtain ⟨w1,hw1⟩:∃W,W=w.alloc (.cells #[p.name,p.cur,p.a.y,p.a.m,p.a.d,p.b.y,p.b.m,p.b.d,.slice ma p.meters.length mc,.slice fa p.fees.length fc,.slice ca p.charges.length cc,p.line,p.col] 41):=⟨_,rfl⟩;obtain ⟨k1,hk1⟩:∃k,k=w.heap.size:=⟨_,rfl⟩;have X1:Box w1 k1 [p.name,p.cur,p.a.y,p.a.m,p.a.d,p.b.y,p.b.m,p.b.d,.slice ma p.meters.length mc,.slice fa p.fees.length fc,.slice ca p.charges.length cc,p.line,p.col]:=by rw [hw1,hk1];exact Box.new _ _ _
   have b1:Below w.heap.size w w1:=by rw [hw1];exact bel_alloc _ _
   obtain ⟨w2,hw2⟩:∃W,W=w1.alloc (.cells #[.bool true,x.a.y,x.a.m,x.a.d,x.b.y,x.b.m,x.b.d] 51):=⟨_,rfl⟩;obtain ⟨k2,hk2⟩:∃k,k=w1.heap.size:=⟨_,rfl⟩;have X2:Box w2 k2 [.bool true,x.a.y,x.a.m,x.a.d,x.b.y,x.b.m,x.b.d]:=by rw [hw2,hk2];exact Box.new _ _ _
   have b2:Below w1.heap.size w1 w2:=by rw [hw2];exact bel_alloc _ _
   have hk3:k2=w.heap.size+1:=by rw [hk2,hw1];simp
   have X:=hid (fun (W:World) (b:Below w2.heap.size w2 W)=>(⟨(X1.on b2).on b,X2.on b,bel_on (bel_on b1 b2) b⟩:Box W k1 _∧Box W k2 _∧Below w.heap.size w W));obtain ⟨D1,hD1⟩:∃A,A=dn x.b-dn x.a:=⟨_,rfl⟩;obtain ⟨D2,hD2⟩:∃A,A=dn x.a-dn p.a:=⟨_,rfl⟩;obtain ⟨D3,hD3⟩:∃A,A=dn p.b-dn x.b:=⟨_,rfl⟩;have c1:=hid (fun W=>days_any x.a x.b W ga gb);have c2:=hid (fun W=>days_any p.a x.a W gp.1 ga);have c3:=hid (fun W=>days_any x.b p.b W gb gp.2);rw [←hD1] at c1;rw [←hD2] at c2;rw [←hD3] at c3;obtain ⟨R,hR⟩:∃R:Bool,R=(decide (0≤D1)&&decide (0≤D2)&&decide (0≤D3)):=⟨_,rfl⟩
   have e:winIn p x=R:=by
    unfold winIn;rw [hx,hR,hD1,hD2,hD3,show decide (0≤dn x.b-dn x.a)=decide (dn x.a≤dn x.b) by rw [decide_eq_decide];omega,show decide (0≤dn x.a-dn p.a)=decide (dn p.a≤dn x.a) by rw [decide_eq_decide];omega,show decide (0≤dn p.b-dn x.b)=decide (dn x.b≤dn p.b) by rw [decide_eq_decide];omega];rfl
   rw [e];have HR:=hid hR;have d0:=X2.cell 0 _ rfl;have d1:=X2.cell 1 _ rfl;have d2:=X2.cell 2 _ rfl;have d3:=X2.cell 3 _ rfl;have d4:=X2.cell 4 _ rfl;have d5:=X2.cell 5 _ rfl;have d6:=X2.cell 6 _ rfl;have HW:=hid (show w2=(w.alloc (.cells #[p.name,p.cur,p.a.y,p.a.m,p.a.d,p.b.y,p.b.m,p.b.d,.slice ma p.meters.length mc,.slice fa p.fees.length fc,.slice ca p.charges.length cc,p.line,p.col] 41)).alloc (.cells #[.bool true,x.a.y,x.a.m,x.a.d,x.b.y,x.b.m,x.b.d] 51) by rw [hw2,hw1]);have HK1:=hid hk1;have HK3:=hid hk3;have BF0:=hid (X.out w2 (Below.refl _ _)).2.2;clear hD1 hD2 hD3 hR e hw1 hw2 b1 b2 X1 X2 hk1 hk2 hk3 ga gb gx gp hx;go_enter Tryz.func116,Tryz.ntmps116
   go_upto_region 1 with fail
   rw [←HW.out,←HK3.out,←HK1.out];clear HW HK1 HK3;by_cases h1:0≤D1
   ·have g1:decide (0≤D1)=true:=decide_eq_true h1;by_cases h2:0≤D2
    ·have g2:decide (0≤D2)=true:=decide_eq_true h2;have K:Hid (R=decide (0≤D3)):=hid (by rw [HR.out,g1,g2];rfl);go_wp2_with fail
     refine (c1.out w2).mono ?_;rintro e w3 ⟨rfl,b3⟩;have B3:=hid b3;clear b3 d0 d1 d2 d3 d4 d5 d6 BF0;obtain ⟨Y1,Y2,BW⟩:=X.out _ B3.out;have a2:=Y1.cell 2 _ rfl;have a3:=Y1.cell 3 _ rfl;have a4:=Y1.cell 4 _ rfl;have z1:=Y2.cell 1 _ rfl;have z2:=Y2.cell 2 _ rfl;have z3:=Y2.cell 3 _ rfl;clear Y1 Y2 BW;go_wp2_with fail
     refine (c2.out w3).mono ?_;rintro e w4 ⟨rfl,b4⟩;have B4:=hid (bel_on B3.out b4);clear b4 a2 a3 a4 z1 z2 z3 B3;obtain ⟨Y1,Y2,BW⟩:=X.out _ B4.out;have a5:=Y1.cell 5 _ rfl;have a6:=Y1.cell 6 _ rfl;have a7:=Y1.cell 7 _ rfl;have z4:=Y2.cell 4 _ rfl;have z5:=Y2.cell 5 _ rfl;have z6:=Y2.cell 6 _ rfl;clear Y1 Y2 BW;go_wp2_with fail
     refine (c3.out w4).mono ?_;rintro e w5 ⟨rfl,b5⟩;have B5:=hid (X.out _ (bel_on B4.out b5)).2.2;clear b5 a5 a6 a7 z4 z5 z6 B4;by_cases h3:0≤D3
     ·have K2:Hid (R=true):=hid (by rw [K.out,decide_eq_true h3]);have g3:decide (0≤D3)=true:=decide_eq_true h3;clear K HR;go_wp2;go_ret;exact rb_of (by rw [K2.out]<;>first|exact decide_eq_true h3) B5.out
     ·have K2:Hid (R=false):=hid (by rw [K.out,decide_eq_false h3]);have g3:decide (0≤D3)=false:=decide_eq_false h3;clear K HR;go_wp2;go_ret;exact rb_of (by rw [K2.out]<;>first|exact decide_eq_false h3) B5.out
    ·have g2:decide (0≤D2)=false:=decide_eq_false h2;have K:Hid (R=false):=hid (by rw [HR.out,g1,g2];rfl);go_wp2_with fail
     refine (c1.out w2).mono ?_;rintro e w3 ⟨rfl,b3⟩;have B3:=hid b3;clear b3 d0 d1 d2 d3 d4 d5 d6 BF0;obtain ⟨Y1,Y2,BW⟩:=X.out _ B3.out;have a2:=Y1.cell 2 _ rfl;have a3:=Y1.cell 3 _ rfl;have a4:=Y1.cell 4 _ rfl;have z1:=Y2.cell 1 _ rfl;have z2:=Y2.cell 2 _ rfl;have z3:=Y2.cell 3 _ rfl;clear Y1 Y2 BW;go_wp2_with fail
     refine (c2.out w3).mono ?_;rintro e w4 ⟨rfl,b4⟩;have BF:=hid (X.out _ (bel_on B3.out b4)).2.2;clear b4 a2 a3 a4 z1 z2 z3 B3;go_wp2;go_ret;exact ⟨ret_b K.out.symm,BF.out⟩
   ·have g1:decide (0≤D1)=false:=decide_eq_false h1;have K:Hid (R=false):=hid (by rw [HR.out,g1];rfl);go_wp2_with fail
    refine (c1.out w2).mono ?_;rintro e w3 ⟨rfl,b3⟩;have BF:=hid (X.out _ b3).2.2;clear b3 d0 d1 d2 d3 d4 d5 d6 BF0;go_wp2;go_ret;exact ⟨ret_b K.out.symm,BF.out⟩
theorem horizon_any (p:Plan) (ma:Option Addr) (mc:Nat) (fa:Option Addr) (fc:Nat) (ca:Option Addr) (cc:Nat) (w:World) (gp:DayOk p.a∧DayOk p.b) :
  Calls Tryz.prog 67 #[.agg #[p.name,p.cur,p.a.y,p.a.m,p.a.d,p.b.y,p.b.m,p.b.d,.slice ma p.meters.length mc,.slice fa p.fees.length fc,.slice ca p.charges.length cc,p.line,p.col]] w fun e w'=>e=.returned (.int .i64 (headE p))∧Below w.heap.size w w':=by
 obtain ⟨w1,hw1⟩:∃W,W=w.alloc (.cells #[p.name,p.cur,p.a.y,p.a.m,p.a.d,p.b.y,p.b.m,p.b.d,.slice ma p.meters.length mc,.slice fa p.fees.length fc,.slice ca p.charges.length cc,p.line,p.col] 41):=⟨_,rfl⟩;obtain ⟨k1,hk1⟩:∃k,k=w.heap.size:=⟨_,rfl⟩;have X1:Box w1 k1 [p.name,p.cur,p.a.y,p.a.m,p.a.d,p.b.y,p.b.m,p.b.d,.slice ma p.meters.length mc,.slice fa p.fees.length fc,.slice ca p.charges.length cc,p.line,p.col]:=by rw [hw1,hk1];exact Box.new _ _ _
 have b1:=hid (show Below w.heap.size w w1 by rw [hw1];exact bel_alloc _ _);have c1:=hid (fun W=>days_any p.a p.b W gp.1 gp.2);obtain ⟨D,hD⟩:∃A,A=dn p.b-dn p.a:=⟨_,rfl⟩;have ra:=num_range gp.1;have rb:=num_range gp.2;rw [←hD] at c1;have d0 : -4000000≤D:=by omega
 have d1:D≤4000000:=by omega
 obtain ⟨R,hR⟩:∃R,R=headE p:=⟨_,rfl⟩;have HR:Hid (R=if D+1<1 then 5 else if 4000<D+1 then 6 else 0):=hid (by rw [hR,hD];rfl);rw [←hR];have e2:=X1.cell 2 _ rfl;have e3:=X1.cell 3 _ rfl;have e4:=X1.cell 4 _ rfl;have e5:=X1.cell 5 _ rfl;have e6:=X1.cell 6 _ rfl;have e7:=X1.cell 7 _ rfl;have HW:=hid hw1;have HK:=hid hk1;clear hR hD ra rb gp X1 hw1 hk1;go_enter Tryz.func67,Tryz.ntmps67
 go_upto_region 1 with fail
 rw [←HW.out,←HK.out];clear HW HK;go_wp2_with fail
 refine (c1.out w1).mono ?_;rintro e w2 ⟨rfl,b2⟩;have BF:=hid (bel_on b1.out b2);clear b2 e2 e3 e4 e5 e6 e7 c1 b1;by_cases g1:D<0
 ·have K:Hid (R=5):=hid (by rw [HR.out,if_pos (by omega)]);go_wp2;go_ret;exact ⟨ret_i K.out.symm,BF.out⟩
 by_cases g2:4000<D+1
 ·have K:Hid (R=6):=hid (by rw [HR.out,if_neg (by omega),if_pos g2]);go_wp2;go_ret;exact ⟨ret_i K.out.symm,BF.out⟩
 ·have K:Hid (R=0):=hid (by rw [HR.out,if_neg (by omega),if_neg g2]);go_wp2;go_ret;exact ⟨ret_i K.out.symm,BF.out⟩
theorem below_any (n:Int) (b:Bool) (w:World):Calls Tryz.prog 119 #[.int .i64 n,.bool b] w fun e w'=>e=.returned (.tuple #[.int .i64 ((lim n b).getD 0),.bool (lim n b).isSome])∧w'=w:=by
 cases b with
 | false=>
   have E:Hid (lim n false=none):=hid (lim_f rfl);go_enter Tryz.func119,Tryz.ntmps119
   go_wp2;go_ret2;exact ⟨ret_n E.out,rfl⟩
 | true=>
   by_cases hg:1152921504606846976≤n
   ·have E:Hid (lim n true=none):=hid (lim_g hg);go_enter Tryz.func119,Tryz.ntmps119
    go_wp2;go_ret2;exact ⟨ret_n E.out,rfl⟩
   ·have E:Hid (lim n true=some n):=hid (lim_t rfl (by unfold maxBound;omega));go_enter Tryz.func119,Tryz.ntmps119
    go_wp2;go_ret2;exact ⟨ret_v E.out,rfl⟩
theorem greatest_any (l:List Tier) (ta:Option Addr) (tc:Nat) (w:World) (hx:Row tTier w ta l.length tc l) :
  Calls Tryz.prog 202 #[.slice ta l.length tc] w fun e w'=>e=.returned (.int .i64 (topRate l))∧Below w.heap.size w w':=by
 obtain ⟨n,hn⟩:∃n,n=l.length:=⟨_,rfl⟩;have u1:=hx.hcap;have u2:=hx.hmax;obtain ⟨R,hR⟩:∃R,R=topRate l:=⟨_,rfl⟩;rw [←hR];have HR:=hid hR;rw [←hn] at hx u1 ⊢;have HX:=hid hx;have HN:=hid hn;clear hR hx hn;go_enter Tryz.func202,Tryz.ntmps202
 go_wp2;go_loopw [3,8] (fun v i wr=>∃(i':Nat),v=.int .i64 (topRate (l.take i'))∧i=.int .i64 (i':Int)∧i'≤n∧Hid (Below w.heap.size w wr)) (fun _ i _=>n-(intOf i).toNat)
 case atStart=>exact ⟨0,rfl,rfl,Nat.zero_le _,hid (Below.refl _ _)⟩
 case round=>
  obtain ⟨i',rfl,rfl,hi,hB⟩:=hrel;by_cases hlt:i'<n
  ·obtain ⟨t,hti⟩:∃m,l[i']?=some m:=⟨_,List.getElem?_eq_getElem (by have:=HN.out;omega)⟩;have ST:=hid (topRate_step hti);obtain ⟨b,o,e,lb,a0,a1,_⟩:=tier_at (HX.out.on hB.out) hti;have B2:=hid (bel_on hB.out (bel_alloc _ (.cells #[t.upto,t.rate] 119)));obtain ⟨tr,htr⟩:∃x,x=topRate (l.take i'):=⟨_,rfl⟩;rw [←htr] at ST ⊢;clear hti htr;subst e;go_wp2;go_roundw
   case rel=>exact ⟨i'+1,by rw [ST.out],by simp,by omega,B2⟩
   case measure=>simp [intOf];omega
  ·obtain rfl:i'=n:=by omega
   have ET:Hid (topRate (l.take i')=R):=hid (by rw [HN.out,List.take_length,HR.out]);go_wp2;go_ret;exact ⟨ret_i ET.out,hB.out⟩
theorem rising_any (l:List Tier) (ta:Option Addr) (tc:Nat) (w:World) (hx:Row tTier w ta l.length tc l) (hl:l.length≤100000) :
  Calls Tryz.prog 117 #[.slice ta l.length tc] w fun e w'=>e=.returned (.bool (risesB 0 l))∧Below w.heap.size w w':=by
 obtain ⟨n,hn⟩:∃n,n=l.length:=⟨_,rfl⟩;have u1:=hx.hcap;have u2:=hx.hmax;obtain ⟨R,hR⟩:∃R,R=risesB 0 l:=⟨_,rfl⟩;rw [←hR];have HR:=hid hR;rw [←hn] at hx u1 hl ⊢;have HX:=hid hx;have HN:=hid hn;have hl1:(n:Int)≤100000:=by omega
 clear hR hx hn hl;go_enter Tryz.func117,Tryz.ntmps117
 go_wp2;go_loopw [3,8] (fun v i wr=>∃(i':Nat) (u:Int),v=.int .i64 u∧i=.int .i64 (i':Int)∧i'≤n∧0≤u∧Hid (R=risesB u (l.drop i'))∧Hid (Below w.heap.size w wr)) (fun _ i _=>n-(intOf i).toNat)
 case atStart=>exact ⟨0,0,rfl,rfl,Nat.zero_le _,Int.le_refl _,hid HR.out,hid (Below.refl _ _)⟩
 case round=>
  obtain ⟨i',u,rfl,rfl,hi,hu,hE,hB⟩:=hrel;by_cases hlt:i'+1<n
  ·obtain ⟨t,hti⟩:∃m,l[i']?=some m:=⟨_,List.getElem?_eq_getElem (by have:=HN.out;omega)⟩;have st:=rises_step (u:=u) hti (by have:=HN.out;omega);obtain ⟨b,o,e,lb,a0,a1,_⟩:=tier_at (HX.out.on hB.out) hti;have lt1:i'<n:=by omega
   subst e;by_cases hg:t.upto≤u
   ·have K:Hid (R=false):=hid (by rw [hE.out,st,show decide (u<t.upto)=false from decide_eq_false (by omega),Bool.and_false];rfl);clear hti st hE a1;go_wp2;go_ret;exact ⟨ret_b K.out.symm,hB.out⟩
   ·have K:Hid (R=risesB t.upto (l.drop (i'+1))):=hid (by rw [hE.out,st,show decide (1≤t.upto)=true from decide_eq_true (by omega),show decide (u<t.upto)=true from decide_eq_true (by omega)];rfl);have t0:0≤t.upto:=by omega
    clear hti st hE a1;go_wp2;go_roundw
    case rel=>exact ⟨i'+1,t.upto,rfl,by simp,by omega,t0,K,hB⟩
    case measure=>simp [intOf];omega
  ·have K:Hid (R=true):=hid (by rw [hE.out,rises_stop (by have:=HN.out;omega)]);clear hE;go_wp2;go_ret;exact ⟨ret_b K.out.symm,hB.out⟩
end Cc
end Go.Proofs.YtofbobdhkbmbgaaGreatDoor
