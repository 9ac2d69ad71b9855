/- Package adjust, walked: One and All; what the laws ask of it. -/
import Derived.Test.YtnfehoikofiocaaJExactL
import Derived.Test.YtnfehoikofiocaaJL12
set_option maxRecDepth 100000
set_option maxHeartbeats 4000000
namespace Go.Proofs.Ytnfehoikofiocaa
namespace P
end P
namespace Mm
end Mm
namespace Md
end Md
namespace R6
end R6
namespace Te
end Te
namespace Co
end Co
namespace R10
end R10
namespace R11
end R11
namespace Ag
open Go.RowKit Go.Sort P Mm Md R6 Te Co R10 R11
theorem two_cells (a b:Int) (w:World) (t:TypeId):Cells (w.alloc (.cells #[.int .i64 a,.int .i64 b] t)) w.heap.size 0 [a,b]:=by
 have X:=Box.new w [.int .i64 a,.int .i64 b] t
 intro i hi
 match i,hi with
 | 0,_=>exact X.cell 0 _ rfl
 | 1,_=>exact X.cell 1 _ rfl
theorem min_best (a b:Int):bestOf ltB a [b]=min a b:=by
 unfold bestOf ltB bestOf
 simp only [decide_eq_true_eq]
 split<;>omega
theorem max_best (a b:Int):bestOf gtB a [b]=max a b:=by
 unfold bestOf gtB bestOf
 simp only [decide_eq_true_eq]
 split<;>omega
theorem least_two (a b:Int) (w:World):Calls Try.prog 11 #[.slice (some ⟨w.heap.size,0,none⟩) 2 2] (w.alloc (.cells #[.int .i64 a,.int .i64 b] 3)) fun e w'=>e=.returned (.tuple #[.int .i64 (min a b),.bool true])∧Below w.heap.size w w':=by
 have h:=Ex.least_any w.heap.size 0 2 a [b] _ (two_cells a b w 3) (by simp) (by simp)
 rw [min_best] at h
 exact h.mono fun e w' h=>⟨h.1,by rw [←h.2];exact bel_alloc w _⟩
theorem most_two (a b:Int) (w:World):Calls Try.prog 12 #[.slice (some ⟨w.heap.size,0,none⟩) 2 2] (w.alloc (.cells #[.int .i64 a,.int .i64 b] 3)) fun e w'=>e=.returned (.tuple #[.int .i64 (max a b),.bool true])∧Below w.heap.size w w':=by
 have h:=Ex.most_any w.heap.size 0 2 a [b] _ (two_cells a b w 3) (by simp) (by simp)
 rw [max_best] at h
 exact h.mono fun e w' h=>⟨h.1,by rw [←h.2];exact bel_alloc w _⟩
theorem mdn_f {p c mode:Int} (h:mdb p c mode=false):mdn p c mode=0:=by
 unfold mdn
 split
 ·rename_i k
  unfold mdb at h
  rw [k,Bool.true_and] at h
  unfold cut64
  rw [h]
  rfl
 ·rfl
theorem one_any (a:Adj) (n:Int) (w:World) (hn:I64 n) (ha:I64 a.num) (_hm:I64 a.mode) :
  Calls Try.prog 9 #[.agg #[.int .i64 a.kind,.int .i64 a.num,.int .i64 a.mode],.int .i64 n] w fun e w'=>e=.returned (.tuple #[.int .i64 (oV (adjO a n)),.bool (oB (adjO a n))])∧Below w.heap.size w w':=by
 obtain ⟨w1,hw1⟩:∃W,W=w.alloc (.cells ([.int .i64 a.kind,.int .i64 a.num,.int .i64 a.mode]:List Value).toArray 25):=⟨_,rfl⟩
 obtain ⟨k1,hk1⟩:∃k,k=w.heap.size:=⟨_,rfl⟩
 have b1:Below w.heap.size w w1:=by rw [hw1];exact bel_alloc _ _
 have X1:Box w1 k1 [.int .i64 a.kind,.int .i64 a.num,.int .i64 a.mode]:=by rw [hw1,hk1];exact Box.new w _ 25
 have c0:=X1.cell 0 _ rfl
 have c1:=X1.cell 1 _ rfl
 have c2:=X1.cell 2 _ rfl
 have l1:=X1.lt
 have HW:=hid hw1
 have HK:=hid hk1
 have B1:=hid b1
 obtain ⟨V,hV⟩:∃V,V=oV (adjO a n):=⟨_,rfl⟩
 obtain ⟨O,hO⟩:∃O,O=oB (adjO a n):=⟨_,rfl⟩
 rw [←hV,←hO]
 by_cases h1:a.kind=1
 ·have z1:(a.kind==1)=true:=by simpa using h1
  have c:=Rd.muldiv_any n a.num 100000 a.mode w1 hn ha (by unfold I64;omega)
  have e:V=mdn (n*a.num) 100000 a.mode∧O=mdb (n*a.num) 100000 a.mode:=by
   rw [hV,hO]
   unfold adjO
   rw [if_pos h1]
   split
   ·rename_i k
    rw [k]
    exact ⟨rfl,rfl⟩
   ·rename_i k
    have k':mdb (n*a.num) 100000 a.mode=false:=by simpa using k
    rw [k',mdn_f k']
    exact ⟨rfl,rfl⟩
  rw [←e.1,←e.2] at c
  have C:=hid c
  clear hw1 hk1 b1 X1 h1 c e hV hO hn ha
  go_enter Try.func9,Try.ntmps9
  go_upto_region 1 with fail
  rw [←HW.out,←HK.out]
  go_wp2_with fail
  refine C.out.mono ?_
  rintro e w2 ⟨rfl,m,rfl⟩
  have B2:=hid (P.bel_drewN B1.out m)
  clear C
  go_wp2
  go_ret2
  exact ⟨rfl,B2.out⟩
 have z1:(a.kind==1)=false:=by simpa using h1
 by_cases h2:a.kind=2
 ·have z2:(a.kind==2)=true:=by simpa using h2
  have e:V=min n a.num∧O=true:=by
   rw [hV,hO];unfold adjO;rw [if_neg h1,if_pos h2];exact ⟨rfl,rfl⟩
  obtain ⟨rfl,rfl⟩:=e
  have C:=hid (least_two n a.num w1)
  clear hw1 hk1 b1 X1 h1 h2 hV hO hn ha
  go_enter Try.func9,Try.ntmps9
  go_upto_region 1 with fail
  rw [←HW.out,←HK.out]
  go_wp2_with fail
  refine C.out.mono ?_
  rintro e w2 ⟨rfl,b2⟩
  have B2:=hid (bel_on B1.out b2)
  clear C b2
  go_wp2
  go_ret2
  exact ⟨rfl,B2.out⟩
 have z2:(a.kind==2)=false:=by simpa using h2
 by_cases h3:a.kind=3
 ·have z4:(a.kind==3)=true:=by simpa using h3
  have e:V=max n a.num∧O=true:=by
   rw [hV,hO];unfold adjO;rw [if_neg h1,if_neg h2,if_pos h3];exact ⟨rfl,rfl⟩
  obtain ⟨rfl,rfl⟩:=e
  have C:=hid (most_two n a.num w1)
  clear hw1 hk1 b1 X1 h1 h2 h3 hV hO hn ha
  go_enter Try.func9,Try.ntmps9
  go_upto_region 1 with fail
  rw [←HW.out,←HK.out]
  go_wp2_with fail
  refine C.out.mono ?_
  rintro e w2 ⟨rfl,b2⟩
  have B2:=hid (bel_on B1.out b2)
  clear C b2
  go_wp2
  go_ret2
  exact ⟨rfl,B2.out⟩
 have z4:(a.kind==3)=false:=by simpa using h3
 by_cases h4:a.kind=4
 ·have z5:(a.kind==4)=true:=by simpa using h4
  have e:V=cut64 (n+a.num)∧O=ok64 (n+a.num):=by
   rw [hV,hO]
   unfold adjO
   rw [if_neg h1,if_neg h2,if_neg h3,if_pos h4]
   by_cases k:I64 (n+a.num)
   ·rw [ok64_t k,cut64_t k];exact ⟨rfl,rfl⟩
   ·rw [ok64_f k,cut64_f k];exact ⟨rfl,rfl⟩
  have c:=Ex.add_any n a.num w1 hn ha
  rw [←e.1,←e.2] at c
  have C:=hid c
  clear hw1 hk1 b1 X1 h1 h2 h3 h4 hV hO hn ha e c
  go_enter Try.func9,Try.ntmps9
  go_upto_region 1 with fail
  rw [←HW.out,←HK.out]
  go_wp2_with fail
  refine C.out.mono ?_
  rintro e w2 ⟨rfl,rfl⟩
  clear C
  go_wp2
  go_ret2
  exact ⟨rfl,B1.out⟩
 ·have z5:(a.kind==4)=false:=by simpa using h4
  have e:V=0∧O=false:=by
   rw [hV,hO];unfold adjO;rw [if_neg h1,if_neg h2,if_neg h3,if_neg h4];exact ⟨rfl,rfl⟩
  obtain ⟨rfl,rfl⟩:=e
  clear hw1 hk1 b1 X1 h1 h2 h3 h4 hV hO hn ha
  go_enter Try.func9,Try.ntmps9
  go_upto_region 1 with fail
  rw [←HW.out,←HK.out]
  go_wp2
  go_ret2
  exact ⟨rfl,B1.out⟩
theorem adj_in {w:World} {b o len cap:Nat} {xs:List Adj} (h:Row tAdj w (some ⟨b,o,none⟩) len cap xs) {j:Nat} {m:Adj} (hj:xs[j]?=some m) :
  w.cell? ⟨b,o+j*3,none⟩=some (.int .i64 m.kind)∧w.cell? ⟨b,o+j*3+1,none⟩=some (.int .i64 m.num)∧w.cell? ⟨b,o+j*3+2,none⟩=some (.int .i64 m.mode)∧I64 m.num∧I64 m.mode:=by
 obtain ⟨b',o',e,_,x0,x1,x2,_,x3,x4⟩:=adj_at h hj
 simp only [Option.some.injEq,Addr.mk.injEq,and_true] at e
 obtain ⟨rfl,rfl⟩:=e
 exact ⟨x0,x1,x2,x3,x4⟩
theorem all_any (n:Int) (xs:List Adj) (ao:Option Addr) (cap:Nat) (w:World) (hx:Row tAdj w ao xs.length cap xs) (hn:I64 n) :
  Calls Try.prog 8 #[.int .i64 n,.slice ao xs.length cap] w fun e w'=>e=.returned (.tuple #[.int .i64 (oV (adjsO n xs)),.bool (oB (adjsO n xs))])∧Below w.heap.size w w':=by
 obtain ⟨R,hR⟩:∃R,R=adjsO n xs:=⟨_,rfl⟩
 rw [←hR]
 have HX:=hid (fun (W:World) (b:Below w.heap.size w W)=>hx.on b)
 have tm:=hx.hmax
 have tcp:=hx.hcap
 have R0:=hid (show R=adjsO n (xs.drop 0) from hR)
 have HN:=hid hn
 clear hx hR hn
 go_enter Try.func8,Try.ntmps8
 go_wp2
 go_loopw [0,12] (fun v i wr=>∃(m:Int) (i':Nat),v=.int .i64 m∧i=.int .i64 (i':Int)∧i'≤xs.length∧Hid (R=adjsO m (xs.drop i'))∧Hid (I64 m)∧Hid (Below w.heap.size w wr)) (fun _ i _=>xs.length-(intOf i).toNat)
 case atStart=>exact ⟨n,0,rfl,rfl,Nat.zero_le _,R0,HN,hid (Below.refl _ _)⟩
 case round=>
  obtain ⟨m,i',rfl,rfl,hi,hR,hM,hb⟩:=hrel
  clear R0 HN
  by_cases hlt:i'<xs.length
  ·obtain ⟨y,hy⟩:∃y,xs[i']?=some y:=⟨_,List.getElem?_eq_getElem hlt⟩
   obtain ⟨ba,oa,ea,-⟩:=adj_at (HX.out _ hb.out) hy
   subst ea
   obtain ⟨y0,y1,y2,y3,y4⟩:=adj_in (HX.out _ hb.out) hy
   obtain ⟨wt,hwt⟩:∃W,W=wr.alloc (.cells ([.int .i64 y.kind,.int .i64 y.num,.int .i64 y.mode]:List Value).toArray 25):=⟨_,rfl⟩
   obtain ⟨kt,hkt⟩:∃k,k=wr.heap.size:=⟨_,rfl⟩
   have bt2:Below wr.heap.size wr wt:=by rw [hwt];exact bel_alloc _ _
   have XT:Box wt kt [.int .i64 y.kind,.int .i64 y.num,.int .i64 y.mode]:=by rw [hwt,hkt];exact Box.new _ _ _
   have BT:=hid (bel_on hb.out bt2)
   have e0:=XT.cell 0 _ rfl
   have e1:=XT.cell 1 _ rfl
   have e2:=XT.cell 2 _ rfl
   have HWT:=hid hwt
   have HKT:=hid hkt
   have cO:=one_any y m wt hM.out y3 y4
   have hS:=hR.out
   rw [adjsO_step hy] at hS
   have HI:=hid (fun k (h:adjO y m=some k)=>adjO_i64 hM.out y3 h)
   obtain ⟨O,hO⟩:∃O,O=adjO y m:=⟨_,rfl⟩
   rw [←hO] at cO hS HI
   have cO:=hid cO
   have HS:=hid hS
   clear hwt hkt bt2 XT hb hR hS hO hy y3 y4
   go_upto_region 4 with fail
   rw [←HWT.out,←HKT.out]
   clear HWT HKT y0 y1 y2
   go_wp2_with fail
   refine cO.out.mono ?_
   rintro e w2 ⟨rfl,b2⟩
   have B2:=hid (bel_on BT.out b2)
   clear b2 cO BT e0 e1 e2
   cases O with
   | none=>
     have E:Hid (R=none):=HS
     rw [show oV none=0 from rfl,show oB none=false from rfl]
     go_wp2
     go_ret2
     exact ⟨by rw [E.out];rfl,B2.out⟩
   | some k=>
     have E:Hid (R=adjsO k (xs.drop (i'+1))):=HS
     have HK:Hid (I64 k):=hid (HI.out k rfl)
     rw [show oV (some k)=k from rfl,show oB (some k)=true from rfl]
     clear HI HS
     go_wp2
     go_roundw
     case rel=>exact ⟨k,i'+1,rfl,by simp,by omega,E,HK,B2⟩
     case measure=>simp [intOf];omega
  ·have E:=hid (show R=some m by rw [hR.out,List.drop_of_length_le (by omega)];rfl)
   clear hR
   go_wp2
   go_ret2
   exact ⟨by rw [E.out];rfl,hb.out⟩
theorem aj:L12.Aj:=⟨fun n xs ao cap w h hn=>all_any n xs ao cap w h hn,fun a n w hn ha hm=>one_any a n w hn ha hm⟩
end Ag
namespace L12
open Go.RowKit Go.Sort P Mm Md R6 Te Co R10 R11
theorem row_take {α:Type} {T:Ty α} {w:World} {ao:Option Addr} {len cap:Nat} {xs:List α} (h:Row T w ao len cap xs) {k:Nat} (hk:k≤len):Row T w ao k cap (xs.take k):=by
 have h1:=h.hlen
 have h2:=h.hcap
 refine ⟨by rw [List.length_take];omega,by omega,h.hmax,fun hne=>?_⟩
 obtain ⟨b,o,e,hl,hx⟩:=h.lie (fun e=>hne (by rw [e];simp))
 refine ⟨b,o,e,hl,fun j x hj=>hx j x ?_⟩
 have:=(List.getElem?_eq_some_iff.1 hj).1
 rw [List.length_take] at this
 rwa [List.getElem?_take_of_lt (by omega)] at hj
theorem row_drop {α:Type} {T:Ty α} {w:World} {b o:Nat} {len cap:Nat} {xs:List α} (h:Row T w (some ⟨b,o,none⟩) len cap xs) {k:Nat} (hk:k≤len):Row T w (some ⟨b,o+k*T.n,none⟩) (len-k) (cap-k) (xs.drop k):=by
 have h1:=h.hlen
 have h2:=h.hcap
 have h3:=h.hmax
 refine ⟨by rw [List.length_drop];omega,by omega,by omega,fun hne=>?_⟩
 obtain ⟨b',o',e,hl,hx⟩:=h.lie (fun e=>hne (by rw [e];simp))
 simp only [Option.some.injEq,Addr.mk.injEq,and_true] at e
 obtain ⟨rfl,rfl⟩:=e
 refine ⟨b,o+k*T.n,rfl,hl,fun j x hj=>?_⟩
 rw [List.getElem?_drop] at hj
 obtain ⟨cs,h4,h5⟩:=hx (k+j) x hj
 refine ⟨cs,h4,fun i v hi=>?_⟩
 have:=h5 i v hi
 rw [show o+k*T.n+j*T.n+i=o+(k+j)*T.n+i by rw [Nat.add_mul];omega]
 exact this
theorem row_none {α:Type} {T:Ty α} {w:World} {ao:Option Addr} {cap:Nat} (hc:cap≤9223372036854775807):Row T w ao 0 cap ([]:List α):=⟨rfl,Nat.zero_le _,hc,fun h=>absurd rfl h⟩
theorem adjsO_i64:∀(l:List Adj) (n m:Int),I64 n→(∀a∈l,I64 a.num)→adjsO n l=some m→I64 m
 | [],n,m,hn,_,h=>by
   have h:some n=some m:=h
   obtain rfl:=Option.some.inj h
   exact hn
 | a::l,n,m,hn,hl,h=>by
   have h2:(match adjO a n with
    | some m=>adjsO m l
    | none=>none)=some m:=h
   cases e:adjO a n with
   | none=>rw [e] at h2;cases h2
   | some k=>
     rw [e] at h2
     exact adjsO_i64 l k m (adjO_i64 hn (hl a (List.mem_cons_self ..)) e) (fun z hz=>hl z (List.mem_cons_of_mem _ hz)) h2
theorem row_num {w:World} {ao:Option Addr} {len cap:Nat} {xs:List Adj} (h:Row tAdj w ao len cap xs):∀a∈xs,I64 a.num:=fun a ha=>by
 obtain ⟨j,hj,e⟩:=List.mem_iff_getElem.1 ha
 obtain ⟨_,_,_,_,_,_,_,_,h2,_⟩:=adj_at h (show xs[j]?=some a by rw [←e];exact List.getElem?_eq_getElem hj)
 exact h2
theorem parts_walk (A:Aj) (n:Int) (xs:List Adj) (ao:Option Addr) (cap:Nat) (at':Int) (w:World) (hn:I64 n) (hx:Row tAdj w ao xs.length cap xs) :
  Calls Try.prog 4 #[.int .i64 n,.slice ao xs.length cap,.int .i64 at'] w fun e w'=>e=.returned (.bool true)∧Below w.heap.size w w':=by
 have cA:=hid (alive_any A w)
 have c1:=hid (fun (W:World) (b:Below w.heap.size w W)=>A.all n xs ao cap W (hx.on b) hn)
 have HN:=hid hn
 have HX:=hid hx
 have tm:=hx.hmax
 have tcp:=hx.hcap
 clear hn hx
 go_enter Try.func4,Try.ntmps4
 go_wp2_with fail
 refine cA.out.mono ?_
 rintro e w1 ⟨rfl,b1⟩
 have B1:=hid b1
 clear b1 cA
 by_cases h0:200<xs.length
 ·have z0:decide ((200:Int)<(xs.length:Int))=true:=decide_eq_true (by omega)
  go_wp2
  go_ret
  exact ⟨rfl,B1.out⟩
 have z0:decide ((200:Int)<(xs.length:Int))=false:=decide_eq_false (by omega)
 by_cases h1:at'<0
 ·have z1:decide (at'<0)=true:=decide_eq_true h1
  go_wp2
  go_ret
  exact ⟨rfl,B1.out⟩
 obtain ⟨k,rfl⟩:∃k:Nat,at'=(k:Int):=⟨at'.toNat,by omega⟩
 have z1:decide ((k:Int)<0)=false:=decide_eq_false h1
 by_cases h2:xs.length<k
 ·have z2:decide ((xs.length:Int)<(k:Int))=true:=decide_eq_true (by omega)
  go_wp2
  go_ret
  exact ⟨rfl,B1.out⟩
 have z2:decide ((xs.length:Int)<(k:Int))=false:=decide_eq_false (by omega)
 have p1:k≤xs.length:=by omega
 have p2:k≤cap:=by omega
 have p3:(k:Int)≤(cap:Int):=by omega
 have p4:(0:Int)≤(k:Int):=by omega
 have p5:(k:Int)≤(xs.length:Int):=by omega
 have ES0:adjsO n xs=match adjsO n (xs.take k) with
   | some m=>adjsO m (xs.drop k)
   | none=>none:=by
  have:=adjsO_append (xs.take k) (xs.drop k) n
  rw [List.take_append_drop] at this
  exact this
 have c2:=hid (fun (W:World) (b:Below w.heap.size w W)=>show Calls Try.prog 8 #[.int .i64 n,.slice ao k cap] W fun e w'=>e=.returned (.tuple #[.int .i64 (oV (adjsO n (xs.take k))),.bool (oB (adjsO n (xs.take k)))])∧Below W.heap.size W w' by
  have:=A.all n (xs.take k) ao cap W (by rw [List.length_take,Nat.min_eq_left p1];exact row_take (HX.out.on b) p1) HN.out
  rw [List.length_take,Nat.min_eq_left p1] at this
  exact this)
 have ES:=hid ES0
 clear ES0
 clear h1 h2
 rcases Nat.eq_zero_or_pos xs.length with hz|hz
 rotate_left
 ·obtain ⟨b,o,ea,-⟩:=HX.out.lie (by intro h;rw [h] at hz;simp at hz)
  subst ea
  have p6:0<cap:=by omega
  have p7:¬ cap=0:=by omega
  go_wp2_with fail
  refine (c1.out _ B1.out).mono ?_
  rintro e w2 ⟨rfl,b2⟩
  have B2:=hid (bel_on B1.out b2)
  clear b2 c1 B1
  go_wp2_with fail
  by_cases hk:cap=k
  ·have hk2:¬ k<cap:=by omega
   refine (c2.out _ B2.out).mono ?_
   rintro e w3 ⟨rfl,b3⟩
   have B3:=hid (bel_on B2.out b3)
   clear b3 c2 B2
   cases hA:adjsO n (xs.take k) with
   | none=>
     have e1:adjsO n xs=none:=by rw [ES.out,hA]
     rw [e1,show oB none=false from rfl,show oV none=0 from rfl]
     clear hA e1 ES
     go_wp2
     go_ret
     exact ⟨rfl,B3.out⟩
   | some m=>
     have e1:adjsO n xs=adjsO m (xs.drop k):=by rw [ES.out,hA]
     rw [e1,show oB (some m)=true from rfl,show oV (some m)=m from rfl]
     have hmi:I64 m:=adjsO_i64 (xs.take k) n m HN.out (fun a ha=>row_num HX.out a (List.mem_of_mem_take ha)) hA
     have c3:=hid (fun (W:World) (bW:Below w.heap.size w W)=>show Calls Try.prog 8 #[.int .i64 m,.slice (some ⟨b,o,none⟩) (xs.length-k) 0] W fun e w'=>e=.returned (.tuple #[.int .i64 (oV (adjsO m (xs.drop k))),.bool (oB (adjsO m (xs.drop k)))])∧Below W.heap.size W w' from by
      have R:=HX.out.on bW
      have e0:xs.drop k=[]:=List.drop_of_length_le (by omega)
      rw [e0,show xs.length-k=0 by omega]
      exact A.all m [] (some ⟨b,o,none⟩) 0 W (row_none (by omega)) hmi)
     obtain ⟨M,hM⟩:∃M,M=adjsO m (xs.drop k):=⟨_,rfl⟩
     rw [←hM] at c3 ⊢
     clear hA e1 ES hM
     go_wp2_with fail
     refine (c3.out _ B3.out).mono ?_
     rintro e w4 ⟨rfl,b4⟩
     have B4:=hid (bel_on B3.out b4)
     have y1:(oV M==oV M)=true:=by simp
     have y2:(oB M==oB M)=true:=by simp
     clear b4 c3 B3
     go_wp2
     go_ret
     exact ⟨rfl,B4.out⟩
  ·have hk2:k<cap:=by omega
   refine (c2.out _ B2.out).mono ?_
   rintro e w3 ⟨rfl,b3⟩
   have B3:=hid (bel_on B2.out b3)
   clear b3 c2 B2
   cases hA:adjsO n (xs.take k) with
   | none=>
     have e1:adjsO n xs=none:=by rw [ES.out,hA]
     rw [e1,show oB none=false from rfl,show oV none=0 from rfl]
     clear hA e1 ES
     go_wp2
     go_ret
     exact ⟨rfl,B3.out⟩
   | some m=>
     have e1:adjsO n xs=adjsO m (xs.drop k):=by rw [ES.out,hA]
     rw [e1,show oB (some m)=true from rfl,show oV (some m)=m from rfl]
     have hmi:I64 m:=adjsO_i64 (xs.take k) n m HN.out (fun a ha=>row_num HX.out a (List.mem_of_mem_take ha)) hA
     have c3:=hid (fun (W:World) (bW:Below w.heap.size w W)=>show Calls Try.prog 8 #[.int .i64 m,.slice (some ⟨b,o+k*3,none⟩) (xs.length-k) (cap-k)] W fun e w'=>e=.returned (.tuple #[.int .i64 (oV (adjsO m (xs.drop k))),.bool (oB (adjsO m (xs.drop k)))])∧Below W.heap.size W w' from by
      have R:=HX.out.on bW
      have:=A.all m (xs.drop k) (some ⟨b,o+k*3,none⟩) (cap-k) W (by rw [List.length_drop];exact row_drop R p1) hmi
      rw [List.length_drop] at this
      exact this)
     obtain ⟨M,hM⟩:∃M,M=adjsO m (xs.drop k):=⟨_,rfl⟩
     rw [←hM] at c3 ⊢
     clear hA e1 ES hM
     go_wp2_with fail
     refine (c3.out _ B3.out).mono ?_
     rintro e w4 ⟨rfl,b4⟩
     have B4:=hid (bel_on B3.out b4)
     have y1:(oV M==oV M)=true:=by simp
     have y2:(oB M==oB M)=true:=by simp
     clear b4 c3 B3
     go_wp2
     go_ret
     exact ⟨rfl,B4.out⟩
 ·obtain rfl:xs=[]:=List.eq_nil_of_length_eq_zero hz
  obtain rfl:k=0:=by simpa using p1
  have cX:=hid (fun (W:World) (ao':Option Addr) (cap':Nat) (hc:cap'≤9223372036854775807)=>show Calls Try.prog 8 #[.int .i64 n,.slice ao' 0 cap'] W fun e w'=>e=.returned (.tuple #[.int .i64 n,.bool true])∧Below W.heap.size W w' from A.all n [] ao' cap' W (row_none hc) HN.out)
  have y1:(n==n)=true:=by simp
  clear c1 c2 ES HX tcp p1 p2 p3 p4 p5 hz z2 z1 z0 h0
  have z0:decide ((200:Int)<0)=false:=by decide
  have q1:(0:Int)≤(cap:Int):=by omega
  have q2:cap-0=cap:=by omega
  cases ao with
  | none=>
    go_wp2_with fail
    refine (cX.out _ _ _ (by omega)).mono ?_
    rintro e w2 ⟨rfl,b2⟩
    have B2:=hid (bel_on B1.out b2)
    clear b2 B1
    go_wp2_with fail
    refine (cX.out _ _ _ (by omega)).mono ?_
    rintro e w3 ⟨rfl,b3⟩
    have B3:=hid (bel_on B2.out b3)
    clear b3 B2
    go_wp2_with fail
    refine (cX.out _ _ _ (by omega)).mono ?_
    rintro e w4 ⟨rfl,b4⟩
    have B4:=hid (bel_on B3.out b4)
    clear b4 B3
    go_wp2
    go_ret
    exact ⟨rfl,B4.out⟩
  | some ad=>
    go_wp2_with fail
    refine (cX.out _ _ _ (by omega)).mono ?_
    rintro e w2 ⟨rfl,b2⟩
    have B2:=hid (bel_on B1.out b2)
    clear b2 B1
    go_wp2_with fail
    refine (cX.out _ _ _ (by omega)).mono ?_
    rintro e w3 ⟨rfl,b3⟩
    have B3:=hid (bel_on B2.out b3)
    clear b3 B2
    by_cases hc0:cap=0
    ·go_wp2_with fail
     refine (cX.out _ _ _ (by omega)).mono ?_
     rintro e w4 ⟨rfl,b4⟩
     have B4:=hid (bel_on B3.out b4)
     clear b4 B3
     go_wp2
     go_ret
     exact ⟨rfl,B4.out⟩
    ·have hc1:0<cap:=by omega
     go_wp2_with fail
     refine (cX.out _ _ _ (by omega)).mono ?_
     rintro e w4 ⟨rfl,b4⟩
     have B4:=hid (bel_on B3.out b4)
     clear b4 B3
     go_wp2
     go_ret
     exact ⟨rfl,B4.out⟩
end L12
end Go.Proofs.Ytnfehoikofiocaa
