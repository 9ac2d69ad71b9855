/- Package adjust, walked: One and All; what the laws ask of it. -/
import Derived.Test.YtnfehoikofiocaaJExactL
import Derived.Test.YtnfehoikofiocaaJL12
set_option maxRecDepth 100000
set_option maxHeartbeats 4000000
namespace Go.Proofs.Ytnfehoikofiocaa
namespace P
end P
namespace Mm
end Mm
namespace Md
end Md
namespace R6
end R6
namespace Te
end Te
namespace Co
end Co
namespace R10
end R10
namespace R11
end R11
namespace Ag
open Go.RowKit Go.Sort P Mm Md R6 Te Co R10 R11
theorem two_cells (a b:Int) (w:World) (t:TypeId):Cells (w.alloc (.cells #[.int .i64 a,.int .i64 b] t)) w.heap.size 0 [a,b]:=by
 have X:=Box.new w [.int .i64 a,.int .i64 b] t
 intro i hi
 match i,hi with
 | 0,_=>exact X.cell 0 _ rfl
 | 1,_=>exact X.cell 1 _ rfl
theorem min_best (a b:Int):bestOf ltB a [b]=min a b:=by
 unfold bestOf ltB bestOf
 simp only [decide_eq_true_eq]
 split<;>omega
theorem max_best (a b:Int):bestOf gtB a [b]=max a b:=by
 unfold bestOf gtB bestOf
 simp only [decide_eq_true_eq]
 split<;>omega
theorem least_two (a b:Int) (w:World):Calls Try.prog 11 #[.slice (some ⟨w.heap.size,0,none⟩) 2 2] (w.alloc (.cells #[.int .i64 a,.int .i64 b] 3)) fun e w'=>e=.returned (.tuple #[.int .i64 (min a b),.bool true])∧Below w.heap.size w w':=by
 have h:=Ex.least_any w.heap.size 0 2 a [b] _ (two_cells a b w 3) (by simp) (by simp)
 rw [min_best] at h
 exact h.mono fun e w' h=>⟨h.1,by rw [←h.2];exact bel_alloc w _⟩
theorem most_two (a b:Int) (w:World):Calls Try.prog 12 #[.slice (some ⟨w.heap.size,0,none⟩) 2 2] (w.alloc (.cells #[.int .i64 a,.int .i64 b] 3)) fun e w'=>e=.returned (.tuple #[.int .i64 (max a b),.bool true])∧Below w.heap.size w w':=by
 have h:=Ex.most_any w.heap.size 0 2 a [b] _ (two_cells a b w 3) (by simp) (by simp)
 rw [max_best] at h
 exact h.mono fun e w' h=>⟨h.1,by rw [←h.2];exact bel_alloc w _⟩
theorem mdn_f {p c mode:Int} (h:mdb p c mode=false):mdn p c mode=0:=by
 unfold mdn
 split
 ·rename_i k
  unfold mdb at h
  rw [k,Bool.true_and] at h
  unfold cut64
  rw [h]
  rfl
 ·rfl
theorem one_any (a:Adj) (n:Int) (w:World) (hn:I64 n) (ha:I64 a.num) (_hm:I64 a.mode) :
  Calls Try.prog 9 #[.agg #[.int .i64 a.kind,.int .i64 a.num,.int .i64 a.mode],.int .i64 n] w fun e w'=>e=.returned (.tuple #[.int .i64 (oV (adjO a n)),.bool (oB (adjO a n))])∧Below w.heap.size w w':=by
 obtain ⟨w1,hw1⟩:∃W,W=w.alloc (.cells ([.int .i64 a.kind,.int .i64 a.num,.int .i64 a.mode]:List Value).toArray 25):=⟨_,rfl⟩
 obtain ⟨k1,hk1⟩:∃k,k=w.heap.size:=⟨_,rfl⟩
 have b1:Below w.heap.size w w1:=by rw [hw1];exact bel_alloc _ _
 have X1:Box w1 k1 [.int .i64 a.kind,.int .i64 a.num,.int .i64 a.mode]:=by rw [hw1,hk1];exact Box.new w _ 25
 have c0:=X1.cell 0 _ rfl
 have c1:=X1.cell 1 _ rfl
 have c2:=X1.cell 2 _ rfl
 have l1:=X1.lt
 have HW:=hid hw1
 have HK:=hid hk1
 have B1:=hid b1
 obtain ⟨V,hV⟩:∃V,V=oV (adjO a n):=⟨_,rfl⟩
 obtain ⟨O,hO⟩:∃O,O=oB (adjO a n):=⟨_,rfl⟩
 rw [←hV,←hO]
 by_cases h1:a.kind=1
 ·have z1:(a.kind==1)=true:=by simpa using h1
  have c:=Rd.muldiv_any n a.num 100000 a.mode w1 hn ha (by unfold I64;omega)
  have e:V=mdn (n*a.num) 100000 a.mode∧O=mdb (n*a.num) 100000 a.mode:=by
   rw [hV,hO]
   unfold adjO
   rw [if_pos h1]
   split
   ·rename_i k
    rw [k]
    exact ⟨rfl,rfl⟩
   ·rename_i k
    have k':mdb (n*a.num) 100000 a.mode=false:=by simpa using k
    rw [k',mdn_f k']
    exact ⟨rfl,rfl⟩
  rw [←e.1,←e.2] at c
  have C:=hid c
  clear hw1 hk1 b1 X1 h1 c e hV hO hn ha
  go_enter Try.func9,Try.ntmps9
  go_upto_region 1 with fail
  rw [←HW.out,←HK.out]
  go_wp2_with fail
  refine C.out.mono ?_
  rintro e w2 ⟨rfl,m,rfl⟩
  have B2:=hid (P.bel_drewN B1.out m)
  clear C
  go_wp2
  go_ret2
  exact ⟨rfl,B2.out⟩
 have z1:(a.kind==1)=false:=by simpa using h1
 by_cases h2:a.kind=2
 ·have z2:(a.kind==2)=true:=by simpa using h2
  have e:V=min n a.num∧O=true:=by
   rw [hV,hO];unfold adjO;rw [if_neg h1,if_pos h2];exact ⟨rfl,rfl⟩
  obtain ⟨rfl,rfl⟩:=e
  have C:=hid (least_two n a.num w1)
  clear hw1 hk1 b1 X1 h1 h2 hV hO hn ha
  go_enter Try.func9,Try.ntmps9
  go_upto_region 1 with fail
  rw [←HW.out,←HK.out]
  go_wp2_with fail
  refine C.out.mono ?_
  rintro e w2 ⟨rfl,b2⟩
  have B2:=hid (bel_on B1.out b2)
  clear C b2
  go_wp2
  go_ret2
  exact ⟨rfl,B2.out⟩
 have z2:(a.kind==2)=false:=by simpa using h2
 by_cases h3:a.kind=3
 ·have z4:(a.kind==3)=true:=by simpa using h3
  have e:V=max n a.num∧O=true:=by
   rw [hV,hO];unfold adjO;rw [if_neg h1,if_neg h2,if_pos h3];exact ⟨rfl,rfl⟩
  obtain ⟨rfl,rfl⟩:=e
  have C:=hid (most_two n a.num w1)
  clear hw1 hk1 b1 X1 h1 h2 h3 hV hO hn ha
  go_enter Try.func9,Try.ntmps9
  go_upto_region 1 with fail
  rw [←HW.out,←HK.out]
  go_wp2_with fail
  refine C.out.mono ?_
  rintro e w2 ⟨rfl,b2⟩
  have B2:=hid (bel_on B1.out b2)
  clear C b2
  go_wp2
  go_ret2
  exact ⟨rfl,B2.out⟩
 have z4:(a.kind==3)=false:=by simpa using h3
 by_cases h4:a.kind=4
 ·have z5:(a.kind==4)=true:=by simpa using h4
  have e:V=cut64 (n+a.num)∧O=ok64 (n+a.num):=by
   rw [hV,hO]
   unfold adjO
   rw [if_neg h1,if_neg h2,if_neg h3,if_pos h4]
   by_cases k:I64 (n+a.num)
   ·rw [ok64_t k,cut64_t k];exact ⟨rfl,rfl⟩
   ·rw [ok64_f k,cut64_f k];exact ⟨rfl,rfl⟩
  have c:=Ex.add_any n a.num w1 hn ha
  rw [←e.1,←e.2] at c
  have C:=hid c
  clear hw1 hk1 b1 X1 h1 h2 h3 h4 hV hO hn ha e c
  go_enter Try.func9,Try.ntmps9
  go_upto_region 1 with fail
  rw [←HW.out,←HK.out]
  go_wp2_with fail
  refine C.out.mono ?_
  rintro e w2 ⟨rfl,rfl⟩
  clear C
  go_wp2
  go_ret2
  exact ⟨rfl,B1.out⟩
 ·have z5:(a.kind==4)=false:=by simpa using h4
  have e:V=0∧O=false:=by
   rw [hV,hO];unfold adjO;rw [if_neg h1,if_neg h2,if_neg h3,if_neg h4];exact ⟨rfl,rfl⟩
  obtain ⟨rfl,rfl⟩:=e
  clear hw1 hk1 b1 X1 h1 h2 h3 h4 hV hO hn ha
  go_enter Try.func9,Try.ntmps9
  go_upto_region 1 with fail
  rw [←HW.out,←HK.out]
  go_wp2
  go_ret2
  exact ⟨rfl,B1.out⟩
theorem adj_in {w:World} {b o len cap:Nat} {xs:List Adj} (h:Row tAdj w (some ⟨b,o,none⟩) len cap xs) {j:Nat} {m:Adj} (hj:xs[j]?=some m) :
  w.cell? ⟨b,o+j*3,none⟩=some (.int .i64 m.kind)∧w.cell? ⟨b,o+j*3+1,none⟩=some (.int .i64 m.num)∧w.cell? ⟨b,o+j*3+2,none⟩=some (.int .i64 m.mode)∧I64 m.num∧I64 m.mode:=by
 obtain ⟨b',o',e,_,x0,x1,x2,_,x3,x4⟩:=adj_at h hj
 simp only [Option.some.injEq,Addr.mk.injEq,and_true] at e
 obtain ⟨rfl,rfl⟩:=e
 exact ⟨x0,x1,x2,x3,x4⟩
theorem all_any (n:Int) (xs:List Adj) (ao:Option Addr) (cap:Nat) (w:World) (hx:Row tAdj w ao xs.length cap xs) (hn:I64 n) :
  Calls Try.prog 8 #[.int .i64 n,.slice ao xs.length cap] w fun e w'=>e=.returned (.tuple #[.int .i64 (oV (adjsO n xs)),.bool (oB (adjsO n xs))])∧Below w.heap.size w w':=by
 obtain ⟨R,hR⟩:∃R,R=adjsO n xs:=⟨_,rfl⟩
 rw [←hR]
 have HX:=hid (fun (W:World) (b:Below w.heap.size w W)=>hx.on b)
 have tm:=hx.hmax
 have tcp:=hx.hcap
 have R0:=hid (show R=adjsO n (xs.drop 0) from hR)
 have HN:=hid hn
 clear hx hR hn
 go_enter Try.func8,Try.ntmps8
 go_wp2
 go_loopw [0,12] (fun v i wr=>∃(m:Int) (i':Nat),v=.int .i64 m∧i=.int .i64 (i':Int)∧i'≤xs.length∧Hid (R=adjsO m (xs.drop i'))∧Hid (I64 m)∧Hid (Below w.heap.size w wr)) (fun _ i _=>xs.length-(intOf i).toNat)
 case atStart=>exact ⟨n,0,rfl,rfl,Nat.zero_le _,R0,HN,hid (Below.refl _ _)⟩
 case round=>
  obtain ⟨m,i',rfl,rfl,hi,hR,hM,hb⟩:=hrel
  clear R0 HN
  by_cases hlt:i'<xs.length
  ·obtain ⟨y,hy⟩:∃y,xs[i']?=some y:=⟨_,List.getElem?_eq_getElem hlt⟩
   obtain ⟨ba,oa,ea,-⟩:=adj_at (HX.out _ hb.out) hy
   subst ea
   obtain ⟨y0,y1,y2,y3,y4⟩:=adj_in (HX.out _ hb.out) hy
   obtain ⟨wt,hwt⟩:∃W,W=wr.alloc (.cells ([.int .i64 y.kind,.int .i64 y.num,.int .i64 y.mode]:List Value).toArray 25):=⟨_,rfl⟩
   obtain ⟨kt,hkt⟩:∃k,k=wr.heap.size:=⟨_,rfl⟩
   have bt2:Below wr.heap.size wr wt:=by rw [hwt];exact bel_alloc _ _
   have XT:Box wt kt [.int .i64 y.kind,.int .i64 y.num,.int .i64 y.mode]:=by rw [hwt,hkt];exact Box.new _ _ _
   have BT:=hid (bel_on hb.out bt2)
   have e0:=XT.cell 0 _ rfl
   have e1:=XT.cell 1 _ rfl
   have e2:=XT.cell 2 _ rfl
   have HWT:=hid hwt
   have HKT:=hid hkt
   have cO:=one_any y m wt hM.out y3 y4
   have hS:=hR.out
   rw [adjsO_step hy] at hS
   have HI:=hid (fun k (h:adjO y m=some k)=>adjO_i64 hM.out y3 h)
   obtain ⟨O,hO⟩:∃O,O=adjO y m:=⟨_,rfl⟩
   rw [←hO] at cO hS HI
   have cO:=hid cO
   have HS:=hid hS
   clear hwt hkt bt2 XT hb hR hS hO hy y3 y4
   go_upto_region 4 with fail
   rw [←HWT.out,←HKT.out]
   clear HWT HKT y0 y1 y2
   go_wp2_with fail
   refine cO.out.mono ?_
   rintro e w2 ⟨rfl,b2⟩
   have B2:=hid (bel_on BT.out b2)
   clear b2 cO BT e0 e1 e2
   cases O with
   | none=>
     have E:Hid (R=none):=HS
     rw [show oV none=0 from rfl,show oB none=false from rfl]
     go_wp2
     go_ret2
     exact ⟨by rw [E.out];rfl,B2.out⟩
   | some k=>
     have E:Hid (R=adjsO k (xs.drop (i'+1))):=HS
     have HK:Hid (I64 k):=hid (HI.out k rfl)
     rw [show oV (some k)=k from rfl,show oB (some k)=true from rfl]
     clear HI HS
     go_wp2
     go_roundw
     case rel=>exact ⟨k,i'+1,rfl,by simp,by omega,E,HK,B2⟩
     case measure=>simp [intOf];omega
  ·have E:=hid (show R=some m by rw [hR.out,List.drop_of_length_le (by omega)];rfl)
   clear hR
   go_wp2
   go_ret2
   exact ⟨by rw [E.out];rfl,hb.out⟩
theorem aj:L12.Aj:=⟨fun n xs ao cap w h hn=>all_any n xs ao cap w h hn,fun a n w hn ha hm=>one_any a n w hn ha hm⟩
end Ag
end Go.Proofs.Ytnfehoikofiocaa
