/- What the document's answers for layer 7 (poundageref07) come to: Parse, of every text. -/
import Derived.Test.YtjgogpaedaffkaaGreatJRef7g
import Derived.Test.YtjgogpaedaffkaaGreatJRef10f
import Derived.Test.YtjgogpaedaffkaaGreatJCo8
import Derived.RangeFuncNested
import Derived.RangeFuncBound
import Derived.Shelf.RegionOpen
import Derived.OwnWalkIn
import Derived.LoopNIn
import Derived.LoopIn
import Derived.Lib.QuietBelowIn
set_option maxRecDepth 100000
set_option maxHeartbeats 16000000
namespace Go.Proofs.YtjgogpaedaffkaaGreat
namespace P
end P
namespace Tl
end Tl
namespace Mm
end Mm
namespace Md
end Md
namespace R6
end R6
namespace Te
end Te
namespace Co
end Co
namespace R10
end R10
namespace R11
end R11
namespace L11
end L11
namespace R7
open Go.RowKit Go.Sort P Tl Mm Md
theorem ref_any (l:ByteArray) (w:World):Calls Tryz.prog 10 #[.string l] w (PsQ w (parsed l.data.toList)):=by
 by_cases h:(lexed l.data.toList).2.1=0
 ·have e:parsed l.data.toList=planS (lexed l.data.toList).1:=by unfold parsed;simp only;rw [if_pos h]
  rw [e];exact parse_good l w (lexed l.data.toList).1 (lexed l.data.toList).2.2.1 (lexed l.data.toList).2.2.2 (by rw [←h]) (lexed_fine h)
 ·have e:parsed l.data.toList=(planZ,((lexed l.data.toList).2.1:Int),((lexed l.data.toList).2.2.1:Int),((lexed l.data.toList).2.2.2:Int)):=by unfold parsed;simp only;rw [if_neg h]
  rw [e];exact parse_bad l w _ _ _ _ rfl h
theorem ref_lies (l:ByteArray) (w:World):Calls Tryz.prog 10 #[.string l] w fun e w'=>∃ma mc fa fc ca cc,e=.returned (.tuple #[.agg (planC (parsed l.data.toList).1 ma mc fa fc ca cc).toArray,.int .i64 (parsed l.data.toList).2.1,.int .i64 (parsed l.data.toList).2.2.1,.int .i64 (parsed l.data.toList).2.2.2])∧
  PlanLies w' (planC (parsed l.data.toList).1 ma mc fa fc ca cc) (parsed l.data.toList).1 ma mc fa fc ca cc∧Below w.heap.size w w':=
 (ref_any l w).mono fun _ _ ⟨ma,mc,fa,fc,ca,cc,_,h1,h2,h3,h4⟩=>⟨ma,mc,fa,fc,ca,cc,h1,lies_of h2 (parsed_fits _) h3.own,h4⟩
end R7
namespace R10
open Go.RowKit Go.Sort P Mm Md R6 Te Co
theorem ref7r (l:ByteArray) (w:World) {p:Plan} {x y z:Int} (hp:p=(parsed l.data.toList).1) (hx:x=(parsed l.data.toList).2.1) (hy:y=(parsed l.data.toList).2.2.1) (hz:z=(parsed l.data.toList).2.2.2):Calls Tryz.prog 10 #[.string l] w fun e w'=>∃ma mc fa fc ca cc,e=.returned (.tuple #[.agg #[p.name,p.cur,p.a.y,p.a.m,p.a.d,p.b.y,p.b.m,p.b.d,.slice ma p.meters.length mc,.slice fa p.fees.length fc,.slice ca p.charges.length cc,p.line,p.col],.int .i64 x,.int .i64 y,.int .i64 z])∧PlanLies w' [p.name,p.cur,p.a.y,p.a.m,p.a.d,p.b.y,p.b.m,p.b.d,.slice ma p.meters.length mc,.slice fa p.fees.length fc,.slice ca p.charges.length cc,p.line,p.col] p ma mc fa fc ca cc∧Below w.heap.size w w':=by
 subst hp hx hy hz;exact R7.ref_lies l w
theorem read_any (s:ByteArray) (w:World):Calls Tryz.prog 9 #[.string s] w fun e w'=>∃m2 c2 s2 d2 p2 e2,e=.returned (.tuple #[.agg (corC (readC s.data.toList) m2 c2 s2 d2 p2 e2).toArray,.int .i64 (readF s.data.toList).1,.int .i64 (readF s.data.toList).2.1,.int .i64 (readF s.data.toList).2.2])∧
   CorLies w' (corC (readC s.data.toList) m2 c2 s2 d2 p2 e2) (readC s.data.toList) m2 c2 s2 d2 p2 e2∧Below w.heap.size w w':=by
 obtain ⟨w1,hw1⟩:∃W,W=w.alloc (.cells ([.string ⟨#[]⟩,.int .i64 0,.int .i64 0,.slice none 0 0,.slice none 0 0,.slice none 0 0]:List Value).toArray 26):=⟨_,rfl⟩;obtain ⟨k2,hk2⟩:∃k,k=w.heap.size:=⟨_,rfl⟩;have b1:Below w.heap.size w w1:=by rw [hw1];exact bel_alloc _ _
 have X2:Box w1 k2 [.string ⟨#[]⟩,.int .i64 0,.int .i64 0,.slice none 0 0,.slice none 0 0,.slice none 0 0]:=by rw [hw1,hk2];exact Box.new _ _ _
 have X:=hid (fun (W:World) (b:Below w1.heap.size w1 W)=>(⟨X2.on b,bel_on b1 b⟩:Box W k2 [.string ⟨#[]⟩,.int .i64 0,.int .i64 0,.slice none 0 0,.slice none 0 0,.slice none 0 0]∧Below w.heap.size w W));obtain ⟨p,hp⟩:∃p,p=(parsed s.data.toList).1:=⟨_,rfl⟩;obtain ⟨x,hx⟩:∃p,p=(parsed s.data.toList).2.1:=⟨_,rfl⟩;obtain ⟨y,hy⟩:∃p,p=(parsed s.data.toList).2.2.1:=⟨_,rfl⟩;obtain ⟨z,hz⟩:∃p,p=(parsed s.data.toList).2.2.2:=⟨_,rfl⟩;have eP:(parsed s.data.toList).2=(x,y,z):=by rw [hx,hy,hz]
 have EC:=hid (show readC s.data.toList=if x=0 then coreAns p else zeroC by unfold readC;rw [←hx,←hp]);have EF:=hid (show readF s.data.toList=if x=0 then wrongOf p else (x,y,z) by unfold readF;rw [←hx,←hp,eP]);have P9:=hid (show x=0→R9.Pl9 p from fun h=>by rw [hp];exact pl9_text (by rw [←hx];exact h));have cP:=hid (fun W=>ref7r s W hp hx hy hz);have HW:=hid hw1;have HK:=hid hk2;have LK:=hid (show w.heap.size≤k2∧k2<w1.heap.size from ⟨by omega,X2.lt⟩);clear hw1 hk2 b1 X2 hp hx hy hz eP;go_enter Tryz.func9,Tryz.ntmps9
 go_upto_region 1 with fail
 rw [←HW.out,←HK.out];clear HW HK;go_wp2_with fail
 refine (cP.out w1).mono ?_;rintro e w3 ⟨ma,mc,fa,fc,ca,cc,rfl,lp,b3⟩;obtain ⟨wA,hwA⟩:∃W,W=w3.alloc (.cells #[p.name,p.cur,p.a.y,p.a.m,p.a.d,p.b.y,p.b.m,p.b.d,.slice ma p.meters.length mc,.slice fa p.fees.length fc,.slice ca p.charges.length cc,p.line,p.col] 45):=⟨_,rfl⟩;have bA:Below w3.heap.size w3 wA:=by rw [hwA];exact bel_alloc _ _
 obtain ⟨kA,hkA⟩:∃k,k=w3.heap.size:=⟨_,rfl⟩;have XA:=hid (show Box wA kA [p.name,p.cur,p.a.y,p.a.m,p.a.d,p.b.y,p.b.m,p.b.d,.slice ma p.meters.length mc,.slice fa p.fees.length fc,.slice ca p.charges.length cc,p.line,p.col] by rw [hwA,hkA];exact Box.new _ _ _);have LP:=hid (fun (W:World) (b:Below wA.heap.size wA W)=>lp.on (bel_on bA b));have B1A:=hid (bel_on b3 bA);have HWA:=hid hwA;have HKA:=hid hkA;clear b3 bA lp hwA hkA cP;go_upto_region 2 with (first|(with_reducible refine wpList_store_new (op:=Oper.mk none (Op.store 45 (Operand.tmp 6) (Operand.tmp 13)) _ _ _ _) ?_ 45 (.tmp 6) (.tmp 13) ?_ w3 #[.string ⟨#[]⟩,.string ⟨#[]⟩,.int .i64 0,.int .i64 0,.int .i64 0,.int .i64 0,.int .i64 0,.int .i64 0,.slice none 0 0,.slice none 0 0,.slice none 0 0,.int .i64 0,.int .i64 0] #[p.name,p.cur,p.a.y,p.a.m,p.a.d,p.b.y,p.b.m,p.b.d,.slice ma p.meters.length mc,.slice fa p.fees.length fc,.slice ca p.charges.length cc,p.line,p.col] ?_ ?_ ?_ ?_ ?_ ?_;rfl;rfl;go_simp;go_simp;kernel_rfl;rfl;(simp [Value.oneCell']))|fail)
 rw [←HWA.out,←HKA.out];clear HWA HKA;by_cases h0:x=0
 rotate_left
 ·have EC1:=EC.out;rw [if_neg h0] at EC1;have EF1:=EF.out;rw [if_neg h0] at EF1;have Y2:=(X.out wA B1A.out).1;have RT:=hid (Te.box_there Y2 (n:=6) rfl);have R2:=hid (range_of (Box.sets (W:=wA) [.string ⟨#[]⟩,.int .i64 0,.int .i64 0,.slice none 0 0,.slice none 0 0,.slice none 0 0] 0 Y2).cell);have BF:=hid (below_setCells LK.out.1 [.string ⟨#[]⟩,.int .i64 0,.int .i64 0,.slice none 0 0,.slice none 0 0,.slice none 0 0] 0 _ (X.out wA B1A.out).2);have E1:=hid EC1;have E2:=hid EF1;clear EC EF EC1 EF1 Y2 P9;go_wp2_with (first|(with_reducible refine wpList_store_mid (op:=Oper.mk none (Op.store 26 (Operand.tmp 2) (Operand.tmp 19)) _ _ _ _) ?_ 26 (.tmp 2) (.tmp 19) ?_ k2 0 #[.string ⟨#[]⟩,.int .i64 0,.int .i64 0,.slice none 0 0,.slice none 0 0,.slice none 0 0] ?_ ?_ ?_ ?_ ?_ ?_;rfl;rfl;go_simp;go_simp;(simpa using RT.out);kernel_rfl;(simp [Value.oneCell']))|fail)
  refine bodyPost_ret (v:=.tuple #[.agg #[.string ⟨#[]⟩,.int .i64 0,.int .i64 0,.slice none 0 0,.slice none 0 0,.slice none 0 0],.int .i64 x,.int .i64 y,.int .i64 z]) ?_ rfl ?_
  ·exact R7.results_plan (p:=2) (a:=3) (b:=4) (c:=5) rfl _ _ k2 [.string ⟨#[]⟩,.int .i64 0,.int .i64 0,.slice none 0 0,.slice none 0 0,.slice none 0 0] _ rfl R2.out Tryz.underlying26 rfl (by kernel_rfl)
  refine ⟨none,0,none,0,none,0,?_,?_,BF.out⟩
  ·rw [E1.out,E2.out];rfl
  ·rw [E1.out];exact zero_lies _
 have P:=P9.out h0;have EC1:=EC.out;rw [if_pos h0] at EC1;have EF1:=EF.out;rw [if_pos h0] at EF1;subst h0;have E1:=hid EC1;have E2:=hid EF1;have c9:=hid (R9.plan_any p ma mc fa fc ca cc wA (LP.out wA (Below.refl _ _)) P);have PG:=hid P;obtain ⟨f1,hf1⟩:∃z,z=(wrongOf p).1:=⟨_,rfl⟩;obtain ⟨f2,hf2⟩:∃z,z=(wrongOf p).2.1:=⟨_,rfl⟩;obtain ⟨f3,hf3⟩:∃z,z=(wrongOf p).2.2:=⟨_,rfl⟩;rw [←hf1,←hf2,←hf3] at c9;have HF:=hid (show wrongOf p=(f1,f2,f3) by rw [hf1,hf2,hf3]);have RP:=hid (range_of XA.out.cell);clear EC EF EC1 EF1 P9 P hf1 hf2 hf3;go_wp2_with (first|(with_reducible refine wpList_load_mid (op:=Oper.mk (some 24) (Op.load 45 (Operand.tmp 6)) _ _ _ _) ?_ 45 (.tmp 6) ?_ kA 0 ?_ [p.name,p.cur,p.a.y,p.a.m,p.a.d,p.b.y,p.b.m,p.b.d,.slice ma p.meters.length mc,.slice fa p.fees.length fc,.slice ca p.charges.length cc,p.line,p.col] _ RP.out Tryz.underlying45 ?_ ?_ ?_;rfl;rfl;go_simp;rfl;kernel_rfl)|fail)
 refine c9.out.mono ?_;rintro e w4 ⟨rfl,b4⟩;have B14:=hid (bel_on B1A.out b4);have XA4:=hid (XA.out.on b4);have B4:=hid b4;have LK4:=hid (show k2<w4.heap.size by have:=LK.out;have:=B14.out.size;omega);clear c9 RP b4 XA;by_cases h1:f1=0
 rotate_left
 ·have Y2:=(X.out w4 B14.out).1;have RT:=hid (Te.box_there Y2 (n:=6) rfl);have R2:=hid (range_of (Box.sets (W:=w4) [.string ⟨#[]⟩,.int .i64 0,.int .i64 0,.slice none 0 0,.slice none 0 0,.slice none 0 0] 0 Y2).cell);have BF:=hid (below_setCells LK.out.1 [.string ⟨#[]⟩,.int .i64 0,.int .i64 0,.slice none 0 0,.slice none 0 0,.slice none 0 0] 0 _ (X.out w4 B14.out).2);have EZ:=hid (show coreAns p=zeroC by unfold coreAns;rw [HF.out,if_neg h1]);clear Y2;go_wp2_with (first|(with_reducible refine wpList_store_mid (op:=Oper.mk none (Op.store 26 (Operand.tmp 2) (Operand.tmp 31)) _ _ _ _) ?_ 26 (.tmp 2) (.tmp 31) ?_ k2 0 #[.string ⟨#[]⟩,.int .i64 0,.int .i64 0,.slice none 0 0,.slice none 0 0,.slice none 0 0] ?_ ?_ ?_ ?_ ?_ ?_;rfl;rfl;go_simp;go_simp;(simpa using RT.out);kernel_rfl;(simp [Value.oneCell']))|fail)
  refine bodyPost_ret (v:=.tuple #[.agg #[.string ⟨#[]⟩,.int .i64 0,.int .i64 0,.slice none 0 0,.slice none 0 0,.slice none 0 0],.int .i64 f1,.int .i64 f2,.int .i64 f3]) ?_ rfl ?_
  ·exact R7.results_plan (p:=2) (a:=3) (b:=4) (c:=5) rfl _ _ k2 [.string ⟨#[]⟩,.int .i64 0,.int .i64 0,.slice none 0 0,.slice none 0 0,.slice none 0 0] _ rfl R2.out Tryz.underlying26 rfl (by kernel_rfl)
  refine ⟨none,0,none,0,none,0,?_,?_,BF.out⟩
  ·rw [E1.out,E2.out,HF.out,EZ.out];rfl
  ·rw [E1.out,EZ.out];exact zero_lies _
 have hn:(wrongOf p).1=0:=by rw [HF.out];exact h1
 have EZ:=hid (show coreAns p=coreOf p by unfold coreAns;rw [if_pos hn]);have EW:=hid (wrong_nought hn);have cM:=hid (make_any p ma mc fa fc ca cc w4 (LP.out w4 B4.out) PG.out.gd hn);subst h1;obtain ⟨c,hc⟩:∃c,c=coreOf p:=⟨_,rfl⟩;rw [←hc] at cM EZ;unfold corC at cM;have RP:=hid (range_of XA4.out.cell);clear hn hc HF;go_wp2_with (first|(with_reducible refine wpList_load_mid (op:=Oper.mk (some 35) (Op.load 45 (Operand.tmp 6)) _ _ _ _) ?_ 45 (.tmp 6) ?_ kA 0 ?_ [p.name,p.cur,p.a.y,p.a.m,p.a.d,p.b.y,p.b.m,p.b.d,.slice ma p.meters.length mc,.slice fa p.fees.length fc,.slice ca p.charges.length cc,p.line,p.col] _ RP.out Tryz.underlying45 ?_ ?_ ?_;rfl;rfl;go_simp;rfl;kernel_rfl)|fail)
 refine cM.out.mono ?_;rintro e w5 ⟨m2,c2,s2,d2,p2,e2,rfl,hl,b5⟩;have B15:=hid (bel_on B14.out b5);have Y2:=(X.out w5 B15.out).1;have RT:=hid (Te.box_there Y2 (n:=6) rfl);have R2:=hid (range_of (Box.sets (W:=w5) [c.cur,c.a,c.b,.slice m2 c.meters.length c2,.slice s2 c.sums.length d2,.slice p2 c.parts.length e2] 0 Y2).cell);have BF:=hid (below_setCells LK.out.1 [c.cur,c.a,c.b,.slice m2 c.meters.length c2,.slice s2 c.sums.length d2,.slice p2 c.parts.length e2] 0 _ (X.out w5 B15.out).2);have HL:=hid hl;clear cM RP b5 hl Y2;go_wp2_with (first|(with_reducible refine wpList_store_mid (op:=Oper.mk none (Op.store 26 (Operand.tmp 2) (Operand.tmp 36)) _ _ _ _) ?_ 26 (.tmp 2) (.tmp 36) ?_ k2 0 #[c.cur,c.a,c.b,.slice m2 c.meters.length c2,.slice s2 c.sums.length d2,.slice p2 c.parts.length e2] ?_ ?_ ?_ ?_ ?_ ?_;rfl;rfl;go_simp;go_simp;(simpa using RT.out);kernel_rfl;(simp [Value.oneCell']))|fail)
 refine bodyPost_ret (v:=.tuple #[.agg #[c.cur,c.a,c.b,.slice m2 c.meters.length c2,.slice s2 c.sums.length d2,.slice p2 c.parts.length e2],.int .i64 0,.int .i64 0,.int .i64 0]) ?_ rfl ?_
 ·exact R7.results_plan (p:=2) (a:=3) (b:=4) (c:=5) rfl _ _ k2 [c.cur,c.a,c.b,.slice m2 c.meters.length c2,.slice s2 c.sums.length d2,.slice p2 c.parts.length e2] _ rfl R2.out Tryz.underlying26 rfl (by kernel_rfl)
 refine ⟨m2,c2,s2,d2,p2,e2,?_,?_,BF.out⟩
 ·rw [E1.out,E2.out,EZ.out,EW.out];rfl
 ·rw [E1.out,EZ.out];exact HL.out _ (Far.sets LK4.out [c.cur,c.a,c.b,.slice m2 c.meters.length c2,.slice s2 c.sums.length d2,.slice p2 c.parts.length e2] 0 (Far.refl _ _))
end R10
namespace L13
open Go.RowKit Go.Sort P Mm Md R6 Te Co R10 R11
theorem read_plan {l:List UInt8} (h:(readF l).1=0):(parsed l).2.1=0∧(wrongOf (parsed l).1).1=0∧readC l=coreOf (parsed l).1:=by
 unfold readF at h;split at h
 ·rename_i e
  exact ⟨e,h,by unfold readC;rw [if_pos e];unfold coreAns;rw [if_pos h]⟩
 ·rename_i e
  exact absurd h e
theorem bounds_price {p:Plan} (g:Gd p) (hw:(wrongOf p).1=0) {d:Int} {bk:List Int} (ho:onB (coreOf p).a (coreOf p).b d=true) (hb:inBk (coreOf p).meters bk=true) :
  ∃n,priceV (coreOf p) d bk=(n,0)∧0≤n∧n≤(boundOf p).getD 0:=by
 obtain ⟨n,m,e1,e2,h0,h1⟩:=bounds g hw (d:=d) hb;refine ⟨n,?_,h0,by rw [e2];exact h1⟩;unfold priceV;rw [if_pos (good_core g hw),if_pos (by rw [ho,hb];rfl),e1]
theorem bounds_walk (A:Pr) (s:ByteArray) (d:Int) (bk:List Int) (bo:Option Addr) (bcap:Nat) (w:World) (hb:Row tInt w bo bk.length bcap bk) :
  Calls Tryz.prog 4 #[.string s,.int .i64 d,.slice bo bk.length bcap] w fun e w'=>e=.returned (.bool true)∧Below w.heap.size w w':=by
 have cA:=hid (alive_any A w);have cQ:=hid (fun (W:World)=>R10.read_any s W);have HB:=hid (fun (W:World) (b:Below w.heap.size w W)=>hb.on b);have bm:=hb.hmax;have bcl:=hb.hcap;obtain ⟨c,hc⟩:∃c,c=readC s.data.toList:=⟨_,rfl⟩;obtain ⟨x,hx⟩:∃x,x=(readF s.data.toList).1:=⟨_,rfl⟩;obtain ⟨y,hy⟩:∃x,x=(readF s.data.toList).2.1:=⟨_,rfl⟩;obtain ⟨z,hz⟩:∃x,x=(readF s.data.toList).2.2:=⟨_,rfl⟩;rw [←hc,←hx,←hy,←hz] at cQ;unfold corC at cQ;obtain ⟨p,hp⟩:∃p,p=(parsed s.data.toList).1:=⟨_,rfl⟩;obtain ⟨x7,hx7⟩:∃x,x=(parsed s.data.toList).2.1:=⟨_,rfl⟩;obtain ⟨y7,hy7⟩:∃x,x=(parsed s.data.toList).2.2.1:=⟨_,rfl⟩;obtain ⟨z7,hz7⟩:∃x,x=(parsed s.data.toList).2.2.2:=⟨_,rfl⟩;have c7:=hid (fun (W:World)=>R10.ref7r s W hp hx7 hy7 hz7)
 have OK:=hid (show x=0→c=coreOf p∧(wrongOf p).1=0∧Gd p∧R9.Chs p from fun h=>by
  obtain ⟨e1,e2,e3⟩:=read_plan (l:=s.data.toList) (by rw [←hx];exact h);have g:=pl9_text e1;rw [←hp] at e2 e3 g
  exact ⟨by rw [hc,e3],e2,g.gd,R9.chs_of g (wrongOf_zero.1 e2).2.2.2.1⟩)
 clear hp hx7 hy7 hz7 hc hx hy hz hb;go_enter Tryz.func4,Tryz.ntmps4
 go_wp2_with fail
 refine cA.out.mono ?_;rintro e w1 ⟨rfl,b1⟩;have B1:=hid b1;clear cA b1;by_cases hs:(8192:Int)<(s.size:Int)
 ·have z1:decide ((8192:Int)<(s.size:Int))=true:=decide_eq_true hs;clear hs;go_wp2;go_ret;exact ⟨rfl,B1.out⟩
 have z1:decide ((8192:Int)<(s.size:Int))=false:=decide_eq_false hs;clear hs;by_cases h4:(4:Int)<(bk.length:Int)
 ·have z2:decide ((4:Int)<(bk.length:Int))=true:=decide_eq_true h4;clear h4;go_wp2;go_ret;exact ⟨rfl,B1.out⟩
 have z2:decide ((4:Int)<(bk.length:Int))=false:=decide_eq_false h4;have H4:=hid (show bk.length≤4 by omega);clear h4;go_wp2_with fail
 refine (cQ.out _).mono ?_;rintro e w2 ⟨ma,mc,sa,sc,pa,pc,rfl,hl,b2⟩;have B2:=hid (bel_on B1.out b2);clear cQ b2 B1;obtain ⟨w3,hw3⟩:∃W,W=w2.alloc (.cells #[c.cur,c.a,c.b,.slice ma c.meters.length mc,.slice sa c.sums.length sc,.slice pa c.parts.length pc] 26):=⟨_,rfl⟩;obtain ⟨k3,hk3⟩:∃k,k=w2.heap.size:=⟨_,rfl⟩;have b3:Below w2.heap.size w2 w3:=by rw [hw3];exact bel_alloc _ _
 have X3:Box w3 k3 [c.cur,c.a,c.b,.slice ma c.meters.length mc,.slice sa c.sums.length sc,.slice pa c.parts.length pc]:=by rw [hw3,hk3];exact Box.new w2 _ 26
 have X:=hid (fun (W:World) (b:Below w3.heap.size w3 W)=>(⟨X3.on b,bel_on (bel_on B2.out b3) b⟩:Box W k3 [c.cur,c.a,c.b,.slice ma c.meters.length mc,.slice sa c.sums.length sc,.slice pa c.parts.length pc]∧Below w.heap.size w W));have HC:=hid (fun (W:World) (b:Below w3.heap.size w3 W)=>CorLies.on (show CorLies w2 (corC c ma mc sa sc pa pc) c ma mc sa sc pa pc from hl) (bel_on b3 b));have mm:=hl.meters.hmax;have mcl:=hl.meters.hcap;have c0:=X3.cell 0 _ rfl;have c1:=X3.cell 1 _ rfl;have c2:=X3.cell 2 _ rfl;have c3:=X3.cell 3 _ rfl;have c4:=X3.cell 4 _ rfl;have c5:=X3.cell 5 _ rfl;have l3:=X3.lt;have HW:=hid hw3;have HK:=hid hk3;clear hw3 hk3 b3 X3 hl B2;go_upto_region 6 with fail
 rw [←HW.out,←HK.out];clear HW HK;have BF:=hid (X.out w3 (Below.refl _ _)).2;by_cases h0:x=0
 rotate_left
 ·have z3:(x != 0)=true:=by simpa using h0
  clear h0;go_wp2;go_ret;exact ⟨rfl,BF.out⟩
 obtain ⟨o1,o2,o3,o4⟩:=OK.out h0;have z3:(x != 0)=false:=by rw [h0];rfl
 have CP:=hid o1;have WR:=hid o2;have GP:=hid o3;have CH:=hid o4;clear o1 o2 o3 o4 h0 OK;by_cases h1:d<c.a
 ·have z4:decide (d<c.a)=true:=decide_eq_true h1;clear h1;go_wp2;go_ret;exact ⟨rfl,BF.out⟩
 have z4:decide (d<c.a)=false:=decide_eq_false h1;by_cases h2:c.b<d
 ·have z5:decide (c.b<d)=true:=decide_eq_true h2;clear h1 h2;go_wp2;go_ret;exact ⟨rfl,BF.out⟩
 have z5:decide (c.b<d)=false:=decide_eq_false h2
 have ON:=hid (show onB c.a c.b d=true by
  unfold onB;rw [decide_eq_true (by omega:c.a≤d),decide_eq_true (by omega:d≤c.b)]
  rfl)
 clear h1 h2;by_cases h3:bk.length=c.meters.length
 rotate_left
 ·have z6:((bk.length:Int) != (c.meters.length:Int))=true:=by
   rw [bne_iff_ne];omega
  clear h3;go_wp2;go_ret;exact ⟨rfl,BF.out⟩
 have z6:((bk.length:Int) != (c.meters.length:Int))=false:=by
  have:(bk.length:Int)=(c.meters.length:Int):=by omega
  rw [this];simp
 have HL:=hid h3;have I0:=hid (show inBk c.meters bk=inBk (c.meters.drop 0) (bk.drop 0) from rfl);clear h3;go_wp2;clear c0 c1 c2 c3 c4 c5 l3;go_loopw [62] (fun i wr=>∃i':Nat,i=.int .i64 (i':Int)∧i'≤bk.length∧Hid (inBk c.meters bk=inBk (c.meters.drop i') (bk.drop i'))∧Hid (Below w3.heap.size w3 wr)) (fun i _=>bk.length-(intOf i).toNat)
 case atStart=>exact ⟨0,rfl,Nat.zero_le _,I0,hid (Below.refl _ _)⟩
 case round=>
  obtain ⟨i',rfl,hi,hI,hb⟩:=hrel;clear I0 BF;have BF:=hid (X.out wr hb.out).2;by_cases hlt:i'<bk.length
  ·have hlm:i'<c.meters.length:=by have:=HL.out;omega
   obtain ⟨m,hm⟩:∃m,c.meters[i']?=some m:=⟨_,List.getElem?_eq_getElem hlm⟩;obtain ⟨bx,ox,ex,lx,-,-,x2,-,-,-⟩:=meter_at (HC.out _ hb.out).meters hm;subst ex;obtain ⟨bb,ob,eb,lb,q0,qi⟩:=R13.bk_at (HB.out wr BF.out) hlt;subst eb;obtain ⟨QV,hQV⟩:∃v,v=bk.getD i' 0:=⟨_,rfl⟩;have hq:bk[i']?=some QV:=by rw [hQV,List.getD_eq_getElem?_getD,List.getElem?_eq_getElem hlt];rfl
   rw [←hQV] at q0;have c3:=(X.out wr hb.out).1.cell 3 _ rfl;have l1:=(X.out wr hb.out).1.lt;have hS:=R13.inBk_step hm hq;have S:=hid hS;clear hQV hq hm hS qi;by_cases h1:QV<0
   ·have z7:decide (QV<0)=true:=decide_eq_true h1;clear h1;go_wp2;go_ret;exact ⟨rfl,BF.out⟩
   have z7:decide (QV<0)=false:=decide_eq_false h1;by_cases h2:m.max<QV
   ·have z8:decide (m.max<QV)=true:=decide_eq_true h2;clear h1 h2;go_wp2;go_ret;exact ⟨rfl,BF.out⟩
   have z8:decide (m.max<QV)=false:=decide_eq_false h2
   have I2:=hid (show inBk c.meters bk=inBk (c.meters.drop (i'+1)) (bk.drop (i'+1)) by
    rw [hI.out,S.out,decide_eq_true (by omega),decide_eq_true (by omega:QV≤m.max)]
    rfl)
   clear h1 h2 hI S;go_wp2;go_roundw
   case rel=>exact ⟨i'+1,by simp,by omega,I2,hb⟩
   case measure=>simp [intOf];omega
  ·have IB:=hid (show inBk c.meters bk=true by
    rw [hI.out,List.drop_of_length_le (by omega:bk.length≤i'),List.drop_of_length_le (by have:=HL.out;omega:c.meters.length≤i')]
    rfl)
   clear hI;have VV:=bounds_price GP.out WR.out (d:=d) (bk:=bk) (by rw [←CP.out];exact ON.out) (by rw [←CP.out];exact IB.out);rw [←CP.out] at VV;obtain ⟨n,v1,v2,v3⟩:=VV;have V1:=hid v1;obtain ⟨M,hM⟩:∃M,M=(boundOf p).getD 0:=⟨_,rfl⟩;rw [←hM] at v3;have z9:decide (0≤n)=true:=decide_eq_true v2;have zA:decide (n≤M)=true:=decide_eq_true v3;obtain ⟨MB,hMB⟩:∃M,M=(boundOf p).isSome:=⟨_,rfl⟩;have HM:=hid hM;have HMB:=hid hMB;clear v1 v2 v3 hM hMB IB ON;go_wp2_with fail
   refine (c7.out _).mono ?_;rintro e w4 ⟨ma7,mc7,fa7,fc7,ca7,cc7,rfl,hl7,b4⟩;have B4:=hid (bel_on hb.out b4);clear b4 c7 BF;obtain ⟨w5,hw5⟩:∃W,W=w4.alloc (.cells #[p.name,p.cur,p.a.y,p.a.m,p.a.d,p.b.y,p.b.m,p.b.d,.slice ma7 p.meters.length mc7,.slice fa7 p.fees.length fc7,.slice ca7 p.charges.length cc7,p.line,p.col] 45):=⟨_,rfl⟩;obtain ⟨k5,hk5⟩:∃k,k=w4.heap.size:=⟨_,rfl⟩;have b5:Below w4.heap.size w4 w5:=by rw [hw5];exact bel_alloc _ _
   have X5:Box w5 k5 [p.name,p.cur,p.a.y,p.a.m,p.a.d,p.b.y,p.b.m,p.b.d,.slice ma7 p.meters.length mc7,.slice fa7 p.fees.length fc7,.slice ca7 p.charges.length cc7,p.line,p.col]:=by rw [hw5,hk5];exact Box.new w4 _ 45
   have HW:=hid hw5;have HK:=hid hk5;have B5:=hid (bel_on B4.out b5);have c9:=R9.bound_any p ma7 mc7 fa7 fc7 ca7 cc7 w5 (PlanLies.on (show PlanLies w4 (planC p ma7 mc7 fa7 fc7 ca7 cc7) p ma7 mc7 fa7 fc7 ca7 cc7 from hl7) b5) CH.out;rw [←HM.out,←HMB.out] at c9;have c9:=hid c9;have e0:=X5.cell 0 _ rfl;have e1:=X5.cell 1 _ rfl;have e2:=X5.cell 2 _ rfl;have e3:=X5.cell 3 _ rfl;have e4:=X5.cell 4 _ rfl;have e5:=X5.cell 5 _ rfl;have e6:=X5.cell 6 _ rfl;have e7:=X5.cell 7 _ rfl;have e8:=X5.cell 8 _ rfl;have e9:=X5.cell 9 _ rfl;have eA:=X5.cell 10 _ rfl;have eB:=X5.cell 11 _ rfl;have eC:=X5.cell 12 _ rfl;have l5:=X5.lt;clear hw5 hk5 b5 X5 hl7 B4;go_upto_region 15 with fail
   rw [←HW.out,←HK.out];clear HW HK;go_wp2_with fail
   refine c9.out.mono ?_;rintro e w6 ⟨rfl,b6⟩;have B6:=hid (bel_on B5.out b6);clear b6 c9 B5 e0 e1 e2 e3 e4 e5 e6 e7 e8 e9 eA eB eC l5;have Y:=(X.out w6 B6.out).1;have f0:=Y.cell 0 _ rfl;have f1:=Y.cell 1 _ rfl;have f2:=Y.cell 2 _ rfl;have f3:=Y.cell 3 _ rfl;have f4:=Y.cell 4 _ rfl;have f5:=Y.cell 5 _ rfl;have l6:=Y.lt;have cP:=A.price c ma mc sa sc pa pc d bk bo bcap w6 (HC.out w6 B6.out) (HB.out w6 (X.out w6 B6.out).2) (by have:=HL.out;have:=H4.out;omega) (by have:=H4.out;omega);rw [V1.out] at cP;have cP:=hid cP;have BG:=hid (X.out w6 B6.out).2;clear Y;go_wp2_with fail
   refine cP.out.mono ?_;rintro e w7 ⟨rfl,b7⟩;have BZ:=hid (bel_on BG.out b7);clear b7 cP f0 f1 f2 f3 f4 f5 l6;go_wp2;go_ret;exact ⟨rfl,BZ.out⟩
end L13
namespace P
open Go.RowKit Mm
def reachP (ts:List Tier) (q:Int) (i:Nat):Int:=if i+1=ts.length then q else min q (((ts[i]?).map (·.upto)).getD 0)
def walkS (ts:List Tier) (q:Int):Nat→Nat→Int→List Stp
 | 0,_,_=>[]
 | n+1,i,u=>if reachP ts q i≤u then walkS ts q n (i+1) u else ⟨u,reachP ts q i,((ts[i]?).map (·.rate)).getD 0⟩::walkS ts q n (i+1) (reachP ts q i)
theorem reachP_le (ts:List Tier) (q:Int) (i:Nat):reachP ts q i≤q:=by unfold reachP;split<;>omega
theorem walkS_none (ts:List Tier) (q:Int):∀(n i:Nat) (u:Int),q≤u→walkS ts q n i u=[]
 | 0,_,_,_=>rfl
 | n+1,i,u,h=>by
   unfold walkS;rw [if_pos (Int.le_trans (reachP_le ts q i) h)];exact walkS_none ts q n (i+1) u h
theorem drop_cons {α:Type} {l:List α} {i:Nat} {t:α} (h:l[i]?=some t):l.drop i=t::l.drop (i+1):=by
 obtain ⟨hlt,rfl⟩:=List.getElem?_eq_some_iff.1 h;exact List.drop_eq_getElem_cons hlt
theorem walkS_grad (ts:List Tier) (q:Int):∀(n i:Nat) (u:Int),i+n=ts.length→tiersB u (ts.drop i)=true→walkS ts q n i u=gradS q u (ts.drop i)
 | 0,i,u,h,_=>by rw [List.drop_of_length_le (by omega)];rfl
 | n+1,i,u,h,hB=>by
   obtain ⟨t,ht⟩:∃t,ts[i]?=some t:=⟨_,List.getElem?_eq_getElem (by omega)⟩;unfold walkS;rw [ht];cases n with
   | zero=>
     have e:reachP ts q i=q:=by unfold reachP;rw [if_pos (by omega)]
     rw [e,drop_cons ht,List.drop_of_length_le (by omega)];unfold gradS;by_cases k:q≤u
     ·rw [if_pos k,if_neg (by omega)];rfl
     ·rw [if_neg k,if_pos (by omega)];rfl
   | succ n=>
     obtain ⟨s,hs⟩:∃s,ts[i+1]?=some s:=⟨_,List.getElem?_eq_getElem (by omega)⟩;have e:reachP ts q i=min q t.upto:=by unfold reachP;rw [if_neg (by omega),ht];rfl
     rw [e,drop_cons ht,drop_cons hs];rw [drop_cons ht,drop_cons hs] at hB;obtain ⟨_,_,h1,_,h2⟩:=tiersB_cons hB;rw [←drop_cons hs] at h2;unfold gradS;rw [←drop_cons hs];by_cases k:q≤u
     ·rw [if_pos (by omega),if_neg (by omega),walkS_none ts q (n+1) (i+1) u k,gradS_none _ _ _ h2 (by omega)];rfl
     ·rw [if_neg (by omega),if_pos (by omega)];show _::_=_::_
      refine congrArg (_::·) ?_;rcases Int.lt_or_le t.upto q with k2|k2
      ·rw [Int.min_eq_right (by omega)];exact walkS_grad ts q (n+1) (i+1) t.upto (by omega) h2
      ·rw [Int.min_eq_left k2,walkS_none ts q (n+1) (i+1) q (Int.le_refl _),gradS_none _ _ _ h2 k2];rfl
theorem walkS_all {x:Prt} (g:GoodT x) (hk:x.kind≠2) (q:Int):walkS x.tiers q x.tiers.length 0 0=stepsP x q:=by
 unfold stepsP;rw [if_neg hk];exact walkS_grad x.tiers q x.tiers.length 0 0 (by omega) g.tiers
theorem volR_reach {ts:List Tier} {q:Int} {i:Nat} {t:Tier} (h:ts[i]?=some t) (hr:reachP ts q i=q):volR q (ts.drop i)=t.rate:=by
 rw [drop_cons h];rcases Nat.lt_or_ge (i+1) ts.length with k|k
 ·obtain ⟨s,hs⟩:∃s,ts[i+1]?=some s:=⟨_,List.getElem?_eq_getElem k⟩;rw [drop_cons hs];have e:reachP ts q i=min q t.upto:=by unfold reachP;rw [if_neg (by omega),h];rfl
  unfold volR;rw [if_pos (by omega)]
 ·rw [List.drop_of_length_le (by omega)];rfl
theorem volR_more {ts:List Tier} {q:Int} {i:Nat} (h:i<ts.length) (hr:reachP ts q i≠q):i+1<ts.length∧volR q (ts.drop i)=volR q (ts.drop (i+1)):=by
 have k:i+1≠ts.length:=fun k=>hr (by unfold reachP;rw [if_pos k]);obtain ⟨t,ht⟩:∃t,ts[i]?=some t:=⟨_,List.getElem?_eq_getElem h⟩;obtain ⟨s,hs⟩:∃s,ts[i+1]?=some s:=⟨_,List.getElem?_eq_getElem (by omega)⟩;have e:reachP ts q i=min q t.upto:=by unfold reachP;rw [if_neg k,ht];rfl
 refine ⟨by omega,?_⟩;rw [drop_cons ht,drop_cons hs];show (if q≤t.upto then t.rate else volR q (s::ts.drop (i+1+1)))=_
 rw [if_neg (by omega)]
def SumTo (t:Int) (pre:List Stp):Prop:=I64 t∧∀rest,sumS 0 (pre++rest)=sumS t rest
theorem sumTo_nil:SumTo 0 []:=⟨by unfold I64;omega,fun _=>rfl⟩
theorem sumTo_next {t:Int} {pre:List Stp} {s:Stp} (h:SumTo t pre) (h1:I64 (stW s)) (h2:I64 (t+stW s)):SumTo (t+stW s) (pre++[s]):=by
 refine ⟨h2,fun rest=>?_⟩;rw [List.append_assoc,h.2];show (if (ok64 (stW s)&&ok64 (t+stW s))=true then sumS (t+stW s) rest else none)=_
 rw [ok64_t h1,ok64_t h2];exact if_pos rfl
theorem sumTo_nope {t:Int} {pre:List Stp} {s:Stp} (h:SumTo t pre) (hn:¬ I64 (stW s)∨¬ I64 (t+stW s)) (rest:List Stp):sumS 0 (pre++s::rest)=none:=by
 rw [h.2];show (if (ok64 (stW s)&&ok64 (t+stW s))=true then sumS (t+stW s) rest else none)=_
 rcases hn with k|k
 ·rw [ok64_f k];rfl
 ·rw [ok64_f k,Bool.and_false];rfl
theorem sumTo_all {t:Int} {pre:List Stp} (h:SumTo t pre):sumS 0 pre=some t:=by
 have:=h.2 [];rw [List.append_nil] at this;exact this
end P
namespace L11
open Go.RowKit Go.Sort P Mm Md R6 Te Co R10 R11
attribute [local go_sem] Oper.semAt_some
def encS (s:Stp):Array Value:=#[.agg #[s.a,s.b,.int .i64 s.r]]
def Cells (W:World) (B:Nat) (t:TypeId) (cs:List Value):Prop:=W.heap[B]?=some (.cells cs.toArray t (0,0))
theorem Cells.lt {W:World} {B:Nat} {t:TypeId} {cs:List Value} (h:Cells W B t cs):B<W.heap.size:=(Array.getElem?_eq_some_iff.1 h).1
theorem Cells.cell {W:World} {B:Nat} {t:TypeId} {cs:List Value} (h:Cells W B t cs) (i:Nat):W.cell? ⟨B,i,none⟩=cs[i]?:=by simp [World.cell?,show W.heap[B]?=_ from h]
theorem Cells.kept {W W':World} {row:Option Nat} {B:Nat} {t:TypeId} {cs:List Value} (h:Cells W B t cs) (hg:W.grownBy W' row) (hne:some B≠row):Cells W' B t cs:=(hg.block B h.lt hne).trans h
theorem cells_own {β:Type} (B:Nat) (t:TypeId) (cs:List Value) (n:Nat):OwnFrom n (fun (_:β) W=>Cells W B t cs):=fun _ X _ _ hs hg hr=>
 Cells.kept hs hg (fun e'=>by obtain ⟨_,o,ho,hc⟩:=hr B e'.symm;rw [show X.heap[B]?=_ from hs] at ho;cases ho;cases hc)
end L11
namespace Tg
open Go.RowKit Go.Sort Go.Shelf P Mm Md R6 Te Co R10 R11 L11
theorem reach_any (ts:List Tier) (ta:Option Addr) (tc:Nat) (i:Nat) (q:Int) (w:World) (h:Row tTier w ta ts.length tc ts) (hi:i<ts.length) (hl:ts.length≤1000) :
  Calls Tryz.prog 136 #[.slice ta ts.length tc,.int .i64 (i:Int),.int .i64 q] w fun e w'=>e=.returned (.int .i64 (reachP ts q i))∧w'=w:=by
 obtain ⟨t,ht⟩:∃t,ts[i]?=some t:=⟨_,List.getElem?_eq_getElem hi⟩;obtain ⟨b,o,e,lb,a0,a1,_⟩:=tier_at h ht;have w1:IntKind.i64.wrap ((ts.length:Int)-1)=(ts.length:Int)-1:=wrap_i (by unfold I64;omega);have tm:=h.hmax;have tcp:=h.hcap;subst e;by_cases hk:i+1=ts.length
 ·have z:decide ((i:Int)=(ts.length:Int)-1)=true:=decide_eq_true (by omega);have z':((i:Int)==(ts.length:Int)-1)=true:=by rw [beq_iff_eq];omega
  have HR:Hid (reachP ts q i=q):=hid (by unfold reachP;rw [if_pos hk]);clear h ht hk;go_enter Tryz.func136,Tryz.ntmps136
  go_wp2;go_ret;exact ⟨by rw [HR.out];rfl,rfl⟩
 ·have z:decide ((i:Int)=(ts.length:Int)-1)=false:=decide_eq_false (by omega);have z':((i:Int)==(ts.length:Int)-1)=false:=by rw [beq_eq_false_iff_ne];omega
  have HR:Hid (reachP ts q i=min q t.upto):=hid (by unfold reachP;rw [if_neg hk,ht];rfl);clear h ht hk;go_enter Tryz.func136,Tryz.ntmps136
  go_wp2;go_ret;exact ⟨by rw [HR.out];rfl,rfl⟩
theorem up_lq {x:Prt} (g:GoodT x) {q:Int} (hq:I64 q) (h0:0≤q):I64 (max 0 (q-x.allowance))∧Rd.upn (max 0 (q-x.allowance)) x.block=oV (lqO x q)∧Rd.upb (max 0 (q-x.allowance)) x.block=oB (lqO x q):=by
 obtain ⟨g0,g1⟩:=g.allow;obtain ⟨g2,g3⟩:=g.block;obtain ⟨N,hN⟩:∃N,N=max 0 (q-x.allowance):=⟨_,rfl⟩;have n0:0≤N:=by omega
 have n1:N≤9223372036854775807:=by have:=hq.2;omega
 have kk:=up_in n0 n1 g2;obtain ⟨k,hk⟩:∃k,k=(N+x.block-1) / x.block:=⟨_,rfl⟩;rw [←hk] at kk;have EL:lq x q=k*x.block:=by rw [hk,hN];rfl
 rw [←hN];have md:mdn N x.block 1=k:=by rw [mdn_good (by omega) (by decide),R11.rnd_up (by omega),←hk,cut64_t (by unfold I64;omega)]
 have mb:mdb N x.block 1=true:=by rw [mdb_good (by omega) (by decide),R11.rnd_up (by omega),←hk,ok64_t (by unfold I64;omega)]
 refine ⟨by unfold I64;omega,?_,?_⟩
 ·unfold Rd.upn;rw [mb,md,if_pos rfl];unfold lqO lqOk;rw [decide_eq_true h0,Bool.true_and,EL];unfold cut64;split<;>rfl
 ·unfold Rd.upb;rw [mb,md,Bool.true_and];unfold lqO lqOk;rw [decide_eq_true h0,Bool.true_and,EL];split<;>simp_all [oB]
theorem quantity_any (x:Prt) (ta:Option Addr) (tc:Nat) (aa:Option Addr) (ac:Nat) (q:Int) (w:World) (hq:I64 q) (g:GoodT x) :
  Calls Tryz.prog 111 #[.agg #[x.mt,x.a,x.b,x.allowance,x.block,x.kind,.slice ta x.tiers.length tc,x.mode,.slice aa x.adjusts.length ac],.int .i64 q] w fun e w'=>e=.returned (.tuple #[.int .i64 (oV (lqO x q)),.bool (oB (lqO x q))])∧Below w.heap.size w w':=by
 obtain ⟨w1,hw1⟩:∃W,W=w.alloc (.cells #[x.mt,x.a,x.b,x.allowance,x.block,x.kind,.slice ta x.tiers.length tc,x.mode,.slice aa x.adjusts.length ac] 58):=⟨_,rfl⟩;obtain ⟨k1,hk1⟩:∃k,k=w.heap.size:=⟨_,rfl⟩;have b1:Below w.heap.size w w1:=by rw [hw1];exact bel_alloc _ _
 have X1:Box w1 k1 [x.mt,x.a,x.b,x.allowance,x.block,x.kind,.slice ta x.tiers.length tc,x.mode,.slice aa x.adjusts.length ac]:=by rw [hw1,hk1];exact Box.new w _ 58
 have c3:=X1.cell 3 _ rfl;have c4:=X1.cell 4 _ rfl;have l1:=X1.lt;have HX:=hid X1;have HB1:=hid b1;have HW:=hid hw1;have HK:=hid hk1;obtain ⟨V,hV⟩:∃V,V=oV (lqO x q):=⟨_,rfl⟩;obtain ⟨O,hO⟩:∃O,O=oB (lqO x q):=⟨_,rfl⟩;rw [←hV,←hO];have EV:=hid hV;have EO:=hid hO;have HQ:=hid hq;have GD:=hid g;clear hw1 hk1 X1 b1 hV hO hq g;by_cases h0:q<0
 ·have HV:Hid (V=0):=hid (by rw [EV.out];unfold lqO lqOk;rw [decide_eq_false (by omega)];rfl);have HO:Hid (O=false):=hid (by rw [EO.out];unfold lqO lqOk;rw [decide_eq_false (by omega)];rfl);clear EV EO;go_enter Tryz.func111,Tryz.ntmps111
  go_upto_region 1 with fail
  rw [←HW.out,←HK.out];go_wp2;go_ret2;exact ⟨Ex.ret_2 HV.out.symm HO.out.symm,HB1.out⟩
 ·have h1:0≤q:=by omega
  obtain ⟨u0,u1,u2⟩:=up_lq GD.out HQ.out h1;obtain ⟨g0,g1⟩:=GD.out.allow;obtain ⟨g2,g3⟩:=GD.out.block;have q1:q≤9223372036854775807:=HQ.out.2;have i1:I64 (q-x.allowance):=by unfold I64;omega
  have cS:=hid (fun (W:World)=>show Calls Tryz.prog 121 #[.int .i64 q,x.allowance] W fun e w'=>e=.returned (.tuple #[.int .i64 (q-x.allowance),.bool true])∧W=w' by
   have m:=Ex.sub_any q x.allowance W HQ.out (by unfold I64;omega);rw [cut64_t i1,ok64_t i1] at m
   exact m)
  obtain ⟨M,hM⟩:∃M,M=max 0 (q-x.allowance):=⟨_,rfl⟩;rw [←hM] at u0 u1 u2
  have cU:=hid (fun (W:World)=>show Calls Tryz.prog 122 #[.int .i64 M,x.block] W fun e w'=>e=.returned (.tuple #[.int .i64 V,.bool O])∧Below W.heap.size W w' by
   have m:=Rd.up_any M x.block W u0 (by unfold I64;omega);rw [u1,u2,←EV.out,←EO.out] at m;refine m.mono ?_;rintro e w' ⟨rfl,n,rfl⟩
   exact ⟨rfl,P.bel_drewN (Below.refl _ _) n⟩)
  have HM:=hid hM;clear EV EO u0 u1 u2 i1 hM h0 g0 g1 g2 g3 q1;go_enter Tryz.func111,Tryz.ntmps111
  go_upto_region 1 with fail
  rw [←HW.out,←HK.out];go_wp2_with fail
  refine (cS.out _).mono ?_;rintro e w2 ⟨rfl,rfl⟩;go_wp2_with fail
  rw [←HM.out];refine (cU.out _).mono ?_;rintro e w3 ⟨rfl,b3⟩;have B3:=hid (bel_on HB1.out b3);clear b3;go_wp2;go_ret2;exact ⟨rfl,B3.out⟩
end Tg
end Go.Proofs.YtjgogpaedaffkaaGreat
