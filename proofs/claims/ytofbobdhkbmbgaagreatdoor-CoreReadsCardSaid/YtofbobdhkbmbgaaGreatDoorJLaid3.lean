/- The document's answers for layer 10 (poundageref10): Read, of any text. -/
import Derived.Test.YtofbobdhkbmbgaaGreatDoorJRef10f
import Derived.MakeChecks
import Derived.Stop.LaidErr
import Derived.HandedShaped
import Derived.Lay
set_option maxRecDepth 100000
set_option maxHeartbeats 16000000
namespace Go.Proofs.YtofbobdhkbmbgaaGreatDoor
namespace R10
open Go.RowKit Go.Sort P Mm Md R6 Te Co
theorem ref7r (l:ByteArray) (w:World) {p:Plan} {x y z:Int} (hp:p=(parsed l.data.toList).1) (hx:x=(parsed l.data.toList).2.1) (hy:y=(parsed l.data.toList).2.2.1) (hz:z=(parsed l.data.toList).2.2.2):Calls Tryz.prog 12 #[.string l] w fun e w'=>∃ma mc fa fc ca cc,e=.returned (.tuple #[.agg #[p.name,p.cur,p.a.y,p.a.m,p.a.d,p.b.y,p.b.m,p.b.d,.slice ma p.meters.length mc,.slice fa p.fees.length fc,.slice ca p.charges.length cc,p.line,p.col],.int .i64 x,.int .i64 y,.int .i64 z])∧PlanLies w' [p.name,p.cur,p.a.y,p.a.m,p.a.d,p.b.y,p.b.m,p.b.d,.slice ma p.meters.length mc,.slice fa p.fees.length fc,.slice ca p.charges.length cc,p.line,p.col] p ma mc fa fc ca cc∧Below w.heap.size w w':=by
 subst hp hx hy hz;exact R7.ref_lies l w
theorem read_any (s:ByteArray) (w:World):Calls Tryz.prog 10 #[.string s] w fun e w'=>∃m2 c2 s2 d2 p2 e2,e=.returned (.tuple #[.agg (corC (readC s.data.toList) m2 c2 s2 d2 p2 e2).toArray,.int .i64 (readF s.data.toList).1,.int .i64 (readF s.data.toList).2.1,.int .i64 (readF s.data.toList).2.2])∧
   CorLies w' (corC (readC s.data.toList) m2 c2 s2 d2 p2 e2) (readC s.data.toList) m2 c2 s2 d2 p2 e2∧Below w.heap.size w w':=by
 obtain ⟨w1,hw1⟩:∃W,W=w.alloc (.cells ([.string ⟨#[]⟩,.int .i64 0,.int .i64 0,.slice none 0 0,.slice none 0 0,.slice none 0 0]:List Value).toArray 27):=⟨_,rfl⟩;obtain ⟨k2,hk2⟩:∃k,k=w.heap.size:=⟨_,rfl⟩;have b1:Below w.heap.size w w1:=by rw [hw1];exact bel_alloc _ _
 have X2:Box w1 k2 [.string ⟨#[]⟩,.int .i64 0,.int .i64 0,.slice none 0 0,.slice none 0 0,.slice none 0 0]:=by rw [hw1,hk2];exact Box.new _ _ _
 have X:=hid (fun (W:World) (b:Below w1.heap.size w1 W)=>(⟨X2.on b,bel_on b1 b⟩:Box W k2 [.string ⟨#[]⟩,.int .i64 0,.int .i64 0,.slice none 0 0,.slice none 0 0,.slice none 0 0]∧Below w.heap.size w W));obtain ⟨p,hp⟩:∃p,p=(parsed s.data.toList).1:=⟨_,rfl⟩;obtain ⟨x,hx⟩:∃p,p=(parsed s.data.toList).2.1:=⟨_,rfl⟩;obtain ⟨y,hy⟩:∃p,p=(parsed s.data.toList).2.2.1:=⟨_,rfl⟩;obtain ⟨z,hz⟩:∃p,p=(parsed s.data.toList).2.2.2:=⟨_,rfl⟩;have eP:(parsed s.data.toList).2=(x,y,z):=by rw [hx,hy,hz]
 have EC:=hid (show readC s.data.toList=if x=0 then coreAns p else zeroC by unfold readC;rw [←hx,←hp]);have EF:=hid (show readF s.data.toList=if x=0 then wrongOf p else (x,y,z) by unfold readF;rw [←hx,←hp,eP]);have P9:=hid (show x=0→R9.Pl9 p from fun h=>by rw [hp];exact pl9_text (by rw [←hx];exact h));have cP:=hid (fun W=>ref7r s W hp hx hy hz);have HW:=hid hw1;have HK:=hid hk2;have LK:=hid (show w.heap.size≤k2∧k2<w1.heap.size from ⟨by omega,X2.lt⟩);clear hw1 hk2 b1 X2 hp hx hy hz eP;go_enter Tryz.func10,Tryz.ntmps10
 go_upto_region 1 with fail
 rw [←HW.out,←HK.out];clear HW HK;go_wp2_with fail
 refine (cP.out w1).mono ?_;rintro e w3 ⟨ma,mc,fa,fc,ca,cc,rfl,lp,b3⟩;obtain ⟨wA,hwA⟩:∃W,W=w3.alloc (.cells #[p.name,p.cur,p.a.y,p.a.m,p.a.d,p.b.y,p.b.m,p.b.d,.slice ma p.meters.length mc,.slice fa p.fees.length fc,.slice ca p.charges.length cc,p.line,p.col] 41):=⟨_,rfl⟩;have bA:Below w3.heap.size w3 wA:=by rw [hwA];exact bel_alloc _ _
 obtain ⟨kA,hkA⟩:∃k,k=w3.heap.size:=⟨_,rfl⟩;have XA:=hid (show Box wA kA [p.name,p.cur,p.a.y,p.a.m,p.a.d,p.b.y,p.b.m,p.b.d,.slice ma p.meters.length mc,.slice fa p.fees.length fc,.slice ca p.charges.length cc,p.line,p.col] by rw [hwA,hkA];exact Box.new _ _ _);have LP:=hid (fun (W:World) (b:Below wA.heap.size wA W)=>lp.on (bel_on bA b));have B1A:=hid (bel_on b3 bA);have HWA:=hid hwA;have HKA:=hid hkA;clear b3 bA lp hwA hkA cP;go_upto_region 2 with (first|(with_reducible refine wpList_store_new (op:=Oper.mk none (Op.store 41 (Operand.tmp 6) (Operand.tmp 13)) _ _ _ _) ?_ 41 (.tmp 6) (.tmp 13) ?_ w3 #[.string ⟨#[]⟩,.string ⟨#[]⟩,.int .i64 0,.int .i64 0,.int .i64 0,.int .i64 0,.int .i64 0,.int .i64 0,.slice none 0 0,.slice none 0 0,.slice none 0 0,.int .i64 0,.int .i64 0] #[p.name,p.cur,p.a.y,p.a.m,p.a.d,p.b.y,p.b.m,p.b.d,.slice ma p.meters.length mc,.slice fa p.fees.length fc,.slice ca p.charges.length cc,p.line,p.col] ?_ ?_ ?_ ?_ ?_ ?_;rfl;rfl;go_simp;go_simp;kernel_rfl;rfl;(simp [Value.oneCell']))|fail)
 rw [←HWA.out,←HKA.out];clear HWA HKA;by_cases h0:x=0
 rotate_left
 ·have EC1:=EC.out;rw [if_neg h0] at EC1;have EF1:=EF.out;rw [if_neg h0] at EF1;have Y2:=(X.out wA B1A.out).1;have RT:=hid (Te.box_there Y2 (n:=6) rfl);have R2:=hid (range_of (Box.sets (W:=wA) [.string ⟨#[]⟩,.int .i64 0,.int .i64 0,.slice none 0 0,.slice none 0 0,.slice none 0 0] 0 Y2).cell);have BF:=hid (below_setCells LK.out.1 [.string ⟨#[]⟩,.int .i64 0,.int .i64 0,.slice none 0 0,.slice none 0 0,.slice none 0 0] 0 _ (X.out wA B1A.out).2);have E1:=hid EC1;have E2:=hid EF1;clear EC EF EC1 EF1 Y2 P9;go_wp2_with (first|(with_reducible refine wpList_store_mid (op:=Oper.mk none (Op.store 27 (Operand.tmp 2) (Operand.tmp 19)) _ _ _ _) ?_ 27 (.tmp 2) (.tmp 19) ?_ k2 0 #[.string ⟨#[]⟩,.int .i64 0,.int .i64 0,.slice none 0 0,.slice none 0 0,.slice none 0 0] ?_ ?_ ?_ ?_ ?_ ?_;rfl;rfl;go_simp;go_simp;(simpa using RT.out);kernel_rfl;(simp [Value.oneCell']))|fail)
  refine bodyPost_ret (v:=.tuple #[.agg #[.string ⟨#[]⟩,.int .i64 0,.int .i64 0,.slice none 0 0,.slice none 0 0,.slice none 0 0],.int .i64 x,.int .i64 y,.int .i64 z]) ?_ rfl ?_
  ·exact R7.results_plan (p:=2) (a:=3) (b:=4) (c:=5) rfl _ _ k2 [.string ⟨#[]⟩,.int .i64 0,.int .i64 0,.slice none 0 0,.slice none 0 0,.slice none 0 0] _ rfl R2.out Tryz.underlying27 rfl (by kernel_rfl)
  refine ⟨none,0,none,0,none,0,?_,?_,BF.out⟩
  ·rw [E1.out,E2.out];rfl
  ·rw [E1.out];exact zero_lies _
 have P:=P9.out h0;have EC1:=EC.out;rw [if_pos h0] at EC1;have EF1:=EF.out;rw [if_pos h0] at EF1;subst h0;have E1:=hid EC1;have E2:=hid EF1;have c9:=hid (R9.plan_any p ma mc fa fc ca cc wA (LP.out wA (Below.refl _ _)) P);have PG:=hid P;obtain ⟨f1,hf1⟩:∃z,z=(wrongOf p).1:=⟨_,rfl⟩;obtain ⟨f2,hf2⟩:∃z,z=(wrongOf p).2.1:=⟨_,rfl⟩;obtain ⟨f3,hf3⟩:∃z,z=(wrongOf p).2.2:=⟨_,rfl⟩;rw [←hf1,←hf2,←hf3] at c9;have HF:=hid (show wrongOf p=(f1,f2,f3) by rw [hf1,hf2,hf3]);have RP:=hid (range_of XA.out.cell);clear EC EF EC1 EF1 P9 P hf1 hf2 hf3;go_wp2_with (first|(with_reducible refine wpList_load_mid (op:=Oper.mk (some 24) (Op.load 41 (Operand.tmp 6)) _ _ _ _) ?_ 41 (.tmp 6) ?_ kA 0 ?_ [p.name,p.cur,p.a.y,p.a.m,p.a.d,p.b.y,p.b.m,p.b.d,.slice ma p.meters.length mc,.slice fa p.fees.length fc,.slice ca p.charges.length cc,p.line,p.col] _ RP.out Tryz.underlying41 ?_ ?_ ?_;rfl;rfl;go_simp;rfl;kernel_rfl)|fail)
 refine c9.out.mono ?_;rintro e w4 ⟨rfl,b4⟩;have B14:=hid (bel_on B1A.out b4);have XA4:=hid (XA.out.on b4);have B4:=hid b4;have LK4:=hid (show k2<w4.heap.size by have:=LK.out;have:=B14.out.size;omega);clear c9 RP b4 XA;by_cases h1:f1=0
 rotate_left
 ·have Y2:=(X.out w4 B14.out).1;have RT:=hid (Te.box_there Y2 (n:=6) rfl);have R2:=hid (range_of (Box.sets (W:=w4) [.string ⟨#[]⟩,.int .i64 0,.int .i64 0,.slice none 0 0,.slice none 0 0,.slice none 0 0] 0 Y2).cell);have BF:=hid (below_setCells LK.out.1 [.string ⟨#[]⟩,.int .i64 0,.int .i64 0,.slice none 0 0,.slice none 0 0,.slice none 0 0] 0 _ (X.out w4 B14.out).2);have EZ:=hid (show coreAns p=zeroC by unfold coreAns;rw [HF.out,if_neg h1]);clear Y2;go_wp2_with (first|(with_reducible refine wpList_store_mid (op:=Oper.mk none (Op.store 27 (Operand.tmp 2) (Operand.tmp 31)) _ _ _ _) ?_ 27 (.tmp 2) (.tmp 31) ?_ k2 0 #[.string ⟨#[]⟩,.int .i64 0,.int .i64 0,.slice none 0 0,.slice none 0 0,.slice none 0 0] ?_ ?_ ?_ ?_ ?_ ?_;rfl;rfl;go_simp;go_simp;(simpa using RT.out);kernel_rfl;(simp [Value.oneCell']))|fail)
  refine bodyPost_ret (v:=.tuple #[.agg #[.string ⟨#[]⟩,.int .i64 0,.int .i64 0,.slice none 0 0,.slice none 0 0,.slice none 0 0],.int .i64 f1,.int .i64 f2,.int .i64 f3]) ?_ rfl ?_
  ·exact R7.results_plan (p:=2) (a:=3) (b:=4) (c:=5) rfl _ _ k2 [.string ⟨#[]⟩,.int .i64 0,.int .i64 0,.slice none 0 0,.slice none 0 0,.slice none 0 0] _ rfl R2.out Tryz.underlying27 rfl (by kernel_rfl)
  refine ⟨none,0,none,0,none,0,?_,?_,BF.out⟩
  ·rw [E1.out,E2.out,HF.out,EZ.out];rfl
  ·rw [E1.out,EZ.out];exact zero_lies _
 have hn:(wrongOf p).1=0:=by rw [HF.out];exact h1
 have EZ:=hid (show coreAns p=coreOf p by unfold coreAns;rw [if_pos hn]);have EW:=hid (wrong_nought hn);have cM:=hid (make_any p ma mc fa fc ca cc w4 (LP.out w4 B4.out) PG.out.gd hn);subst h1;obtain ⟨c,hc⟩:∃c,c=coreOf p:=⟨_,rfl⟩;rw [←hc] at cM EZ;unfold corC at cM;have RP:=hid (range_of XA4.out.cell);clear hn hc HF;go_wp2_with (first|(with_reducible refine wpList_load_mid (op:=Oper.mk (some 35) (Op.load 41 (Operand.tmp 6)) _ _ _ _) ?_ 41 (.tmp 6) ?_ kA 0 ?_ [p.name,p.cur,p.a.y,p.a.m,p.a.d,p.b.y,p.b.m,p.b.d,.slice ma p.meters.length mc,.slice fa p.fees.length fc,.slice ca p.charges.length cc,p.line,p.col] _ RP.out Tryz.underlying41 ?_ ?_ ?_;rfl;rfl;go_simp;rfl;kernel_rfl)|fail)
 refine cM.out.mono ?_;rintro e w5 ⟨m2,c2,s2,d2,p2,e2,rfl,hl,b5⟩;have B15:=hid (bel_on B14.out b5);have Y2:=(X.out w5 B15.out).1;have RT:=hid (Te.box_there Y2 (n:=6) rfl);have R2:=hid (range_of (Box.sets (W:=w5) [c.cur,c.a,c.b,.slice m2 c.meters.length c2,.slice s2 c.sums.length d2,.slice p2 c.parts.length e2] 0 Y2).cell);have BF:=hid (below_setCells LK.out.1 [c.cur,c.a,c.b,.slice m2 c.meters.length c2,.slice s2 c.sums.length d2,.slice p2 c.parts.length e2] 0 _ (X.out w5 B15.out).2);have HL:=hid hl;clear cM RP b5 hl Y2;go_wp2_with (first|(with_reducible refine wpList_store_mid (op:=Oper.mk none (Op.store 27 (Operand.tmp 2) (Operand.tmp 36)) _ _ _ _) ?_ 27 (.tmp 2) (.tmp 36) ?_ k2 0 #[c.cur,c.a,c.b,.slice m2 c.meters.length c2,.slice s2 c.sums.length d2,.slice p2 c.parts.length e2] ?_ ?_ ?_ ?_ ?_ ?_;rfl;rfl;go_simp;go_simp;(simpa using RT.out);kernel_rfl;(simp [Value.oneCell']))|fail)
 refine bodyPost_ret (v:=.tuple #[.agg #[c.cur,c.a,c.b,.slice m2 c.meters.length c2,.slice s2 c.sums.length d2,.slice p2 c.parts.length e2],.int .i64 0,.int .i64 0,.int .i64 0]) ?_ rfl ?_
 ·exact R7.results_plan (p:=2) (a:=3) (b:=4) (c:=5) rfl _ _ k2 [c.cur,c.a,c.b,.slice m2 c.meters.length c2,.slice s2 c.sums.length d2,.slice p2 c.parts.length e2] _ rfl R2.out Tryz.underlying27 rfl (by kernel_rfl)
 refine ⟨m2,c2,s2,d2,p2,e2,?_,?_,BF.out⟩
 ·rw [E1.out,E2.out,EZ.out,EW.out];rfl
 ·rw [E1.out,EZ.out];exact HL.out _ (Far.sets LK4.out [c.cur,c.a,c.b,.slice m2 c.meters.length c2,.slice s2 c.sums.length d2,.slice p2 c.parts.length e2] 0 (Far.refl _ _))
end R10
namespace L10
open Go.RowKit Go.Sort P Mm Md R6 Co Te
theorem reads_walk (s:ByteArray) (w:World) (ky:Pa.Ky w):Calls Tryz.prog 3 #[.string s] w fun e w'=>e=.returned (.bool true)∧Below w.heap.size w w':=by
 have cA:=hid (alive_any w ky);have cR:=hid (fun (W:World) (b:Below w.heap.size w W)=>Co.read_any s W (ky.later b));have cQ:=hid (fun (W:World)=>R10.read_any s W);obtain ⟨p,hp⟩:∃p,p=(parsed s.data.toList).1:=⟨_,rfl⟩;obtain ⟨x7,hx7⟩:∃x,x=(parsed s.data.toList).2.1:=⟨_,rfl⟩;obtain ⟨y7,hy7⟩:∃x,x=(parsed s.data.toList).2.2.1:=⟨_,rfl⟩;obtain ⟨z7,hz7⟩:∃x,x=(parsed s.data.toList).2.2.2:=⟨_,rfl⟩;have FC:=hid (fit_read s.data.toList);obtain ⟨c,hc⟩:∃c,c=readC s.data.toList:=⟨_,rfl⟩;obtain ⟨x,hx⟩:∃x,x=(readF s.data.toList).1:=⟨_,rfl⟩;obtain ⟨y,hy⟩:∃x,x=(readF s.data.toList).2.1:=⟨_,rfl⟩;obtain ⟨z,hz⟩:∃x,x=(readF s.data.toList).2.2:=⟨_,rfl⟩;rw [←hc] at FC;rw [←hc,←hx,←hy,←hz] at cR cQ;unfold corC at cR cQ
 have OK:=hid (show x7=0→coreAns p=c∧(wrongOf p).1=x∧(wrongOf p).2.1=y∧(wrongOf p).2.2=z∧R9.Pl9 p from fun h=>by
  have e:(parsed s.data.toList).2.1=0:=by rw [←hx7];exact h
  have e1:readC s.data.toList=coreAns p:=by unfold readC;rw [if_pos e,hp]
  have e2:readF s.data.toList=wrongOf p:=by unfold readF;rw [if_pos e,hp]
  refine ⟨by rw [hc,e1],by rw [hx,e2],by rw [hy,e2],by rw [hz,e2],by rw [hp];exact pl9_text e⟩)
 have c7:=hid (fun (W:World)=>ref7t s W hp hx7 hy7 hz7);clear hp hx7 hy7 hz7 hc hx hy hz ky;go_enter Tryz.func3,Tryz.ntmps3
 go_wp2_with fail
 refine cA.out.mono ?_;rintro e w0 ⟨rfl,b0⟩;have B0:=hid b0;clear cA b0;by_cases hs:(16384:Int)<(s.size:Int)
 ·go_wp2;go_ret;exact ⟨rfl,B0.out⟩
 have cR0:=hid (cR.out w0 B0.out);clear cR;go_wp2_with fail
 refine cR0.out.mono ?_;rintro e w1 ⟨m2,c2,s2,d2,p2,e2,rfl,hl,b1⟩;have B1:=hid (bel_on B0.out b1);clear cR0 b1 B0;obtain ⟨wx,hwx⟩:∃W,W=w1.alloc (.cells ([.string ⟨#[]⟩,.int .i64 0,.int .i64 0,.slice none 0 0,.slice none 0 0,.slice none 0 0]:List Value).toArray 27):=⟨_,rfl⟩;obtain ⟨wy,hwy⟩:∃W,W=wx.alloc (.cells #[.int .i64 0,.int .i64 0,.int .i64 0] 30):=⟨_,rfl⟩;obtain ⟨k1,hk1⟩:∃k,k=w1.heap.size:=⟨_,rfl⟩;obtain ⟨k2,hk2⟩:∃k,k=k1+1:=⟨_,rfl⟩;have s2':wx.heap.size=k2:=by rw [hwx,hk2,hk1];simp
 have b2:Below w1.heap.size w1 wx:=by rw [hwx];exact bel_alloc _ _
 have b3:Below wx.heap.size wx wy:=by rw [hwy];exact bel_alloc _ _
 have X1:Box wy k1 [.string ⟨#[]⟩,.int .i64 0,.int .i64 0,.slice none 0 0,.slice none 0 0,.slice none 0 0]:=by
  have:=Box.new w1 [.string ⟨#[]⟩,.int .i64 0,.int .i64 0,.slice none 0 0,.slice none 0 0,.slice none 0 0] 27;rw [←hwx,←hk1] at this;exact this.on b3
 have X2:Box wy k2 [.int .i64 0,.int .i64 0,.int .i64 0]:=by
  have:=Box.new wx [.int .i64 0,.int .i64 0,.int .i64 0] 30;rw [←hwy,s2'] at this;exact this
 have n12:k1≠k2:=by omega
 have U1:Box (wy.setCells k1 0 [c.cur,c.a,c.b,.slice m2 c.meters.length c2,.slice s2 c.sums.length d2,.slice p2 c.parts.length e2]) k1 [c.cur,c.a,c.b,.slice m2 c.meters.length c2,.slice s2 c.sums.length d2,.slice p2 c.parts.length e2]:=Box.sets (W:=wy) [c.cur,c.a,c.b,.slice m2 c.meters.length c2,.slice s2 c.sums.length d2,.slice p2 c.parts.length e2] 0 X1;have U2:Box (wy.setCells k1 0 [c.cur,c.a,c.b,.slice m2 c.meters.length c2,.slice s2 c.sums.length d2,.slice p2 c.parts.length e2]) k2 [.int .i64 0,.int .i64 0,.int .i64 0]:=Box.others (W:=wy) (Ne.symm n12) [c.cur,c.a,c.b,.slice m2 c.meters.length c2,.slice s2 c.sums.length d2,.slice p2 c.parts.length e2] 0 X2;obtain ⟨w4,hwb⟩:∃W,W=(wy.setCells k1 0 [c.cur,c.a,c.b,.slice m2 c.meters.length c2,.slice s2 c.sums.length d2,.slice p2 c.parts.length e2]).setCells k2 0 [.int .i64 x,.int .i64 y,.int .i64 z]:=⟨_,rfl⟩;have V2a:=hid (show Box w4 k1 [c.cur,c.a,c.b,.slice m2 c.meters.length c2,.slice s2 c.sums.length d2,.slice p2 c.parts.length e2] by rw [hwb];exact Box.others (W:=wy) n12 [.int .i64 x,.int .i64 y,.int .i64 z] 0 U1);have V2b:=hid (show Box w4 k2 [.int .i64 x,.int .i64 y,.int .i64 z] by rw [hwb];exact Box.sets (W:=wy) [.int .i64 x,.int .i64 y,.int .i64 z] 0 U2)
 have b14:Below w1.heap.size w1 w4:=by
  rw [hwb];exact below_setCells (by omega) _ _ _ (below_setCells (by omega) _ _ _ (bel_on b2 b3))
 have L2:=hid (hl.on b14);have B2:=hid b14;have HW3:=hid (show wy=(w1.alloc (.cells #[.string ⟨#[]⟩,.int .i64 0,.int .i64 0,.slice none 0 0,.slice none 0 0,.slice none 0 0] 27)).alloc (.cells #[.int .i64 0,.int .i64 0,.int .i64 0] 30) by rw [hwy,hwx]);have HK2:=hid (show k2=w1.heap.size+1 by omega);have HK1:=hid hk1;have HW4:=hid hwb;have RS1:=hid (show ((w1.alloc (.cells #[.string ⟨#[]⟩,.int .i64 0,.int .i64 0,.slice none 0 0,.slice none 0 0,.slice none 0 0] 27)).alloc (.cells #[.int .i64 0,.int .i64 0,.int .i64 0] 30)).there w1.heap.size 0 6 by rw [←HW3.out,←hk1];exact Te.box_there X1 rfl);have RS2:=hid (show (((w1.alloc (.cells #[.string ⟨#[]⟩,.int .i64 0,.int .i64 0,.slice none 0 0,.slice none 0 0,.slice none 0 0] 27)).alloc (.cells #[.int .i64 0,.int .i64 0,.int .i64 0] 30)).setCells w1.heap.size 0 [c.cur,c.a,c.b,.slice m2 c.meters.length c2,.slice s2 c.sums.length d2,.slice p2 c.parts.length e2]).there (w1.heap.size+1) 0 3 by rw [←HW3.out,←HK2.out,←hk1];exact Te.box_there U2 rfl);clear hwx hwy hk1 hk2 s2' b2 b3 X1 X2 n12 U1 U2 hwb b14 hl
 go_upto_region 6 with (first
  | (with_reducible refine wpList_store_mid (op:=Oper.mk none (Op.store 27 (Operand.tmp 3) (Operand.tmp 23)) _ _ _ _) ?_ 27 (.tmp 3) (.tmp 23) ?_ w1.heap.size 0 #[c.cur,c.a,c.b,.slice m2 c.meters.length c2,.slice s2 c.sums.length d2,.slice p2 c.parts.length e2] ?_ ?_ ?_ ?_ ?_ ?_;rfl;rfl;go_simp;go_simp;(simpa using RS1.out);kernel_rfl;(simp [Value.oneCell']))
  | (with_reducible refine wpList_store_mid (op:=Oper.mk none (Op.store 30 (Operand.tmp 4) (Operand.tmp 24)) _ _ _ _) ?_ 30 (.tmp 4) (.tmp 24) ?_ (w1.heap.size+1) 0 #[.int .i64 x,.int .i64 y,.int .i64 z] ?_ ?_ ?_ ?_ ?_ ?_;rfl;rfl;go_simp;go_simp;(simpa using RS2.out);kernel_rfl;(simp [Value.oneCell']))
  | fail)
 rw [←HW3.out,←HK2.out,←HK1.out,←HW4.out];try dsimp only [Act.put]
 clear HW3 HK2 HK1 HW4 RS1 RS2;have B4:=hid (bel_on B1.out B2.out);clear B1 B2;go_wp2_with fail
 refine (cQ.out w4).mono ?_;rintro e w5 ⟨m3,c3,s3,d3,p3,e3,rfl,hl,b5⟩;obtain ⟨w6,hw6⟩:∃W,W=w5.alloc (.cells #[c.cur,c.a,c.b,.slice m3 c.meters.length c3,.slice s3 c.sums.length d3,.slice p3 c.parts.length e3] 27):=⟨_,rfl⟩;obtain ⟨k3,hk3⟩:∃k,k=w5.heap.size:=⟨_,rfl⟩;have b6:Below w5.heap.size w5 w6:=by rw [hw6];exact bel_alloc _ _
 have V3:=hid (show Box w6 k3 [c.cur,c.a,c.b,.slice m3 c.meters.length c3,.slice s3 c.sums.length d3,.slice p3 c.parts.length e3] by rw [hw6,hk3];exact Box.new _ _ _);have L3:=hid (hl.on b6);have B46:=hid (bel_on b5 b6);have HW6:=hid hw6;have HK3:=hid hk3;clear hw6 hk3 b6 b5 hl cQ;go_upto_region 7 with (first|(with_reducible refine wpList_store_new (op:=Oper.mk none (Op.store 27 (Operand.tmp 5) (Operand.tmp 28)) _ _ _ _) ?_ 27 (.tmp 5) (.tmp 28) ?_ w5 #[.string ⟨#[]⟩,.int .i64 0,.int .i64 0,.slice none 0 0,.slice none 0 0,.slice none 0 0] #[c.cur,c.a,c.b,.slice m3 c.meters.length c3,.slice s3 c.sums.length d3,.slice p3 c.parts.length e3] ?_ ?_ ?_ ?_ ?_ ?_;rfl;rfl;go_simp;go_simp;kernel_rfl;rfl;(simp [Value.oneCell']))|fail)
 rw [←HW6.out,←HK3.out];clear HW6 HK3;have U2:=V2b.out.on B46.out;have a0:=U2.cell 0 _ rfl;have a1:=U2.cell 1 _ rfl;have a2:=U2.cell 2 _ rfl;have lf:=U2.lt;have RC:=hid (range_of (V2a.out.on B46.out).cell);have RD:=hid (range_of V3.out.cell);have cS:=hid (R10.same_any c c m2 c2 s2 d2 p2 e2 m3 c3 s3 d3 p3 e3 w6 (L2.out.on B46.out) L3.out FC.out FC.out rfl rfl);clear U2;go_wp2_with (first|((with_reducible refine R9.wpList_load_midg (op:=Oper.mk (some 49) (Op.load 27 (Operand.tmp 3)) _ _ _ _) ?_ 27 (.tmp 3) ?_ k1 0 ?_ [c.cur,c.a,c.b,.slice m2 c.meters.length c2,.slice s2 c.sums.length d2,.slice p2 c.parts.length e2] _ RC.out Tryz.underlying27 ?_ ?_ ?_);(first|(exact R9.wantg rfl (by kernel_rfl) rfl));rfl;go_simp;rfl;kernel_rfl)|((with_reducible refine R9.wpList_load_midg (op:=Oper.mk (some 50) (Op.load 27 (Operand.tmp 5)) _ _ _ _) ?_ 27 (.tmp 5) ?_ k3 0 ?_ [c.cur,c.a,c.b,.slice m3 c.meters.length c3,.slice s3 c.sums.length d3,.slice p3 c.parts.length e3] _ RD.out Tryz.underlying27 ?_ ?_ ?_);(first|(exact R9.wantg rfl (by kernel_rfl) rfl));rfl;go_simp;rfl;kernel_rfl)|fail)
 refine cS.out.mono ?_;rintro e w7 ⟨rfl,b7⟩;have B47:=hid (bel_on B46.out b7);have B67:=hid b7;clear cS RC RD a0 a1 a2 lf b7 B46;go_upto_region 9 with fail
 have c7':=hid (c7.out w7);clear c7;go_wp2_with fail
 refine c7'.out.mono ?_;rintro e w8 ⟨ma,mc,fa,fc,ca,cc,rfl,lp,b8⟩;obtain ⟨wA,hwA⟩:∃W,W=w8.alloc (.cells #[p.name,p.cur,p.a.y,p.a.m,p.a.d,p.b.y,p.b.m,p.b.d,.slice ma p.meters.length mc,.slice fa p.fees.length fc,.slice ca p.charges.length cc,p.line,p.col] 41):=⟨_,rfl⟩;have bA:Below w8.heap.size w8 wA:=by rw [hwA];exact bel_alloc _ _
 obtain ⟨kA,hkA⟩:∃k,k=w8.heap.size:=⟨_,rfl⟩;have XA:=hid (show Box wA kA [p.name,p.cur,p.a.y,p.a.m,p.a.d,p.b.y,p.b.m,p.b.d,.slice ma p.meters.length mc,.slice fa p.fees.length fc,.slice ca p.charges.length cc,p.line,p.col] by rw [hwA,hkA];exact Box.new _ _ _);have LP:=hid (lp.on bA);have B7A:=hid (bel_on b8 bA);have HWA:=hid hwA;have HKA:=hid hkA;clear b8 bA lp hwA hkA c7';go_upto_region 10 with (first|(with_reducible refine wpList_store_new (op:=Oper.mk none (Op.store 41 (Operand.tmp 9) (Operand.tmp 57)) _ _ _ _) ?_ 41 (.tmp 9) (.tmp 57) ?_ w8 #[.string ⟨#[]⟩,.string ⟨#[]⟩,.int .i64 0,.int .i64 0,.int .i64 0,.int .i64 0,.int .i64 0,.int .i64 0,.slice none 0 0,.slice none 0 0,.slice none 0 0,.int .i64 0,.int .i64 0] #[p.name,p.cur,p.a.y,p.a.m,p.a.d,p.b.y,p.b.m,p.b.d,.slice ma p.meters.length mc,.slice fa p.fees.length fc,.slice ca p.charges.length cc,p.line,p.col] ?_ ?_ ?_ ?_ ?_ ?_;rfl;rfl;go_simp;go_simp;kernel_rfl;rfl;(simp [Value.oneCell']))|fail)
 rw [←HWA.out,←HKA.out];clear HWA HKA;have B4A:=hid (bel_on B47.out B7A.out);by_cases h7:x7=0
 rotate_left
 ·have BF:=hid (bel_on B4.out B4A.out);clear OK;go_wp2;go_ret;exact ⟨rfl,BF.out⟩
 obtain ⟨ea,e1,e2',e3',P9⟩:=OK.out h7;subst h7;have cM:=hid (Co.make_any p ma mc fa fc ca cc wA LP.out P9);rw [ea,e1,e2',e3'] at cM;unfold corC at cM;have RP:=hid (range_of XA.out.cell);clear OK ea e1 e2' e3' P9;go_wp2_with (first|(with_reducible refine wpList_load_mid (op:=Oper.mk (some 64) (Op.load 41 (Operand.tmp 9)) _ _ _ _) ?_ 41 (.tmp 9) ?_ kA 0 ?_ [p.name,p.cur,p.a.y,p.a.m,p.a.d,p.b.y,p.b.m,p.b.d,.slice ma p.meters.length mc,.slice fa p.fees.length fc,.slice ca p.charges.length cc,p.line,p.col] _ RP.out Tryz.underlying41 ?_ ?_ ?_;rfl;rfl;go_simp;rfl;kernel_rfl)|fail)
 refine cM.out.mono ?_;rintro e w9 ⟨m5,c5,s5,d5,p5,e5,rfl,hfar,b9⟩;have hl:=hfar w9 (Far.refl _ _);have B49:=hid (bel_on B4A.out b9);have B69:=hid (bel_on B67.out (bel_on B7A.out b9));clear cM RP b9 hfar;obtain ⟨wx,hwx⟩:∃W,W=w9.alloc (.cells ([.string ⟨#[]⟩,.int .i64 0,.int .i64 0,.slice none 0 0,.slice none 0 0,.slice none 0 0]:List Value).toArray 27):=⟨_,rfl⟩;obtain ⟨wy,hwy⟩:∃W,W=wx.alloc (.cells #[.int .i64 0,.int .i64 0,.int .i64 0] 30):=⟨_,rfl⟩;obtain ⟨k5,hk1⟩:∃k,k=w9.heap.size:=⟨_,rfl⟩;obtain ⟨k6,hk2⟩:∃k,k=k5+1:=⟨_,rfl⟩;have s2':wx.heap.size=k6:=by rw [hwx,hk2,hk1];simp
 have b2:Below w9.heap.size w9 wx:=by rw [hwx];exact bel_alloc _ _
 have b3:Below wx.heap.size wx wy:=by rw [hwy];exact bel_alloc _ _
 have X1:Box wy k5 [.string ⟨#[]⟩,.int .i64 0,.int .i64 0,.slice none 0 0,.slice none 0 0,.slice none 0 0]:=by
  have:=Box.new w9 [.string ⟨#[]⟩,.int .i64 0,.int .i64 0,.slice none 0 0,.slice none 0 0,.slice none 0 0] 27;rw [←hwx,←hk1] at this;exact this.on b3
 have X2:Box wy k6 [.int .i64 0,.int .i64 0,.int .i64 0]:=by
  have:=Box.new wx [.int .i64 0,.int .i64 0,.int .i64 0] 30;rw [←hwy,s2'] at this;exact this
 have n12:k5≠k6:=by omega
 have U1:Box (wy.setCells k5 0 [c.cur,c.a,c.b,.slice m5 c.meters.length c5,.slice s5 c.sums.length d5,.slice p5 c.parts.length e5]) k5 [c.cur,c.a,c.b,.slice m5 c.meters.length c5,.slice s5 c.sums.length d5,.slice p5 c.parts.length e5]:=Box.sets (W:=wy) [c.cur,c.a,c.b,.slice m5 c.meters.length c5,.slice s5 c.sums.length d5,.slice p5 c.parts.length e5] 0 X1;have U2:Box (wy.setCells k5 0 [c.cur,c.a,c.b,.slice m5 c.meters.length c5,.slice s5 c.sums.length d5,.slice p5 c.parts.length e5]) k6 [.int .i64 0,.int .i64 0,.int .i64 0]:=Box.others (W:=wy) (Ne.symm n12) [c.cur,c.a,c.b,.slice m5 c.meters.length c5,.slice s5 c.sums.length d5,.slice p5 c.parts.length e5] 0 X2;obtain ⟨wz,hwb⟩:∃W,W=(wy.setCells k5 0 [c.cur,c.a,c.b,.slice m5 c.meters.length c5,.slice s5 c.sums.length d5,.slice p5 c.parts.length e5]).setCells k6 0 [.int .i64 x,.int .i64 y,.int .i64 z]:=⟨_,rfl⟩;have V5a:=hid (show Box wz k5 [c.cur,c.a,c.b,.slice m5 c.meters.length c5,.slice s5 c.sums.length d5,.slice p5 c.parts.length e5] by rw [hwb];exact Box.others (W:=wy) n12 [.int .i64 x,.int .i64 y,.int .i64 z] 0 U1);have V5b:=hid (show Box wz k6 [.int .i64 x,.int .i64 y,.int .i64 z] by rw [hwb];exact Box.sets (W:=wy) [.int .i64 x,.int .i64 y,.int .i64 z] 0 U2)
 have b14:Below w9.heap.size w9 wz:=by
  rw [hwb];exact below_setCells (by omega) _ _ _ (below_setCells (by omega) _ _ _ (bel_on b2 b3))
 have L5:=hid (hl.on b14);have B5:=hid b14;have HW3:=hid (show wy=(w9.alloc (.cells #[.string ⟨#[]⟩,.int .i64 0,.int .i64 0,.slice none 0 0,.slice none 0 0,.slice none 0 0] 27)).alloc (.cells #[.int .i64 0,.int .i64 0,.int .i64 0] 30) by rw [hwy,hwx]);have HK2:=hid (show k6=w9.heap.size+1 by omega);have HK1:=hid hk1;have HW4:=hid hwb;have RS1:=hid (show ((w9.alloc (.cells #[.string ⟨#[]⟩,.int .i64 0,.int .i64 0,.slice none 0 0,.slice none 0 0,.slice none 0 0] 27)).alloc (.cells #[.int .i64 0,.int .i64 0,.int .i64 0] 30)).there w9.heap.size 0 6 by rw [←HW3.out,←hk1];exact Te.box_there X1 rfl);have RS2:=hid (show (((w9.alloc (.cells #[.string ⟨#[]⟩,.int .i64 0,.int .i64 0,.slice none 0 0,.slice none 0 0,.slice none 0 0] 27)).alloc (.cells #[.int .i64 0,.int .i64 0,.int .i64 0] 30)).setCells w9.heap.size 0 [c.cur,c.a,c.b,.slice m5 c.meters.length c5,.slice s5 c.sums.length d5,.slice p5 c.parts.length e5]).there (w9.heap.size+1) 0 3 by rw [←HW3.out,←HK2.out,←hk1];exact Te.box_there U2 rfl);clear hwx hwy hk1 hk2 s2' b2 b3 X1 X2 n12 U1 U2 hwb b14 hl
 go_upto_region 13 with (first
  | (with_reducible refine wpList_store_mid (op:=Oper.mk none (Op.store 27 (Operand.tmp 13) (Operand.tmp 66)) _ _ _ _) ?_ 27 (.tmp 13) (.tmp 66) ?_ w9.heap.size 0 #[c.cur,c.a,c.b,.slice m5 c.meters.length c5,.slice s5 c.sums.length d5,.slice p5 c.parts.length e5] ?_ ?_ ?_ ?_ ?_ ?_;rfl;rfl;go_simp;go_simp;(simpa using RS1.out);kernel_rfl;(simp [Value.oneCell']))
  | (with_reducible refine wpList_store_mid (op:=Oper.mk none (Op.store 30 (Operand.tmp 14) (Operand.tmp 67)) _ _ _ _) ?_ 30 (.tmp 14) (.tmp 67) ?_ (w9.heap.size+1) 0 #[.int .i64 x,.int .i64 y,.int .i64 z] ?_ ?_ ?_ ?_ ?_ ?_;rfl;rfl;go_simp;go_simp;(simpa using RS2.out);kernel_rfl;(simp [Value.oneCell']))
  | fail)
 rw [←HW3.out,←HK2.out,←HK1.out,←HW4.out];try dsimp only [Act.put]
 clear HW3 HK2 HK1 HW4 RS1 RS2;have B4z:=hid (bel_on B49.out B5.out);have B6z:=hid (bel_on B69.out B5.out);have U2:=V2b.out.on B4z.out;have a0:=U2.cell 0 _ rfl;have a1:=U2.cell 1 _ rfl;have a2:=U2.cell 2 _ rfl;have lf:=U2.lt;have g0:=V5b.out.cell 0 _ rfl;have g1:=V5b.out.cell 1 _ rfl;have g2:=V5b.out.cell 2 _ rfl;have lg:=V5b.out.lt;have RC:=hid (range_of V5a.out.cell);have RD:=hid (range_of (V3.out.on B6z.out).cell);have cS:=hid (R10.same_any c c m5 c5 s5 d5 p5 e5 m3 c3 s3 d3 p3 e3 wz L5.out (L3.out.on B6z.out) FC.out FC.out rfl rfl);clear U2;go_wp2_with (first|((with_reducible refine R9.wpList_load_midg (op:=Oper.mk (some 72) (Op.load 27 (Operand.tmp 13)) _ _ _ _) ?_ 27 (.tmp 13) ?_ k5 0 ?_ [c.cur,c.a,c.b,.slice m5 c.meters.length c5,.slice s5 c.sums.length d5,.slice p5 c.parts.length e5] _ RC.out Tryz.underlying27 ?_ ?_ ?_);(first|(exact R9.wantg rfl (by kernel_rfl) rfl));rfl;go_simp;rfl;kernel_rfl)|((with_reducible refine R9.wpList_load_midg (op:=Oper.mk (some 73) (Op.load 27 (Operand.tmp 5)) _ _ _ _) ?_ 27 (.tmp 5) ?_ k3 0 ?_ [c.cur,c.a,c.b,.slice m3 c.meters.length c3,.slice s3 c.sums.length d3,.slice p3 c.parts.length e3] _ RD.out Tryz.underlying27 ?_ ?_ ?_);(first|(exact R9.wantg rfl (by kernel_rfl) rfl));rfl;go_simp;rfl;kernel_rfl)|fail)
 refine cS.out.mono ?_;rintro e wy ⟨rfl,by'⟩;have BF:=hid (bel_on B4.out (bel_on B4z.out by'));clear cS RC RD a0 a1 a2 g0 g1 g2 by';go_wp2;go_ret;exact ⟨rfl,BF.out⟩
end L10
namespace Ld
open Go.RowKit
theorem own:ownKnob Tryz.prog.godebug=none:=by kernel_rfl
theorem cells_of_strs {H:Type} {enc:TypeId×Value→H} {P:Program} {w:World} {base:Nat} {sp:Nat→Bool} {held:Bool} {fuel:Nat} {t e:TypeId} {n:Nat} {cs:List Value} {zs:List (List UInt8)} {p:List MemPlace}
  (ht:P.underlying t=some (.array n e)) (he:P.underlying e=some .string) (hce:P.cellsOf e=1) (hct:P.cellsOf t=n)
  (h:DataW.trod enc P w base sp held fuel t cs=some (.agg (zs.map fun z=>.lit (.string z)),p)):cs=zs.map fun z=>Value.string ⟨z.toArray⟩:=by
 cases fuel with
 | zero=>simp [DataW.trod] at h
 | succ fuel=>
   simp only [DataW.trod,ht,hce,hct,Nat.mul_one] at h;split at h
   ·rename_i hl
    obtain ⟨xs,hm,hx⟩:=Option.map_eq_some_iff.1 h
    have hxs:xs.map (·.1)=zs.map fun z=>(DataW.lit (.string z):DataW H):=by
     have:=congrArg Prod.fst hx;simpa using this
    have hxl:xs.length=n:=by simpa using Lib.mapM_length hm
    have hzl:zs.length=n:=by
     have:=congrArg List.length hxs;simp at this;omega
    apply List.ext_getElem?
    intro i;by_cases hi:i<n
    ·obtain ⟨b,hb,hf⟩:=Lib.mapM_at hm i i (by simp [hi]);obtain ⟨z,hc,rfl,_⟩:=DataW.trod_string he hf
     have h1:cs[i]?=some (.string z):=by
      have:=congrArg (·[0]?) hc;simpa [List.getElem?_take,List.getElem?_drop] using this
     have h2:(xs.map (·.1))[i]?=some (DataW.lit (.string z.data.toList):DataW H):=by simp [hb]
     rw [hxs] at h2;simp only [List.getElem?_map,Option.map_eq_some_iff,DataW.lit.injEq,Lit.string.injEq] at h2;obtain ⟨z',hz',hzz⟩:=h2;subst hzz;simp [h1,hz']
    ·rw [List.getElem?_eq_none (by omega),List.getElem?_eq_none (by simp;omega)]
   ·cases h
theorem md_of {W : World} {rest : List (String × DataW Unit)} (h : laidMet Tryz.prog (("poundage/parse.modes", .agg (P.modes.map fun z => .lit (.string z))) :: rest) W) : Pa.Md W := by
 obtain ⟨ps,⟨g',t',cs,fuel,p,q,hg',ht',hvar,hd,_,_⟩,_⟩:=h
 have hg : Tryz.prog.globalNamed "poundage/parse.modes" = some 1 := by kernel_rfl
 obtain rfl:=Option.some.inj (hg.symm.trans hg');obtain rfl:=Option.some.inj ((show (Tryz.prog.globals[1]?).map (·.type)=some 237 by kernel_rfl).symm.trans ht');have hca:cs=(P.modes.map fun z=>Value.string ⟨z.toArray⟩).toArray:=by rw [←cells_of_strs (e:=9) (n:=4) (by kernel_rfl) (by kernel_rfl) (by kernel_rfl) (by kernel_rfl) hd]
 rw [hca] at hvar;intro j l hj;have:=World.var?_cell hg hvar j;rw [this];simp [hj]
theorem ky_of {W : World} {a : String × DataW Unit} (ha : a = ("poundage/parse.modes", .agg (P.modes.map fun z => .lit (.string z)))) (hp : ([a].all fun x => x.2.handleName?.isNone) = true)
  (h:laidMetH Tryz.prog [a] W) (hs:W.ShapedOpen Tryz.prog):Pa.Ky W:=by
 rw [MakeChecks.laidMetH_plain _ _ _ hp] at h;subst ha;exact ⟨Dc.mx_of hs,md_of h⟩
theorem returns {H:Type} {enc:TypeId×Value→H} {os:Os} {f:FuncId} {fn:Func} {s:ChangeSpec} {conds:List PathCond} {apart fresh handsOn again:Bool} {X:World→Array Value→Prop}
  (hX:∀(w w':World) (args:Array Value),w.heap=w'.heap→X w args→X w' args)
  (started:os.Started) (noInit:Tryz.checked.prog.inits.idxOf? f=none) (hfn:Tryz.checked.prog.funcs[f]?=some fn)
  (witness:∃(w:World) (tape:Tape) (i:Input),w.os=os∧(w.forCall tape i).Shaped Tryz.checked.prog∧i.vars=[]∧Input.okWide Tryz.checked.prog (w.forCall tape i) .any w.heap.size f i∧
   ((s.pre enc Tryz.checked.prog fn conds apart (w.forCall tape i).memory i.args∧X (w.forCall tape i).memory i.args)∧sizedMet enc Tryz.checked.prog fn (OpenSpec.ofChange s) apart (w.forCall tape i).memory i.args)∧({} : Assume).holds Tryz.checked.prog (lone (Frame.enter Tryz.checked.prog f i.args .normal) [] (w.forCall tape i)))
  (contract:∀(W:World) (base:Nat) (args:Array Value) (ds gs:List (DataW H)) (before:List MemPlace),
   (∀(j:Nat) t v,fn.params[j]?=some t→args[j]?=some v→Value.okWide Tryz.checked.prog W .any base t v)→
   DataW.Whole enc Tryz.checked.prog fn.params.toList s.vars apart W args.toList ds gs before→
   (DataW.weightsEach Tryz.checked.prog (fn.params.toList++s.plain.varTypes Tryz.checked.prog) (ds++gs)).all (·≤reachBytes)=true→X W args→W.ShapedOpen Tryz.checked.prog→
   Calls Tryz.checked.prog f args W fun e W'=>∃v,e=.returned v∧s.post enc Tryz.checked.prog fn apart fresh handsOn again W args v W') :
  ReturnsInHanded {} Tryz.checked os f .any (fun w args=>(s.pre enc Tryz.checked.prog fn conds apart w args∧X w args)∧sizedMet enc Tryz.checked.prog fn (OpenSpec.ofChange s) apart w args) (s.post enc Tryz.checked.prog fn apart fresh handsOn again):=by
 refine returnsInHanded_of_calls own started noInit witness ?_;intro w tape i _ hsh _ hok hpre _;obtain ⟨_,_,_,fn',hfn',_,_,_,_,hval⟩:=hok;obtain rfl:fn'=fn:=Option.some.inj (hfn'.symm.trans hfn);obtain ⟨⟨⟨ds,gs,before,hw,_⟩,hx⟩,hz⟩:=hpre;have hw':=DataW.Whole.of_heap (w':=w.forCall tape i) (by rfl) hw;refine (contract (w.forCall tape i) w.heap.size i.args ds gs before hval hw' (hz.weights hw) (hX _ _ _ (by rfl) hx) hsh).mono fun e W' ⟨v,he,hp⟩=>?_;subst he;exact ChangeSpec.post_blind hp
end Ld
end Go.Proofs.YtofbobdhkbmbgaaGreatDoor
