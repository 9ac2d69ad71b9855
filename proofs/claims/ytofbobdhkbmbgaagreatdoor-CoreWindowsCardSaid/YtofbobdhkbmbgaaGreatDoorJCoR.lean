/- The laws of layer 7: what is played by 'alive'. -/
import Derived.Test.YtofbobdhkbmbgaaGreatDoorJPaI
import Derived.Test.YtofbobdhkbmbgaaGreatDoorJCo7
set_option maxRecDepth 100000
set_option maxHeartbeats 16000000
namespace Go.Proofs.YtofbobdhkbmbgaaGreatDoor
namespace L07
open Go.RowKit Go.Sort P Mm Md Pa
def fl3 (r:Int×Int×Int):Value:=.agg #[.int .i64 r.1,.int .i64 r.2.1,.int .i64 r.2.2]
theorem parse_lies (l:ByteArray) (w:World) (k:Ky w):Calls Tryz.prog 18 #[.string l] w fun e w'=>∃ma mc fa fc ca cc,e=.returned (.tuple #[.agg (planC (parsed l.data.toList).1 ma mc fa fc ca cc).toArray,fl3 (parsed l.data.toList).2])∧
  PlanLies w' (planC (parsed l.data.toList).1 ma mc fa fc ca cc) (parsed l.data.toList).1 ma mc fa fc ca cc∧Below w.heap.size w w':=
 (parse_any l w k).mono fun _ _ ⟨ma,mc,fa,fc,ca,cc,_,h1,h2,h3,h4⟩=>⟨ma,mc,fa,fc,ca,cc,h1,lies_of h2 (parsed_fits _) h3.own,h4⟩
end L07
namespace Co
open Go.RowKit Go.Sort P Mm Md R6 R9 Cc
def coreAns (p:Plan):Cor:=if (wrongOf p).1=0 then coreOf p else zeroC
theorem zero_lies (W:World):CorLies W (corC zeroC none 0 none 0 none 0) zeroC none 0 none 0 none 0:=
 ⟨rfl,L06.row_nil,L06.row_nil,L06.row_nil,by show (0:Nat)≤_;omega,by unfold I64;decide,by unfold I64;decide⟩
theorem make_any (p:Plan) (ma:Option Addr) (mc:Nat) (fa:Option Addr) (fc:Nat) (ca:Option Addr) (cc:Nat) (w:World) (hp:PlanLies w (planC p ma mc fa fc ca cc) p ma mc fa fc ca cc) (h:Pl9 p) :
  Calls Tryz.prog 13 #[.agg #[p.name,p.cur,p.a.y,p.a.m,p.a.d,p.b.y,p.b.m,p.b.d,.slice ma p.meters.length mc,.slice fa p.fees.length fc,.slice ca p.charges.length cc,p.line,p.col]] w fun e w'=>∃ma' mc' sa sc pa pc,e=.returned (.tuple #[.agg (corC (coreAns p) ma' mc' sa sc pa pc).toArray,.agg #[.int .i64 (wrongOf p).1,.int .i64 (wrongOf p).2.1,.int .i64 (wrongOf p).2.2]])∧
   (∀W',Far w.heap.size w' W'→CorLies W' (corC (coreAns p) ma' mc' sa sc pa pc) (coreAns p) ma' mc' sa sc pa pc)∧Below w.heap.size w w':=by
 unfold coreAns;by_cases hn:(wrongOf p).1=0
 ·rw [if_pos hn,wrong_nought hn];exact make_good p ma mc fa fc ca cc w hp h hn
 ·rw [if_neg hn];refine (make_bad p ma mc fa fc ca cc w hp h hn).mono ?_;rintro e w' ⟨rfl,b⟩;exact ⟨none,0,none,0,none,0,rfl,fun W' _=>zero_lies W',b⟩
theorem pl9_text {l:List UInt8} (e:(parsed l).2.1=0):Pl9 (parsed l).1:=by
 have sm:=parsed_small l;exact ⟨parsed_gd e,⟨sm.meters,sm.fees,sm.charges⟩,fun c hc=>by have:=sm.parts c hc;omega⟩
def readC (l:List UInt8):Cor:=if (parsed l).2.1=0 then coreAns (parsed l).1 else zeroC
def readF (l:List UInt8):Int×Int×Int:=if (parsed l).2.1=0 then wrongOf (parsed l).1 else (parsed l).2
theorem read_any (s:ByteArray) (w:World) (ky:Pa.Ky w):Calls Tryz.prog 9 #[.string s] w fun e w'=>∃m2 c2 s2 d2 p2 e2,e=.returned (.tuple #[.agg (corC (readC s.data.toList) m2 c2 s2 d2 p2 e2).toArray,.agg #[.int .i64 (readF s.data.toList).1,.int .i64 (readF s.data.toList).2.1,.int .i64 (readF s.data.toList).2.2]])∧
   CorLies w' (corC (readC s.data.toList) m2 c2 s2 d2 p2 e2) (readC s.data.toList) m2 c2 s2 d2 p2 e2∧Below w.heap.size w w':=by
 obtain ⟨w0,hw0⟩:∃W,W=w.alloc (.cells ([.string ⟨#[]⟩,.int .i64 0,.int .i64 0,.slice none 0 0,.slice none 0 0,.slice none 0 0]:List Value).toArray 27):=⟨_,rfl⟩;obtain ⟨w1,hw1⟩:∃W,W=w0.alloc (.cells #[.int .i64 0,.int .i64 0,.int .i64 0] 30):=⟨_,rfl⟩;obtain ⟨k1,hk1⟩:∃k,k=w.heap.size:=⟨_,rfl⟩;obtain ⟨k2,hk2⟩:∃k,k=k1+1:=⟨_,rfl⟩;have s0:w0.heap.size=k2:=by rw [hw0,hk2,hk1];simp
 have s1:w1.heap.size=k2+1:=by rw [hw1,←s0];simp
 have b0:Below w.heap.size w w0:=by rw [hw0];exact bel_alloc _ _
 have b1:Below w0.heap.size w0 w1:=by rw [hw1];exact bel_alloc _ _
 have X1:Box w1 k1 [.string ⟨#[]⟩,.int .i64 0,.int .i64 0,.slice none 0 0,.slice none 0 0,.slice none 0 0]:=by
  have:=Box.new w [.string ⟨#[]⟩,.int .i64 0,.int .i64 0,.slice none 0 0,.slice none 0 0,.slice none 0 0] 27;rw [←hw0,←hk1] at this;exact this.on b1
 have X2:Box w1 k2 [.int .i64 0,.int .i64 0,.int .i64 0]:=by
  have:=Box.new w0 [.int .i64 0,.int .i64 0,.int .i64 0] 30;rw [←hw1,s0] at this;exact this
 have b01:Below w.heap.size w w1:=bel_on b0 b1;have HW:=hid (show w1=(w.alloc (.cells #[.string ⟨#[]⟩,.int .i64 0,.int .i64 0,.slice none 0 0,.slice none 0 0,.slice none 0 0] 27)).alloc (.cells #[.int .i64 0,.int .i64 0,.int .i64 0] 30) by rw [hw1,hw0]);have HK2:=hid (show k2=w.heap.size+1 by omega);have HK1:=hid hk1;have HB:=hid (show w.heap.size≤k1∧w.heap.size≤k2∧k1≠k2∧k1<w1.heap.size∧k2<w1.heap.size by omega);have cP:=hid (L07.parse_lies s w1 (ky.later b01));obtain ⟨p,hp⟩:∃p,p=(parsed s.data.toList).1:=⟨_,rfl⟩;obtain ⟨x,hx⟩:∃p,p=(parsed s.data.toList).2.1:=⟨_,rfl⟩;obtain ⟨y,hy⟩:∃p,p=(parsed s.data.toList).2.2.1:=⟨_,rfl⟩;obtain ⟨z,hz⟩:∃p,p=(parsed s.data.toList).2.2.2:=⟨_,rfl⟩;have eP:(parsed s.data.toList).2=(x,y,z):=by rw [hx,hy,hz]
 have EC:=hid (show readC s.data.toList=if x=0 then coreAns p else zeroC by unfold readC;rw [←hx,←hp]);have EF:=hid (show readF s.data.toList=if x=0 then wrongOf p else (x,y,z) by unfold readF;rw [←hx,←hp,eP]);have P9:=hid (show x=0→Pl9 p from fun h=>by rw [hp];exact pl9_text (by rw [←hx];exact h));have PZ:=hid (show x=0→y=0∧z=0 from fun h=>by have:=parsed_zero (l:=s.data.toList) (by rw [←hx];exact h);rw [←hy,←hz] at this;exact this);rw [←hp,eP] at cP;unfold planC L07.fl3 at cP;have HX1:=hid X1;have HX2:=hid X2;have B01:=hid b01;clear hw0 hw1 hk1 hk2 s0 s1 b0 b1 b01 X1 X2 ky hp hx hy hz eP;obtain ⟨c,hc⟩:∃c,c=readC s.data.toList:=⟨_,rfl⟩;obtain ⟨f,hf⟩:∃c,c=readF s.data.toList:=⟨_,rfl⟩;rw [←hc] at EC;rw [←hf] at EF;rw [←hc,←hf];clear hc hf;go_enter Tryz.func9,Tryz.ntmps9
 go_upto_region 1 with fail
 rw [←HW.out,←HK2.out,←HK1.out];clear HW HK2 HK1;go_wp2_with fail
 refine cP.out.mono ?_;rintro e w3 ⟨ma,mc,fa,fc,ca,cc,rfl,lp,b3⟩;obtain ⟨w4,hw4⟩:∃W,W=w3.alloc (.cells ([.string ⟨#[]⟩,.string ⟨#[]⟩,.int .i64 0,.int .i64 0,.int .i64 0,.int .i64 0,.int .i64 0,.int .i64 0,.slice none 0 0,.slice none 0 0,.slice none 0 0,.int .i64 0,.int .i64 0]:List Value).toArray 41):=⟨_,rfl⟩;obtain ⟨w5,hw5⟩:∃W,W=w4.alloc (.cells #[.int .i64 0,.int .i64 0,.int .i64 0] 30):=⟨_,rfl⟩;obtain ⟨k3,hk3⟩:∃k,k=w3.heap.size:=⟨_,rfl⟩;obtain ⟨k4,hk4⟩:∃k,k=k3+1:=⟨_,rfl⟩;have s4:w4.heap.size=k4:=by rw [hw4,hk4,hk3];simp
 have b4:Below w3.heap.size w3 w4:=by rw [hw4];exact bel_alloc _ _
 have b5:Below w4.heap.size w4 w5:=by rw [hw5];exact bel_alloc _ _
 have X3:Box w5 k3 [.string ⟨#[]⟩,.string ⟨#[]⟩,.int .i64 0,.int .i64 0,.int .i64 0,.int .i64 0,.int .i64 0,.int .i64 0,.slice none 0 0,.slice none 0 0,.slice none 0 0,.int .i64 0,.int .i64 0]:=by
  have:=Box.new w3 [.string ⟨#[]⟩,.string ⟨#[]⟩,.int .i64 0,.int .i64 0,.int .i64 0,.int .i64 0,.int .i64 0,.int .i64 0,.slice none 0 0,.slice none 0 0,.slice none 0 0,.int .i64 0,.int .i64 0] 41;rw [←hw4,←hk3] at this;exact this.on b5
 have X4:Box w5 k4 [.int .i64 0,.int .i64 0,.int .i64 0]:=by
  have:=Box.new w4 [.int .i64 0,.int .i64 0,.int .i64 0] 30;rw [←hw5,s4] at this;exact this
 have RT3:=hid (Te.box_there X3 (n:=13) rfl);have n34:k3≠k4:=by omega
 have U4:Box (w5.setCells k3 0 [p.name,p.cur,p.a.y,p.a.m,p.a.d,p.b.y,p.b.m,p.b.d,.slice ma p.meters.length mc,.slice fa p.fees.length fc,.slice ca p.charges.length cc,p.line,p.col]) k4 [.int .i64 0,.int .i64 0,.int .i64 0]:=Box.others (W:=w5) (Ne.symm n34) [p.name,p.cur,p.a.y,p.a.m,p.a.d,p.b.y,p.b.m,p.b.d,.slice ma p.meters.length mc,.slice fa p.fees.length fc,.slice ca p.charges.length cc,p.line,p.col] 0 X4;have RT4:=hid (Te.box_there U4 (n:=3) rfl);obtain ⟨w7,hw7⟩:∃W,W=(w5.setCells k3 0 [p.name,p.cur,p.a.y,p.a.m,p.a.d,p.b.y,p.b.m,p.b.d,.slice ma p.meters.length mc,.slice fa p.fees.length fc,.slice ca p.charges.length cc,p.line,p.col]).setCells k4 0 [.int .i64 x,.int .i64 y,.int .i64 z]:=⟨_,rfl⟩;have b35:Below w3.heap.size w3 w5:=bel_on b4 b5
 have b37:Below w3.heap.size w3 w7:=by
  rw [hw7];exact below_setCells (by omega) _ _ _ (below_setCells (by omega) _ _ _ b35)
 have V3:Box w7 k3 [p.name,p.cur,p.a.y,p.a.m,p.a.d,p.b.y,p.b.m,p.b.d,.slice ma p.meters.length mc,.slice fa p.fees.length fc,.slice ca p.charges.length cc,p.line,p.col]:=by
  rw [hw7];exact Box.others (W:=w5) n34 [.int .i64 x,.int .i64 y,.int .i64 z] 0 (Box.sets (W:=w5) [p.name,p.cur,p.a.y,p.a.m,p.a.d,p.b.y,p.b.m,p.b.d,.slice ma p.meters.length mc,.slice fa p.fees.length fc,.slice ca p.charges.length cc,p.line,p.col] 0 X3)
 have V4:Box w7 k4 [.int .i64 x,.int .i64 y,.int .i64 z]:=by
  rw [hw7];exact Box.sets (W:=w5) [.int .i64 x,.int .i64 y,.int .i64 z] 0 U4
 have L7:=hid (lp.on b37);have B17:=hid (bel_on b3 b37);have HN:=hid (show k3≠k4∧k4≠k1∧k4≠k2∧k3≠k1∧k3≠k2 by have:=HB.out;have:=b3.size;omega);have Y1:=hid (HX1.out.on B17.out);have Y2:=hid (HX2.out.on B17.out);have Y3:=hid V3;have Y4:=hid V4;have HW5:=hid (show w5=(w3.alloc (.cells #[.string ⟨#[]⟩,.string ⟨#[]⟩,.int .i64 0,.int .i64 0,.int .i64 0,.int .i64 0,.int .i64 0,.int .i64 0,.slice none 0 0,.slice none 0 0,.slice none 0 0,.int .i64 0,.int .i64 0] 41)).alloc (.cells #[.int .i64 0,.int .i64 0,.int .i64 0] 30) by rw [hw5,hw4]);have HW7:=hid hw7;have HK4:=hid (show k4=w3.heap.size+1 by omega);have HK3:=hid hk3;have RS3:=hid (show ((w3.alloc (.cells #[.string ⟨#[]⟩,.string ⟨#[]⟩,.int .i64 0,.int .i64 0,.int .i64 0,.int .i64 0,.int .i64 0,.int .i64 0,.slice none 0 0,.slice none 0 0,.slice none 0 0,.int .i64 0,.int .i64 0] 41)).alloc (.cells #[.int .i64 0,.int .i64 0,.int .i64 0] 30)).there w3.heap.size 0 13 by rw [←HW5.out,←hk3];exact RT3.out);have RS4:=hid (show (((w3.alloc (.cells #[.string ⟨#[]⟩,.string ⟨#[]⟩,.int .i64 0,.int .i64 0,.int .i64 0,.int .i64 0,.int .i64 0,.int .i64 0,.slice none 0 0,.slice none 0 0,.slice none 0 0,.int .i64 0,.int .i64 0] 41)).alloc (.cells #[.int .i64 0,.int .i64 0,.int .i64 0] 30)).setCells w3.heap.size 0 [p.name,p.cur,p.a.y,p.a.m,p.a.d,p.b.y,p.b.m,p.b.d,.slice ma p.meters.length mc,.slice fa p.fees.length fc,.slice ca p.charges.length cc,p.line,p.col]).there (w3.heap.size+1) 0 3 by rw [←HW5.out,←HK4.out,←hk3];exact RT4.out);clear hw4 hw5 hk3 hk4 s4 b4 b5 X3 X4 n34 U4 hw7 b35 b37 V3 V4 lp b3 HX1 HX2 cP RT3 RT4
 go_upto_region 2 with (first
  | (with_reducible refine wpList_store_mid (op:=Oper.mk none (Op.store 41 (Operand.tmp 4) (Operand.tmp 9)) _ _ _ _) ?_ 41 (.tmp 4) (.tmp 9) ?_ w3.heap.size 0 #[p.name,p.cur,p.a.y,p.a.m,p.a.d,p.b.y,p.b.m,p.b.d,.slice ma p.meters.length mc,.slice fa p.fees.length fc,.slice ca p.charges.length cc,p.line,p.col] ?_ ?_ ?_ ?_ ?_ ?_;rfl;rfl;go_simp;go_simp;(simpa using RS3.out);kernel_rfl;(simp [Value.oneCell']))
  | (with_reducible refine wpList_store_mid (op:=Oper.mk none (Op.store 30 (Operand.tmp 5) (Operand.tmp 10)) _ _ _ _) ?_ 30 (.tmp 5) (.tmp 10) ?_ (w3.heap.size+1) 0 #[.int .i64 x,.int .i64 y,.int .i64 z] ?_ ?_ ?_ ?_ ?_ ?_;rfl;rfl;go_simp;go_simp;(simpa using RS4.out);kernel_rfl;(simp [Value.oneCell']))
  | fail)
 rw [←HW5.out,←HK4.out,←HK3.out,←HW7.out];try dsimp only [Act.put]
 clear HW5 HK4 HK3 HW7 RS3 RS4;by_cases hz:x=0
 ·have EC1:c=coreAns p:=by rw [EC.out,if_pos hz]
  have EF1:f=wrongOf p:=by rw [EF.out,if_pos hz]
  have YZ:y=0∧z=0:=PZ.out hz;obtain ⟨rfl,rfl⟩:=YZ;have HM:=hid (make_any p ma mc fa fc ca cc w7 L7.out (P9.out hz));rw [←EC1,←EF1] at HM;obtain ⟨f1,f2,f3⟩:=f;simp only at HM;unfold corC at HM;subst hz;have RP:=hid (range_of Y3.out.cell);have a0:=Y4.out.cell 0 _ rfl;have a1:=Y4.out.cell 1 _ rfl;have a2:=Y4.out.cell 2 _ rfl;clear EC EF EC1 EF1 P9 PZ;go_upto_region 4 with fail
  clear a0 a1 a2;go_wp2_with (first|(with_reducible refine wpList_load_mid (op:=Oper.mk (some 16) (Op.load 41 (Operand.tmp 4)) _ _ _ _) ?_ 41 (.tmp 4) ?_ k3 0 ?_ [p.name,p.cur,p.a.y,p.a.m,p.a.d,p.b.y,p.b.m,p.b.d,.slice ma p.meters.length mc,.slice fa p.fees.length fc,.slice ca p.charges.length cc,p.line,p.col] _ RP.out Tryz.underlying41 ?_ ?_ ?_;rfl;rfl;go_simp;rfl;kernel_rfl)|fail)
  refine HM.out.mono ?_;rintro e w8 ⟨m2,c2,s2,d2,p2,e2,rfl,hl,b8⟩;have HLF:=hid hl;have B8:=hid b8;have Z1:=Y1.out.on b8;have Z2:=Y2.out.on b8;have RT1:=hid (Te.box_there Z1 (n:=6) rfl);have U1:Box (w8.setCells k1 0 [c.cur,c.a,c.b,.slice m2 c.meters.length c2,.slice s2 c.sums.length d2,.slice p2 c.parts.length e2]) k1 [c.cur,c.a,c.b,.slice m2 c.meters.length c2,.slice s2 c.sums.length d2,.slice p2 c.parts.length e2]:=Box.sets (W:=w8) [c.cur,c.a,c.b,.slice m2 c.meters.length c2,.slice s2 c.sums.length d2,.slice p2 c.parts.length e2] 0 Z1;have U2:Box (w8.setCells k1 0 [c.cur,c.a,c.b,.slice m2 c.meters.length c2,.slice s2 c.sums.length d2,.slice p2 c.parts.length e2]) k2 [.int .i64 0,.int .i64 0,.int .i64 0]:=Box.others (W:=w8) (Ne.symm HB.out.2.2.1) [c.cur,c.a,c.b,.slice m2 c.meters.length c2,.slice s2 c.sums.length d2,.slice p2 c.parts.length e2] 0 Z2;have RT2:=hid (Te.box_there U2 (n:=3) rfl);have R1:=hid (range_of (Box.others (W:=w8) HB.out.2.2.1 [.int .i64 f1,.int .i64 f2,.int .i64 f3] 0 U1).cell);have R2:=hid (range_of (Box.sets (W:=w8) [.int .i64 f1,.int .i64 f2,.int .i64 f3] 0 U2).cell);have BF:=hid (below_setCells HB.out.2.1 [.int .i64 f1,.int .i64 f2,.int .i64 f3] 0 _ (below_setCells HB.out.1 [c.cur,c.a,c.b,.slice m2 c.meters.length c2,.slice s2 c.sums.length d2,.slice p2 c.parts.length e2] 0 _ (bel_on (bel_on B01.out B17.out) b8)));have FR:=hid (Far.sets Y2.out.lt [.int .i64 f1,.int .i64 f2,.int .i64 f3] 0 (Far.sets Y1.out.lt [c.cur,c.a,c.b,.slice m2 c.meters.length c2,.slice s2 c.sums.length d2,.slice p2 c.parts.length e2] 0 (Far.refl w7.heap.size w8)));clear hl b8 Z1 Z2 U1 U2 RP HM
  go_wp2_with (first
   | (with_reducible refine wpList_store_mid (op:=Oper.mk none (Op.store 27 (Operand.tmp 2) (Operand.tmp 18)) _ _ _ _) ?_ 27 (.tmp 2) (.tmp 18) ?_ k1 0 #[c.cur,c.a,c.b,.slice m2 c.meters.length c2,.slice s2 c.sums.length d2,.slice p2 c.parts.length e2] ?_ ?_ ?_ ?_ ?_ ?_;rfl;rfl;go_simp;go_simp;(simpa using RT1.out);kernel_rfl;(simp [Value.oneCell']))
   | (with_reducible refine wpList_store_mid (op:=Oper.mk none (Op.store 30 (Operand.tmp 3) (Operand.tmp 19)) _ _ _ _) ?_ 30 (.tmp 3) (.tmp 19) ?_ k2 0 #[.int .i64 f1,.int .i64 f2,.int .i64 f3] ?_ ?_ ?_ ?_ ?_ ?_;rfl;rfl;go_simp;go_simp;(simpa using RT2.out);kernel_rfl;(simp [Value.oneCell']))
   | fail)
  refine bodyPost_ret (v:=.tuple #[.agg #[c.cur,c.a,c.b,.slice m2 c.meters.length c2,.slice s2 c.sums.length d2,.slice p2 c.parts.length e2],.agg #[.int .i64 f1,.int .i64 f2,.int .i64 f3]]) ?_ rfl ?_
  ·exact results_cc rfl _ _ k1 k2 [c.cur,c.a,c.b,.slice m2 c.meters.length c2,.slice s2 c.sums.length d2,.slice p2 c.parts.length e2] [.int .i64 f1,.int .i64 f2,.int .i64 f3] _ _ rfl rfl R1.out R2.out Tryz.underlying27 rfl (by kernel_rfl) Tryz.underlying30 rfl (by kernel_rfl)
  exact ⟨m2,c2,s2,d2,p2,e2,rfl,HLF.out _ FR.out,BF.out⟩
 ·have EC1:=hid (show c=zeroC by rw [EC.out,if_neg hz]);have EF1:=hid (show f=(x,y,z) by rw [EF.out,if_neg hz]);have g1:(x==0)=false:=by simpa using hz
  have a0:=Y4.out.cell 0 _ rfl;have a1:=Y4.out.cell 1 _ rfl;have a2:=Y4.out.cell 2 _ rfl;go_upto_region 3 with fail
  have c0:=Y1.out.cell 0 _ rfl;have c1:=Y1.out.cell 1 _ rfl;have c2:=Y1.out.cell 2 _ rfl;have c3:=Y1.out.cell 3 _ rfl;have c4:=Y1.out.cell 4 _ rfl;have c5:=Y1.out.cell 5 _ rfl;have d0:=Y2.out.cell 0 _ rfl;have d1:=Y2.out.cell 1 _ rfl;have d2:=Y2.out.cell 2 _ rfl;have u0:=Y1.out.free 0;have u1:=Y1.out.free 1;have u2:=Y1.out.free 2;have u3:=Y1.out.free 3;have u4:=Y1.out.free 4;have u5:=Y1.out.free 5;have v0:=Y2.out.free 0;have v1:=Y2.out.free 1;have v2:=Y2.out.free 2;have n1:k4≠k1:=HN.out.2.1;have n2:k4≠k2:=HN.out.2.2.1;have n3:k1≠k2:=HB.out.2.2.1;have n4:k2≠k1:=Ne.symm n3;have n5:k1≠k4:=Ne.symm n1;have n6:k2≠k4:=Ne.symm n2
  go_region
  have A2:Box (w7.setCells k1 0 [.string ⟨#[]⟩,.int .i64 0,.int .i64 0,.slice none 0 0,.slice none 0 0,.slice none 0 0]) k1 [.string ⟨#[]⟩,.int .i64 0,.int .i64 0,.slice none 0 0,.slice none 0 0,.slice none 0 0]:=Box.sets (W:=w7) [.string ⟨#[]⟩,.int .i64 0,.int .i64 0,.slice none 0 0,.slice none 0 0,.slice none 0 0] 0 Y1.out;have A3:Box (w7.setCells k1 0 [.string ⟨#[]⟩,.int .i64 0,.int .i64 0,.slice none 0 0,.slice none 0 0,.slice none 0 0]) k2 [.int .i64 0,.int .i64 0,.int .i64 0]:=Box.others (W:=w7) n4 [.string ⟨#[]⟩,.int .i64 0,.int .i64 0,.slice none 0 0,.slice none 0 0,.slice none 0 0] 0 Y2.out;have C3:Box ((w7.setCells k1 0 [.string ⟨#[]⟩,.int .i64 0,.int .i64 0,.slice none 0 0,.slice none 0 0,.slice none 0 0]).setCells k2 0 [.int .i64 x,.int .i64 y,.int .i64 z]) k2 [.int .i64 x,.int .i64 y,.int .i64 z]:=Box.sets (W:=w7) [.int .i64 x,.int .i64 y,.int .i64 z] 0 A3;have C2:Box ((w7.setCells k1 0 [.string ⟨#[]⟩,.int .i64 0,.int .i64 0,.slice none 0 0,.slice none 0 0,.slice none 0 0]).setCells k2 0 [.int .i64 x,.int .i64 y,.int .i64 z]) k1 [.string ⟨#[]⟩,.int .i64 0,.int .i64 0,.slice none 0 0,.slice none 0 0,.slice none 0 0]:=Box.others (W:=w7) n3 [.int .i64 x,.int .i64 y,.int .i64 z] 0 A2;have D2:=hid (range_of (C2.on (Below.drew (Below.refl _ _))).cell);have D3:=hid (range_of (C3.on (Below.drew (Below.refl _ _))).cell);have BF:=hid (Below.drew (below_setCells HB.out.2.1 [.int .i64 x,.int .i64 y,.int .i64 z] 0 _ (below_setCells HB.out.1 [.string ⟨#[]⟩,.int .i64 0,.int .i64 0,.slice none 0 0,.slice none 0 0,.slice none 0 0] 0 _ (bel_on B01.out B17.out))));clear A2 A3 C2 C3 c0 c1 c2 c3 c4 c5 d0 d1 d2 u0 u1 u2 u3 u4 u5 v0 v1 v2 a0 a1 a2;go_wp2;refine bodyPost_ret (v:=.tuple #[.agg #[.string ⟨#[]⟩,.int .i64 0,.int .i64 0,.slice none 0 0,.slice none 0 0,.slice none 0 0],.agg #[.int .i64 x,.int .i64 y,.int .i64 z]]) ?_ rfl ?_
  ·exact results_cc rfl _ _ k1 k2 [.string ⟨#[]⟩,.int .i64 0,.int .i64 0,.slice none 0 0,.slice none 0 0,.slice none 0 0] [.int .i64 x,.int .i64 y,.int .i64 z] _ _ rfl rfl D2.out D3.out Tryz.underlying27 rfl (by kernel_rfl) Tryz.underlying30 rfl (by kernel_rfl)
  exact ⟨none,0,none,0,none,0,by rw [EC1.out,EF1.out];rfl,by rw [EC1.out];exact zero_lies _,BF.out⟩
end Co
namespace L10
open Go.RowKit Go.Sort P Mm Md R6 Co
def tx10:List UInt8:=[112,108,97,110,32,112,32,99,117,114,114,101,110,99,121,32,69,85,82,59,32,104,111,114,105,122,111,110,32,48,48,48,49,45,48,49,45,48,50,32,48,48,48,49,45,48,49,45,51,49,59,32,109,101,116,101,114,32,98,32,117,110,105,116,32,108,32,109,97,120,32,57,59,32,109,101,116,101,114,32,97,32,117,110,105,116,32,108,32,109,97,120,32,56,59,32,99,104,97,114,103,101,32,98,32,123,32,103,114,97,100,117,97,116,101,100,32,123,32,114,101,115,116,32,114,97,116,101,32,49,59,32,125,32,114,111,117,110,100,32,102,108,111,111,114,59,32,125]
theorem tx10_told:readF tx10=(0,0,0)∧(readC tx10).a=1∧(readC tx10).b=30∧(readC tx10).meters.length=2∧((readC tx10).meters[0]?.map fun m=>m.name.data.toList)=some [97]∧(readC tx10).parts.length=1∧((readC tx10).parts[0]?.map fun x=>(x.mt,x.b))=some (1,30)∧goodC (readC tx10)=true:=by decide +kernel
theorem alive_any (w:World) (ky:Pa.Ky w):Calls Tryz.prog 8 #[] w fun e w'=>e=.returned (.bool true)∧Below w.heap.size w w':=by
 obtain ⟨S,hS⟩:∃S:ByteArray,S = { data:=(([112,108,97,110,32,112,32,99,117,114,114,101,110,99,121,32,69,85,82,59,32,104,111,114,105,122,111,110,32,48,48,48,49,45,48,49,45].append [48,50,32,48,48,48,49,45,48,49,45,51,49,59,32,109,101,116,101,114,32,98,32,117,110,105,116,32,108,32,109,97,120,32,57,59,32]).append ([109,101,116,101,114,32,97,32,117,110,105,116,32,108,32,109,97,120,32,56,59,32,99,104,97,114,103,101,32,98,32,123,32,103,114,97,100].append [117,97,116,101,100,32,123,32,114,101,115,116,32,114,97,116,101,32,49,59,32,125,32,114,111,117,110,100,32,102,108,111,111,114,59,32,125])).toArray }:=⟨_,rfl⟩;have hl:S.data.toList=tx10:=by rw [hS];rfl
 have cR:=hid (read_any S w ky);obtain ⟨t1,t2,t3,t4,t5,t6,t7,t8⟩:=tx10_told;rw [hl,t1] at cR;simp only at cR;obtain ⟨c,hc⟩:∃c,c=readC tx10:=⟨_,rfl⟩;rw [←hc] at cR t2 t3 t4 t5 t6 t7 t8;obtain ⟨m,hm⟩:∃m,c.meters[0]?=some m:=⟨_,List.getElem?_eq_getElem (by omega)⟩;obtain ⟨x,hx⟩:∃m,c.parts[0]?=some m:=⟨_,List.getElem?_eq_getElem (by omega)⟩;rw [hm] at t5;rw [hx] at t7;have em:m.name=⟨#[97]⟩:=ba_ext (by simpa using t5);have ex:x.mt=1∧x.b=30:=by simpa using t7
 have HS:=hid hS;have G:=hid t8;have TM:=hid hm;have TX:=hid hx;have T2:=hid t2;have T3:=hid t3;have T4:=hid t4;have T6:=hid t6;clear hl hS ky hc hm hx t1 t2 t3 t4 t5 t6 t7 t8;unfold corC at cR;go_enter Tryz.func8,Tryz.ntmps8
 rw [←HS.out];clear HS;go_wp2_with fail
 refine cR.out.mono ?_;rintro e w1 ⟨m2,c2,s2,d2,p2,e2,rfl,hl,b1⟩;obtain ⟨w2,hw2⟩:∃W,W=w1.alloc (.cells ([.string ⟨#[]⟩,.int .i64 0,.int .i64 0,.slice none 0 0,.slice none 0 0,.slice none 0 0]:List Value).toArray 27):=⟨_,rfl⟩;obtain ⟨w3,hw3⟩:∃W,W=w2.alloc (.cells #[.int .i64 0,.int .i64 0,.int .i64 0] 30):=⟨_,rfl⟩;obtain ⟨k1,hk1⟩:∃k,k=w1.heap.size:=⟨_,rfl⟩;obtain ⟨k2,hk2⟩:∃k,k=k1+1:=⟨_,rfl⟩;have s2':w2.heap.size=k2:=by rw [hw2,hk2,hk1];simp
 have b2:Below w1.heap.size w1 w2:=by rw [hw2];exact bel_alloc _ _
 have b3:Below w2.heap.size w2 w3:=by rw [hw3];exact bel_alloc _ _
 have X1:Box w3 k1 [.string ⟨#[]⟩,.int .i64 0,.int .i64 0,.slice none 0 0,.slice none 0 0,.slice none 0 0]:=by
  have:=Box.new w1 [.string ⟨#[]⟩,.int .i64 0,.int .i64 0,.slice none 0 0,.slice none 0 0,.slice none 0 0] 27;rw [←hw2,←hk1] at this;exact this.on b3
 have X2:Box w3 k2 [.int .i64 0,.int .i64 0,.int .i64 0]:=by
  have:=Box.new w2 [.int .i64 0,.int .i64 0,.int .i64 0] 30;rw [←hw3,s2'] at this;exact this
 have n12:k1≠k2:=by omega
 have U1:Box (w3.setCells k1 0 [c.cur,c.a,c.b,.slice m2 c.meters.length c2,.slice s2 c.sums.length d2,.slice p2 c.parts.length e2]) k1 [c.cur,c.a,c.b,.slice m2 c.meters.length c2,.slice s2 c.sums.length d2,.slice p2 c.parts.length e2]:=Box.sets (W:=w3) [c.cur,c.a,c.b,.slice m2 c.meters.length c2,.slice s2 c.sums.length d2,.slice p2 c.parts.length e2] 0 X1;have U2:Box (w3.setCells k1 0 [c.cur,c.a,c.b,.slice m2 c.meters.length c2,.slice s2 c.sums.length d2,.slice p2 c.parts.length e2]) k2 [.int .i64 0,.int .i64 0,.int .i64 0]:=Box.others (W:=w3) (Ne.symm n12) [c.cur,c.a,c.b,.slice m2 c.meters.length c2,.slice s2 c.sums.length d2,.slice p2 c.parts.length e2] 0 X2;obtain ⟨w4,hw4⟩:∃W,W=(w3.setCells k1 0 [c.cur,c.a,c.b,.slice m2 c.meters.length c2,.slice s2 c.sums.length d2,.slice p2 c.parts.length e2]).setCells k2 0 [.int .i64 0,.int .i64 0,.int .i64 0]:=⟨_,rfl⟩;have V1:=hid (show Box w4 k1 [c.cur,c.a,c.b,.slice m2 c.meters.length c2,.slice s2 c.sums.length d2,.slice p2 c.parts.length e2] by rw [hw4];exact Box.others (W:=w3) n12 [.int .i64 0,.int .i64 0,.int .i64 0] 0 U1);have V2:=hid (show Box w4 k2 [.int .i64 0,.int .i64 0,.int .i64 0] by rw [hw4];exact Box.sets (W:=w3) [.int .i64 0,.int .i64 0,.int .i64 0] 0 U2)
 have b14:Below w1.heap.size w1 w4:=by
  rw [hw4];exact below_setCells (by omega) _ _ _ (below_setCells (by omega) _ _ _ (bel_on b2 b3))
 have L4:=hid (hl.on b14);have B4:=hid (bel_on b1 b14);have HW3:=hid (show w3=(w1.alloc (.cells #[.string ⟨#[]⟩,.int .i64 0,.int .i64 0,.slice none 0 0,.slice none 0 0,.slice none 0 0] 27)).alloc (.cells #[.int .i64 0,.int .i64 0,.int .i64 0] 30) by rw [hw3,hw2]);have HK2:=hid (show k2=w1.heap.size+1 by omega);have HK1:=hid hk1;have HW4:=hid hw4;have RS1:=hid (show ((w1.alloc (.cells #[.string ⟨#[]⟩,.int .i64 0,.int .i64 0,.slice none 0 0,.slice none 0 0,.slice none 0 0] 27)).alloc (.cells #[.int .i64 0,.int .i64 0,.int .i64 0] 30)).there w1.heap.size 0 6 by rw [←HW3.out,←hk1];exact Te.box_there X1 rfl);have RS2:=hid (show (((w1.alloc (.cells #[.string ⟨#[]⟩,.int .i64 0,.int .i64 0,.slice none 0 0,.slice none 0 0,.slice none 0 0] 27)).alloc (.cells #[.int .i64 0,.int .i64 0,.int .i64 0] 30)).setCells w1.heap.size 0 [c.cur,c.a,c.b,.slice m2 c.meters.length c2,.slice s2 c.sums.length d2,.slice p2 c.parts.length e2]).there (w1.heap.size+1) 0 3 by rw [←HW3.out,←HK2.out,←hk1];exact Te.box_there U2 rfl);clear hw2 hw3 hk1 hk2 s2' b2 b3 X1 X2 n12 U1 U2 hw4 b14 hl b1 cR
 go_upto_region 2 with (first
  | (with_reducible refine wpList_store_mid (op:=Oper.mk none (Op.store 27 (Operand.tmp 1) (Operand.tmp 5)) _ _ _ _) ?_ 27 (.tmp 1) (.tmp 5) ?_ w1.heap.size 0 #[c.cur,c.a,c.b,.slice m2 c.meters.length c2,.slice s2 c.sums.length d2,.slice p2 c.parts.length e2] ?_ ?_ ?_ ?_ ?_ ?_;rfl;rfl;go_simp;go_simp;(simpa using RS1.out);kernel_rfl;(simp [Value.oneCell']))
  | (with_reducible refine wpList_store_mid (op:=Oper.mk none (Op.store 30 (Operand.tmp 2) (Operand.tmp 6)) _ _ _ _) ?_ 30 (.tmp 2) (.tmp 6) ?_ (w1.heap.size+1) 0 #[.int .i64 0,.int .i64 0,.int .i64 0] ?_ ?_ ?_ ?_ ?_ ?_;rfl;rfl;go_simp;go_simp;(simpa using RS2.out);kernel_rfl;(simp [Value.oneCell']))
  | fail)
 rw [←HW3.out,←HK2.out,←HK1.out,←HW4.out];try dsimp only [Act.put]
 clear HW3 HK2 HK1 HW4 RS1 RS2;have a0:=V2.out.cell 0 _ rfl;have a1:=V2.out.cell 1 _ rfl;have a2:=V2.out.cell 2 _ rfl;have q0:=V1.out.cell 0 _ rfl;have q1:=V1.out.cell 1 _ rfl;have q2:=V1.out.cell 2 _ rfl;have q3:=V1.out.cell 3 _ rfl;have q4:=V1.out.cell 4 _ rfl;have q5:=V1.out.cell 5 _ rfl;obtain ⟨bm,om,em2,lbm,x0,_⟩:=meter_at L4.out.meters TM.out;subst em2;obtain ⟨bp,op,ta,tc,aa,ac,ep2,lbp,y0,y1,y2,_⟩:=prt_at L4.out.parts TX.out;subst ep2;simp only [Nat.zero_mul,Nat.add_zero] at x0 y0 y1 y2;rw [em] at x0;rw [ex.1] at y0;rw [ex.2] at y2;have g1:(c.a==1)=true:=by rw [T2.out];rfl
 have g2:(c.b==30)=true:=by rw [T3.out];rfl
 have g3:((c.meters.length:Int)==2)=true:=by rw [T4.out];rfl
 have g4:((c.parts.length:Int)==1)=true:=by rw [T6.out];rfl
 have l1:0<c.meters.length:=by rw [T4.out];decide
 have l2:0<c.parts.length:=by rw [T6.out];decide
 have cG:=hid (good_any c (some ⟨bm,om,none⟩) c2 s2 d2 (some ⟨bp,op,none⟩) e2 w4 L4.out (by rw [T4.out];decide));rw [G.out] at cG;clear em ex;go_wp2_with fail
 refine cG.out.mono ?_;rintro e w5 ⟨rfl,b5⟩;have BF:=hid (bel_on B4.out b5);clear b5 cG;go_wp2;go_ret;exact ⟨rfl,BF.out⟩
end L10
namespace P
open Go.RowKit Go.Sort Mm R6
theorem hor_of {p:Plan} (h:headE p=0):dn p.a≤dn p.b∧dn p.b-dn p.a<4000:=by
 unfold headE hzn at h;split at h
 ·cases h
 ·split at h
  ·cases h
  ·omega
theorem meters_few {p:Plan} (h:(wrongOf p).1=0):p.meters.length≤4:=by
 have hm:=(wrongOf_zero.1 h).2.1;rw [firstE_none] at hm;rcases Nat.lt_or_ge 4 p.meters.length with g|g
 ·have:=hm 4 _ (List.getElem?_eq_getElem g);unfold meterE at this;rw [if_pos (by omega)] at this;cases this
 ·exact g
theorem fees_few {p:Plan} (h:(wrongOf p).1=0):p.fees.length≤8:=by
 have hm:=(wrongOf_zero.1 h).2.2.1;rw [firstE_none] at hm;rcases Nat.lt_or_ge 8 p.fees.length with g|g
 ·have:=hm 8 _ (List.getElem?_eq_getElem g);unfold feeE at this;rw [if_pos (by omega)] at this;cases this
 ·exact g
theorem charges_few {p:Plan} (h:(wrongOf p).1=0):p.charges.length≤8:=by
 have hm:=(wrongOf_zero.1 h).2.2.2.1;rw [firstE_none] at hm;rcases Nat.lt_or_ge 8 p.charges.length with g|g
 ·have:=hm 8 _ (List.getElem?_eq_getElem g);unfold chE at this;rw [if_pos (by omega)] at this;cases this
 ·exact g
theorem fee_in {p:Plan} (h:(wrongOf p).1=0) {f:Fee} (hf:f∈p.fees):winIn p f.win=true:=by
 have hm:=(wrongOf_zero.1 h).2.2.1;rw [firstE_none] at hm;obtain ⟨i,hi,e⟩:=List.getElem_of_mem hf;have:=hm i f (by rw [List.getElem?_eq_getElem hi,e]);unfold feeE at this;split at this
 ·cases this
 ·split at this
  ·assumption
  ·cases this
structure ChIn (p:Plan) (c:Charge):Prop where
 ix:∃i,meterIx p.meters c.meter=some i
 win:winIn p c.win=true
 block:c.block≠0
 few:c.tiers.length≤8
 rises:risesB 0 c.tiers=true
 adjs:c.adjusts.length≤6
theorem chE_in {p:Plan} {i:Nat} {c:Charge} (h:chE p i c=0):ChIn p c:=by
 unfold chE at h;split at h
 ·cases h
 ·split at h
  ·cases h
  ·rename_i hn
   split at h
   ·cases h
   ·split at h
    ·cases h
    ·split at h
     ·cases h
     ·rename_i h1 h2 h3
      refine ⟨?_,?_,?_,by omega,by simpa using h2,by omega⟩
      ·cases e:meterIx p.meters c.meter with
       | some i=>exact ⟨i,rfl⟩
       | none=>exact absurd (Or.inl e) hn
      ·rcases Bool.eq_false_or_eq_true (winIn p c.win) with e|e
       ·exact e
       ·exact absurd (Or.inr (Or.inl e)) hn
      ·intro e;exact hn (Or.inr (Or.inr e))
theorem in_chE {p:Plan} {i:Nat} {c:Charge} (hi:i<8) (h:ChIn p c):chE p i c=0:=by
 obtain ⟨j,hj⟩:=h.ix;unfold chE
 rw [if_neg (by omega),if_neg (by
  rintro (e|e|e)
  ·rw [hj] at e;cases e
  ·rw [h.win] at e;cases e
  ·exact h.block e),if_neg (by have:=h.few;omega),if_neg (by rw [h.rises];simp),if_neg (by have:=h.adjs;omega)]
theorem charge_in {p:Plan} (h:(wrongOf p).1=0) {c:Charge} (hc:c∈p.charges):ChIn p c:=by
 have hm:=(wrongOf_zero.1 h).2.2.2.1;rw [firstE_none] at hm;obtain ⟨i,hi,e⟩:=List.getElem_of_mem hc;exact chE_in (hm i c (by rw [List.getElem?_eq_getElem hi,e]))
def maxAt (ms:List Meter) (n:ByteArray):Option Int:=(meterIx ms n).map fun i=>(ms.getD i default).max
theorem mosts_eq {ms ns:List Meter} (h:∀n,maxAt ms n=maxAt ns n):∀cs:List Charge,mosts ms cs=mosts ns cs
 | []=>rfl
 | c::r=>by
   have hc:=h c.meter;unfold maxAt at hc;unfold mosts;rw [mosts_eq h r];cases e:meterIx ms c.meter with
   | none=>
     rw [e] at hc;cases e2:meterIx ns c.meter with
     | none=>rfl
     | some j=>rw [e2] at hc;cases hc
   | some i=>
     rw [e] at hc;cases e2:meterIx ns c.meter with
     | none=>rw [e2] at hc;cases hc
     | some j=>
       rw [e2] at hc;have:(ms.getD i default).max=(ns.getD j default).max:=Option.some.inj hc;show (mostOf c (ms.getD i default).max).bind _=(mostOf c (ns.getD j default).max).bind _
       rw [this]
def fillW (p:Plan) (w:Win):Win:=if w.has then w else ⟨true,p.a,p.b⟩
def fillF (p:Plan) (f:Fee):Fee:={ f with win:=fillW p f.win }
def fillC (p:Plan) (c:Charge):Charge:={ c with win:=fillW p c.win }
def fillP (p:Plan):Plan:={ p with fees:=p.fees.map (fillF p),charges:=p.charges.map (fillC p) }
theorem fill_ok {p:Plan} (g:Gd p) {w:Win} (h:WinOk w):WinOk (fillW p w):=by
 unfold fillW;split
 ·exact h
 ·exact Or.inl ⟨rfl,g.days⟩
theorem gd_fill {p:Plan} (g:Gd p):Gd (fillP p):=
 ⟨g.name,g.days,g.meters,fun f hf=>by
  obtain ⟨x,hx,rfl⟩:=List.mem_map.1 hf;exact ⟨(g.fees x hx).1,fill_ok g (g.fees x hx).2⟩,fun c hc=>by
  obtain ⟨x,hx,rfl⟩:=List.mem_map.1 hc;have k:=g.charges x hx
  exact ⟨k.meter,fill_ok g k.win,k.allow,k.block,k.kind,k.tiers,k.mode,k.adjs⟩⟩
theorem fill_in {p:Plan} (h:headE p=0) {w:Win} (hw:winIn p w=true):winIn (fillP p) (fillW p w)=true:=by
 have k:=hor_of h;unfold fillW;split
 ·exact hw
 ·unfold winIn;show (!true||(decide (dn p.a≤dn p.b)&&decide (dn p.a≤dn p.a)&&decide (dn p.b≤dn p.b)))=true
  rw [decide_eq_true k.1,decide_eq_true (Int.le_refl _),decide_eq_true (Int.le_refl _)];rfl
theorem mosts_fill (p:Plan) (ms:List Meter):∀cs:List Charge,mosts ms (cs.map (fillC p))=mosts ms cs
 | []=>rfl
 | c::r=>by
   have e:mosts ms ((c::r).map (fillC p))=match meterIx ms c.meter with
    | none=>mosts ms (r.map (fillC p))
    | some i=>(mostOf c (ms.getD i default).max).bind fun x=>(mosts ms (r.map (fillC p))).map (x::·):=rfl
   rw [e,mosts_fill p ms r];rfl
theorem wrong_fill {p:Plan} (h:(wrongOf p).1=0):(wrongOf (fillP p)).1=0:=by
 have hz:=wrongOf_zero.1 h;refine wrongOf_zero.2 ⟨hz.1,hz.2.1,?_,?_,?_⟩
 ·rw [firstE_none];intro j x hj;have hj':(p.fees.map (fillF p))[j]?=some x:=hj;rw [List.getElem?_map] at hj';obtain ⟨f,hf,rfl⟩:=Option.map_eq_some_iff.1 hj';have l1:=(List.getElem?_eq_some_iff.1 hf).1;have l2:=fees_few h;unfold feeE;rw [if_neg (by omega),if_pos];exact fill_in hz.1 (fee_in h (List.mem_of_getElem? hf))
 ·rw [firstE_none];intro j x hj;have hj':(p.charges.map (fillC p))[j]?=some x:=hj;rw [List.getElem?_map] at hj';obtain ⟨f,hf,rfl⟩:=Option.map_eq_some_iff.1 hj';have l1:=(List.getElem?_eq_some_iff.1 hf).1;have l2:=charges_few h;have k:=charge_in h (List.mem_of_getElem? hf);exact in_chE (by omega) ⟨k.ix,fill_in hz.1 k.win,k.block,k.few,k.rises,k.adjs⟩
 ·have e:(p.fees.map (fillF p)).map (·.amount)=p.fees.map (·.amount):=by
   rw [List.map_map];rfl
  show ((mosts p.meters (p.charges.map (fillC p))).bind fun l=>sumUp 0 ((p.fees.map (fillF p)).map (·.amount)++l))≠none
  rw [mosts_fill,e];exact hz.2.2.2.2
theorem fillA (p:Plan) (w:Win):winA p (fillW p w)=winA p w∧winB p (fillW p w)=winB p w:=by
 unfold fillW winA winB;cases e:w.has<;>simp [e]
theorem core_fill (p:Plan):coreOf (fillP p)=coreOf p:=by
 have e1:∀f,sumOf (fillP p) (fillF p f)=sumOf p f:=fun f=>by
  have:=fillA p f.win;show Mm.Sm.mk f.amount (winA p (fillW p f.win)) (winB p (fillW p f.win))=_
  rw [this.1,this.2];rfl
 have e2:∀c,partOf (fillP p) (fillC p c)=partOf p c:=fun c=>by
  have:=fillA p c.win;show Prt.mk ((meterIx (srt p.meters) c.meter).getD 0:Nat) (winA p (fillW p c.win)) (winB p (fillW p c.win)) c.allowance c.block c.kind c.tiers c.mode c.adjusts=_
  rw [this.1,this.2];rfl
 show Cor.mk p.cur (dn p.a) (dn p.b) (srt p.meters) ((p.fees.map (fillF p)).map (sumOf (fillP p))) ((p.charges.map (fillC p)).map (partOf (fillP p)))=_
 rw [List.map_map,List.map_map];unfold coreOf;congr 1
 ·exact List.map_congr_left fun c _=>e1 c
 ·exact List.map_congr_left fun c _=>e2 c
end P
end Go.Proofs.YtofbobdhkbmbgaaGreatDoor
