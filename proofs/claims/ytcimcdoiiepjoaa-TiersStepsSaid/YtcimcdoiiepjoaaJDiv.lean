/- What the laws of layer 11 (tiers) ask ahead: whether a part can be; what the document tells. -/
import Derived.Test.YtcimcdoiiepjoaaJRef11
import Derived.RangeFuncNested
import Derived.RangeFuncBound
import Derived.RangeFuncCalls
import Derived.RangeFuncLeaves
import Derived.RangeFuncBox
import Derived.Shelf.Abstract
import Derived.Shelf.RegionOpen
import Derived.WalkKit
import Derived.OwnWalkIn
import Derived.TacticsInMore
import Derived.LoopNIn
import Derived.LoopIn
import Derived.Maps.AppendAt
import Derived.Test.YtcimcdoiiepjoaaJPureS
import Derived.Test.YtcimcdoiiepjoaaRows
import Derived.ProofKit
import Derived.BigQuiet
import Derived.Deep.QuietTactic
import Derived.Lib.Strings
import Derived.Lib.Small
import Derived.Lib.Walk
import Derived.Lib.BitFns
import Derived.Deep.CutBlock
import Derived.Deep.CutRange
import Derived.Deep.DeepCutAuto
import Derived.Deep.LoopGhost
set_option maxRecDepth 100000
set_option maxHeartbeats 8000000
namespace Go.Proofs.Ytcimcdoiiepjoaa
namespace P
end P
namespace Mm
end Mm
namespace Md
end Md
namespace R6
end R6
namespace Te
end Te
namespace Co
end Co
namespace R10
end R10
namespace R11
end R11
namespace L11
open Go.RowKit Go.Sort P Mm Md R6 Te Co R10 R11
theorem row_box {α:Type} {n:Nat} {cells:α→List Value} {ok:α→Prop} {hn:∀x,(cells x).length=n} {W:World} {k:Nat} {xs:List α} (X:Box W k (xs.flatMap cells)) (hok:∀x∈xs,ok x) (hl:xs.length≤1000) :
  Row (leaf n cells ok hn) W (some ⟨k,0,none⟩) xs.length xs.length xs:=
 ⟨rfl,Nat.le_refl _,by omega,fun _=>⟨k,0,rfl,X.lt,fun j x hj=>⟨cells x,⟨rfl,hok x (List.mem_of_getElem? hj)⟩,fun i v hi=>by
  have:=X.cell (j*n+i) v (flat_get hn xs j x i v hj hi)
  show W.cell? ⟨k,0+j*n+i,none⟩=some v
  rw [Nat.zero_add]
  exact this⟩⟩⟩
structure Ti:Prop where
 micro:∀(x:Prt) (ta:Option Addr) (tc:Nat) (aa:Option Addr) (ac:Nat) (q:Int) (w:World),Row tTier w ta x.tiers.length tc x.tiers→I64 q→GoodT x→
  Calls Try.prog 14 #[.agg #[.int .i64 x.mt,.int .i64 x.a,.int .i64 x.b,.int .i64 x.allowance,.int .i64 x.block,.int .i64 x.kind,.slice ta x.tiers.length tc,.int .i64 x.mode,.slice aa x.adjusts.length ac],.int .i64 q] w fun e w'=>e=.returned (.tuple #[.int .i64 (oV (microO x q)),.bool (oB (microO x q))])∧Below w.heap.size w w'
 charge:∀(x:Prt) (ta:Option Addr) (tc:Nat) (aa:Option Addr) (ac:Nat) (q:Int) (w:World),Row tTier w ta x.tiers.length tc x.tiers→I64 q→GoodT x→
  Calls Try.prog 12 #[.agg #[.int .i64 x.mt,.int .i64 x.a,.int .i64 x.b,.int .i64 x.allowance,.int .i64 x.block,.int .i64 x.kind,.slice ta x.tiers.length tc,.int .i64 x.mode,.slice aa x.adjusts.length ac],.int .i64 q] w fun e w'=>e=.returned (.tuple #[.int .i64 (oV (chargeO x q)),.bool (oB (chargeO x q))])∧Below w.heap.size w w'
def core0:Cor:=⟨⟨#[]⟩,0,0,[⟨⟨#[]⟩,⟨#[]⟩,0,0,0⟩],[],[]⟩
def bare (x:Prt):Prt:=⟨0,0,0,x.allowance,x.block,x.kind,x.tiers,x.mode,x.adjusts⟩
def goodX (x:Prt):Bool:=partB core0 (bare x)
theorem goodX_t {x:Prt} (h:goodX x=true):GoodT x∧x.adjusts.all adjB=true:=by
 unfold goodX partB tierRow bare at h
 simp only [Bool.and_eq_true,inB_iff,decide_eq_true_eq] at h
 obtain ⟨_,_,h1,h2,h3,h4,⟨h5,h6⟩,h7,h8⟩:=h
 exact ⟨⟨h1,h2,by omega,h4,by omega,h6,h7⟩,h8⟩
theorem goodX_len {x:Prt} (h:40<x.tiers.length∨40<x.adjusts.length):goodX x=false:=by
 rcases Bool.eq_false_or_eq_true (goodX x) with k|k
 ·have g:=(goodX_t k).1
  have h1:=g.len
  have h2:=g.adjs
  omega
 ·exact k
theorem good_any (x:Prt) (ta:Option Addr) (tc:Nat) (aa:Option Addr) (ac:Nat) (w:World) (ht:Row tTier w ta x.tiers.length tc x.tiers) (ha:Row tAdj w aa x.adjusts.length ac x.adjusts) :
  Calls Try.prog 9 #[.agg #[.int .i64 x.mt,.int .i64 x.a,.int .i64 x.b,.int .i64 x.allowance,.int .i64 x.block,.int .i64 x.kind,.slice ta x.tiers.length tc,.int .i64 x.mode,.slice aa x.adjusts.length ac]] w fun e w'=>e=.returned (.bool (goodX x))∧Below w.heap.size w w':=by
 obtain ⟨w1,hw1⟩:∃W,W=w.alloc (.cells ([.int .i64 x.mt,.int .i64 x.a,.int .i64 x.b,.int .i64 x.allowance,.int .i64 x.block,.int .i64 x.kind,.slice ta x.tiers.length tc,.int .i64 x.mode,.slice aa x.adjusts.length ac]:List Value).toArray 25):=⟨_,rfl⟩
 obtain ⟨k1,hk1⟩:∃k,k=w.heap.size:=⟨_,rfl⟩
 have b1:Below w.heap.size w w1:=by rw [hw1];exact bel_alloc _ _
 have X1:Box w1 k1 [.int .i64 x.mt,.int .i64 x.a,.int .i64 x.b,.int .i64 x.allowance,.int .i64 x.block,.int .i64 x.kind,.slice ta x.tiers.length tc,.int .i64 x.mode,.slice aa x.adjusts.length ac]:=by rw [hw1,hk1];exact Box.new w _ 25
 obtain ⟨w2,hw2⟩:∃W,W=((w1.setCell ⟨k1,0,none⟩ (.int .i64 0)).setCell ⟨k1,1,none⟩ (.int .i64 0)).setCell ⟨k1,2,none⟩ (.int .i64 0):=⟨_,rfl⟩
 have X2:Box w2 k1 [.int .i64 0,.int .i64 0,.int .i64 0,.int .i64 x.allowance,.int .i64 x.block,.int .i64 x.kind,.slice ta x.tiers.length tc,.int .i64 x.mode,.slice aa x.adjusts.length ac]:=by
  rw [hw2]
  exact ((X1.set 0 (.int .i64 0)).set 1 (.int .i64 0)).set 2 (.int .i64 0)
 have hk0:w.heap.size≤k1:=by omega
 have b2:Below w.heap.size w w2:=by rw [hw2];exact ((b1.setCell (p:=⟨k1,0,none⟩) hk0 _).setCell (p:=⟨k1,1,none⟩) hk0 _).setCell (p:=⟨k1,2,none⟩) hk0 _
 obtain ⟨w3,hw3⟩:∃W,W=w2.alloc (.cells ([.string ⟨#[]⟩,.string ⟨#[]⟩,.int .i64 0,.int .i64 0,.int .i64 0]:List Value).toArray 44):=⟨_,rfl⟩
 obtain ⟨k3,hk3⟩:∃k,k=w2.heap.size:=⟨_,rfl⟩
 have b23:Below w2.heap.size w2 w3:=by rw [hw3];exact bel_alloc _ _
 have b3:Below w.heap.size w w3:=bel_on b2 b23
 have c6:=X1.cell 6 _ rfl
 have c8:=X1.cell 8 _ rfl
 have c0:=X1.cell 0 _ rfl
 have c1:=X1.cell 1 _ rfl
 have c2:=X1.cell 2 _ rfl
 have f0:=X1.free 0
 have f1:=X1.free 1
 have f2:=X1.free 2
 have l1:=X1.lt
 have tm:=ht.hmax
 have am:=ha.hmax
 have HW:=hid hw1
 have HK:=hid hk1
 have B1:=hid b1
 have HX:=hid X1
 obtain ⟨R,hR⟩:∃R,R=goodX x:=⟨_,rfl⟩
 rw [←hR]
 have HR:=hid hR
 by_cases t40:40<x.tiers.length
 ·have z1:decide ((40:Int)<(x.tiers.length:Int))=true:=decide_eq_true (by omega)
  have HF:Hid (R=false):=hid (by rw [hR];exact goodX_len (.inl t40))
  clear hw1 hk1 hw2 hw3 hk3 X2 b1 b2 b23 b3 X1 ht ha hR HR hk0
  go_enter Try.func9,Try.ntmps9
  go_upto_region 1 with fail
  rw [←HW.out,←HK.out]
  go_wp2
  go_ret
  exact rbb HF.out.symm B1.out
 have z1:decide ((40:Int)<(x.tiers.length:Int))=false:=decide_eq_false (by omega)
 by_cases a40:40<x.adjusts.length
 ·have z2:decide ((40:Int)<(x.adjusts.length:Int))=true:=decide_eq_true (by omega)
  have HF:Hid (R=false):=hid (by rw [hR];exact goodX_len (.inr a40))
  clear hw1 hk1 hw2 hw3 hk3 X2 b1 b2 b23 b3 X1 ht ha hR HR hk0
  go_enter Try.func9,Try.ntmps9
  go_upto_region 1 with fail
  rw [←HW.out,←HK.out]
  go_wp2
  go_ret
  exact rbb HF.out.symm B1.out
 have z2:decide ((40:Int)<(x.adjusts.length:Int))=false:=decide_eq_false (by omega)
 have cP:=part_any core0 (bare x) (some ⟨k3,0,none⟩) 1 none 0 none 0 ta tc aa ac w3 (ht.on b3) (ha.on b3)
 rw [show partB core0 (bare x)=R by rw [hR];rfl] at cP
 have cP:=hid cP
 have l2:=X2.lt
 have d0:=X2.cell 0 _ rfl
 have d1:=X2.cell 1 _ rfl
 have d2:=X2.cell 2 _ rfl
 have d3:=X2.cell 3 _ rfl
 have d4:=X2.cell 4 _ rfl
 have d5:=X2.cell 5 _ rfl
 have d6:=X2.cell 6 _ rfl
 have d7:=X2.cell 7 _ rfl
 have d8:=X2.cell 8 _ rfl
 have HW2:=hid hw2
 have HW3:=hid hw3
 have HK3:=hid hk3
 have B3:=hid b3
 clear hw1 hk1 hw2 hw3 hk3 X2 b1 b2 b23 b3 X1 ht ha hR HR hk0
 go_enter Try.func9,Try.ntmps9
 go_upto_region 1 with fail
 rw [←HW.out,←HK.out]
 go_upto_region 6 with fail
 rw [←HW2.out]
 go_wp2_with fail
 rw [←HW3.out,←HK3.out]
 refine cP.out.mono ?_
 rintro e w4 ⟨rfl,b4⟩
 have BF:=hid (bel_on B3.out b4)
 clear b4 cP
 go_wp2
 go_ret
 exact rbb rfl BF.out
theorem alive_any (T:Ti) (w:World):Calls Try.prog 8 #[] w fun e w'=>e=.returned (.bool true)∧Below w.heap.size w w':=by
 obtain ⟨x,hx⟩:∃x:Prt,x=⟨0,0,0,0,1,1,[⟨10,2000000⟩,⟨0,1000000⟩],0,[]⟩:=⟨_,rfl⟩
 obtain ⟨y,hy⟩:∃y:Prt,y=⟨0,0,0,0,1,2,[⟨10,2000000⟩,⟨0,1000000⟩],0,[]⟩:=⟨_,rfl⟩
 have gx:GoodT x:=(goodX_t (by rw [hx];decide +kernel)).1
 have gy:GoodT y:=(goodX_t (by rw [hy];decide +kernel)).1
 have ox:chargeO x 15=some 25:=by rw [hx];decide +kernel
 have oy:chargeO y 15=some 15:=by rw [hy];decide +kernel
 obtain ⟨w1,hw1⟩:∃W,W=w.alloc (.cells ([.int .i64 10,.int .i64 2000000,.int .i64 0,.int .i64 1000000]:List Value).toArray 39):=⟨_,rfl⟩
 obtain ⟨k1,hk1⟩:∃k,k=w.heap.size:=⟨_,rfl⟩
 have b1:Below w.heap.size w w1:=by rw [hw1];exact bel_alloc _ _
 have X1:Box w1 k1 [.int .i64 10,.int .i64 2000000,.int .i64 0,.int .i64 1000000]:=by rw [hw1,hk1];exact Box.new w _ 39
 obtain ⟨w2,hw2⟩:∃W,W=w1.alloc (.cells ([.int .i64 0,.int .i64 0,.int .i64 0,.int .i64 0,.int .i64 1,.int .i64 1,.slice (some ⟨k1,0,none⟩) 2 2,.int .i64 0,.slice none 0 0]:List Value).toArray 25):=⟨_,rfl⟩
 obtain ⟨k2,hk2⟩:∃k,k=w1.heap.size:=⟨_,rfl⟩
 have b12:Below w1.heap.size w1 w2:=by rw [hw2];exact bel_alloc _ _
 have X2:Box w2 k2 [.int .i64 0,.int .i64 0,.int .i64 0,.int .i64 0,.int .i64 1,.int .i64 1,.slice (some ⟨k1,0,none⟩) 2 2,.int .i64 0,.slice none 0 0]:=by rw [hw2,hk2];exact Box.new w1 _ 25
 have lie:Hid (∀W:World,Below w1.heap.size w1 W→Row tTier W (some ⟨k1,0,none⟩) 2 2 [⟨10,2000000⟩,⟨0,1000000⟩]):=hid fun W b=>by
  have:=row_box (α:=Tier) (n:=2) (cells:=tierC) (ok:=fun t=>I64 t.upto∧I64 t.rate) (hn:=fun _=>rfl) (W:=W) (k:=k1) (xs:=[⟨10,2000000⟩,⟨0,1000000⟩]) (X1.on b) (by
   intro t ht
   simp only [List.mem_cons,List.not_mem_nil,or_false] at ht
   rcases ht with rfl|rfl<;>(unfold I64;decide)) (by decide)
  exact this
 have c1:=hid (fun (W:World) (b:Below w1.heap.size w1 W)=>show Calls Try.prog 12 #[.agg #[.int .i64 0,.int .i64 0,.int .i64 0,.int .i64 0,.int .i64 1,.int .i64 1,.slice (some ⟨k1,0,none⟩) 2 2,.int .i64 0,.slice none 0 0],.int .i64 15] W fun e w'=>e=.returned (.tuple #[.int .i64 25,.bool true])∧Below W.heap.size W w' by
  have:=T.charge x (some ⟨k1,0,none⟩) 2 none 0 15 W (by rw [hx];exact lie.out W b) (by unfold I64;omega) gx
  rw [ox] at this
  rw [hx] at this
  exact this)
 have c2:=hid (fun (W:World) (b:Below w1.heap.size w1 W)=>show Calls Try.prog 12 #[.agg #[.int .i64 0,.int .i64 0,.int .i64 0,.int .i64 0,.int .i64 1,.int .i64 2,.slice (some ⟨k1,0,none⟩) 2 2,.int .i64 0,.slice none 0 0],.int .i64 15] W fun e w'=>e=.returned (.tuple #[.int .i64 15,.bool true])∧Below W.heap.size W w' by
  have:=T.charge y (some ⟨k1,0,none⟩) 2 none 0 15 W (by rw [hy];exact lie.out W b) (by unfold I64;omega) gy
  rw [oy] at this
  rw [hy] at this
  exact this)
 have HW:=hid (show w2=(w.alloc (.cells #[.int .i64 10,.int .i64 2000000,.int .i64 0,.int .i64 1000000] 39)).alloc (.cells #[.int .i64 0,.int .i64 0,.int .i64 0,.int .i64 0,.int .i64 1,.int .i64 1,.slice (some ⟨w.heap.size,0,none⟩) 2 2,.int .i64 0,.slice none 0 0] 25) by rw [hw2,hw1,hk1])
 have HK1:=hid hk1
 have HK2:=hid (show k2=w.heap.size+1 by rw [hk2,hw1];simp)
 have HX:=hid X2
 have B1:=hid b1
 have B12:=hid b12
 have HK3:=hid (show w1.heap.size≤k2 by omega)
 have hk2':w.heap.size≤k2:=by rw [HK2.out];omega
 have HKK:=hid hk2'
 have d0:=X2.cell 0 _ rfl
 have d1:=X2.cell 1 _ rfl
 have d2:=X2.cell 2 _ rfl
 have d3:=X2.cell 3 _ rfl
 have d4:=X2.cell 4 _ rfl
 have d5:=X2.cell 5 _ rfl
 have d6:=X2.cell 6 _ rfl
 have d7:=X2.cell 7 _ rfl
 have d8:=X2.cell 8 _ rfl
 clear hw1 hk1 b1 X1 hw2 hk2 b12 X2 hx hy gx gy ox oy lie hk2'
 go_enter Try.func8,Try.ntmps8
 go_upto_region 2 with fail
 rw [←HW.out,←HK2.out,←HK1.out]
 go_wp2_with fail
 refine (c1.out _ B12.out).mono ?_
 rintro e w3 ⟨rfl,b3⟩
 obtain ⟨w4,hw4⟩:∃W,W=w3.setCell ⟨k2,5,none⟩ (.int .i64 2):=⟨_,rfl⟩
 have X3:=HX.out.on b3
 have X4:Box w4 k2 [.int .i64 0,.int .i64 0,.int .i64 0,.int .i64 0,.int .i64 1,.int .i64 2,.slice (some ⟨k1,0,none⟩) 2 2,.int .i64 0,.slice none 0 0]:=by rw [hw4];exact X3.set 5 (.int .i64 2)
 have B4:Below w1.heap.size w1 w4:=by rw [hw4];exact (bel_on B12.out b3).setCell (p:=⟨k2,5,none⟩) HK3.out _
 have B4:=hid B4
 have d5:=X3.cell 5 _ rfl
 have f5:=X3.free 5
 have l3:=X3.lt
 have HW4:=hid hw4
 have HX4:=hid X4
 clear hw4 X3 X4 b3 d0 d1 d2 d3 d4 d6 d7 d8 c1
 go_upto_region 4 with fail
 rw [←HW4.out]
 clear HW4 d5 f5 l3
 have d0:=HX4.out.cell 0 _ rfl
 have d1:=HX4.out.cell 1 _ rfl
 have d2:=HX4.out.cell 2 _ rfl
 have d3:=HX4.out.cell 3 _ rfl
 have d4:=HX4.out.cell 4 _ rfl
 have d5:=HX4.out.cell 5 _ rfl
 have d6:=HX4.out.cell 6 _ rfl
 have d7:=HX4.out.cell 7 _ rfl
 have d8:=HX4.out.cell 8 _ rfl
 have l4:=HX4.out.lt
 go_wp2_with fail
 refine (c2.out _ B4.out).mono ?_
 rintro e w5 ⟨rfl,b5⟩
 have B5:=hid (bel_on B1.out (bel_on B4.out b5))
 clear b5 c2 d0 d1 d2 d3 d4 d5 d6 d7 d8
 go_wp2
 go_ret
 exact ⟨rfl,B5.out⟩
attribute [local go_sem] Oper.semAt_some
def KeepD (a b:Nat) (ta:Option Addr) (A B:World):Prop:=∀j,((a≤j∧j<b)∨(∃ad:Addr,ta=some ad∧j=ad.block))→B.heap[j]?=A.heap[j]?
def encS (s:Stp):Array Value:=#[.agg #[.int .i64 s.a,.int .i64 s.b,.int .i64 s.r]]
structure St:Prop where
 steps:∀(x:Prt) (ta:Option Addr) (tc:Nat) (aa:Option Addr) (ac:Nat) (q:Int) (w:World),Row tTier w ta x.tiers.length tc x.tiers→I64 q→GoodT x→
  Calls Try.prog 16 #[.agg #[.int .i64 x.mt,.int .i64 x.a,.int .i64 x.b,.int .i64 x.allowance,.int .i64 x.block,.int .i64 x.kind,.slice ta x.tiers.length tc,.int .i64 x.mode,.slice aa x.adjusts.length ac],.int .i64 q] w fun e w'=>Below w.heap.size w w'∧∃(gf:Nat) (lb:Array Value),e=.returned (.func (.func gf) #[] lb)∧(∀args W,(callFunc gf args).run Try.prog W=.ok (.enter gf args) W)∧
   ∀(n:Nat),1≤n→∀Kp:World→World→Prop,(∀A B,Kp A B→KeepD w.heap.size w'.heap.size ta A B)→SeqStopsK Fence.wide n Try.prog gf lb encS Kp (fun ys=>ys=stepsP x q) (fun pre=>pre <+: stepsP x q) (stepsP x q).length w'
def goneL (x:Prt) (q most:Int):List Stp:=(stepsP x q).take (max most 0).toNat
theorem info_tstep:(Try.prog.info? 33).map (fun i=>(i.zero,i.size,i.bytes))=some (some (.agg #[.int .i64 0,.int .i64 0,.int .i64 0]),3,24):=by kernel_rfl
def Cells (W:World) (B:Nat) (t:TypeId) (cs:List Value):Prop:=W.heap[B]?=some (.cells cs.toArray t (0,0))
theorem Cells.lt {W:World} {B:Nat} {t:TypeId} {cs:List Value} (h:Cells W B t cs):B<W.heap.size:=(Array.getElem?_eq_some_iff.1 h).1
theorem Cells.cell {W:World} {B:Nat} {t:TypeId} {cs:List Value} (h:Cells W B t cs) (i:Nat):W.cell? ⟨B,i,none⟩=cs[i]?:=by simp [World.cell?,show W.heap[B]?=_ from h]
theorem Cells.kept {W W':World} {row:Option Nat} {B:Nat} {t:TypeId} {cs:List Value} (h:Cells W B t cs) (hg:W.grownBy W' row) (hne:some B≠row):Cells W' B t cs:=(hg.block B h.lt hne).trans h
theorem cells_own {β:Type} (B:Nat) (t:TypeId) (cs:List Value) (n:Nat):OwnFrom n (fun (_:β) W=>Cells W B t cs):=fun _ X _ _ hs hg hr=>
 Cells.kept hs hg (fun e'=>by obtain ⟨_,o,ho,hc⟩:=hr B e'.symm;rw [show X.heap[B]?=_ from hs] at ho;cases ho;cases hc)
structure GI (w:World) (n0 KM KO:Nat) (most:Int) (pre:List Stp) (W:World):Prop where
 out:∃v,Boxed W KO 28 v∧W.ownsRow n0 33 3 v pre.length (pre.flatMap stC)∧True
 mst:Boxed W KM 3 (.int .i64 most)
 few:(pre.length:Int)≤max most 0
 bel:Below w.heap.size w W
 size:n0≤W.heap.size
theorem gi_own {w:World} {n0 KM KO:Nat} {most:Int} {B:Nat} (hB:w.heap.size≤B):OwnFrom B (GI w n0 KM KO most):=by
 intro pre A C row h hg hr
 have o1:=(Own.from (holdsRow_own n0 KO 28 33 3 (fun pre:List Stp=>pre.length) (fun pre=>pre.flatMap stC) (fun _ _=>True)) B) pre A C row h.out hg hr
 have o2:=(Own.from (boxed_own (β:=Unit) KM 3 (fun _=>.int .i64 most)) B) () A C row h.mst hg hr
 have o3:=(ownFrom_below (β:=Unit) (w₀:=w) (Nat.le_refl w.heap.size) hB) () A C row h.bel hg hr
 exact ⟨o1,o2,h.few,o3,Nat.le_trans h.size hg.size⟩
theorem appended2 {W w1:World} {n₀ m B:Nat} {t e:TypeId} {size:Nat} {v v':Value} {k k':Nat} {xs ys:List Value} {tmp:Obj}
  (hv:Boxed W B t v) (hte:t≠e) (hrow:W.ownsRow n₀ e size v k xs) (hn₀:n₀≤W.heap.size) (hm:m≤B) (hmn:m≤n₀)
  (hown':w1.ownsRow n₀ e size v' k' ys) (hgrow:(W.alloc tmp).grownBy w1 v.ownBlock) :
  Boxed w1 B t v∧Boxed (w1.setCell ⟨B,0,none⟩ v') B t v'∧(w1.setCell ⟨B,0,none⟩ v').ownsRow n₀ e size v' k' ys∧KeepsOthers W (w1.setCell ⟨B,0,none⟩ v')∧Below m W (w1.setCell ⟨B,0,none⟩ v')∧
   (∀j,j<n₀→j≠B→(w1.setCell ⟨B,0,none⟩ v').heap[j]?=W.heap[j]?)∧(∀B2 t2 u2,Boxed W B2 t2 u2→B2≠B→t2≠e→Boxed (w1.setCell ⟨B,0,none⟩ v') B2 t2 u2)∧W.heap.size≤(w1.setCell ⟨B,0,none⟩ v').heap.size:=by
 have hv1:Boxed w1 B t v:=(hv.alloc tmp).kept hgrow (hv.not_row hte hrow)
 have own:∀j,v.ownBlock=some j→n₀≤j:=fun j ej=>by
  rcases hrow.2 with ⟨rfl,_⟩|⟨g,cap,cur,rfl,hb,_,_⟩
  ·simp [Value.ownBlock] at ej
  ·obtain rfl:g=j:=by simpa [Value.ownBlock] using ej
   exact hb
 have sz:W.heap.size≤(w1.setCell ⟨B,0,none⟩ v').heap.size:=by
  have h1:=hgrow.size
  simp at h1 ⊢
  omega
 refine ⟨hv1,hv1.set v',hown'.kept (grownBy_setCell' w1 B v') (.inr (hv1.not_row hte hown').symm),?_,?_,?_,?_,sz⟩
 ·refine ((KeepsOthers.alloc W tmp).trans (KeepsOthers.of_grownBy hgrow fun j o ej hj=>?_)).trans (KeepsOthers.setCell _ _ _)
  rcases (hrow.alloc tmp).2 with ⟨rfl,_⟩|⟨g,cap,cur,rfl,_,hgb,_⟩
  ·simp [Value.ownBlock] at ej
  ·obtain rfl:g=j:=by simpa [Value.ownBlock] using ej
   rw [hgb] at hj;cases hj;rfl
 ·exact (((Below.refl m W).alloc (Nat.le_trans hmn hn₀) tmp).grown hgrow (by simp;omega) fun j ej=>Nat.le_trans hmn (own j ej)).setCell (p:=⟨B,0,none⟩) hm v'
 ·intro j hj hne
  rw [Below.heap_setCell w1 ⟨B,0,none⟩ v' j hne,hgrow.block j (by simp;omega) (fun e=>by have:=own j e.symm;omega)]
  exact Below.heap_alloc W tmp j (by omega)
 ·intro B2 t2 u2 h2 hne hte2
  exact ((h2.alloc tmp).kept hgrow (h2.not_row hte2 hrow)).other hne v'
theorem gone_any (S:St) (x:Prt) (ta:Option Addr) (tc:Nat) (aa:Option Addr) (ac:Nat) (q most:Int) (w:World) (ht:Row tTier w ta x.tiers.length tc x.tiers) (hq:I64 q) (g:GoodT x) :
  Calls Try.prog 10 #[.agg #[.int .i64 x.mt,.int .i64 x.a,.int .i64 x.b,.int .i64 x.allowance,.int .i64 x.block,.int .i64 x.kind,.slice ta x.tiers.length tc,.int .i64 x.mode,.slice aa x.adjusts.length ac],.int .i64 q,.int .i64 most] w fun e w'=>(∃ao cap,e=.returned (.slice ao (goneL x q most).length cap)∧Row tStp w' ao (goneL x q most).length cap (goneL x q most))∧Below w.heap.size w w':=by
 refine (callsIn_wide (n:=5)).1 ?_
 have hro:Fence.wide.round=none:=rfl
 obtain ⟨w1,hw1⟩:∃W,W=((w.alloc (.cells ([.int .i64 x.mt,.int .i64 x.a,.int .i64 x.b,.int .i64 x.allowance,.int .i64 x.block,.int .i64 x.kind,.slice ta x.tiers.length tc,.int .i64 x.mode,.slice aa x.adjusts.length ac]:List Value).toArray 25)).alloc (.cells #[.int .i64 most] 3)).alloc (.cells #[.slice none 0 0] 28):=⟨_,rfl⟩
 have cS:=fun W (h:Row tTier W ta x.tiers.length tc x.tiers)=>S.steps x ta tc aa ac q W h hq g
 have CS:=hid cS
 obtain ⟨KM,hKM⟩:∃k,k=w.heap.size+1:=⟨_,rfl⟩
 obtain ⟨KO,hKO⟩:∃k,k=w.heap.size+1+1:=⟨_,rfl⟩
 have b1:Below w.heap.size w w1:=by rw [hw1];exact (((Below.refl _ w).alloc (Nat.le_refl _) _).alloc (by simp) _).alloc (by simp;omega) _
 have z1:w1.heap.size=w.heap.size+3:=by rw [hw1];simp
 have bM1:Boxed w1 KM 3 (.int .i64 most):=by
  rw [hw1,hKM]
  have:=(Boxed.new (w.alloc (.cells ([.int .i64 x.mt,.int .i64 x.a,.int .i64 x.b,.int .i64 x.allowance,.int .i64 x.block,.int .i64 x.kind,.slice ta x.tiers.length tc,.int .i64 x.mode,.slice aa x.adjusts.length ac]:List Value).toArray 25)) 3 (.int .i64 most)).alloc (.cells #[.slice none 0 0] 28)
  simpa using this
 have bO1:Boxed w1 KO 28 (.slice none 0 0):=by
  rw [hw1,hKO]
  have:=Boxed.new ((w.alloc (.cells ([.int .i64 x.mt,.int .i64 x.a,.int .i64 x.b,.int .i64 x.allowance,.int .i64 x.block,.int .i64 x.kind,.slice ta x.tiers.length tc,.int .i64 x.mode,.slice aa x.adjusts.length ac]:List Value).toArray 25)).alloc (.cells #[.int .i64 most] 3)) 28 (.slice none 0 0)
  simpa using this
 have taL:∀a:Addr,ta=some a→a.block<w.heap.size:=fun a e=>by
  obtain ⟨b,o,e2,h,_⟩:=ht.lie (by intro h0;have:=g.len;rw [h0] at this;simp at this)
  rw [e] at e2
  obtain rfl:=Option.some.inj e2
  exact h
 have SL:=stepsP_len g q
 have SI:∀s∈stepsP x q,I64 s.a∧I64 s.b∧I64 s.r:=fun s hs=>by
  have:=stepsP_pos g q s hs
  unfold I64 at *
  omega
 obtain ⟨i0,hi0,hz0,hz1,hz2⟩:=info_parts info_tstep
 clear cS
 refine callsIn_of_wp_marks Try.func10 rfl trivial ?_ hro
 simp only [Try.ntmps10,List.size_toArray,List.length_cons,List.length_nil,Nat.reduceAdd,Nat.reduceSub,Array.replicate_succ,Array.replicate_zero,List.push_toArray,List.append_toArray,List.nil_append,List.cons_append]
 gi_wp2_with fail
 rw [←hw1]
 rw [←hKO,←hKM]
 refine ⟨trivial,(callsIn_wide.2 (CS.out w1 (ht.on b1))).mono ?_⟩
 rintro e w2 ⟨b2,gf,lb,rfl,hen,hseq⟩
 have bM2:Boxed w2 KM 3 (.int .i64 most):=(b2.block KM bM1.lt).trans bM1
 have bO2:Boxed w2 KO 28 (.slice none 0 0):=(b2.block KO bO1.lt).trans bO1
 have B02:Below w.heap.size w w2:=bel_on b1 b2
 have z2:w1.heap.size≤w2.heap.size:=b2.size
 obtain ⟨n0,hn0⟩:∃n,n=w2.heap.size:=⟨_,rfl⟩
 have K1:w.heap.size≤n0:=by omega
 have K2:KO<n0:=by omega
 have K3:w.heap.size≤KO:=by omega
 have K4:KM≠KO:=by omega
 have K5:w1.heap.size=KO+1:=by omega
 have K6:n0≤w2.heap.size:=by omega
 have K7:w2.heap.size≤n0:=by omega
 have KK:=hid (show w1.heap.size=KO+1 from K5)
 clear hw1 hKM hKO hn0 z1 z2 K5
 gi_wp2
 refine wpIn_rangeFunc_ownH hro (by omega:1≤5) (gf:=gf) (lb:=lb) rfl trivial hen
  (hseq 4 (by omega) (fun A B=>∀j,j<n0→j≠KO→B.heap[j]?=A.heap[j]?) (fun A B h j hj=>h j (by
   rcases hj with ⟨_,h2⟩|⟨ad,e,rfl⟩
   ·omega
   ·have:=taL ad e;omega) (by
   rcases hj with ⟨h2,_⟩|⟨ad,e,rfl⟩
   ·have:=KK.out;omega
   ·have:=taL ad e;omega)))
  (fun h k j hj hne=>(k j hj hne).trans (h j hj hne)) (fun W l o o' hl _ _ _ j hj hne=>World.putObj_heap_other (by omega)) (Below.refl _ _) (fun _=>rfl)
  (GI w n0 KM KO most)
  (fun c pre' W=>c=Code.exit 0∧∃pre s,pre'=pre++[s]∧most≤(pre.length:Int)∧GI w n0 KM KO most pre W)
  (gi_own (by omega))
  (fun c pre' A C row h hg hr=>by
   obtain ⟨h1,pre,s,h2,h3,h4⟩:=h
   exact ⟨h1,pre,s,h2,h3,gi_own (by omega) pre A C row h4 hg hr⟩)
  ⟨⟨_,bO2,World.ownsRow_nil _ _ _ _,trivial⟩,bM2,by simp;omega,B02,by omega⟩
  (fun s a' W=>∃Bx,KO<Bx∧Cells W Bx 33 [.int .i64 s.a,.int .i64 s.b,.int .i64 s.r]∧a' = { tmps:=#[.agg #[.int .i64 x.mt,.int .i64 x.a,.int .i64 x.b,.int .i64 x.allowance,.int .i64 x.block,.int .i64 x.kind,.slice ta x.tiers.length tc,.int .i64 x.mode,.slice aa x.adjusts.length ac],.int .i64 q,.int .i64 most,.pointer (some ⟨w.heap.size,0,none⟩),undef,.pointer (some ⟨KM,0,none⟩),.slice none 0 0,.pointer (some ⟨KO,0,none⟩),.pointer (some ⟨Bx,0,none⟩),.agg #[.int .i64 x.mt,.int .i64 x.a,.int .i64 x.b,.int .i64 x.allowance,.int .i64 x.block,.int .i64 x.kind,.slice ta x.tiers.length tc,.int .i64 x.mode,.slice aa x.adjusts.length ac],.int .i64 q,.func (.func gf) #[] lb,.agg #[.int .i64 s.a,.int .i64 s.b,.int .i64 s.r],undef,undef,undef,undef,undef,undef,undef,undef,undef],defers:=[] })
  (fun s a' u A C row h hg hr=>by
   obtain ⟨Bx,h1,h2,h3⟩:=h
   exact ⟨Bx,h1,cells_own Bx _ _ _ u A C row h2 hg hr,h3⟩)
  ?assign ?body ?done ?stop
 case assign=>
  intro l pre s W K hI hK
  unfold encS
  gi_wp2
  exact hK _ _ ((KeepsOthers.alloc _ _).from _) (fun j hj hne=>Below.heap_alloc W _ j (by have:=hI.size;omega)) ((gi_own (B:=W.heap.size) hI.bel.size).alloc _ hI) ⟨W.heap.size,by have:=hI.size;omega,World.alloc_heap_new W _,rfl⟩
 case body=>
  rintro l pre s a' W hl hrr hI ⟨Bx,hBx,hC,rfl⟩ hlt
  obtain ⟨v,hv,hrow,_⟩:=hI.out
  obtain ⟨ao,cap,rfl⟩:∃ao cap,v=.slice ao pre.length cap:=by
   rcases hrow.2 with ⟨h1,h2⟩|⟨g,cap,cur,h1,_⟩
   ·exact ⟨none,0,by rw [h1,h2]⟩
   ·exact ⟨_,cap,h1⟩
  have hc:=hv.cell
  have hc2:=hI.mst.cell
  have hs0:W.cell? ⟨Bx,0,none⟩=some (.int .i64 s.a):=hC.cell 0
  have hs1:W.cell? ⟨Bx,1,none⟩=some (.int .i64 s.b):=hC.cell 1
  have hs2:W.cell? ⟨Bx,2,none⟩=some (.int .i64 s.r):=hC.cell 2
  have hlB:=hC.lt
  have few:=hI.few
  by_cases hge:most≤(pre.length:Int)
  ·have z:decide (most≤(pre.length:Int))=true:=decide_eq_true hge
   have HI:=hid hI
   clear hI hv hrow hC few
   gi_wp2
   exact ⟨KeepsFrom.refl _ _,rfl,pre,s,rfl,hge,HI.out⟩
  ·have z:decide (most≤(pre.length:Int))=false:=decide_eq_false hge
   have HI:=hid hI
   have HC:=hid hC
   have hsz:=hI.size
   clear hI hC
   gi_wp2_with (gi_at_builtin;refine wpListIn_append_own _ rfl _ _ 28 rfl n0 33 i0 (.agg #[.int .i64 0,.int .i64 0,.int .i64 0]) 3 24 Try.underlying28 hi0 hz0 hz1 hz2 rfl (by decide) _ _ _ rfl (hrow.alloc _) ⟨W.heap.size,0,none⟩ 1 1 (stC s) rfl rfl (news_at W (stC s) _) (by simp [stC,Value.oneCell']) (by unfold maxLen;omega) (by omega) (by simp;omega) ?_;intro v' w1 hown' hgrow _;obtain ⟨g',cap',rfl⟩:=ownsRow_succ hown';obtain ⟨hv1,hv2,hr2,hk2,hb2,hk3,hk4,hsz2⟩:=appended2 (m:=w.heap.size) hv (by decide) hrow hsz K3 K1 hown' hgrow;have hc1:=hv1.cell;have hf1:=hv1.frozen)
   refine ⟨hk2.from _,hk3,⟨_,hv2,?_,trivial⟩,hk4 KM _ _ HI.out.mst K4 (by decide),?_,HI.out.bel.trans hb2,Nat.le_trans hsz hsz2⟩
   ·rw [List.length_append,List.flatMap_append]
    simpa using hr2
   ·rw [List.length_append]
    simp
    omega
 case done=>
  rintro D ys W hD rfl hI hK
  have few:=hI.few
  obtain ⟨v,hv,hrow,_⟩:=hI.out
  have hc:=hv.cell
  have EG:=hid (show stepsP x q=goneL x q most from (List.take_of_length_le (by omega)).symm)
  have HI:=hid hI
  clear hI few
  gi_wp2
  refine ⟨by simp,.inl ⟨_,_,rfl,run_takeDeferred hK,?_⟩⟩
  refine ⟨_,results_tmp rfl _ _ _,?_,HI.out.bel.trans (belowK_b (w:=w) (Nat.le_refl _) W D _ _ (by have:=HI.out.bel.size;omega) hK rfl rfl)⟩
  obtain ⟨ao,cap,e,R⟩:=row_own (n:=3) (cells:=stC) (ok:=fun s:Stp=>I64 s.a∧I64 s.b∧I64 s.r) (hn:=fun _=>rfl) (ownsRow_putObj hrow _ hK rfl) SI
  rw [←EG.out]
  exact ⟨ao,cap,by rw [←e];rfl,R⟩
 case stop=>
  rintro D c pre' W hD hSp hIx hK
  obtain ⟨rfl,pre,s,rfl,hge,hI⟩:=hIx
  have few:=hI.few
  obtain ⟨v,hv,hrow,_⟩:=hI.out
  have hc:=hv.cell
  have EG:=hid (show pre=goneL x q most from by
   obtain ⟨r,hr⟩:=hSp
   unfold goneL
   rw [←hr,show (max most 0).toNat=pre.length by omega,List.append_assoc,List.take_left' rfl])
  have SP:=hid (show ∀s∈pre,I64 s.a∧I64 s.b∧I64 s.r from fun z hz=>by
   obtain ⟨r,hr⟩:=hSp
   exact SI z (by rw [←hr];exact List.mem_append_left _ (List.mem_append_left _ hz)))
  have HI:=hid hI
  clear hI few hge hSp
  gi_wp2
  refine ⟨by simp,.inl ⟨_,_,rfl,run_takeDeferred hK,?_⟩⟩
  refine ⟨_,results_tmp rfl _ _ _,?_,HI.out.bel.trans (belowK_b (w:=w) (Nat.le_refl _) W D _ _ (by have:=HI.out.bel.size;omega) hK rfl rfl)⟩
  obtain ⟨ao,cap,e,R⟩:=row_own (n:=3) (cells:=stC) (ok:=fun s:Stp=>I64 s.a∧I64 s.b∧I64 s.r) (hn:=fun _=>rfl) (ownsRow_putObj hrow _ hK rfl) SP.out
  rw [←EG.out]
  exact ⟨ao,cap,by rw [←e];rfl,R⟩
end L11
namespace Bt
open Go.RowKit P
theorem mask_any {n:Int} : bits .and .u64 (IntKind.u64.wrap n) 4294967295=IntKind.u64.wrap n % 4294967296:=and32 (by rw [u64_mod];omega) (by rw [u64_mod];omega)
theorem upper_half (X Y:Int) (x0:0≤X) (x1:X<18446744073709551616) (y0:0≤Y) (y1:Y<18446744073709551616) :
  IntKind.u64.wrap (IntKind.u64.wrap (IntKind.u64.wrap (X / 4294967296*(Y / 4294967296))+IntKind.u64.wrap (IntKind.u64.wrap (X / 4294967296*(Y % 4294967296))+IntKind.u64.wrap (X % 4294967296*(Y % 4294967296)) / 4294967296) / 4294967296) +
   IntKind.u64.wrap (IntKind.u64.wrap (IntKind.u64.wrap (X / 4294967296*(Y % 4294967296))+IntKind.u64.wrap (X % 4294967296*(Y % 4294967296)) / 4294967296) % 4294967296+IntKind.u64.wrap (X % 4294967296*(Y / 4294967296))) / 4294967296)=X*Y / 18446744073709551616:=by
 have le:∀a b:Int,0≤a→a≤4294967295→0≤b→b≤4294967295→0≤a*b∧a*b≤18446744065119617025:=fun a b h1 h2 h3 h4=>by
  have h5:=Int.mul_le_mul h2 h4 h3 (by omega:(0:Int)≤4294967295)
  exact ⟨Int.mul_nonneg h1 h3,by omega⟩
 have e:X*Y=X / 4294967296*(Y / 4294967296)*18446744073709551616+(X / 4294967296*(Y % 4294967296)+X % 4294967296*(Y / 4294967296))*4294967296+X % 4294967296*(Y % 4294967296):=by
  have hx:=Int.mul_ediv_add_emod X 4294967296
  have hy:=Int.mul_ediv_add_emod Y 4294967296
  have key:∀a b c d:Int,(4294967296*a+b)*(4294967296*c+d)=a*c*18446744073709551616+(a*d+b*c)*4294967296+b*d:=by intro a b c d;grind
  have:=key (X / 4294967296) (X % 4294967296) (Y / 4294967296) (Y % 4294967296)
  rw [hx,hy] at this
  exact this
 have p1:=le (X / 4294967296) (Y / 4294967296) (by omega) (by omega) (by omega) (by omega)
 have p2:=le (X / 4294967296) (Y % 4294967296) (by omega) (by omega) (by omega) (by omega)
 have p3:=le (X % 4294967296) (Y / 4294967296) (by omega) (by omega) (by omega) (by omega)
 have p4:=le (X % 4294967296) (Y % 4294967296) (by omega) (by omega) (by omega) (by omega)
 rw [e]
 generalize X / 4294967296*(Y / 4294967296)=A at *
 generalize X / 4294967296*(Y % 4294967296)=B at *
 generalize X % 4294967296*(Y / 4294967296)=C at *
 generalize X % 4294967296*(Y % 4294967296)=D at *
 simp only [u64_mod]
 clear e le x0 x1 y0 y1
 omega
theorem mul64_int (X Y:Int) (x0:0≤X) (x1:X<18446744073709551616) (y0:0≤Y) (y1:Y<18446744073709551616) (w:World) :
  Calls Try.prog 43 #[.int .u64 X,.int .u64 Y] w fun e w'=>e=.returned (.tuple #[.int .u64 (X*Y / 18446744073709551616),.int .u64 (IntKind.u64.wrap (X*Y))])∧w=w':=by
 have E:=hid (upper_half X Y x0 x1 y0 y1)
 have EX:=hid (and32 x0 x1)
 have EY:=hid (and32 y0 y1)
 clear x0 x1 y0 y1
 go_enter Try.func43,Try.ntmps43
 go_wp2
 rw [EX.out,EY.out,mask_any,E.out]
 go_ret2
 exact ⟨rfl,rfl⟩
theorem mul64_any (x y:Nat) (hx:x<18446744073709551616) (hy:y<18446744073709551616) (w:World) :
  Calls Try.prog 43 #[.int .u64 x,.int .u64 y] w fun e w'=>e=.returned (.tuple #[.int .u64 (hiN (x*y)),.int .u64 (loN (x*y))])∧w=w':=by
 have h:=mul64_int x y (by omega) (by omega) (by omega) (by omega) w
 have e1:(x:Int)*y / 18446744073709551616=(hiN (x*y):Int):=by rw [←Int.natCast_mul];unfold hiN;omega
 have e2:IntKind.u64.wrap ((x:Int)*y)=(loN (x*y):Int):=by rw [←Int.natCast_mul,u64_mod];unfold loN;omega
 rw [e1,e2] at h
 exact h
theorem tab_len (n:Nat) (h:n<Lib.len8tab.size):(Lib.len8tab[n]'h).toNat=Lib.bitLen n:=by
 have h2:n<256:=by rw [Lib.len8tab_size] at h;exact h
 have e:=Lib.len8_eq ⟨n,h2⟩
 simp only [Lib.len8,Int.toNat_natCast,ByteArray.getElem?_lt' _ _ h,Option.getD_some] at e
 omega
theorem tab_le (n:Nat) (h:n<Lib.len8tab.size):Lib.bitLen n≤8:=by
 have h2:n<256:=by rw [Lib.len8tab_size] at h;exact h
 exact Lib.bitLen_le8 ⟨n,h2⟩
theorem len_close {k:Nat} {x d:Int} {e:Int} (h:d.toNat<Lib.len8tab.size) (hk:e=k) (h1:x≤18446744073709551615) (h0:0≤x) (hx:2 ^ k≤x.toNat) (hd:d.toNat=x.toNat / 2 ^ k) (k56:k≤56) :
  wrap64 (e+wrap64 ((Lib.len8tab[d.toNat]'h).toNat:Int))=(Lib.bitLen x.toNat:Int):=by
 rw [tab_len,Lib.bitLen_shift k x.toNat hx (by omega),←hd]
 have:=tab_le _ h
 unfold wrap64
 omega
theorem len_close0 {x:Int} (h:x.toNat<Lib.len8tab.size):wrap64 (wrap64 ((Lib.len8tab[x.toNat]'h).toNat:Int))=(Lib.bitLen x.toNat:Int):=by
 rw [tab_len]
 have:=tab_le _ h
 unfold wrap64
 omega
theorem len64_int (x:Int) (w:World) (h0:0≤x) (h1:x≤18446744073709551615) :
  Calls Try.prog 53 #[.int .u64 x] w fun e w'=>e=.returned (.int .i64 (Lib.bitLen x.toNat))∧w=w':=by
 have hs:=Lib.len8tab_size
 go_enter Try.func53,Try.ntmps53
 go_wp2
 all_goals first
  | (exfalso;omega)
  | (go_ret
     refine ⟨congrArg Ending.returned (congrArg (Value.int IntKind.i64) ?_),rfl⟩
     first
      | exact len_close0 _
      | exact len_close (k:=56) _ rfl h1 h0 (by omega) (by omega) (by omega)
      | exact len_close (k:=48) _ rfl h1 h0 (by omega) (by omega) (by omega)
      | exact len_close (k:=40) _ rfl h1 h0 (by omega) (by omega) (by omega)
      | exact len_close (k:=32) _ rfl h1 h0 (by omega) (by omega) (by omega)
      | exact len_close (k:=24) _ rfl h1 h0 (by omega) (by omega) (by omega)
      | exact len_close (k:=16) _ rfl h1 h0 (by omega) (by omega) (by omega)
      | exact len_close (k:=8) _ rfl h1 h0 (by omega) (by omega) (by omega))
theorem len_bounds (x:Nat) (hx:x<2 ^ 64) (h0:x≠0):∃k,Lib.bitLen x=k+1∧2 ^ k≤x∧x<2 ^ (k+1):=by
 induction x using Nat.strongRecOn with
 | ind x ih=>
   by_cases h1:x=1
   ·subst h1;exact ⟨0,by decide,by decide,by decide⟩
   ·obtain ⟨k,e,l,u⟩:=ih (x / 2) (by omega) (by omega) (by omega)
    refine ⟨k+1,by rw [Lib.bitLen_half x h0 hx,e];omega,?_,?_⟩
    ·rw [Nat.pow_succ] at *;omega
    ·rw [Nat.pow_succ] at *;omega
def lz (x:Nat):Nat:=64-Lib.bitLen x
theorem lz_le (x:Nat) (hx:x<2 ^ 64) (h0:x≠0):lz x≤63:=by
 obtain ⟨k,e,_,_⟩:=len_bounds x hx h0
 unfold lz;omega
theorem lz_norm (x:Nat) (hx:x<2 ^ 64) (h0:x≠0):2 ^ 63≤x*2 ^ lz x∧x*2 ^ lz x<2 ^ 64:=by
 obtain ⟨k,e,l,u⟩:=len_bounds x hx h0
 have hk:k<64:=by
  rcases Nat.lt_or_ge k 64 with h|h
  ·exact h
  ·exact absurd (Nat.le_trans (Nat.pow_le_pow_right (by omega) h) l) (by omega)
 have e1:lz x=63-k:=by unfold lz;omega
 rw [e1]
 have p1:(2:Nat) ^ 63=2 ^ k*2 ^ (63-k):=by rw [←Nat.pow_add];congr 1;omega
 have p2:(2:Nat) ^ 64=2 ^ (k+1)*2 ^ (63-k):=by rw [←Nat.pow_add];congr 1;omega
 rw [p1,p2]
 exact ⟨Nat.mul_le_mul_right _ l,Nat.mul_lt_mul_of_pos_right u (Nat.pow_pos (by omega))⟩
theorem lead_any (x:Int) (w:World) (h0:0≤x) (h1:x≤18446744073709551615) :
  Calls Try.prog 51 #[.int .u64 x] w fun e w'=>e=.returned (.int .i64 (64-(Lib.bitLen x.toNat:Int)))∧w=w':=by
 have hl:Lib.bitLen x.toNat≤64:=Lib.bitLen_le _ _ (Nat.le_refl _) (by omega)
 have E:Hid (wrap64 (64-(Lib.bitLen x.toNat:Int))=64-(Lib.bitLen x.toNat:Int)):=by show _=_;unfold wrap64;omega
 clear hl
 go_enter Try.func51,Try.ntmps51
 go_wp2_with (go_at_call 53;refine (len64_int _ _ h0 h1).mono ?_;rintro e w' ⟨rfl,rfl⟩)
 go_ret
 exact ⟨by rw [E.out];rfl,rfl⟩
theorem lead_ex (x:Int) (w:World) (h0:0<x) (h1:x≤18446744073709551615) :
  Calls Try.prog 51 #[.int .u64 x] w fun e w'=>∃s:Nat,s≤63∧9223372036854775808≤x*2 ^ s∧x*2 ^ s<18446744073709551616∧e=.returned (.int .i64 s)∧w=w':=by
 have hx:x.toNat<2 ^ 64:=by omega
 have hn:x.toNat≠0:=by omega
 have hl:Lib.bitLen x.toNat≤64:=Lib.bitLen_le _ _ (Nat.le_refl _) hx
 have h2:=lz_norm x.toNat hx hn
 have e2:((x.toNat*2 ^ lz x.toNat:Nat):Int)=x*2 ^ lz x.toNat:=by
  rw [Int.natCast_mul,Int.natCast_pow,Int.toNat_of_nonneg (by omega)];rfl
 refine (lead_any x w (by omega) h1).mono ?_
 rintro e w' ⟨rfl,rfl⟩
 refine ⟨lz x.toNat,lz_le _ hx hn,by omega,by omega,?_,rfl⟩
 rw [show ((lz x.toNat:Nat):Int)=64-(Lib.bitLen x.toNat:Int) by unfold lz;omega]
theorem div64_low (lo y:Int) (w:World) (h2:0<y) (h3:y≤18446744073709551615) (h4:0≤lo) (h5:lo≤18446744073709551615) :
  Calls Try.prog 45 #[.int .u64 0,.int .u64 lo,.int .u64 y] w fun e w'=>e=.returned (.tuple #[.int .u64 (lo / y),.int .u64 (lo % y)])∧∃n,w'=w.drewN n:=by
 have e1:(y==0)=false:=by simp;omega
 have e2:decide (y≤0)=false:=by simp;omega
 have d1:lo.tdiv y=lo / y:=Int.tdiv_eq_ediv_of_nonneg h4
 have d2:lo.tmod y=lo % y:=Int.tmod_eq_emod_of_nonneg h4
 have d3:0≤lo / y:=Int.ediv_nonneg h4 (by omega)
 have d4:lo / y≤lo:=Int.ediv_le_self _ h4
 have D1:Hid (IntKind.u64.wrap (lo.tdiv y)=lo / y):=by show _=_;rw [d1];exact u64_in d3 (by omega)
 have D2:=hid d2
 clear d1 d2 d3 d4 h3 h4 h5
 go_enter Try.func45,Try.ntmps45
 go_wp2
 go_quiet (fail)
 go_wp2
 go_ret2
 exact ⟨by rw [D1.out,D2.out];rfl,_,rfl⟩
theorem div64_big (hi lo y:Int) (w:World) (h1:0<hi) (h2:hi<y) (h3:y≤18446744073709551615) (h4:0≤lo) (h5:lo≤18446744073709551615) :
  Calls Try.prog 45 #[.int .u64 hi,.int .u64 lo,.int .u64 y] w fun e w'=>e=.returned (.tuple #[.int .u64 ((hi*18446744073709551616+lo) / y),.int .u64 ((hi*18446744073709551616+lo) % y)])∧w=w':=by
 have e1:(y==0)=false:=by simp;omega
 have e2:decide (y≤hi)=false:=by simp;omega
 have e3:(hi==0)=false:=by simp;omega
 go_enter Try.func45,Try.ntmps45
 go_upto_block 0 with (go_at_call 51;refine (lead_ex _ _ (by omega) h3).mono ?_;rintro e w' ⟨s,hs,n1,n2,rfl,rfl⟩)
 obtain ⟨u,y1,y0,c1,c0,f1,f2,f3,f4,f5,f6,f7,f8,f9,g1,g2,g3,g4,g5,g6,g7,g8⟩:=div_front h1 h2 h4 h5 hs n1 n2
 rw [f1,f2,f3,f4,f5]
 have F7:=hid f7
 have F6:=hid f6
 have N1:=hid n1
 have N2:=hid n2
 have d1:IntKind.u64.wrap (u.tdiv y1)=u / y1:=by
  rw [Int.tdiv_eq_ediv_of_nonneg f8]
  exact u64_in (Int.ediv_nonneg f8 (by omega)) (by have:=Int.ediv_le_self y1 f8;omega)
 have d2:IntKind.u64.wrap (u-IntKind.u64.wrap (u / y1*y1))=u % y1:=by
  have a1:=Int.mul_ediv_add_emod u y1
  have a2:=Int.emod_nonneg u (show y1≠0 by omega)
  have a3:=Int.emod_lt_of_pos u (show 0<y1 by omega)
  rw [Int.mul_comm] at a1
  rw [u64_mod,u64_mod]
  omega
 rw [d1,d2]
 obtain ⟨Q1,R1,q1,q2,q3⟩:∃Q R:Int,u*4294967296+c1=Q*(y1*4294967296+y0)+R∧0≤R∧R<y1*4294967296+y0:=
  ⟨(u*4294967296+c1) / (y1*4294967296+y0),(u*4294967296+c1) % (y1*4294967296+y0),by have:=Int.mul_ediv_add_emod (u*4294967296+c1) (y1*4294967296+y0);rw [Int.mul_comm] at this;omega,Int.emod_nonneg _ (by omega),Int.emod_lt_of_pos _ (by omega)⟩
 have S1:Hid (Step u y1 y0 c1 Q1):=⟨g1,g2,g3,g4,g5,g6,f8,by omega,by omega,by omega⟩
 rw [f6]
 clear f1 f2 f3 f4 f5 f6 f7 d1 d2 n1 n2
 go_cut [15,16] (fun q _r wx=>q=.int .u64 Q1∧w=wx)
 case first=>
  go_wp2_with fail
  go_loop [15,16] (fun q r=>∃q' r':Int,q=.int .u64 q'∧r=.int .u64 r'∧Hid (Guess u y1 y0 c1 Q1 q' r')) (fun q _=>(intOf q).toNat)
  case atStart=>exact ⟨_,_,rfl,rfl,S1.out.start⟩
  case round=>
   obtain ⟨q,r,rfl,rfl,G⟩:=hrel
   have r0:=G.out.r0
   have r1:=G.out.r1
   have k0:=S1.out.small.1
   have k1:=G.out.le
   have k2:=G.out.top
   by_cases hq:4294967296≤q
   ·have hlt:=S1.out.big G.out hq
    by_cases hr:4294967296≤r+y1
    ·have E:=hid (G.out.last S1.out hlt hr)
     go_wp2
     go_meet
     exact ⟨by rw [E.out],rfl⟩
    ·have G2:=hid (G.out.next S1.out hlt (by omega))
     go_wp2
     go_round
     case rel=>exact ⟨q-1,r+y1,rfl,rfl,G2.out⟩
     case measure=>simp [intOf];omega
   ·obtain ⟨p0,p1,p2⟩:=S1.out.fits G.out (by omega)
    by_cases hc:4294967296*r+c1<q*y0
    ·have hlt:=S1.out.yes G.out.eq hc
     by_cases hr:4294967296≤r+y1
     ·have E:=hid (G.out.last S1.out hlt hr)
      go_wp2
      go_meet
      exact ⟨by rw [E.out],rfl⟩
     ·have G2:=hid (G.out.next S1.out hlt (by omega))
      go_wp2
      go_round
      case rel=>exact ⟨q-1,r+y1,rfl,rfl,G2.out⟩
      case measure=>simp [intOf];omega
    ·have E:=hid (G.out.done S1.out (by omega))
     go_wp2
     go_meet
     exact ⟨by rw [E.out],rfl⟩
 case rest=>
  obtain ⟨rfl,rfl⟩:=hcut
  go_upto_block 2 with fail
  have g9:=F6.out
  have g10:=N2.out
  rw [mid q1 q2 (by omega),quot_wrap q2 (by omega) (by omega),rest_wrap q2 (by omega) (by omega)]
  obtain ⟨Q2,R2,p1,p2,p3⟩:=cut_num (R1*4294967296+c0) (y1*4294967296+y0) (by omega)
  have S2:Hid (Step R1 y1 y0 c0 Q2):=⟨g1,g2,g3,g4,g7,g8,q2,q3,by omega,by omega⟩
  have P1:=hid p1
  have Q1':=hid q1
  clear p1 q1 g9 g10
  go_cut [18,16] (fun q _r wx=>q=.int .u64 Q2∧w=wx)
  case first=>
   go_wp2_with fail
   go_loop [18,16] (fun q r=>∃q' r':Int,q=.int .u64 q'∧r=.int .u64 r'∧Hid (Guess R1 y1 y0 c0 Q2 q' r')) (fun q _=>(intOf q).toNat)
   case atStart=>exact ⟨_,_,rfl,rfl,S2.out.start⟩
   case round=>
    obtain ⟨q,r,rfl,rfl,G⟩:=hrel
    have r0:=G.out.r0
    have r1:=G.out.r1
    have k0:=S2.out.small.1
    have k1:=G.out.le
    have k2:=G.out.top
    by_cases hq:4294967296≤q
    ·have hlt:=S2.out.big G.out hq
     by_cases hr:4294967296≤r+y1
     ·have E:=hid (G.out.last S2.out hlt hr)
      go_wp2
      go_meet
      exact ⟨by rw [E.out],rfl⟩
     ·have G2:=hid (G.out.next S2.out hlt (by omega))
      go_wp2
      go_round
      case rel=>exact ⟨q-1,r+y1,rfl,rfl,G2.out⟩
      case measure=>simp [intOf];omega
    ·obtain ⟨p0,p1,p2⟩:=S2.out.fits G.out (by omega)
     by_cases hc:4294967296*r+c0<q*y0
     ·have hlt:=S2.out.yes G.out.eq hc
      by_cases hr:4294967296≤r+y1
      ·have E:=hid (G.out.last S2.out hlt hr)
       go_wp2
       go_meet
       exact ⟨by rw [E.out],rfl⟩
      ·have G2:=hid (G.out.next S2.out hlt (by omega))
       go_wp2
       go_round
       case rel=>exact ⟨q-1,r+y1,rfl,rfl,G2.out⟩
       case measure=>simp [intOf];omega
     ·have E:=hid (G.out.done S2.out (by omega))
      go_wp2
      go_meet
      exact ⟨by rw [E.out],rfl⟩
  case rest=>
   obtain ⟨rfl,rfl⟩:=hcut
   go_wp2
   have a1:=S1.out.small
   have a2:=S2.out.small
   have g9:=F6.out
   have g10:=N2.out
   obtain ⟨b1,b2⟩:=div_back (Int.pow_pos (by omega):(0:Int)<2 ^ s) (by omega:0<y) F6.out F7.out Q1'.out P1.out p2 p3
   rw [quot_join a1.1 a1.2 a2.1 a2.2,mid P1.out p2 (by omega),b1,b2]
   go_ret2
   exact ⟨rfl,rfl⟩
theorem div64_any (hi lo y:Int) (w:World) (h1:0≤hi) (h2:hi<y) (h3:y≤18446744073709551615) (h4:0≤lo) (h5:lo≤18446744073709551615) :
  Calls Try.prog 45 #[.int .u64 hi,.int .u64 lo,.int .u64 y] w fun e w'=>e=.returned (.tuple #[.int .u64 ((hi*18446744073709551616+lo) / y),.int .u64 ((hi*18446744073709551616+lo) % y)])∧∃n,w'=w.drewN n:=by
 by_cases h:hi=0
 ·subst h
  rw [Int.zero_mul,Int.zero_add]
  exact div64_low lo y w h2 h3 h4 h5
 ·refine (div64_big hi lo y w (by omega) h2 h3 h4 h5).mono ?_
  rintro e w' ⟨rfl,rfl⟩
  exact ⟨rfl,0,rfl⟩
end Bt
end Go.Proofs.Ytcimcdoiiepjoaa
