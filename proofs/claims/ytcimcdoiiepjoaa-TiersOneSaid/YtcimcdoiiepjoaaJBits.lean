/- The document's answers for layer 10 (poundageref10): Part. -/
import Derived.Test.YtcimcdoiiepjoaaJRef10
import Derived.Test.YtcimcdoiiepjoaaJTieP
import Derived.WalkSmall
import Derived.LoopN
import Derived.Deep.CutBlock
import Derived.Deep.CutRange
import Derived.Deep.DeepCutAuto
import Derived.Deep.LoopGhost
import Derived.Deep.RegionHeld3
import Derived.Test.YtcimcdoiiepjoaaJPureS
import Derived.RangeFuncNested
import Derived.RangeFuncBound
import Derived.RangeFuncCalls
import Derived.RangeFuncLeaves
import Derived.RangeFuncBox
import Derived.Shelf.Abstract
import Derived.Shelf.RegionOpen
import Derived.WalkKit
import Derived.OwnWalkIn
import Derived.TacticsInMore
import Derived.LoopNIn
import Derived.LoopIn
import Derived.Maps.AppendAt
import Derived.Test.YtcimcdoiiepjoaaRows
import Derived.ProofKit
import Derived.BigQuiet
import Derived.Deep.QuietTactic
import Derived.Lib.Strings
import Derived.Lib.Small
import Derived.Lib.Walk
import Derived.Lib.BitFns
set_option maxRecDepth 100000
set_option maxHeartbeats 16000000
namespace Go.Proofs.Ytcimcdoiiepjoaa
namespace P
end P
namespace Mm
end Mm
namespace Md
end Md
namespace R6
end R6
namespace Te
end Te
namespace Co
end Co
namespace R10
end R10
namespace R11
end R11
namespace R10
open Go.RowKit Go.Sort P Mm Md R6 Te Co
theorem tiersB_step {l:List Tier} {i:Nat} {t:Tier} {u:Int} (h:l[i]?=some t) (hi:i+1<l.length):tiersB u (l.drop i)=(inB t.rate 0 1000000000000&&inB t.upto (u+1) 1000000&&tiersB t.upto (l.drop (i+1))):=by
 obtain ⟨t',h'⟩:∃t',l[i+1]?=some t':=⟨_,List.getElem?_eq_getElem hi⟩
 rw [drop_at h,drop_at h']
 rfl
theorem tiersB_last {l:List Tier} {i:Nat} {t:Tier} {u:Int} (h:l[i]?=some t) (hi:i+1=l.length):tiersB u (l.drop i)=(inB t.rate 0 1000000000000&&decide (t.upto=0)):=by
 rw [drop_at h,List.drop_of_length_le (by omega)]
 rfl
theorem all_drop {α:Type} {q:α→Bool} {l:List α} {i:Nat} {x:α} (h:l[i]?=some x):(l.drop i).all q=(q x&&(l.drop (i+1)).all q):=by
 rw [drop_at h]
 rfl
theorem partB_eq (c:Cor) (x:Prt):partB c x=(inB x.mt 0 ((c.meters.length:Int)-1)&&(spanB c.a c.b x.a x.b&&(inB x.allowance 0 1000000&&(inB x.block 1 1000000&&(inB x.kind 1 2&&(inB x.mode 0 3&&(inB x.tiers.length 1 8&&(decide (x.adjusts.length≤6)&&(tiersB 0 x.tiers&&x.adjusts.all adjB))))))))):=by
 unfold partB tierRow
 ac_rfl
def Prev (ts:List Tier) (i:Nat) (u:Int):Prop:=(i=0∧u=0)∨(0<i∧1≤u∧u≤1000000∧∃y,ts[i-1]?=some y∧y.upto=u)
theorem tier_in {w:World} {b o len cap:Nat} {xs:List Tier} (h:Row tTier w (some ⟨b,o,none⟩) len cap xs) {j:Nat} {m:Tier} (hj:xs[j]?=some m) :
  w.cell? ⟨b,o+j*2,none⟩=some (.int .i64 m.upto)∧w.cell? ⟨b,o+j*2+1,none⟩=some (.int .i64 m.rate):=by
 obtain ⟨b',o',e,_,x0,x1,_⟩:=tier_at h hj
 simp only [Option.some.injEq,Addr.mk.injEq,and_true] at e
 obtain ⟨rfl,rfl⟩:=e
 exact ⟨x0,x1⟩
theorem part_any (c:Cor) (x:Prt) (ma:Option Addr) (mc:Nat) (sa:Option Addr) (sc:Nat) (pa:Option Addr) (pc:Nat) (ta:Option Addr) (tc:Nat) (aa:Option Addr) (ac:Nat) (w:World) (ht:Row tTier w ta x.tiers.length tc x.tiers) (ha:Row tAdj w aa x.adjusts.length ac x.adjusts) :
  Calls Try.prog 15 #[.agg #[.string c.cur,.int .i64 c.a,.int .i64 c.b,.slice ma c.meters.length mc,.slice sa c.sums.length sc,.slice pa c.parts.length pc],.agg #[.int .i64 x.mt,.int .i64 x.a,.int .i64 x.b,.int .i64 x.allowance,.int .i64 x.block,.int .i64 x.kind,.slice ta x.tiers.length tc,.int .i64 x.mode,.slice aa x.adjusts.length ac]] w fun e w'=>e=.returned (.bool (partB c x))∧Below w.heap.size w w':=by
 obtain ⟨w1,hw1⟩:∃W,W=(w.alloc (.cells ([.string c.cur,.int .i64 c.a,.int .i64 c.b,.slice ma c.meters.length mc,.slice sa c.sums.length sc,.slice pa c.parts.length pc]:List Value).toArray 49)).alloc (.cells ([.int .i64 x.mt,.int .i64 x.a,.int .i64 x.b,.int .i64 x.allowance,.int .i64 x.block,.int .i64 x.kind,.slice ta x.tiers.length tc,.int .i64 x.mode,.slice aa x.adjusts.length ac]:List Value).toArray 25):=⟨_,rfl⟩
 obtain ⟨k1,hk1⟩:∃k,k=w.heap.size:=⟨_,rfl⟩
 obtain ⟨k2,hk2⟩:∃k,k=w.heap.size+1:=⟨_,rfl⟩
 have b1:Below w.heap.size w w1:=by rw [hw1];exact bel_alloc2 ..
 have X2:Box w1 k2 [.int .i64 x.mt,.int .i64 x.a,.int .i64 x.b,.int .i64 x.allowance,.int .i64 x.block,.int .i64 x.kind,.slice ta x.tiers.length tc,.int .i64 x.mode,.slice aa x.adjusts.length ac]:=by
  rw [hw1,hk2]
  have:=Box.new (w.alloc (.cells ([.string c.cur,.int .i64 c.a,.int .i64 c.b,.slice ma c.meters.length mc,.slice sa c.sums.length sc,.slice pa c.parts.length pc]:List Value).toArray 49)) [.int .i64 x.mt,.int .i64 x.a,.int .i64 x.b,.int .i64 x.allowance,.int .i64 x.block,.int .i64 x.kind,.slice ta x.tiers.length tc,.int .i64 x.mode,.slice aa x.adjusts.length ac] 25
  simpa using this
 have X1:Box w1 k1 [.string c.cur,.int .i64 c.a,.int .i64 c.b,.slice ma c.meters.length mc,.slice sa c.sums.length sc,.slice pa c.parts.length pc]:=by rw [hw1,hk1];exact (Box.new w _ 49).on (bel_alloc _ _)
 have X:=hid (fun (W:World) (b:Below w1.heap.size w1 W)=>(⟨X1.on b,X2.on b,bel_on b1 b⟩:Box W k1 [.string c.cur,.int .i64 c.a,.int .i64 c.b,.slice ma c.meters.length mc,.slice sa c.sums.length sc,.slice pa c.parts.length pc]∧Box W k2 [.int .i64 x.mt,.int .i64 x.a,.int .i64 x.b,.int .i64 x.allowance,.int .i64 x.block,.int .i64 x.kind,.slice ta x.tiers.length tc,.int .i64 x.mode,.slice aa x.adjusts.length ac]∧Below w.heap.size w W))
 have HT:=hid (fun (W:World) (b:Below w1.heap.size w1 W)=>ht.on (bel_on b1 b))
 have HA:=hid (fun (W:World) (b:Below w1.heap.size w1 W)=>ha.on (bel_on b1 b))
 have tm:=ht.hmax
 have tcp:=ht.hcap
 have am:=ha.hmax
 have acp:=ha.hcap
 obtain ⟨R,hR⟩:∃R,R=partB c x:=⟨_,rfl⟩
 rw [←hR]
 have K0:Hid (R=(inB x.mt 0 ((c.meters.length:Int)-1)&&(spanB c.a c.b x.a x.b&&(inB x.allowance 0 1000000&&(inB x.block 1 1000000&&(inB x.kind 1 2&&(inB x.mode 0 3&&(inB x.tiers.length 1 8&&(decide (x.adjusts.length≤6)&&(tiersB 0 x.tiers&&x.adjusts.all adjB)))))))))):=hid (by rw [hR];exact partB_eq c x)
 have HW:=hid hw1
 have HK1:=hid hk1
 have HK2:=hid hk2
 have d3:=X1.cell 3 _ rfl
 have a0:=X2.cell 0 _ rfl
 clear hw1 X1 b1 hR ht ha hk1 hk2
 go_enter Try.func15,Try.ntmps15
 go_upto_region 1 with fail
 rw [←HW.out,←HK2.out,←HK1.out]
 clear HW HK1 HK2
 simp only [List.append_eq,List.cons_append,List.nil_append]
 have B0:=hid (Below.refl w1.heap.size w1)
 have BF:=hid (X.out _ B0.out).2.2
 rcases Bool.eq_false_or_eq_true (inB x.mt 0 ((c.meters.length:Int)-1)) with g|g
 rotate_left
 ·have KF:Hid (R=false):=hid (by rw [K0.out,g];rfl)
  unfold inB at g
  rw [Bool.and_eq_false_iff,decide_eq_false_iff_not,decide_eq_false_iff_not] at g
  by_cases m0:x.mt<0
  ·clear g
   go_wp2
   go_ret
   exact rbb KF.out.symm BF.out
  ·have m1:(c.meters.length:Int)≤x.mt:=by omega
   clear g
   go_wp2
   go_ret
   exact rbb KF.out.symm BF.out
 have K1:Hid (R=(spanB c.a c.b x.a x.b&&(inB x.allowance 0 1000000&&(inB x.block 1 1000000&&(inB x.kind 1 2&&(inB x.mode 0 3&&(inB x.tiers.length 1 8&&(decide (x.adjusts.length≤6)&&(tiersB 0 x.tiers&&x.adjusts.all adjB))))))))):=hid (by rw [K0.out,g];rfl)
 unfold inB at g
 rw [Bool.and_eq_true,decide_eq_true_eq,decide_eq_true_eq] at g
 have m0:¬ x.mt<0:=by omega
 have m1:¬ (c.meters.length:Int)≤x.mt:=by omega
 clear g K0
 have d0:=(X.out _ B0.out).1.cell 0 _ rfl;have d1:=(X.out _ B0.out).1.cell 1 _ rfl;have d2:=(X.out _ B0.out).1.cell 2 _ rfl;have d4:=(X.out _ B0.out).1.cell 4 _ rfl;have d5:=(X.out _ B0.out).1.cell 5 _ rfl
 have a1:=(X.out _ B0.out).2.1.cell 1 _ rfl;have a2:=(X.out _ B0.out).2.1.cell 2 _ rfl
 have cS:=hid (span_any c x.a x.b ma mc sa sc pa pc w1)
 go_wp2_with fail
 refine cS.out.mono ?_
 rintro e w2 ⟨rfl,b2⟩
 have B2:=hid (bel_on B0.out b2)
 clear b2 cS d0 d1 d2 d3 d4 d5 a0 a1 a2 BF B0 m0 m1
 have Y:=X.out w2 B2.out
 have a0:=Y.2.1.cell 0 _ rfl;have a1:=Y.2.1.cell 1 _ rfl;have a2:=Y.2.1.cell 2 _ rfl;have a3:=Y.2.1.cell 3 _ rfl;have a4:=Y.2.1.cell 4 _ rfl;have a5:=Y.2.1.cell 5 _ rfl;have a6:=Y.2.1.cell 6 _ rfl;have a7:=Y.2.1.cell 7 _ rfl;have a8:=Y.2.1.cell 8 _ rfl
 have BF:=hid Y.2.2
 clear Y
 rcases Bool.eq_false_or_eq_true (spanB c.a c.b x.a x.b) with g|g
 rotate_left
 ·have KF:Hid (R=false):=hid (by rw [K1.out,g];rfl)
  rw [g]
  clear g
  go_wp2
  go_ret
  exact rbb KF.out.symm BF.out
 have K2:Hid (R=(inB x.allowance 0 1000000&&(inB x.block 1 1000000&&(inB x.kind 1 2&&(inB x.mode 0 3&&(inB x.tiers.length 1 8&&(decide (x.adjusts.length≤6)&&(tiersB 0 x.tiers&&x.adjusts.all adjB)))))))):=hid (by rw [K1.out,g];rfl)
 rw [g]
 clear g K1
 have cS:=hid (in_any x.allowance 0 1000000 w2)
 go_wp2_with fail
 refine cS.out.mono ?_
 rintro e w' ⟨rfl,rfl⟩
 clear cS
 rcases Bool.eq_false_or_eq_true (inB x.allowance 0 1000000) with g|g
 rotate_left
 ·have KF:Hid (R=false):=hid (by rw [K2.out,g];rfl)
  rw [g]
  clear g
  go_wp2
  go_ret
  exact rbb KF.out.symm BF.out
 have K3:Hid (R=(inB x.block 1 1000000&&(inB x.kind 1 2&&(inB x.mode 0 3&&(inB x.tiers.length 1 8&&(decide (x.adjusts.length≤6)&&(tiersB 0 x.tiers&&x.adjusts.all adjB))))))):=hid (by rw [K2.out,g];rfl)
 rw [g]
 clear g K2
 have cS:=hid (in_any x.block 1 1000000 w2)
 go_wp2_with fail
 refine cS.out.mono ?_
 rintro e w' ⟨rfl,rfl⟩
 clear cS
 rcases Bool.eq_false_or_eq_true (inB x.block 1 1000000) with g|g
 rotate_left
 ·have KF:Hid (R=false):=hid (by rw [K3.out,g];rfl)
  rw [g]
  clear g
  go_wp2
  go_ret
  exact rbb KF.out.symm BF.out
 have K4:Hid (R=(inB x.kind 1 2&&(inB x.mode 0 3&&(inB x.tiers.length 1 8&&(decide (x.adjusts.length≤6)&&(tiersB 0 x.tiers&&x.adjusts.all adjB)))))):=hid (by rw [K3.out,g];rfl)
 rw [g]
 clear g K3
 rcases Bool.eq_false_or_eq_true (inB x.kind 1 2) with g|g
 rotate_left
 ·have KF:Hid (R=false):=hid (by rw [K4.out,g];rfl)
  unfold inB at g
  rw [Bool.and_eq_false_iff,decide_eq_false_iff_not,decide_eq_false_iff_not] at g
  have q1:(x.kind != 1)=true:=by simp;omega
  have q2:(x.kind != 2)=true:=by simp;omega
  clear g
  go_wp2
  go_ret
  exact rbb KF.out.symm BF.out
 have K5:Hid (R=(inB x.mode 0 3&&(inB x.tiers.length 1 8&&(decide (x.adjusts.length≤6)&&(tiersB 0 x.tiers&&x.adjusts.all adjB))))):=hid (by rw [K4.out,g];rfl)
 unfold inB at g
 rw [Bool.and_eq_true,decide_eq_true_eq,decide_eq_true_eq] at g
 have KK:Hid (x.kind=1∨x.kind=2):=hid (by omega)
 clear g K4
 have GK:Hid (((x.kind != 1)=true∧(x.kind != 2)=false)∨(x.kind != 1)=false):=hid (by
  rcases KK.out with h|h<;>rw [h]
  ·exact .inr rfl
  ·exact .inl ⟨rfl,rfl⟩)
 clear KK
 rcases GK.out with ⟨q1,q2⟩|q1
 all_goals
  clear GK
  have cS:=hid (in_any x.mode 0 3 w2)
  go_wp2_with fail
  refine cS.out.mono ?_
  rintro e w' ⟨rfl,rfl⟩
  clear cS
  rcases Bool.eq_false_or_eq_true (inB x.mode 0 3) with g|g
  rotate_left
  ·have KF:Hid (R=false):=hid (by rw [K5.out,g];rfl)
   rw [g]
   clear g
   go_wp2
   go_ret
   exact rbb KF.out.symm BF.out
  have K6:Hid (R=(inB x.tiers.length 1 8&&(decide (x.adjusts.length≤6)&&(tiersB 0 x.tiers&&x.adjusts.all adjB)))):=hid (by rw [K5.out,g];rfl)
  rw [g]
  clear g K5
  rcases Bool.eq_false_or_eq_true (inB x.tiers.length 1 8) with g|g
  rotate_left
  ·have KF:Hid (R=false):=hid (by rw [K6.out,g];rfl)
   unfold inB at g
   rw [Bool.and_eq_false_iff,decide_eq_false_iff_not,decide_eq_false_iff_not] at g
   by_cases t0:(x.tiers.length:Int)<1
   ·clear g
    go_wp2
    go_ret
    exact rbb KF.out.symm BF.out
   ·have t1:(8:Int)<x.tiers.length:=by omega
    clear g
    go_wp2
    go_ret
    exact rbb KF.out.symm BF.out
  have K7:Hid (R=(decide (x.adjusts.length≤6)&&(tiersB 0 x.tiers&&x.adjusts.all adjB))):=hid (by rw [K6.out,g];rfl)
  unfold inB at g
  rw [Bool.and_eq_true,decide_eq_true_eq,decide_eq_true_eq] at g
  obtain ⟨t1,t8⟩:=g
  clear K6
  by_cases h6:6<(x.adjusts.length:Int)
  ·have KF:Hid (R=false):=hid (by rw [K7.out,decide_eq_false (by omega)];rfl)
   go_wp2
   go_ret
   exact rbb KF.out.symm BF.out
  have K8:Hid (R=(tiersB 0 (x.tiers.drop 0)&&x.adjusts.all adjB)):=hid (by rw [K7.out,decide_eq_true (by omega)];rfl)
  clear K7
  obtain ⟨z,hz⟩:∃z,x.tiers[0]?=some z:=⟨_,List.getElem?_eq_getElem (by omega)⟩
  obtain ⟨bt,ot,et,_⟩:=tier_at (HT.out _ B2.out) hz
  subst et
  obtain ⟨n,hn⟩:∃n,n=x.tiers.length:=⟨_,rfl⟩
  have HN:=hid hn
  clear hz
  have wn:IntKind.i64.wrap ((x.tiers.length:Int)-1)=(x.tiers.length:Int)-1:=wrap_i (by unfold I64;omega)
  go_upto_region 3 with fail
  clear a0 a1 a2 a3 a4 a5 a7 a8 hn HN
  go_wp2
  go_loopw [80] (fun i wr=>∃(i':Nat) (u:Int),i=.int .i64 (i':Int)∧i'≤x.tiers.length∧Hid (i'<x.tiers.length→Prev x.tiers i' u)∧Hid (R=(tiersB u (x.tiers.drop i')&&x.adjusts.all adjB))∧Hid (Below w1.heap.size w1 wr)) (fun i _=>x.tiers.length-(intOf i).toNat)
  case atStart=>exact ⟨0,0,rfl,Nat.zero_le _,hid (fun _=>.inl ⟨rfl,rfl⟩),K8,B2⟩
  case round=>
   obtain ⟨i',u,rfl,hi,hP,hR,hb⟩:=hrel
   clear K8 B2 BF a6
   by_cases hlt:i'<x.tiers.length
   ·obtain ⟨y,hy⟩:∃y,x.tiers[i']?=some y:=⟨_,List.getElem?_eq_getElem hlt⟩
    have HY:=hid hy
    obtain ⟨y0,y1⟩:=tier_in (HT.out _ hb.out) hy
    obtain ⟨wt,hwt⟩:∃W,W=wr.alloc (.cells ([.int .i64 y.upto,.int .i64 y.rate]:List Value).toArray 39):=⟨_,rfl⟩
    obtain ⟨kt,hkt⟩:∃k,k=wr.heap.size:=⟨_,rfl⟩
    have bt2:Below wr.heap.size wr wt:=by rw [hwt];exact bel_alloc _ _
    have XT:Box wt kt [.int .i64 y.upto,.int .i64 y.rate]:=by rw [hwt,hkt];exact Box.new _ _ _
    have BT:=hid (bel_on hb.out bt2)
    have HXT:=hid XT
    have HWT:=hid hwt
    have HKT:=hid hkt
    have BFT:=hid (X.out wt BT.out).2.2
    have a6:=(X.out wr hb.out).2.1.cell 6 _ rfl
    clear hwt hkt bt2 XT hy hb
    go_upto_region 7 with fail
    rw [←HWT.out,←HKT.out]
    clear HWT HKT y0 y1 a6
    have a6:=(X.out wt BT.out).2.1.cell 6 _ rfl
    go_cut [96] (fun v W=>v=.bool (decide ((0:Int)<(i':Int)))∧W=wt)
    case first=>
     rcases hP.out hlt with ⟨rfl,rfl⟩|⟨p0,p1,p2,z,hz,rfl⟩
     ·go_wp2
      go_meet
      exact ⟨rfl,rfl⟩
     ·obtain ⟨z0,_⟩:=tier_in (HT.out _ BT.out) hz
      have w5:IntKind.i64.wrap ((i':Int)-1)=(i':Int)-1:=wrap_i (by unfold I64;omega)
      have q0:(0:Int)<i':=by omega
      have q1:0≤(i':Int)-1:=by omega
      have q2:(i':Int)-1<x.tiers.length:=by omega
      clear hz
      go_wp2
      go_meet
      exact ⟨by simp;omega,rfl⟩
    case rest=>
     obtain ⟨rfl,rfl⟩:=hcut
     go_upto_if 96 with fail
     go_cut [7] (fun v W=>v=.int .i64 (u+1)∧W=wc)
     case first=>
      rcases hP.out hlt with ⟨rfl,rfl⟩|⟨p0,p1,p2,z,hz,rfl⟩
      ·go_wp2
       go_meet
       exact ⟨rfl,rfl⟩
      ·obtain ⟨z0,_⟩:=tier_in (HT.out _ BT.out) hz
       have w5:IntKind.i64.wrap ((i':Int)-1)=(i':Int)-1:=wrap_i (by unfold I64;omega)
       have w6:IntKind.i64.wrap (z.upto+1)=z.upto+1:=wrap_i (by unfold I64;omega)
       have q0:(0:Int)<i':=by omega
       have q1:0≤(i':Int)-1:=by omega
       have q2:(i':Int)-1<x.tiers.length:=by omega
       clear hz
       go_wp2
       go_meet
       exact ⟨by rw [Int.min_eq_left p2],rfl⟩
     case rest=>
      obtain ⟨rfl,rfl⟩:=hcut
      have e0:=HXT.out.cell 0 _ rfl;have e1:=HXT.out.cell 1 _ rfl
      by_cases hl:i'+1=x.tiers.length
      ·have gl:((i':Int)==(x.tiers.length:Int)-1)=true:=by simp;omega
       have K9:Hid (R=((inB y.rate 0 1000000000000&&decide (y.upto=0))&&x.adjusts.all adjB)):=hid (by rw [hR.out,tiersB_last HY.out hl])
       have cS:=hid (in_any y.rate 0 1000000000000 wc)
       clear hP hR HT
       go_wp2_with fail
       refine cS.out.mono ?_
       rintro e w' ⟨rfl,rfl⟩
       clear cS
       rcases Bool.eq_false_or_eq_true (inB y.rate 0 1000000000000) with g|g
       rotate_left
       ·have KF:Hid (R=false):=hid (by rw [K9.out,g];rfl)
        rw [g]
        clear g
        go_wp2
        go_ret
        exact rbb KF.out.symm BFT.out
       have K10:Hid (R=(decide (y.upto=0)&&x.adjusts.all adjB)):=hid (by rw [K9.out,g];rfl)
       rw [g]
       clear g K9
       have cS:=hid (in_any y.upto 0 0 wc)
       go_wp2_with fail
       refine cS.out.mono ?_
       rintro e w' ⟨rfl,rfl⟩
       clear cS
       by_cases h0:y.upto=0
       ·have g:inB y.upto 0 0=true:=by rw [h0];rfl
        have K11:Hid (R=(tiersB 0 (x.tiers.drop (i'+1))&&x.adjusts.all adjB)):=hid (by rw [K10.out,decide_eq_true h0,List.drop_of_length_le (by omega)];rfl)
        rw [g]
        clear g h0 e0 e1
        go_wp2
        go_roundw
        case rel=>exact ⟨i'+1,0,by simp,by omega,hid (fun h=>absurd h (by omega)),K11,BT⟩
        case measure=>simp [intOf];omega
       ·have g:inB y.upto 0 0=false:=by unfold inB;simp;omega
        have KF:Hid (R=false):=hid (by rw [K10.out,decide_eq_false h0];rfl)
        rw [g]
        clear g h0 e0 e1
        go_wp2
        go_ret
        exact rbb KF.out.symm BFT.out
      ·have gl:((i':Int)==(x.tiers.length:Int)-1)=false:=by simp;omega
       have K9:Hid (R=((inB y.rate 0 1000000000000&&inB y.upto (u+1) 1000000&&tiersB y.upto (x.tiers.drop (i'+1)))&&x.adjusts.all adjB)):=hid (by rw [hR.out,tiersB_step HY.out (by omega)])
       have U0:0≤u:=by rcases hP.out hlt with ⟨_,h⟩|⟨_,h,_⟩<;>omega
       have cS:=hid (in_any y.rate 0 1000000000000 wc)
       clear hP hR HT
       go_wp2_with fail
       refine cS.out.mono ?_
       rintro e w' ⟨rfl,rfl⟩
       clear cS
       rcases Bool.eq_false_or_eq_true (inB y.rate 0 1000000000000) with g|g
       rotate_left
       ·have KF:Hid (R=false):=hid (by rw [K9.out,g];rfl)
        rw [g]
        clear g
        go_wp2
        go_ret
        exact rbb KF.out.symm BFT.out
       have K10:Hid (R=((inB y.upto (u+1) 1000000&&tiersB y.upto (x.tiers.drop (i'+1)))&&x.adjusts.all adjB)):=hid (by rw [K9.out,g];rfl)
       rw [g]
       clear g K9
       have cS:=hid (in_any y.upto (u+1) 1000000 wc)
       go_wp2_with fail
       refine cS.out.mono ?_
       rintro e w' ⟨rfl,rfl⟩
       clear cS
       rcases Bool.eq_false_or_eq_true (inB y.upto (u+1) 1000000) with g|g
       rotate_left
       ·have KF:Hid (R=false):=hid (by rw [K10.out,g];rfl)
        rw [g]
        clear g e0 e1
        go_wp2
        go_ret
        exact rbb KF.out.symm BFT.out
       have K11:Hid (R=(tiersB y.upto (x.tiers.drop (i'+1))&&x.adjusts.all adjB)):=hid (by rw [K10.out,g];rfl)
       have PV:=hid (show i'+1<x.tiers.length→Prev x.tiers (i'+1) y.upto from fun _=>by
        unfold inB at g
        rw [Bool.and_eq_true,decide_eq_true_eq,decide_eq_true_eq] at g
        exact .inr ⟨Nat.succ_pos _,by omega,by omega,y,by rw [Nat.add_sub_cancel];exact HY.out,rfl⟩)
       rw [g]
       clear g e0 e1
       go_wp2
       go_roundw
       case rel=>exact ⟨i'+1,y.upto,by simp,by omega,PV,K11,BT⟩
       case measure=>simp [intOf];omega
   ·obtain rfl:i'=x.tiers.length:=by omega
    have K9:Hid (R=(x.adjusts.drop 0).all adjB):=hid (by rw [hR.out,List.drop_length];rfl)
    have a8:=(X.out wr hb.out).2.1.cell 8 _ rfl
    obtain ⟨wq,hwq⟩:∃W,W=wr:=⟨_,rfl⟩
    rw [←hwq] at hb a8 ⊢
    have B9:=hb
    clear hwq hb hR hP hlt hi HT wn
    go_wp2
    clear a8
    go_loopw [128] (fun i wr=>∃i':Nat,i=.int .i64 (i':Int)∧i'≤x.adjusts.length∧Hid (R=(x.adjusts.drop i').all adjB)∧Hid (Below w1.heap.size w1 wr)) (fun i _=>x.adjusts.length-(intOf i).toNat)
    case atStart=>exact ⟨0,rfl,Nat.zero_le _,K9,B9⟩
    case round=>
     obtain ⟨i',rfl,hi,hR,hb⟩:=hrel
     clear K9 B9
     by_cases hlt:i'<x.adjusts.length
     rotate_left
     ·obtain rfl:i'=x.adjusts.length:=by omega
      have KT:Hid (R=true):=hid (by rw [hR.out,List.drop_length];rfl)
      have BFT:=hid (X.out wr hb.out).2.2
      go_wp2
      go_ret
      exact rbb KT.out.symm BFT.out
     obtain ⟨⟨k,m,o⟩,hy⟩:∃y,x.adjusts[i']?=some y:=⟨_,List.getElem?_eq_getElem hlt⟩
     have K0:Hid (R=(adjB ⟨k,m,o⟩&&(x.adjusts.drop (i'+1)).all adjB)):=hid (by rw [hR.out,all_drop hy])
     obtain ⟨ba,oa,e,lba,y0,y1,y2,_⟩:=adj_at (HA.out _ hb.out) hy
     subst e
     simp only at y0 y1 y2
     obtain ⟨wt,hwt⟩:∃W,W=wr.alloc (.cells ([.int .i64 k,.int .i64 m,.int .i64 o]:List Value).toArray 64):=⟨_,rfl⟩
     obtain ⟨kt,hkt⟩:∃k,k=wr.heap.size:=⟨_,rfl⟩
     have bt2:Below wr.heap.size wr wt:=by rw [hwt];exact bel_alloc _ _
     have XT:Box wt kt [.int .i64 k,.int .i64 m,.int .i64 o]:=by rw [hwt,hkt];exact Box.new _ _ _
     have BT:=hid (bel_on hb.out bt2)
     have BFT:=hid (X.out wt BT.out).2.2
     have HWT:=hid hwt
     have HKT:=hid hkt
     have HXT:=hid XT
     clear hwt hkt bt2 XT hy hb hR
     go_upto_region 17 with fail
     rw [←HWT.out,←HKT.out]
     clear HWT HKT y0 y1 y2 lba
     have e0:=HXT.out.cell 0 _ rfl;have e1:=HXT.out.cell 1 _ rfl;have e2:=HXT.out.cell 2 _ rfl
     by_cases c1:k=1
     ·subst c1
      have K1:Hid (R=((inB m 0 100000000&&inB o 0 3)&&(x.adjusts.drop (i'+1)).all adjB)):=hid (by rw [K0.out];unfold adjB;rw [if_pos rfl])
      have cS:=hid (in_any m 0 100000000 wt)
      go_wp2_with fail
      refine cS.out.mono ?_
      rintro e w' ⟨rfl,rfl⟩
      clear cS
      rcases Bool.eq_false_or_eq_true (inB m 0 100000000) with g|g
      rotate_left
      ·have KF:Hid (R=false):=hid (by rw [K1.out,g];rfl)
       rw [g]
       clear g
       go_wp2
       go_ret
       exact rbb KF.out.symm BFT.out
      have K2:Hid (R=(inB o 0 3&&(x.adjusts.drop (i'+1)).all adjB)):=hid (by rw [K1.out,g];rfl)
      rw [g]
      clear g K1
      have cS:=hid (in_any o 0 3 wt)
      go_wp2_with fail
      refine cS.out.mono ?_
      rintro e w' ⟨rfl,rfl⟩
      clear cS
      rcases Bool.eq_false_or_eq_true (inB o 0 3) with g|g
      rotate_left
      ·have KF:Hid (R=false):=hid (by rw [K2.out,g];rfl)
       rw [g]
       clear g
       go_wp2
       go_ret
       exact rbb KF.out.symm BFT.out
      have K3:Hid (R=(x.adjusts.drop (i'+1)).all adjB):=hid (by rw [K2.out,g];rfl)
      rw [g]
      clear g K2 K0 e0 e1 e2
      go_wp2
      go_roundw
      case rel=>exact ⟨i'+1,by simp,by omega,K3,BT⟩
      case measure=>simp [intOf];omega
     ·by_cases c2:k=2∨k=3∨k=4
      ·have K1:Hid (R=((inB m 0 1000000000000&&decide (o=0))&&(x.adjusts.drop (i'+1)).all adjB)):=hid (by rw [K0.out];unfold adjB;rw [if_neg c1,if_pos c2])
       clear K0
       have cS:=hid (in_any m 0 1000000000000 wt)
       rcases Bool.eq_false_or_eq_true (inB m 0 1000000000000) with g|g
       ·have K2:Hid (R=(decide (o=0)&&(x.adjusts.drop (i'+1)).all adjB)):=hid (by rw [K1.out,g];rfl)
        rw [g] at cS
        clear g K1
        by_cases c3:o=0
        ·have K3:Hid (R=(x.adjusts.drop (i'+1)).all adjB):=hid (by rw [K2.out,decide_eq_true c3];rfl)
         have g3:(o != 0)=false:=by simpa using c3
         clear K2 c3
         rcases c2 with rfl|rfl|rfl
         all_goals
          go_wp2_with fail
          refine cS.out.mono ?_
          rintro e w' ⟨rfl,rfl⟩
          clear cS
          go_wp2
          go_roundw
          case rel=>exact ⟨i'+1,by simp,by omega,K3,BT⟩
          case measure=>simp [intOf];omega
        ·have KF:Hid (R=false):=hid (by rw [K2.out,decide_eq_false c3];rfl)
         have g3:(o != 0)=true:=by simpa using c3
         clear K2 c3
         rcases c2 with rfl|rfl|rfl
         all_goals
          go_wp2_with fail
          refine cS.out.mono ?_
          rintro e w' ⟨rfl,rfl⟩
          clear cS
          go_wp2
          go_ret
          exact rbb KF.out.symm BFT.out
       ·have KF:Hid (R=false):=hid (by rw [K1.out,g];rfl)
        rw [g] at cS
        clear g K1
        rcases c2 with rfl|rfl|rfl
        all_goals
         go_wp2_with fail
         refine cS.out.mono ?_
         rintro e w' ⟨rfl,rfl⟩
         clear cS
         go_wp2
         go_ret
         exact rbb KF.out.symm BFT.out
      ·have KF:Hid (R=false):=hid (by rw [K0.out];unfold adjB;rw [if_neg c1,if_neg c2];rfl)
       have n1:(k==1)=false:=by simpa using c1
       have n2:(k==2)=false:=by simp;omega
       have n3:(k==3)=false:=by simp;omega
       have n4:(k==4)=false:=by simp;omega
       clear K0 c1 c2
       go_wp2
       go_ret
       exact rbb KF.out.symm BFT.out
end R10
namespace R11
open Go.RowKit Go.Sort P Mm Md R6 Te Co R10
def oV (o:Option Int):Int:=o.getD 0
def oB (o:Option Int):Bool:=o.isSome
theorem rnd_up {n b:Int} (hb:0<b):rnd n b 1=(n+b-1) / b:=by
 have e:=Int.emod_add_mul_ediv n b
 have l0:=Int.emod_nonneg n (show b≠0 by omega)
 have l1:=Int.emod_lt_of_pos n hb
 unfold rnd
 rw [rup1]
 obtain ⟨Q,hQ⟩:∃Q,Q=n / b:=⟨_,rfl⟩
 obtain ⟨R,hR⟩:∃R,R=n % b:=⟨_,rfl⟩
 rw [←hQ,←hR] at e
 rw [←hR] at l0 l1
 rw [←hQ,←hR]
 by_cases k:0<R
 ·rw [if_pos (decide_eq_true k),show n+b-1=(R-1)+(Q+1)*b by rw [Int.add_mul,Int.mul_comm Q b];omega,Int.add_mul_ediv_right _ _ (by omega),Int.ediv_eq_zero_of_lt (by omega) (by omega)]
  omega
 ·rw [if_neg (by simpa using k),show n+b-1=(b-1)+Q*b by rw [Int.mul_comm Q b];omega,Int.add_mul_ediv_right _ _ (by omega),Int.ediv_eq_zero_of_lt (by omega) (by omega)]
  omega
theorem up_in {n b:Int} (h0:0≤n) (h1:n≤9223372036854775807) (hb:1≤b):0≤(n+b-1) / b∧(n+b-1) / b≤n:=by
 refine ⟨Int.ediv_nonneg (by omega) (by omega),?_⟩
 rcases Int.lt_or_le 0 n with k|k
 ·refine Int.le_of_lt_add_one (Int.ediv_lt_of_lt_mul (by omega) ?_)
  have:n*1≤n*b:=Int.mul_le_mul_of_nonneg_left hb h0
  rw [Int.add_mul]
  omega
 ·rw [show n=0 by omega,Int.ediv_eq_zero_of_lt (by omega) (by omega)]
  omega
end R11
namespace L11
open Go.RowKit Go.Sort P Mm Md R6 Te Co R10 R11
theorem row_box {α:Type} {n:Nat} {cells:α→List Value} {ok:α→Prop} {hn:∀x,(cells x).length=n} {W:World} {k:Nat} {xs:List α} (X:Box W k (xs.flatMap cells)) (hok:∀x∈xs,ok x) (hl:xs.length≤1000) :
  Row (leaf n cells ok hn) W (some ⟨k,0,none⟩) xs.length xs.length xs:=
 ⟨rfl,Nat.le_refl _,by omega,fun _=>⟨k,0,rfl,X.lt,fun j x hj=>⟨cells x,⟨rfl,hok x (List.mem_of_getElem? hj)⟩,fun i v hi=>by
  have:=X.cell (j*n+i) v (flat_get hn xs j x i v hj hi)
  show W.cell? ⟨k,0+j*n+i,none⟩=some v
  rw [Nat.zero_add]
  exact this⟩⟩⟩
structure Ti:Prop where
 micro:∀(x:Prt) (ta:Option Addr) (tc:Nat) (aa:Option Addr) (ac:Nat) (q:Int) (w:World),Row tTier w ta x.tiers.length tc x.tiers→I64 q→GoodT x→
  Calls Try.prog 14 #[.agg #[.int .i64 x.mt,.int .i64 x.a,.int .i64 x.b,.int .i64 x.allowance,.int .i64 x.block,.int .i64 x.kind,.slice ta x.tiers.length tc,.int .i64 x.mode,.slice aa x.adjusts.length ac],.int .i64 q] w fun e w'=>e=.returned (.tuple #[.int .i64 (oV (microO x q)),.bool (oB (microO x q))])∧Below w.heap.size w w'
 charge:∀(x:Prt) (ta:Option Addr) (tc:Nat) (aa:Option Addr) (ac:Nat) (q:Int) (w:World),Row tTier w ta x.tiers.length tc x.tiers→I64 q→GoodT x→
  Calls Try.prog 12 #[.agg #[.int .i64 x.mt,.int .i64 x.a,.int .i64 x.b,.int .i64 x.allowance,.int .i64 x.block,.int .i64 x.kind,.slice ta x.tiers.length tc,.int .i64 x.mode,.slice aa x.adjusts.length ac],.int .i64 q] w fun e w'=>e=.returned (.tuple #[.int .i64 (oV (chargeO x q)),.bool (oB (chargeO x q))])∧Below w.heap.size w w'
def core0:Cor:=⟨⟨#[]⟩,0,0,[⟨⟨#[]⟩,⟨#[]⟩,0,0,0⟩],[],[]⟩
def bare (x:Prt):Prt:=⟨0,0,0,x.allowance,x.block,x.kind,x.tiers,x.mode,x.adjusts⟩
def goodX (x:Prt):Bool:=partB core0 (bare x)
theorem goodX_t {x:Prt} (h:goodX x=true):GoodT x∧x.adjusts.all adjB=true:=by
 unfold goodX partB tierRow bare at h
 simp only [Bool.and_eq_true,inB_iff,decide_eq_true_eq] at h
 obtain ⟨_,_,h1,h2,h3,h4,⟨h5,h6⟩,h7,h8⟩:=h
 exact ⟨⟨h1,h2,by omega,h4,by omega,h6,h7⟩,h8⟩
theorem goodX_len {x:Prt} (h:40<x.tiers.length∨40<x.adjusts.length):goodX x=false:=by
 rcases Bool.eq_false_or_eq_true (goodX x) with k|k
 ·have g:=(goodX_t k).1
  have h1:=g.len
  have h2:=g.adjs
  omega
 ·exact k
theorem good_any (x:Prt) (ta:Option Addr) (tc:Nat) (aa:Option Addr) (ac:Nat) (w:World) (ht:Row tTier w ta x.tiers.length tc x.tiers) (ha:Row tAdj w aa x.adjusts.length ac x.adjusts) :
  Calls Try.prog 9 #[.agg #[.int .i64 x.mt,.int .i64 x.a,.int .i64 x.b,.int .i64 x.allowance,.int .i64 x.block,.int .i64 x.kind,.slice ta x.tiers.length tc,.int .i64 x.mode,.slice aa x.adjusts.length ac]] w fun e w'=>e=.returned (.bool (goodX x))∧Below w.heap.size w w':=by
 obtain ⟨w1,hw1⟩:∃W,W=w.alloc (.cells ([.int .i64 x.mt,.int .i64 x.a,.int .i64 x.b,.int .i64 x.allowance,.int .i64 x.block,.int .i64 x.kind,.slice ta x.tiers.length tc,.int .i64 x.mode,.slice aa x.adjusts.length ac]:List Value).toArray 25):=⟨_,rfl⟩
 obtain ⟨k1,hk1⟩:∃k,k=w.heap.size:=⟨_,rfl⟩
 have b1:Below w.heap.size w w1:=by rw [hw1];exact bel_alloc _ _
 have X1:Box w1 k1 [.int .i64 x.mt,.int .i64 x.a,.int .i64 x.b,.int .i64 x.allowance,.int .i64 x.block,.int .i64 x.kind,.slice ta x.tiers.length tc,.int .i64 x.mode,.slice aa x.adjusts.length ac]:=by rw [hw1,hk1];exact Box.new w _ 25
 obtain ⟨w2,hw2⟩:∃W,W=((w1.setCell ⟨k1,0,none⟩ (.int .i64 0)).setCell ⟨k1,1,none⟩ (.int .i64 0)).setCell ⟨k1,2,none⟩ (.int .i64 0):=⟨_,rfl⟩
 have X2:Box w2 k1 [.int .i64 0,.int .i64 0,.int .i64 0,.int .i64 x.allowance,.int .i64 x.block,.int .i64 x.kind,.slice ta x.tiers.length tc,.int .i64 x.mode,.slice aa x.adjusts.length ac]:=by
  rw [hw2]
  exact ((X1.set 0 (.int .i64 0)).set 1 (.int .i64 0)).set 2 (.int .i64 0)
 have hk0:w.heap.size≤k1:=by omega
 have b2:Below w.heap.size w w2:=by rw [hw2];exact ((b1.setCell (p:=⟨k1,0,none⟩) hk0 _).setCell (p:=⟨k1,1,none⟩) hk0 _).setCell (p:=⟨k1,2,none⟩) hk0 _
 obtain ⟨w3,hw3⟩:∃W,W=w2.alloc (.cells ([.string ⟨#[]⟩,.string ⟨#[]⟩,.int .i64 0,.int .i64 0,.int .i64 0]:List Value).toArray 44):=⟨_,rfl⟩
 obtain ⟨k3,hk3⟩:∃k,k=w2.heap.size:=⟨_,rfl⟩
 have b23:Below w2.heap.size w2 w3:=by rw [hw3];exact bel_alloc _ _
 have b3:Below w.heap.size w w3:=bel_on b2 b23
 have c6:=X1.cell 6 _ rfl
 have c8:=X1.cell 8 _ rfl
 have c0:=X1.cell 0 _ rfl
 have c1:=X1.cell 1 _ rfl
 have c2:=X1.cell 2 _ rfl
 have f0:=X1.free 0
 have f1:=X1.free 1
 have f2:=X1.free 2
 have l1:=X1.lt
 have tm:=ht.hmax
 have am:=ha.hmax
 have HW:=hid hw1
 have HK:=hid hk1
 have B1:=hid b1
 have HX:=hid X1
 obtain ⟨R,hR⟩:∃R,R=goodX x:=⟨_,rfl⟩
 rw [←hR]
 have HR:=hid hR
 by_cases t40:40<x.tiers.length
 ·have z1:decide ((40:Int)<(x.tiers.length:Int))=true:=decide_eq_true (by omega)
  have HF:Hid (R=false):=hid (by rw [hR];exact goodX_len (.inl t40))
  clear hw1 hk1 hw2 hw3 hk3 X2 b1 b2 b23 b3 X1 ht ha hR HR hk0
  go_enter Try.func9,Try.ntmps9
  go_upto_region 1 with fail
  rw [←HW.out,←HK.out]
  go_wp2
  go_ret
  exact rbb HF.out.symm B1.out
 have z1:decide ((40:Int)<(x.tiers.length:Int))=false:=decide_eq_false (by omega)
 by_cases a40:40<x.adjusts.length
 ·have z2:decide ((40:Int)<(x.adjusts.length:Int))=true:=decide_eq_true (by omega)
  have HF:Hid (R=false):=hid (by rw [hR];exact goodX_len (.inr a40))
  clear hw1 hk1 hw2 hw3 hk3 X2 b1 b2 b23 b3 X1 ht ha hR HR hk0
  go_enter Try.func9,Try.ntmps9
  go_upto_region 1 with fail
  rw [←HW.out,←HK.out]
  go_wp2
  go_ret
  exact rbb HF.out.symm B1.out
 have z2:decide ((40:Int)<(x.adjusts.length:Int))=false:=decide_eq_false (by omega)
 have cP:=part_any core0 (bare x) (some ⟨k3,0,none⟩) 1 none 0 none 0 ta tc aa ac w3 (ht.on b3) (ha.on b3)
 rw [show partB core0 (bare x)=R by rw [hR];rfl] at cP
 have cP:=hid cP
 have l2:=X2.lt
 have d0:=X2.cell 0 _ rfl
 have d1:=X2.cell 1 _ rfl
 have d2:=X2.cell 2 _ rfl
 have d3:=X2.cell 3 _ rfl
 have d4:=X2.cell 4 _ rfl
 have d5:=X2.cell 5 _ rfl
 have d6:=X2.cell 6 _ rfl
 have d7:=X2.cell 7 _ rfl
 have d8:=X2.cell 8 _ rfl
 have HW2:=hid hw2
 have HW3:=hid hw3
 have HK3:=hid hk3
 have B3:=hid b3
 clear hw1 hk1 hw2 hw3 hk3 X2 b1 b2 b23 b3 X1 ht ha hR HR hk0
 go_enter Try.func9,Try.ntmps9
 go_upto_region 1 with fail
 rw [←HW.out,←HK.out]
 go_upto_region 6 with fail
 rw [←HW2.out]
 go_wp2_with fail
 rw [←HW3.out,←HK3.out]
 refine cP.out.mono ?_
 rintro e w4 ⟨rfl,b4⟩
 have BF:=hid (bel_on B3.out b4)
 clear b4 cP
 go_wp2
 go_ret
 exact rbb rfl BF.out
theorem alive_any (T:Ti) (w:World):Calls Try.prog 8 #[] w fun e w'=>e=.returned (.bool true)∧Below w.heap.size w w':=by
 obtain ⟨x,hx⟩:∃x:Prt,x=⟨0,0,0,0,1,1,[⟨10,2000000⟩,⟨0,1000000⟩],0,[]⟩:=⟨_,rfl⟩
 obtain ⟨y,hy⟩:∃y:Prt,y=⟨0,0,0,0,1,2,[⟨10,2000000⟩,⟨0,1000000⟩],0,[]⟩:=⟨_,rfl⟩
 have gx:GoodT x:=(goodX_t (by rw [hx];decide +kernel)).1
 have gy:GoodT y:=(goodX_t (by rw [hy];decide +kernel)).1
 have ox:chargeO x 15=some 25:=by rw [hx];decide +kernel
 have oy:chargeO y 15=some 15:=by rw [hy];decide +kernel
 obtain ⟨w1,hw1⟩:∃W,W=w.alloc (.cells ([.int .i64 10,.int .i64 2000000,.int .i64 0,.int .i64 1000000]:List Value).toArray 39):=⟨_,rfl⟩
 obtain ⟨k1,hk1⟩:∃k,k=w.heap.size:=⟨_,rfl⟩
 have b1:Below w.heap.size w w1:=by rw [hw1];exact bel_alloc _ _
 have X1:Box w1 k1 [.int .i64 10,.int .i64 2000000,.int .i64 0,.int .i64 1000000]:=by rw [hw1,hk1];exact Box.new w _ 39
 obtain ⟨w2,hw2⟩:∃W,W=w1.alloc (.cells ([.int .i64 0,.int .i64 0,.int .i64 0,.int .i64 0,.int .i64 1,.int .i64 1,.slice (some ⟨k1,0,none⟩) 2 2,.int .i64 0,.slice none 0 0]:List Value).toArray 25):=⟨_,rfl⟩
 obtain ⟨k2,hk2⟩:∃k,k=w1.heap.size:=⟨_,rfl⟩
 have b12:Below w1.heap.size w1 w2:=by rw [hw2];exact bel_alloc _ _
 have X2:Box w2 k2 [.int .i64 0,.int .i64 0,.int .i64 0,.int .i64 0,.int .i64 1,.int .i64 1,.slice (some ⟨k1,0,none⟩) 2 2,.int .i64 0,.slice none 0 0]:=by rw [hw2,hk2];exact Box.new w1 _ 25
 have lie:Hid (∀W:World,Below w1.heap.size w1 W→Row tTier W (some ⟨k1,0,none⟩) 2 2 [⟨10,2000000⟩,⟨0,1000000⟩]):=hid fun W b=>by
  have:=row_box (α:=Tier) (n:=2) (cells:=tierC) (ok:=fun t=>I64 t.upto∧I64 t.rate) (hn:=fun _=>rfl) (W:=W) (k:=k1) (xs:=[⟨10,2000000⟩,⟨0,1000000⟩]) (X1.on b) (by
   intro t ht
   simp only [List.mem_cons,List.not_mem_nil,or_false] at ht
   rcases ht with rfl|rfl<;>(unfold I64;decide)) (by decide)
  exact this
 have c1:=hid (fun (W:World) (b:Below w1.heap.size w1 W)=>show Calls Try.prog 12 #[.agg #[.int .i64 0,.int .i64 0,.int .i64 0,.int .i64 0,.int .i64 1,.int .i64 1,.slice (some ⟨k1,0,none⟩) 2 2,.int .i64 0,.slice none 0 0],.int .i64 15] W fun e w'=>e=.returned (.tuple #[.int .i64 25,.bool true])∧Below W.heap.size W w' by
  have:=T.charge x (some ⟨k1,0,none⟩) 2 none 0 15 W (by rw [hx];exact lie.out W b) (by unfold I64;omega) gx
  rw [ox] at this
  rw [hx] at this
  exact this)
 have c2:=hid (fun (W:World) (b:Below w1.heap.size w1 W)=>show Calls Try.prog 12 #[.agg #[.int .i64 0,.int .i64 0,.int .i64 0,.int .i64 0,.int .i64 1,.int .i64 2,.slice (some ⟨k1,0,none⟩) 2 2,.int .i64 0,.slice none 0 0],.int .i64 15] W fun e w'=>e=.returned (.tuple #[.int .i64 15,.bool true])∧Below W.heap.size W w' by
  have:=T.charge y (some ⟨k1,0,none⟩) 2 none 0 15 W (by rw [hy];exact lie.out W b) (by unfold I64;omega) gy
  rw [oy] at this
  rw [hy] at this
  exact this)
 have HW:=hid (show w2=(w.alloc (.cells #[.int .i64 10,.int .i64 2000000,.int .i64 0,.int .i64 1000000] 39)).alloc (.cells #[.int .i64 0,.int .i64 0,.int .i64 0,.int .i64 0,.int .i64 1,.int .i64 1,.slice (some ⟨w.heap.size,0,none⟩) 2 2,.int .i64 0,.slice none 0 0] 25) by rw [hw2,hw1,hk1])
 have HK1:=hid hk1
 have HK2:=hid (show k2=w.heap.size+1 by rw [hk2,hw1];simp)
 have HX:=hid X2
 have B1:=hid b1
 have B12:=hid b12
 have HK3:=hid (show w1.heap.size≤k2 by omega)
 have hk2':w.heap.size≤k2:=by rw [HK2.out];omega
 have HKK:=hid hk2'
 have d0:=X2.cell 0 _ rfl
 have d1:=X2.cell 1 _ rfl
 have d2:=X2.cell 2 _ rfl
 have d3:=X2.cell 3 _ rfl
 have d4:=X2.cell 4 _ rfl
 have d5:=X2.cell 5 _ rfl
 have d6:=X2.cell 6 _ rfl
 have d7:=X2.cell 7 _ rfl
 have d8:=X2.cell 8 _ rfl
 clear hw1 hk1 b1 X1 hw2 hk2 b12 X2 hx hy gx gy ox oy lie hk2'
 go_enter Try.func8,Try.ntmps8
 go_upto_region 2 with fail
 rw [←HW.out,←HK2.out,←HK1.out]
 go_wp2_with fail
 refine (c1.out _ B12.out).mono ?_
 rintro e w3 ⟨rfl,b3⟩
 obtain ⟨w4,hw4⟩:∃W,W=w3.setCell ⟨k2,5,none⟩ (.int .i64 2):=⟨_,rfl⟩
 have X3:=HX.out.on b3
 have X4:Box w4 k2 [.int .i64 0,.int .i64 0,.int .i64 0,.int .i64 0,.int .i64 1,.int .i64 2,.slice (some ⟨k1,0,none⟩) 2 2,.int .i64 0,.slice none 0 0]:=by rw [hw4];exact X3.set 5 (.int .i64 2)
 have B4:Below w1.heap.size w1 w4:=by rw [hw4];exact (bel_on B12.out b3).setCell (p:=⟨k2,5,none⟩) HK3.out _
 have B4:=hid B4
 have d5:=X3.cell 5 _ rfl
 have f5:=X3.free 5
 have l3:=X3.lt
 have HW4:=hid hw4
 have HX4:=hid X4
 clear hw4 X3 X4 b3 d0 d1 d2 d3 d4 d6 d7 d8 c1
 go_upto_region 4 with fail
 rw [←HW4.out]
 clear HW4 d5 f5 l3
 have d0:=HX4.out.cell 0 _ rfl
 have d1:=HX4.out.cell 1 _ rfl
 have d2:=HX4.out.cell 2 _ rfl
 have d3:=HX4.out.cell 3 _ rfl
 have d4:=HX4.out.cell 4 _ rfl
 have d5:=HX4.out.cell 5 _ rfl
 have d6:=HX4.out.cell 6 _ rfl
 have d7:=HX4.out.cell 7 _ rfl
 have d8:=HX4.out.cell 8 _ rfl
 have l4:=HX4.out.lt
 go_wp2_with fail
 refine (c2.out _ B4.out).mono ?_
 rintro e w5 ⟨rfl,b5⟩
 have B5:=hid (bel_on B1.out (bel_on B4.out b5))
 clear b5 c2 d0 d1 d2 d3 d4 d5 d6 d7 d8
 go_wp2
 go_ret
 exact ⟨rfl,B5.out⟩
attribute [local go_sem] Oper.semAt_some
def encS (s:Stp):Array Value:=#[.agg #[.int .i64 s.a,.int .i64 s.b,.int .i64 s.r]]
def Cells (W:World) (B:Nat) (t:TypeId) (cs:List Value):Prop:=W.heap[B]?=some (.cells cs.toArray t (0,0))
theorem Cells.lt {W:World} {B:Nat} {t:TypeId} {cs:List Value} (h:Cells W B t cs):B<W.heap.size:=(Array.getElem?_eq_some_iff.1 h).1
theorem Cells.cell {W:World} {B:Nat} {t:TypeId} {cs:List Value} (h:Cells W B t cs) (i:Nat):W.cell? ⟨B,i,none⟩=cs[i]?:=by simp [World.cell?,show W.heap[B]?=_ from h]
theorem Cells.kept {W W':World} {row:Option Nat} {B:Nat} {t:TypeId} {cs:List Value} (h:Cells W B t cs) (hg:W.grownBy W' row) (hne:some B≠row):Cells W' B t cs:=(hg.block B h.lt hne).trans h
theorem cells_own {β:Type} (B:Nat) (t:TypeId) (cs:List Value) (n:Nat):OwnFrom n (fun (_:β) W=>Cells W B t cs):=fun _ X _ _ hs hg hr=>
 Cells.kept hs hg (fun e'=>by obtain ⟨_,o,ho,hc⟩:=hr B e'.symm;rw [show X.heap[B]?=_ from hs] at ho;cases ho;cases hc)
end L11
namespace Bt
open Go.RowKit P
theorem mask_any {n:Int} : bits .and .u64 (IntKind.u64.wrap n) 4294967295=IntKind.u64.wrap n % 4294967296:=and32 (by rw [u64_mod];omega) (by rw [u64_mod];omega)
theorem upper_half (X Y:Int) (x0:0≤X) (x1:X<18446744073709551616) (y0:0≤Y) (y1:Y<18446744073709551616) :
  IntKind.u64.wrap (IntKind.u64.wrap (IntKind.u64.wrap (X / 4294967296*(Y / 4294967296))+IntKind.u64.wrap (IntKind.u64.wrap (X / 4294967296*(Y % 4294967296))+IntKind.u64.wrap (X % 4294967296*(Y % 4294967296)) / 4294967296) / 4294967296) +
   IntKind.u64.wrap (IntKind.u64.wrap (IntKind.u64.wrap (X / 4294967296*(Y % 4294967296))+IntKind.u64.wrap (X % 4294967296*(Y % 4294967296)) / 4294967296) % 4294967296+IntKind.u64.wrap (X % 4294967296*(Y / 4294967296))) / 4294967296)=X*Y / 18446744073709551616:=by
 have le:∀a b:Int,0≤a→a≤4294967295→0≤b→b≤4294967295→0≤a*b∧a*b≤18446744065119617025:=fun a b h1 h2 h3 h4=>by
  have h5:=Int.mul_le_mul h2 h4 h3 (by omega:(0:Int)≤4294967295)
  exact ⟨Int.mul_nonneg h1 h3,by omega⟩
 have e:X*Y=X / 4294967296*(Y / 4294967296)*18446744073709551616+(X / 4294967296*(Y % 4294967296)+X % 4294967296*(Y / 4294967296))*4294967296+X % 4294967296*(Y % 4294967296):=by
  have hx:=Int.mul_ediv_add_emod X 4294967296
  have hy:=Int.mul_ediv_add_emod Y 4294967296
  have key:∀a b c d:Int,(4294967296*a+b)*(4294967296*c+d)=a*c*18446744073709551616+(a*d+b*c)*4294967296+b*d:=by intro a b c d;grind
  have:=key (X / 4294967296) (X % 4294967296) (Y / 4294967296) (Y % 4294967296)
  rw [hx,hy] at this
  exact this
 have p1:=le (X / 4294967296) (Y / 4294967296) (by omega) (by omega) (by omega) (by omega)
 have p2:=le (X / 4294967296) (Y % 4294967296) (by omega) (by omega) (by omega) (by omega)
 have p3:=le (X % 4294967296) (Y / 4294967296) (by omega) (by omega) (by omega) (by omega)
 have p4:=le (X % 4294967296) (Y % 4294967296) (by omega) (by omega) (by omega) (by omega)
 rw [e]
 generalize X / 4294967296*(Y / 4294967296)=A at *
 generalize X / 4294967296*(Y % 4294967296)=B at *
 generalize X % 4294967296*(Y / 4294967296)=C at *
 generalize X % 4294967296*(Y % 4294967296)=D at *
 simp only [u64_mod]
 clear e le x0 x1 y0 y1
 omega
theorem mul64_int (X Y:Int) (x0:0≤X) (x1:X<18446744073709551616) (y0:0≤Y) (y1:Y<18446744073709551616) (w:World) :
  Calls Try.prog 43 #[.int .u64 X,.int .u64 Y] w fun e w'=>e=.returned (.tuple #[.int .u64 (X*Y / 18446744073709551616),.int .u64 (IntKind.u64.wrap (X*Y))])∧w=w':=by
 have E:=hid (upper_half X Y x0 x1 y0 y1)
 have EX:=hid (and32 x0 x1)
 have EY:=hid (and32 y0 y1)
 clear x0 x1 y0 y1
 go_enter Try.func43,Try.ntmps43
 go_wp2
 rw [EX.out,EY.out,mask_any,E.out]
 go_ret2
 exact ⟨rfl,rfl⟩
theorem mul64_any (x y:Nat) (hx:x<18446744073709551616) (hy:y<18446744073709551616) (w:World) :
  Calls Try.prog 43 #[.int .u64 x,.int .u64 y] w fun e w'=>e=.returned (.tuple #[.int .u64 (hiN (x*y)),.int .u64 (loN (x*y))])∧w=w':=by
 have h:=mul64_int x y (by omega) (by omega) (by omega) (by omega) w
 have e1:(x:Int)*y / 18446744073709551616=(hiN (x*y):Int):=by rw [←Int.natCast_mul];unfold hiN;omega
 have e2:IntKind.u64.wrap ((x:Int)*y)=(loN (x*y):Int):=by rw [←Int.natCast_mul,u64_mod];unfold loN;omega
 rw [e1,e2] at h
 exact h
theorem tab_len (n:Nat) (h:n<Lib.len8tab.size):(Lib.len8tab[n]'h).toNat=Lib.bitLen n:=by
 have h2:n<256:=by rw [Lib.len8tab_size] at h;exact h
 have e:=Lib.len8_eq ⟨n,h2⟩
 simp only [Lib.len8,Int.toNat_natCast,ByteArray.getElem?_lt' _ _ h,Option.getD_some] at e
 omega
theorem tab_le (n:Nat) (h:n<Lib.len8tab.size):Lib.bitLen n≤8:=by
 have h2:n<256:=by rw [Lib.len8tab_size] at h;exact h
 exact Lib.bitLen_le8 ⟨n,h2⟩
theorem len_close {k:Nat} {x d:Int} {e:Int} (h:d.toNat<Lib.len8tab.size) (hk:e=k) (h1:x≤18446744073709551615) (h0:0≤x) (hx:2 ^ k≤x.toNat) (hd:d.toNat=x.toNat / 2 ^ k) (k56:k≤56) :
  wrap64 (e+wrap64 ((Lib.len8tab[d.toNat]'h).toNat:Int))=(Lib.bitLen x.toNat:Int):=by
 rw [tab_len,Lib.bitLen_shift k x.toNat hx (by omega),←hd]
 have:=tab_le _ h
 unfold wrap64
 omega
theorem len_close0 {x:Int} (h:x.toNat<Lib.len8tab.size):wrap64 (wrap64 ((Lib.len8tab[x.toNat]'h).toNat:Int))=(Lib.bitLen x.toNat:Int):=by
 rw [tab_len]
 have:=tab_le _ h
 unfold wrap64
 omega
theorem len64_int (x:Int) (w:World) (h0:0≤x) (h1:x≤18446744073709551615) :
  Calls Try.prog 53 #[.int .u64 x] w fun e w'=>e=.returned (.int .i64 (Lib.bitLen x.toNat))∧w=w':=by
 have hs:=Lib.len8tab_size
 go_enter Try.func53,Try.ntmps53
 go_wp2
 all_goals first
  | (exfalso;omega)
  | (go_ret
     refine ⟨congrArg Ending.returned (congrArg (Value.int IntKind.i64) ?_),rfl⟩
     first
      | exact len_close0 _
      | exact len_close (k:=56) _ rfl h1 h0 (by omega) (by omega) (by omega)
      | exact len_close (k:=48) _ rfl h1 h0 (by omega) (by omega) (by omega)
      | exact len_close (k:=40) _ rfl h1 h0 (by omega) (by omega) (by omega)
      | exact len_close (k:=32) _ rfl h1 h0 (by omega) (by omega) (by omega)
      | exact len_close (k:=24) _ rfl h1 h0 (by omega) (by omega) (by omega)
      | exact len_close (k:=16) _ rfl h1 h0 (by omega) (by omega) (by omega)
      | exact len_close (k:=8) _ rfl h1 h0 (by omega) (by omega) (by omega))
theorem len_bounds (x:Nat) (hx:x<2 ^ 64) (h0:x≠0):∃k,Lib.bitLen x=k+1∧2 ^ k≤x∧x<2 ^ (k+1):=by
 induction x using Nat.strongRecOn with
 | ind x ih=>
   by_cases h1:x=1
   ·subst h1;exact ⟨0,by decide,by decide,by decide⟩
   ·obtain ⟨k,e,l,u⟩:=ih (x / 2) (by omega) (by omega) (by omega)
    refine ⟨k+1,by rw [Lib.bitLen_half x h0 hx,e];omega,?_,?_⟩
    ·rw [Nat.pow_succ] at *;omega
    ·rw [Nat.pow_succ] at *;omega
def lz (x:Nat):Nat:=64-Lib.bitLen x
theorem lz_le (x:Nat) (hx:x<2 ^ 64) (h0:x≠0):lz x≤63:=by
 obtain ⟨k,e,_,_⟩:=len_bounds x hx h0
 unfold lz;omega
theorem lz_norm (x:Nat) (hx:x<2 ^ 64) (h0:x≠0):2 ^ 63≤x*2 ^ lz x∧x*2 ^ lz x<2 ^ 64:=by
 obtain ⟨k,e,l,u⟩:=len_bounds x hx h0
 have hk:k<64:=by
  rcases Nat.lt_or_ge k 64 with h|h
  ·exact h
  ·exact absurd (Nat.le_trans (Nat.pow_le_pow_right (by omega) h) l) (by omega)
 have e1:lz x=63-k:=by unfold lz;omega
 rw [e1]
 have p1:(2:Nat) ^ 63=2 ^ k*2 ^ (63-k):=by rw [←Nat.pow_add];congr 1;omega
 have p2:(2:Nat) ^ 64=2 ^ (k+1)*2 ^ (63-k):=by rw [←Nat.pow_add];congr 1;omega
 rw [p1,p2]
 exact ⟨Nat.mul_le_mul_right _ l,Nat.mul_lt_mul_of_pos_right u (Nat.pow_pos (by omega))⟩
theorem lead_any (x:Int) (w:World) (h0:0≤x) (h1:x≤18446744073709551615) :
  Calls Try.prog 51 #[.int .u64 x] w fun e w'=>e=.returned (.int .i64 (64-(Lib.bitLen x.toNat:Int)))∧w=w':=by
 have hl:Lib.bitLen x.toNat≤64:=Lib.bitLen_le _ _ (Nat.le_refl _) (by omega)
 have E:Hid (wrap64 (64-(Lib.bitLen x.toNat:Int))=64-(Lib.bitLen x.toNat:Int)):=by show _=_;unfold wrap64;omega
 clear hl
 go_enter Try.func51,Try.ntmps51
 go_wp2_with (go_at_call 53;refine (len64_int _ _ h0 h1).mono ?_;rintro e w' ⟨rfl,rfl⟩)
 go_ret
 exact ⟨by rw [E.out];rfl,rfl⟩
theorem lead_ex (x:Int) (w:World) (h0:0<x) (h1:x≤18446744073709551615) :
  Calls Try.prog 51 #[.int .u64 x] w fun e w'=>∃s:Nat,s≤63∧9223372036854775808≤x*2 ^ s∧x*2 ^ s<18446744073709551616∧e=.returned (.int .i64 s)∧w=w':=by
 have hx:x.toNat<2 ^ 64:=by omega
 have hn:x.toNat≠0:=by omega
 have hl:Lib.bitLen x.toNat≤64:=Lib.bitLen_le _ _ (Nat.le_refl _) hx
 have h2:=lz_norm x.toNat hx hn
 have e2:((x.toNat*2 ^ lz x.toNat:Nat):Int)=x*2 ^ lz x.toNat:=by
  rw [Int.natCast_mul,Int.natCast_pow,Int.toNat_of_nonneg (by omega)];rfl
 refine (lead_any x w (by omega) h1).mono ?_
 rintro e w' ⟨rfl,rfl⟩
 refine ⟨lz x.toNat,lz_le _ hx hn,by omega,by omega,?_,rfl⟩
 rw [show ((lz x.toNat:Nat):Int)=64-(Lib.bitLen x.toNat:Int) by unfold lz;omega]
end Bt
end Go.Proofs.Ytcimcdoiiepjoaa
