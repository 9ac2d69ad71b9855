/- The document's answers for layer 10 (poundageref10): Part. -/
import Derived.Test.YtofbobdhkbmbgaaGreatDoorJRef10
import Derived.Test.YtofbobdhkbmbgaaGreatDoorJRef9d
namespace Go.Proofs.YtofbobdhkbmbgaaGreatDoor.R10
open Go.RowKit Go.Sort P Mm Md R6 Te Co
theorem tiersB_step {l:List Tier} {i:Nat} {t:Tier} {u:Int} (h:l[i]?=some t) (hi:i+1<l.length):tiersB u (l.drop i)=(inB t.rate 0 1000000000000 && inB t.upto (u+1) 1000000 && tiersB t.upto (l.drop (i+1))):=by
 obtain ⟨t',h'⟩:∃t',l[i+1]?=some t':=⟨_,List.getElem?_eq_getElem hi⟩
 rw [drop_at h,drop_at h']
 rfl
theorem tiersB_last {l:List Tier} {i:Nat} {t:Tier} {u:Int} (h:l[i]?=some t) (hi:i+1=l.length):tiersB u (l.drop i)=(inB t.rate 0 1000000000000 && decide (t.upto=0)):=by
 rw [drop_at h,List.drop_of_length_le (by omega)]
 rfl
theorem all_drop {α:Type} {q:α→Bool} {l:List α} {i:Nat} {x:α} (h:l[i]?=some x):(l.drop i).all q=(q x && (l.drop (i+1)).all q):=by
 rw [drop_at h]
 rfl
theorem partB_eq (c:Cor) (x:Prt):partB c x=(inB x.mt 0 ((c.meters.length:Int)-1) && (spanB c.a c.b x.a x.b && (inB x.allowance 0 1000000 && (inB x.block 1 1000000 && (inB x.kind 1 2 && (inB x.mode 0 3 && (inB x.tiers.length 1 8 && (decide (x.adjusts.length≤6) && (tiersB 0 x.tiers && x.adjusts.all adjB))))))))):=by
 unfold partB tierRow
 ac_rfl
/-- What stands ahead of the i-th tier. -/
def Prev (ts:List Tier) (i:Nat) (u:Int):Prop:=(i=0∧u=0)∨(0<i∧1≤u∧u≤1000000∧∃y,ts[i-1]?=some y∧y.upto=u)
theorem tier_in {w:World} {b o len cap:Nat} {xs:List Tier} (h:Row tTier w (some ⟨b,o,none⟩) len cap xs) {j:Nat} {m:Tier} (hj:xs[j]?=some m) :
  w.cell? ⟨b,o+j*2,none⟩=some (.int .i64 m.upto)∧w.cell? ⟨b,o+j*2+1,none⟩=some (.int .i64 m.rate):=by
 obtain ⟨b',o',e,_,x0,x1,_⟩:=tier_at h hj
 simp only [Option.some.injEq,Addr.mk.injEq,and_true] at e
 obtain ⟨rfl,rfl⟩:=e
 exact ⟨x0,x1⟩
set_option maxHeartbeats 16000000 in
set_option maxRecDepth 100000 in
theorem part_any (c:Cor) (x:Prt) (ma:Option Addr) (mc:Nat) (sa:Option Addr) (sc:Nat) (pa:Option Addr) (pc:Nat) (ta:Option Addr) (tc:Nat) (aa:Option Addr) (ac:Nat) (w:World) (ht:Row tTier w ta x.tiers.length tc x.tiers) (ha:Row tAdj w aa x.adjusts.length ac x.adjusts) :
  Calls Tryz.prog 48 #[.agg #[.string c.cur,.int .i64 c.a,.int .i64 c.b,.slice ma c.meters.length mc,.slice sa c.sums.length sc,.slice pa c.parts.length pc],.agg #[.int .i64 x.mt,.int .i64 x.a,.int .i64 x.b,.int .i64 x.allowance,.int .i64 x.block,.int .i64 x.kind,.slice ta x.tiers.length tc,.int .i64 x.mode,.slice aa x.adjusts.length ac]] w fun e w'=>e=.returned (.bool (partB c x))∧Below w.heap.size w w':=by
 obtain ⟨w1,hw1⟩:∃W,W=(w.alloc (.cells ([.string c.cur,.int .i64 c.a,.int .i64 c.b,.slice ma c.meters.length mc,.slice sa c.sums.length sc,.slice pa c.parts.length pc]:List Value).toArray 27)).alloc (.cells ([.int .i64 x.mt,.int .i64 x.a,.int .i64 x.b,.int .i64 x.allowance,.int .i64 x.block,.int .i64 x.kind,.slice ta x.tiers.length tc,.int .i64 x.mode,.slice aa x.adjusts.length ac]:List Value).toArray 59):=⟨_,rfl⟩
 obtain ⟨k1,hk1⟩:∃k,k=w.heap.size:=⟨_,rfl⟩
 obtain ⟨k2,hk2⟩:∃k,k=w.heap.size+1:=⟨_,rfl⟩
 have b1:Below w.heap.size w w1:=by rw [hw1];exact bel_alloc2 ..
 have X2:Box w1 k2 [.int .i64 x.mt,.int .i64 x.a,.int .i64 x.b,.int .i64 x.allowance,.int .i64 x.block,.int .i64 x.kind,.slice ta x.tiers.length tc,.int .i64 x.mode,.slice aa x.adjusts.length ac]:=by
  rw [hw1,hk2]
  have:=Box.new (w.alloc (.cells ([.string c.cur,.int .i64 c.a,.int .i64 c.b,.slice ma c.meters.length mc,.slice sa c.sums.length sc,.slice pa c.parts.length pc]:List Value).toArray 27)) [.int .i64 x.mt,.int .i64 x.a,.int .i64 x.b,.int .i64 x.allowance,.int .i64 x.block,.int .i64 x.kind,.slice ta x.tiers.length tc,.int .i64 x.mode,.slice aa x.adjusts.length ac] 59
  simpa using this
 have X1:Box w1 k1 [.string c.cur,.int .i64 c.a,.int .i64 c.b,.slice ma c.meters.length mc,.slice sa c.sums.length sc,.slice pa c.parts.length pc]:=by rw [hw1,hk1];exact (Box.new w _ 27).on (bel_alloc _ _)
 have X:=hid (fun (W:World) (b:Below w1.heap.size w1 W)=>(⟨X1.on b,X2.on b,bel_on b1 b⟩:Box W k1 [.string c.cur,.int .i64 c.a,.int .i64 c.b,.slice ma c.meters.length mc,.slice sa c.sums.length sc,.slice pa c.parts.length pc]∧Box W k2 [.int .i64 x.mt,.int .i64 x.a,.int .i64 x.b,.int .i64 x.allowance,.int .i64 x.block,.int .i64 x.kind,.slice ta x.tiers.length tc,.int .i64 x.mode,.slice aa x.adjusts.length ac]∧Below w.heap.size w W))
 have HT:=hid (fun (W:World) (b:Below w1.heap.size w1 W)=>ht.on (bel_on b1 b))
 have HA:=hid (fun (W:World) (b:Below w1.heap.size w1 W)=>ha.on (bel_on b1 b))
 have tm:=ht.hmax
 have tcp:=ht.hcap
 have am:=ha.hmax
 have acp:=ha.hcap
 obtain ⟨R,hR⟩:∃R,R=partB c x:=⟨_,rfl⟩
 rw [←hR]
 have K0:Hid (R=(inB x.mt 0 ((c.meters.length:Int)-1) && (spanB c.a c.b x.a x.b && (inB x.allowance 0 1000000 && (inB x.block 1 1000000 && (inB x.kind 1 2 && (inB x.mode 0 3 && (inB x.tiers.length 1 8 && (decide (x.adjusts.length≤6) && (tiersB 0 x.tiers && x.adjusts.all adjB)))))))))):=hid (by rw [hR];exact partB_eq c x)
 have HW:=hid hw1
 have HK1:=hid hk1
 have HK2:=hid hk2
 have d3:=X1.cell 3 _ rfl
 have a0:=X2.cell 0 _ rfl
 clear hw1 X1 b1 hR ht ha hk1 hk2
 go_enter Tryz.func48,Tryz.ntmps48
 go_upto_region 1 with fail
 rw [←HW.out,←HK2.out,←HK1.out]
 clear HW HK1 HK2
 simp only [List.append_eq,List.cons_append,List.nil_append]
 have B0:=hid (Below.refl w1.heap.size w1)
 have BF:=hid (X.out _ B0.out).2.2
 rcases Bool.eq_false_or_eq_true (inB x.mt 0 ((c.meters.length:Int)-1)) with g|g
 rotate_left
 ·have KF:Hid (R=false):=hid (by rw [K0.out,g];rfl)
  unfold inB at g
  rw [Bool.and_eq_false_iff,decide_eq_false_iff_not,decide_eq_false_iff_not] at g
  by_cases m0:x.mt<0
  ·clear g
   go_wp2
   go_ret
   exact rbb KF.out.symm BF.out
  ·have m1:(c.meters.length:Int)≤x.mt:=by omega
   clear g
   go_wp2
   go_ret
   exact rbb KF.out.symm BF.out
 have K1:Hid (R=(spanB c.a c.b x.a x.b && (inB x.allowance 0 1000000 && (inB x.block 1 1000000 && (inB x.kind 1 2 && (inB x.mode 0 3 && (inB x.tiers.length 1 8 && (decide (x.adjusts.length≤6) && (tiersB 0 x.tiers && x.adjusts.all adjB))))))))):=hid (by rw [K0.out,g];rfl)
 unfold inB at g
 rw [Bool.and_eq_true,decide_eq_true_eq,decide_eq_true_eq] at g
 have m0:¬ x.mt<0:=by omega
 have m1:¬ (c.meters.length:Int)≤x.mt:=by omega
 clear g K0
 have d0:=(X.out _ B0.out).1.cell 0 _ rfl;have d1:=(X.out _ B0.out).1.cell 1 _ rfl;have d2:=(X.out _ B0.out).1.cell 2 _ rfl;have d4:=(X.out _ B0.out).1.cell 4 _ rfl;have d5:=(X.out _ B0.out).1.cell 5 _ rfl
 have a1:=(X.out _ B0.out).2.1.cell 1 _ rfl;have a2:=(X.out _ B0.out).2.1.cell 2 _ rfl
 have cS:=hid (span_any c x.a x.b ma mc sa sc pa pc w1)
 go_wp2_with fail
 refine cS.out.mono ?_
 rintro e w2 ⟨rfl,b2⟩
 have B2:=hid (bel_on B0.out b2)
 clear b2 cS d0 d1 d2 d3 d4 d5 a0 a1 a2 BF B0 m0 m1
 have Y:=X.out w2 B2.out
 have a0:=Y.2.1.cell 0 _ rfl;have a1:=Y.2.1.cell 1 _ rfl;have a2:=Y.2.1.cell 2 _ rfl;have a3:=Y.2.1.cell 3 _ rfl;have a4:=Y.2.1.cell 4 _ rfl;have a5:=Y.2.1.cell 5 _ rfl;have a6:=Y.2.1.cell 6 _ rfl;have a7:=Y.2.1.cell 7 _ rfl;have a8:=Y.2.1.cell 8 _ rfl
 have BF:=hid Y.2.2
 clear Y
 rcases Bool.eq_false_or_eq_true (spanB c.a c.b x.a x.b) with g|g
 rotate_left
 ·have KF:Hid (R=false):=hid (by rw [K1.out,g];rfl)
  rw [g]
  clear g
  go_wp2
  go_ret
  exact rbb KF.out.symm BF.out
 have K2:Hid (R=(inB x.allowance 0 1000000 && (inB x.block 1 1000000 && (inB x.kind 1 2 && (inB x.mode 0 3 && (inB x.tiers.length 1 8 && (decide (x.adjusts.length≤6) && (tiersB 0 x.tiers && x.adjusts.all adjB)))))))):=hid (by rw [K1.out,g];rfl)
 rw [g]
 clear g K1
 have cS:=hid (in_any x.allowance 0 1000000 w2)
 go_wp2_with fail
 refine cS.out.mono ?_
 rintro e w' ⟨rfl,rfl⟩
 clear cS
 rcases Bool.eq_false_or_eq_true (inB x.allowance 0 1000000) with g|g
 rotate_left
 ·have KF:Hid (R=false):=hid (by rw [K2.out,g];rfl)
  rw [g]
  clear g
  go_wp2
  go_ret
  exact rbb KF.out.symm BF.out
 have K3:Hid (R=(inB x.block 1 1000000 && (inB x.kind 1 2 && (inB x.mode 0 3 && (inB x.tiers.length 1 8 && (decide (x.adjusts.length≤6) && (tiersB 0 x.tiers && x.adjusts.all adjB))))))):=hid (by rw [K2.out,g];rfl)
 rw [g]
 clear g K2
 have cS:=hid (in_any x.block 1 1000000 w2)
 go_wp2_with fail
 refine cS.out.mono ?_
 rintro e w' ⟨rfl,rfl⟩
 clear cS
 rcases Bool.eq_false_or_eq_true (inB x.block 1 1000000) with g|g
 rotate_left
 ·have KF:Hid (R=false):=hid (by rw [K3.out,g];rfl)
  rw [g]
  clear g
  go_wp2
  go_ret
  exact rbb KF.out.symm BF.out
 have K4:Hid (R=(inB x.kind 1 2 && (inB x.mode 0 3 && (inB x.tiers.length 1 8 && (decide (x.adjusts.length≤6) && (tiersB 0 x.tiers && x.adjusts.all adjB)))))):=hid (by rw [K3.out,g];rfl)
 rw [g]
 clear g K3
 rcases Bool.eq_false_or_eq_true (inB x.kind 1 2) with g|g
 rotate_left
 ·have KF:Hid (R=false):=hid (by rw [K4.out,g];rfl)
  unfold inB at g
  rw [Bool.and_eq_false_iff,decide_eq_false_iff_not,decide_eq_false_iff_not] at g
  have q1:(x.kind != 1)=true:=by simp;omega
  have q2:(x.kind != 2)=true:=by simp;omega
  clear g
  go_wp2
  go_ret
  exact rbb KF.out.symm BF.out
 have K5:Hid (R=(inB x.mode 0 3 && (inB x.tiers.length 1 8 && (decide (x.adjusts.length≤6) && (tiersB 0 x.tiers && x.adjusts.all adjB))))):=hid (by rw [K4.out,g];rfl)
 unfold inB at g
 rw [Bool.and_eq_true,decide_eq_true_eq,decide_eq_true_eq] at g
 have KK:Hid (x.kind=1∨x.kind=2):=hid (by omega)
 clear g K4
 have GK:Hid (((x.kind != 1)=true∧(x.kind != 2)=false)∨(x.kind != 1)=false):=hid (by
  rcases KK.out with h|h<;>rw [h]
  ·exact .inr rfl
  ·exact .inl ⟨rfl,rfl⟩)
 clear KK
 rcases GK.out with ⟨q1,q2⟩|q1
 all_goals
  clear GK
  have cS:=hid (in_any x.mode 0 3 w2)
  go_wp2_with fail
  refine cS.out.mono ?_
  rintro e w' ⟨rfl,rfl⟩
  clear cS
  rcases Bool.eq_false_or_eq_true (inB x.mode 0 3) with g|g
  rotate_left
  ·have KF:Hid (R=false):=hid (by rw [K5.out,g];rfl)
   rw [g]
   clear g
   go_wp2
   go_ret
   exact rbb KF.out.symm BF.out
  have K6:Hid (R=(inB x.tiers.length 1 8 && (decide (x.adjusts.length≤6) && (tiersB 0 x.tiers && x.adjusts.all adjB)))):=hid (by rw [K5.out,g];rfl)
  rw [g]
  clear g K5
  rcases Bool.eq_false_or_eq_true (inB x.tiers.length 1 8) with g|g
  rotate_left
  ·have KF:Hid (R=false):=hid (by rw [K6.out,g];rfl)
   unfold inB at g
   rw [Bool.and_eq_false_iff,decide_eq_false_iff_not,decide_eq_false_iff_not] at g
   by_cases t0:(x.tiers.length:Int)<1
   ·clear g
    go_wp2
    go_ret
    exact rbb KF.out.symm BF.out
   ·have t1:(8:Int)<x.tiers.length:=by omega
    clear g
    go_wp2
    go_ret
    exact rbb KF.out.symm BF.out
  have K7:Hid (R=(decide (x.adjusts.length≤6) && (tiersB 0 x.tiers && x.adjusts.all adjB))):=hid (by rw [K6.out,g];rfl)
  unfold inB at g
  rw [Bool.and_eq_true,decide_eq_true_eq,decide_eq_true_eq] at g
  obtain ⟨t1,t8⟩:=g
  clear K6
  by_cases h6:6<(x.adjusts.length:Int)
  ·have KF:Hid (R=false):=hid (by rw [K7.out,decide_eq_false (by omega)];rfl)
   go_wp2
   go_ret
   exact rbb KF.out.symm BF.out
  have K8:Hid (R=(tiersB 0 (x.tiers.drop 0) && x.adjusts.all adjB)):=hid (by rw [K7.out,decide_eq_true (by omega)];rfl)
  clear K7
  obtain ⟨z,hz⟩:∃z,x.tiers[0]?=some z:=⟨_,List.getElem?_eq_getElem (by omega)⟩
  obtain ⟨bt,ot,et,_⟩:=tier_at (HT.out _ B2.out) hz
  subst et
  obtain ⟨n,hn⟩:∃n,n=x.tiers.length:=⟨_,rfl⟩
  have HN:=hid hn
  clear hz
  have wn:IntKind.i64.wrap ((x.tiers.length:Int)-1)=(x.tiers.length:Int)-1:=wrap_i (by unfold I64;omega)
  go_upto_region 3 with fail
  clear a0 a1 a2 a3 a4 a5 a7 a8 hn HN
  go_wp2
  go_loopw [80] (fun i wr=>∃(i':Nat) (u:Int),i=.int .i64 (i':Int)∧i'≤x.tiers.length∧Hid (i'<x.tiers.length→Prev x.tiers i' u)∧Hid (R=(tiersB u (x.tiers.drop i') && x.adjusts.all adjB))∧Hid (Below w1.heap.size w1 wr)) (fun i _=>x.tiers.length-(intOf i).toNat)
  case atStart=>exact ⟨0,0,rfl,Nat.zero_le _,hid (fun _=>.inl ⟨rfl,rfl⟩),K8,B2⟩
  case round=>
   obtain ⟨i',u,rfl,hi,hP,hR,hb⟩:=hrel
   clear K8 B2 BF a6
   by_cases hlt:i'<x.tiers.length
   ·obtain ⟨y,hy⟩:∃y,x.tiers[i']?=some y:=⟨_,List.getElem?_eq_getElem hlt⟩
    have HY:=hid hy
    obtain ⟨y0,y1⟩:=tier_in (HT.out _ hb.out) hy
    obtain ⟨wt,hwt⟩:∃W,W=wr.alloc (.cells ([.int .i64 y.upto,.int .i64 y.rate]:List Value).toArray 119):=⟨_,rfl⟩
    obtain ⟨kt,hkt⟩:∃k,k=wr.heap.size:=⟨_,rfl⟩
    have bt2:Below wr.heap.size wr wt:=by rw [hwt];exact bel_alloc _ _
    have XT:Box wt kt [.int .i64 y.upto,.int .i64 y.rate]:=by rw [hwt,hkt];exact Box.new _ _ _
    have BT:=hid (bel_on hb.out bt2)
    have HXT:=hid XT
    have HWT:=hid hwt
    have HKT:=hid hkt
    have BFT:=hid (X.out wt BT.out).2.2
    have a6:=(X.out wr hb.out).2.1.cell 6 _ rfl
    clear hwt hkt bt2 XT hy hb
    go_upto_region 7 with fail
    rw [←HWT.out,←HKT.out]
    clear HWT HKT y0 y1 a6
    have a6:=(X.out wt BT.out).2.1.cell 6 _ rfl
    go_cut [96] (fun v W=>v=.bool (decide ((0:Int)<(i':Int)))∧W=wt)
    case first=>
     rcases hP.out hlt with ⟨rfl,rfl⟩|⟨p0,p1,p2,z,hz,rfl⟩
     ·go_wp2
      go_meet
      exact ⟨rfl,rfl⟩
     ·obtain ⟨z0,_⟩:=tier_in (HT.out _ BT.out) hz
      have w5:IntKind.i64.wrap ((i':Int)-1)=(i':Int)-1:=wrap_i (by unfold I64;omega)
      have q0:(0:Int)<i':=by omega
      have q1:0≤(i':Int)-1:=by omega
      have q2:(i':Int)-1<x.tiers.length:=by omega
      clear hz
      go_wp2
      go_meet
      exact ⟨by simp;omega,rfl⟩
    case rest=>
     obtain ⟨rfl,rfl⟩:=hcut
     go_upto_if 96 with fail
     go_cut [7] (fun v W=>v=.int .i64 (u+1)∧W=wc)
     case first=>
      rcases hP.out hlt with ⟨rfl,rfl⟩|⟨p0,p1,p2,z,hz,rfl⟩
      ·go_wp2
       go_meet
       exact ⟨rfl,rfl⟩
      ·obtain ⟨z0,_⟩:=tier_in (HT.out _ BT.out) hz
       have w5:IntKind.i64.wrap ((i':Int)-1)=(i':Int)-1:=wrap_i (by unfold I64;omega)
       have w6:IntKind.i64.wrap (z.upto+1)=z.upto+1:=wrap_i (by unfold I64;omega)
       have q0:(0:Int)<i':=by omega
       have q1:0≤(i':Int)-1:=by omega
       have q2:(i':Int)-1<x.tiers.length:=by omega
       clear hz
       go_wp2
       go_meet
       exact ⟨by rw [Int.min_eq_left p2],rfl⟩
     case rest=>
      obtain ⟨rfl,rfl⟩:=hcut
      have e0:=HXT.out.cell 0 _ rfl;have e1:=HXT.out.cell 1 _ rfl
      by_cases hl:i'+1=x.tiers.length
      ·have gl:((i':Int)==(x.tiers.length:Int)-1)=true:=by simp;omega
       have K9:Hid (R=((inB y.rate 0 1000000000000 && decide (y.upto=0)) && x.adjusts.all adjB)):=hid (by rw [hR.out,tiersB_last HY.out hl])
       have cS:=hid (in_any y.rate 0 1000000000000 wc)
       clear hP hR HT
       go_wp2_with fail
       refine cS.out.mono ?_
       rintro e w' ⟨rfl,rfl⟩
       clear cS
       rcases Bool.eq_false_or_eq_true (inB y.rate 0 1000000000000) with g|g
       rotate_left
       ·have KF:Hid (R=false):=hid (by rw [K9.out,g];rfl)
        rw [g]
        clear g
        go_wp2
        go_ret
        exact rbb KF.out.symm BFT.out
       have K10:Hid (R=(decide (y.upto=0) && x.adjusts.all adjB)):=hid (by rw [K9.out,g];rfl)
       rw [g]
       clear g K9
       have cS:=hid (in_any y.upto 0 0 wc)
       go_wp2_with fail
       refine cS.out.mono ?_
       rintro e w' ⟨rfl,rfl⟩
       clear cS
       by_cases h0:y.upto=0
       ·have g:inB y.upto 0 0=true:=by rw [h0];rfl
        have K11:Hid (R=(tiersB 0 (x.tiers.drop (i'+1)) && x.adjusts.all adjB)):=hid (by rw [K10.out,decide_eq_true h0,List.drop_of_length_le (by omega)];rfl)
        rw [g]
        clear g h0 e0 e1
        go_wp2
        go_roundw
        case rel=>exact ⟨i'+1,0,by simp,by omega,hid (fun h=>absurd h (by omega)),K11,BT⟩
        case measure=>simp [intOf];omega
       ·have g:inB y.upto 0 0=false:=by unfold inB;simp;omega
        have KF:Hid (R=false):=hid (by rw [K10.out,decide_eq_false h0];rfl)
        rw [g]
        clear g h0 e0 e1
        go_wp2
        go_ret
        exact rbb KF.out.symm BFT.out
      ·have gl:((i':Int)==(x.tiers.length:Int)-1)=false:=by simp;omega
       have K9:Hid (R=((inB y.rate 0 1000000000000 && inB y.upto (u+1) 1000000 && tiersB y.upto (x.tiers.drop (i'+1))) && x.adjusts.all adjB)):=hid (by rw [hR.out,tiersB_step HY.out (by omega)])
       have U0:0≤u:=by rcases hP.out hlt with ⟨_,h⟩|⟨_,h,_⟩<;>omega
       have cS:=hid (in_any y.rate 0 1000000000000 wc)
       clear hP hR HT
       go_wp2_with fail
       refine cS.out.mono ?_
       rintro e w' ⟨rfl,rfl⟩
       clear cS
       rcases Bool.eq_false_or_eq_true (inB y.rate 0 1000000000000) with g|g
       rotate_left
       ·have KF:Hid (R=false):=hid (by rw [K9.out,g];rfl)
        rw [g]
        clear g
        go_wp2
        go_ret
        exact rbb KF.out.symm BFT.out
       have K10:Hid (R=((inB y.upto (u+1) 1000000 && tiersB y.upto (x.tiers.drop (i'+1))) && x.adjusts.all adjB)):=hid (by rw [K9.out,g];rfl)
       rw [g]
       clear g K9
       have cS:=hid (in_any y.upto (u+1) 1000000 wc)
       go_wp2_with fail
       refine cS.out.mono ?_
       rintro e w' ⟨rfl,rfl⟩
       clear cS
       rcases Bool.eq_false_or_eq_true (inB y.upto (u+1) 1000000) with g|g
       rotate_left
       ·have KF:Hid (R=false):=hid (by rw [K10.out,g];rfl)
        rw [g]
        clear g e0 e1
        go_wp2
        go_ret
        exact rbb KF.out.symm BFT.out
       have K11:Hid (R=(tiersB y.upto (x.tiers.drop (i'+1)) && x.adjusts.all adjB)):=hid (by rw [K10.out,g];rfl)
       have PV:=hid (show i'+1<x.tiers.length→Prev x.tiers (i'+1) y.upto from fun _=>by
        unfold inB at g
        rw [Bool.and_eq_true,decide_eq_true_eq,decide_eq_true_eq] at g
        exact .inr ⟨Nat.succ_pos _,by omega,by omega,y,by rw [Nat.add_sub_cancel];exact HY.out,rfl⟩)
       rw [g]
       clear g e0 e1
       go_wp2
       go_roundw
       case rel=>exact ⟨i'+1,y.upto,by simp,by omega,PV,K11,BT⟩
       case measure=>simp [intOf];omega
   ·obtain rfl:i'=x.tiers.length:=by omega
    have K9:Hid (R=(x.adjusts.drop 0).all adjB):=hid (by rw [hR.out,List.drop_length];rfl)
    have a8:=(X.out wr hb.out).2.1.cell 8 _ rfl
    obtain ⟨wq,hwq⟩:∃W,W=wr:=⟨_,rfl⟩
    rw [←hwq] at hb a8 ⊢
    have B9:=hb
    clear hwq hb hR hP hlt hi HT wn
    go_wp2
    clear a8
    go_loopw [128] (fun i wr=>∃i':Nat,i=.int .i64 (i':Int)∧i'≤x.adjusts.length∧Hid (R=(x.adjusts.drop i').all adjB)∧Hid (Below w1.heap.size w1 wr)) (fun i _=>x.adjusts.length-(intOf i).toNat)
    case atStart=>exact ⟨0,rfl,Nat.zero_le _,K9,B9⟩
    case round=>
     obtain ⟨i',rfl,hi,hR,hb⟩:=hrel
     clear K9 B9
     by_cases hlt:i'<x.adjusts.length
     rotate_left
     ·obtain rfl:i'=x.adjusts.length:=by omega
      have KT:Hid (R=true):=hid (by rw [hR.out,List.drop_length];rfl)
      have BFT:=hid (X.out wr hb.out).2.2
      go_wp2
      go_ret
      exact rbb KT.out.symm BFT.out
     obtain ⟨⟨k,m,o⟩,hy⟩:∃y,x.adjusts[i']?=some y:=⟨_,List.getElem?_eq_getElem hlt⟩
     have K0:Hid (R=(adjB ⟨k,m,o⟩ && (x.adjusts.drop (i'+1)).all adjB)):=hid (by rw [hR.out,all_drop hy])
     obtain ⟨ba,oa,e,lba,y0,y1,y2,_⟩:=adj_at (HA.out _ hb.out) hy
     subst e
     simp only at y0 y1 y2
     obtain ⟨wt,hwt⟩:∃W,W=wr.alloc (.cells ([.int .i64 k,.int .i64 m,.int .i64 o]:List Value).toArray 121):=⟨_,rfl⟩
     obtain ⟨kt,hkt⟩:∃k,k=wr.heap.size:=⟨_,rfl⟩
     have bt2:Below wr.heap.size wr wt:=by rw [hwt];exact bel_alloc _ _
     have XT:Box wt kt [.int .i64 k,.int .i64 m,.int .i64 o]:=by rw [hwt,hkt];exact Box.new _ _ _
     have BT:=hid (bel_on hb.out bt2)
     have BFT:=hid (X.out wt BT.out).2.2
     have HWT:=hid hwt
     have HKT:=hid hkt
     have HXT:=hid XT
     clear hwt hkt bt2 XT hy hb hR
     go_upto_region 17 with fail
     rw [←HWT.out,←HKT.out]
     clear HWT HKT y0 y1 y2 lba
     have e0:=HXT.out.cell 0 _ rfl;have e1:=HXT.out.cell 1 _ rfl;have e2:=HXT.out.cell 2 _ rfl
     by_cases c1:k=1
     ·subst c1
      have K1:Hid (R=((inB m 0 100000000 && inB o 0 3) && (x.adjusts.drop (i'+1)).all adjB)):=hid (by rw [K0.out];unfold adjB;rw [if_pos rfl])
      have cS:=hid (in_any m 0 100000000 wt)
      go_wp2_with fail
      refine cS.out.mono ?_
      rintro e w' ⟨rfl,rfl⟩
      clear cS
      rcases Bool.eq_false_or_eq_true (inB m 0 100000000) with g|g
      rotate_left
      ·have KF:Hid (R=false):=hid (by rw [K1.out,g];rfl)
       rw [g]
       clear g
       go_wp2
       go_ret
       exact rbb KF.out.symm BFT.out
      have K2:Hid (R=(inB o 0 3 && (x.adjusts.drop (i'+1)).all adjB)):=hid (by rw [K1.out,g];rfl)
      rw [g]
      clear g K1
      have cS:=hid (in_any o 0 3 wt)
      go_wp2_with fail
      refine cS.out.mono ?_
      rintro e w' ⟨rfl,rfl⟩
      clear cS
      rcases Bool.eq_false_or_eq_true (inB o 0 3) with g|g
      rotate_left
      ·have KF:Hid (R=false):=hid (by rw [K2.out,g];rfl)
       rw [g]
       clear g
       go_wp2
       go_ret
       exact rbb KF.out.symm BFT.out
      have K3:Hid (R=(x.adjusts.drop (i'+1)).all adjB):=hid (by rw [K2.out,g];rfl)
      rw [g]
      clear g K2 K0 e0 e1 e2
      go_wp2
      go_roundw
      case rel=>exact ⟨i'+1,by simp,by omega,K3,BT⟩
      case measure=>simp [intOf];omega
     ·by_cases c2:k=2∨k=3∨k=4
      ·have K1:Hid (R=((inB m 0 1000000000000 && decide (o=0)) && (x.adjusts.drop (i'+1)).all adjB)):=hid (by rw [K0.out];unfold adjB;rw [if_neg c1,if_pos c2])
       clear K0
       have cS:=hid (in_any m 0 1000000000000 wt)
       rcases Bool.eq_false_or_eq_true (inB m 0 1000000000000) with g|g
       ·have K2:Hid (R=(decide (o=0) && (x.adjusts.drop (i'+1)).all adjB)):=hid (by rw [K1.out,g];rfl)
        rw [g] at cS
        clear g K1
        by_cases c3:o=0
        ·have K3:Hid (R=(x.adjusts.drop (i'+1)).all adjB):=hid (by rw [K2.out,decide_eq_true c3];rfl)
         have g3:(o != 0)=false:=by simpa using c3
         clear K2 c3
         rcases c2 with rfl|rfl|rfl
         all_goals
          go_wp2_with fail
          refine cS.out.mono ?_
          rintro e w' ⟨rfl,rfl⟩
          clear cS
          go_wp2
          go_roundw
          case rel=>exact ⟨i'+1,by simp,by omega,K3,BT⟩
          case measure=>simp [intOf];omega
        ·have KF:Hid (R=false):=hid (by rw [K2.out,decide_eq_false c3];rfl)
         have g3:(o != 0)=true:=by simpa using c3
         clear K2 c3
         rcases c2 with rfl|rfl|rfl
         all_goals
          go_wp2_with fail
          refine cS.out.mono ?_
          rintro e w' ⟨rfl,rfl⟩
          clear cS
          go_wp2
          go_ret
          exact rbb KF.out.symm BFT.out
       ·have KF:Hid (R=false):=hid (by rw [K1.out,g];rfl)
        rw [g] at cS
        clear g K1
        rcases c2 with rfl|rfl|rfl
        all_goals
         go_wp2_with fail
         refine cS.out.mono ?_
         rintro e w' ⟨rfl,rfl⟩
         clear cS
         go_wp2
         go_ret
         exact rbb KF.out.symm BFT.out
      ·have KF:Hid (R=false):=hid (by rw [K0.out];unfold adjB;rw [if_neg c1,if_neg c2];rfl)
       have n1:(k==1)=false:=by simpa using c1
       have n2:(k==2)=false:=by simp;omega
       have n3:(k==3)=false:=by simp;omega
       have n4:(k==4)=false:=by simp;omega
       clear K0 c1 c2
       go_wp2
       go_ret
       exact rbb KF.out.symm BFT.out
end Go.Proofs.YtofbobdhkbmbgaaGreatDoor.R10
/- The document's answers for layer 10 (poundageref10): Good. -/
namespace Go.Proofs.YtofbobdhkbmbgaaGreatDoor.R10
open Go.RowKit Go.Sort P Mm Md R6 Te Co
theorem hor_eq (c:Cor):horB c=(inB c.a 0 3652058 && (inB c.b c.a 3652058 && decide (c.b-c.a≤3999))):=by
 unfold horB inB
 rw [Bool.eq_iff_iff]
 simp only [Bool.and_eq_true,decide_eq_true_eq]
 omega
theorem good_eq (c:Cor):goodC c=(inB c.a 0 3652058 && (inB c.b c.a 3652058 && (decide (c.b-c.a≤3999) && (decide (c.meters.length≤4) && (decide (c.sums.length≤8) && (decide (c.parts.length≤8) && (metersB c.meters && (c.sums.all (sumB c) && c.parts.all (partB c))))))))):=by
 unfold goodC
 rw [hor_eq]
 ac_rfl
theorem in_bel (n a b:Int) (w:World):Calls Tryz.prog 46 #[.int .i64 n,.int .i64 a,.int .i64 b] w fun e w'=>e=.returned (.bool (inB n a b))∧Below w.heap.size w w':=
 (in_any n a b w).mono fun _ _ ⟨h1,h2⟩=>⟨h1,by rw [←h2];exact Below.refl _ _⟩
set_option maxHeartbeats 16000000 in
set_option maxRecDepth 100000 in
theorem good_any (c:Cor) (ma:Option Addr) (mc:Nat) (sa:Option Addr) (sc:Nat) (pa:Option Addr) (pc:Nat) (w:World) (hc:CorLies w (corC c ma mc sa sc pa pc) c ma mc sa sc pa pc) :
  Calls Tryz.prog 16 #[.agg #[.string c.cur,.int .i64 c.a,.int .i64 c.b,.slice ma c.meters.length mc,.slice sa c.sums.length sc,.slice pa c.parts.length pc]] w fun e w'=>e=.returned (.bool (goodC c))∧Below w.heap.size w w':=by
 obtain ⟨w1,hw1⟩:∃W,W=w.alloc (.cells ([.string c.cur,.int .i64 c.a,.int .i64 c.b,.slice ma c.meters.length mc,.slice sa c.sums.length sc,.slice pa c.parts.length pc]:List Value).toArray 27):=⟨_,rfl⟩
 obtain ⟨k1,hk1⟩:∃k,k=w.heap.size:=⟨_,rfl⟩
 have b1:Below w.heap.size w w1:=by rw [hw1];exact bel_alloc _ _
 have X1:Box w1 k1 [.string c.cur,.int .i64 c.a,.int .i64 c.b,.slice ma c.meters.length mc,.slice sa c.sums.length sc,.slice pa c.parts.length pc]:=by rw [hw1,hk1];exact Box.new _ _ _
 have X:=hid (fun (W:World) (b:Below w1.heap.size w1 W)=>(⟨X1.on b,bel_on b1 b⟩:Box W k1 [.string c.cur,.int .i64 c.a,.int .i64 c.b,.slice ma c.meters.length mc,.slice sa c.sums.length sc,.slice pa c.parts.length pc]∧Below w.heap.size w W))
 have HC:=hid (fun (W:World) (b:Below w1.heap.size w1 W)=>hc.on (bel_on b1 b))
 have u1:=hc.meters.hcap
 have u2:=hc.meters.hmax
 have u3:=hc.sums.hcap
 have u4:=hc.sums.hmax
 have u5:=hc.parts.hcap
 have u6:=hc.parts.hmax
 obtain ⟨R,hR⟩:∃R,R=goodC c:=⟨_,rfl⟩
 rw [←hR]
 have K0:Hid (R=(inB c.a 0 3652058 && (inB c.b c.a 3652058 && (decide (c.b-c.a≤3999) && (decide (c.meters.length≤4) && (decide (c.sums.length≤8) && (decide (c.parts.length≤8) && (metersB c.meters && (c.sums.all (sumB c) && c.parts.all (partB c)))))))))):=hid (by rw [hR];exact good_eq c)
 have HW:=hid hw1
 have HK:=hid hk1
 have d1:=X1.cell 1 _ rfl;have d2:=X1.cell 2 _ rfl;have d3:=X1.cell 3 _ rfl;have d4:=X1.cell 4 _ rfl;have d5:=X1.cell 5 _ rfl
 clear hw1 X1 b1 hR hc hk1
 go_enter Tryz.func16,Tryz.ntmps16
 go_upto_region 1 with fail
 rw [←HW.out,←HK.out]
 clear HW HK
 have B0:=hid (Below.refl w1.heap.size w1)
 have BF:=hid (X.out _ B0.out).2
 have cS:=hid (in_any c.a 0 3652058 w1)
 go_wp2_with fail
 refine cS.out.mono ?_
 rintro e w' ⟨rfl,rfl⟩
 clear cS
 rcases Bool.eq_false_or_eq_true (inB c.a 0 3652058) with g|g
 rotate_left
 ·have KF:Hid (R=false):=hid (by rw [K0.out,g];rfl)
  rw [g]
  clear g
  go_wp2
  go_ret
  exact rbb KF.out.symm BF.out
 have K1:Hid (R=(inB c.b c.a 3652058 && (decide (c.b-c.a≤3999) && (decide (c.meters.length≤4) && (decide (c.sums.length≤8) && (decide (c.parts.length≤8) && (metersB c.meters && (c.sums.all (sumB c) && c.parts.all (partB c))))))))):=hid (by rw [K0.out,g];rfl)
 have g0:=g
 rw [g]
 clear g K0
 have cS:=hid (in_any c.b c.a 3652058 w1)
 go_wp2_with fail
 refine cS.out.mono ?_
 rintro e w' ⟨rfl,rfl⟩
 clear cS
 rcases Bool.eq_false_or_eq_true (inB c.b c.a 3652058) with g|g
 rotate_left
 ·have KF:Hid (R=false):=hid (by rw [K1.out,g];rfl)
  rw [g]
  clear g
  go_wp2
  go_ret
  exact rbb KF.out.symm BF.out
 have K2:Hid (R=(decide (c.b-c.a≤3999) && (decide (c.meters.length≤4) && (decide (c.sums.length≤8) && (decide (c.parts.length≤8) && (metersB c.meters && (c.sums.all (sumB c) && c.parts.all (partB c)))))))):=hid (by rw [K1.out,g];rfl)
 have g1:=g
 rw [g]
 clear g K1
 unfold inB at g0 g1
 rw [Bool.and_eq_true,decide_eq_true_eq,decide_eq_true_eq] at g0 g1
 have wr0:IntKind.i64.wrap (c.b-c.a)=c.b-c.a:=wrap_i (by unfold I64;omega)
 clear g0 g1
 by_cases t0:3999<c.b-c.a
 ·have KF:Hid (R=false):=hid (by rw [K2.out,decide_eq_false (by omega)];rfl)
  go_wp2
  go_ret
  exact rbb KF.out.symm BF.out
 have K3:Hid (R=(decide (c.meters.length≤4) && (decide (c.sums.length≤8) && (decide (c.parts.length≤8) && (metersB c.meters && (c.sums.all (sumB c) && c.parts.all (partB c))))))):=hid (by rw [K2.out,decide_eq_true (by omega)];rfl)
 clear K2
 by_cases t1:4<(c.meters.length:Int)
 ·have KF:Hid (R=false):=hid (by rw [K3.out,decide_eq_false (by omega)];rfl)
  go_wp2
  go_ret
  exact rbb KF.out.symm BF.out
 have K4:Hid (R=(decide (c.sums.length≤8) && (decide (c.parts.length≤8) && (metersB c.meters && (c.sums.all (sumB c) && c.parts.all (partB c)))))):=hid (by rw [K3.out,decide_eq_true (by omega)];rfl)
 clear K3
 by_cases t2:8<(c.sums.length:Int)
 ·have KF:Hid (R=false):=hid (by rw [K4.out,decide_eq_false (by omega)];rfl)
  go_wp2
  go_ret
  exact rbb KF.out.symm BF.out
 have K5:Hid (R=(decide (c.parts.length≤8) && (metersB c.meters && (c.sums.all (sumB c) && c.parts.all (partB c))))):=hid (by rw [K4.out,decide_eq_true (by omega)];rfl)
 clear K4
 by_cases t3:8<(c.parts.length:Int)
 ·have KF:Hid (R=false):=hid (by rw [K5.out,decide_eq_false (by omega)];rfl)
  go_wp2
  go_ret
  exact rbb KF.out.symm BF.out
 have K6:Hid (R=(metersB c.meters && (c.sums.all (sumB c) && c.parts.all (partB c)))):=hid (by rw [K5.out,decide_eq_true (by omega)];rfl)
 clear K5
 go_wp2
 clear d1 d2 d3 d4 d5
 go_loopw [50] (fun i wr=>∃i':Nat,i=.int .i64 (i':Int)∧i'≤c.meters.length∧Hid (R=(metersF (prevN c.meters i') (c.meters.drop i') && (c.sums.all (sumB c) && c.parts.all (partB c))))∧Hid (Below w1.heap.size w1 wr)) (fun i _=>c.meters.length-(intOf i).toNat)
 case atStart=>exact ⟨0,rfl,Nat.zero_le _,K6,B0⟩
 case round=>
  obtain ⟨i',rfl,hi,hR,hb⟩:=hrel
  clear K6 B0 BF
  by_cases hlt:i'<c.meters.length
  ·obtain ⟨x,tx⟩:∃x,c.meters[i']?=some x:=⟨_,List.getElem?_eq_getElem hlt⟩
   have TX:=hid tx
   have K2:Hid (R=(((ordB (prevN c.meters i') x.name && mtB x) && metersF (some x.name) (c.meters.drop (i'+1))) && (c.sums.all (sumB c) && c.parts.all (partB c)))):=hid (by rw [hR.out,metersF_step tx])
   obtain ⟨w2,hw2⟩:∃W,W=wr.alloc (.cells ([.string x.name,.string x.unit,.int .i64 x.max,.int .i64 x.line,.int .i64 x.col]:List Value).toArray 49):=⟨_,rfl⟩
   obtain ⟨k2,hk2⟩:∃k,k=wr.heap.size:=⟨_,rfl⟩
   have b2:Below wr.heap.size wr w2:=by rw [hw2];exact bel_alloc _ _
   have X2:Box w2 k2 [.string x.name,.string x.unit,.int .i64 x.max,.int .i64 x.line,.int .i64 x.col]:=by rw [hw2,hk2];exact Box.new _ _ _
   have B2:=hid (bel_on hb.out b2)
   have HW:=hid hw2
   have HK:=hid hk2
   obtain ⟨bx,ox,e,lbx,x0,x1,x2,x3,x4,_⟩:=meter_at (HC.out _ hb.out).meters tx
   subst e
   have c0:=X2.cell 0 _ rfl;have c1:=X2.cell 1 _ rfl;have c2:=X2.cell 2 _ rfl;have c3:=X2.cell 3 _ rfl;have c4:=X2.cell 4 _ rfl
   have m3:=(X.out w2 B2.out).1.cell 3 _ rfl
   have cI:=fun W=>in_bel x.max 0 2000 W
   clear hw2 hk2 b2 X2 hR hb
   go_upto_region 6 with fail
   rw [←HW.out,←HK.out]
   clear HW HK x0 x1 x2 x3 x4 lbx
   rcases Bool.eq_false_or_eq_true (inB x.max 0 2000) with g|g
   rotate_left
   ·rw [g] at cI
    have KF:Hid (R=false):=hid (by rw [K2.out];unfold mtB;rw [g];simp)
    have f0:=cell_regrown c0;have f1:=cell_regrown c1;have f2:=cell_regrown c2;have f3:=cell_regrown c3;have f4:=cell_regrown c4;have f5:=cell_regrown m3
    have qI:=fun d os=>Calls.regrown_of (cI (grow (redrawn w2 d) os))
    refine wp_region_quiet_below (by kernel_rfl) (by kernel_rfl) ?_
    repeat (go_big_quiet_step (first|(go_at_call 46;exact qI _ _)))
    refine wpQuiet_nil ?_
    intro w3 hw'
    obtain ⟨⟨dq,osq⟩,hw''⟩:=hw'
    have B3:Below w2.heap.size w2 w3:=by subst hw'';exact below_regrown w2 dq osq
    have HB3:=hid (bel_on B2.out B3)
    have BF3:=hid (X.out w3 HB3.out).2
    clear hw'' f0 f1 f2 f3 f4 f5 c0 c1 c2 c3 c4 m3 B3 qI cI
    go_wp2
    go_ret
    exact rbb KF.out.symm BF3.out
   have gm:=hid g
   rw [g] at cI
   clear g
   by_cases gl:x.line=0
   rotate_left
   ·have gl2:(x.line != 0)=true:=by simpa using gl
    have KF:Hid (R=false):=hid (by rw [K2.out];unfold mtB;rw [decide_eq_false gl];simp)
    have f0:=cell_regrown c0;have f1:=cell_regrown c1;have f2:=cell_regrown c2;have f3:=cell_regrown c3;have f4:=cell_regrown c4;have f5:=cell_regrown m3
    have qI:=fun d os=>Calls.regrown_of (cI (grow (redrawn w2 d) os))
    refine wp_region_quiet_below (by kernel_rfl) (by kernel_rfl) ?_
    repeat (go_big_quiet_step (first|(go_at_call 46;exact qI _ _)))
    refine wpQuiet_nil ?_
    intro w3 hw'
    obtain ⟨⟨dq,osq⟩,hw''⟩:=hw'
    have B3:Below w2.heap.size w2 w3:=by subst hw'';exact below_regrown w2 dq osq
    have HB3:=hid (bel_on B2.out B3)
    have BF3:=hid (X.out w3 HB3.out).2
    clear hw'' f0 f1 f2 f3 f4 f5 c0 c1 c2 c3 c4 m3 B3 qI cI
    go_wp2
    go_ret
    exact rbb KF.out.symm BF3.out
   have gl2:(x.line != 0)=false:=by simpa using gl
   have GL:=hid gl
   clear gl
   by_cases gc:x.col=0
   rotate_left
   ·have gc2:(x.col != 0)=true:=by simpa using gc
    have KF:Hid (R=false):=hid (by rw [K2.out];unfold mtB;rw [decide_eq_false gc];simp)
    have f0:=cell_regrown c0;have f1:=cell_regrown c1;have f2:=cell_regrown c2;have f3:=cell_regrown c3;have f4:=cell_regrown c4;have f5:=cell_regrown m3
    have qI:=fun d os=>Calls.regrown_of (cI (grow (redrawn w2 d) os))
    refine wp_region_quiet_below (by kernel_rfl) (by kernel_rfl) ?_
    repeat (go_big_quiet_step (first|(go_at_call 46;exact qI _ _)))
    refine wpQuiet_nil ?_
    intro w3 hw'
    obtain ⟨⟨dq,osq⟩,hw''⟩:=hw'
    have B3:Below w2.heap.size w2 w3:=by subst hw'';exact below_regrown w2 dq osq
    have HB3:=hid (bel_on B2.out B3)
    have BF3:=hid (X.out w3 HB3.out).2
    clear hw'' f0 f1 f2 f3 f4 f5 c0 c1 c2 c3 c4 m3 B3 qI cI
    go_wp2
    go_ret
    exact rbb KF.out.symm BF3.out
   have gc2:(x.col != 0)=false:=by simpa using gc
   have GC:=hid gc
   clear gc
   have K3:Hid (R=((ordB (prevN c.meters i') x.name && metersF (some x.name) (c.meters.drop (i'+1))) && (c.sums.all (sumB c) && c.parts.all (partB c)))):=hid (by rw [K2.out];unfold mtB;rw [gm.out,decide_eq_true GL.out,decide_eq_true GC.out];simp)
   clear K2
   rcases Decidable.em (i'=0) with hz|hz
   ·subst hz
    have K4:Hid (R=(metersF (prevN c.meters (0+1)) (c.meters.drop (0+1)) && (c.sums.all (sumB c) && c.parts.all (partB c)))):=hid (by rw [K3.out,prevN_next tx];rfl)
    clear tx K3
    have f0:=cell_regrown c0;have f1:=cell_regrown c1;have f2:=cell_regrown c2;have f3:=cell_regrown c3;have f4:=cell_regrown c4;have f5:=cell_regrown m3
    have qI:=fun d os=>Calls.regrown_of (cI (grow (redrawn w2 d) os))
    refine wp_region_quiet_below (by kernel_rfl) (by kernel_rfl) ?_
    repeat (go_big_quiet_step (first|(go_at_call 46;exact qI _ _)))
    refine wpQuiet_nil ?_
    intro w3 hw'
    obtain ⟨⟨dq,osq⟩,hw''⟩:=hw'
    have B3:Below w2.heap.size w2 w3:=by subst hw'';exact below_regrown w2 dq osq
    have HB3:=hid (bel_on B2.out B3)
    have BF3:=hid (X.out w3 HB3.out).2
    clear hw'' f0 f1 f2 f3 f4 f5 c0 c1 c2 c3 c4 m3 B3 qI cI
    go_wp2
    go_roundw
    case rel=>exact ⟨0+1,by simp,by omega,K4,HB3⟩
    case measure=>simp [intOf];omega
   ·obtain ⟨y,ty⟩:∃y,c.meters[i'-1]?=some y:=⟨_,List.getElem?_eq_getElem (by omega)⟩
    have PY:prevN c.meters i'=some y.name:=prevN_at ty (by omega)
    obtain ⟨by',oy,e,lby,y0,_⟩:=meter_at (HC.out _ B2.out).meters ty
    simp only [Option.some.injEq,Addr.mk.injEq,and_true] at e
    obtain ⟨rfl,rfl⟩:=e
    have w1':IntKind.i64.wrap ((i':Int)-1)=(i':Int)-1:=wrap_i (by unfold I64;omega)
    have q0:(0:Int)<i':=by omega
    have gz:decide ((0:Int)<(i':Int))=true:=decide_eq_true q0
    have q3:0<i':=by omega
    have gz2:decide (0<i')=true:=decide_eq_true q3
    have q1:0≤(i':Int)-1:=by omega
    have q2:(i':Int)-1<c.meters.length:=by omega
    have fy:=cell_regrown y0
    have KL:=hid (klt_eq y.name x.name)
    rcases Bool.eq_false_or_eq_true (Op.bytesLess y.name.toList x.name.toList) with gq|gq
    ·have K4:Hid (R=(metersF (prevN c.meters (i'+1)) (c.meters.drop (i'+1)) && (c.sums.all (sumB c) && c.parts.all (partB c)))):=hid (by
      rw [K3.out,PY,prevN_next tx]
      show ((klt y.name x.name && _) && _)=_
      rw [←KL.out,gq]
      rfl)
     clear tx ty PY K3 lby
     have f0:=cell_regrown c0;have f1:=cell_regrown c1;have f2:=cell_regrown c2;have f3:=cell_regrown c3;have f4:=cell_regrown c4;have f5:=cell_regrown m3
     have qI:=fun d os=>Calls.regrown_of (cI (grow (redrawn w2 d) os))
     refine wp_region_quiet_below (by kernel_rfl) (by kernel_rfl) ?_
     repeat (go_big_quiet_step (first|(go_at_call 46;exact qI _ _)))
     refine wpQuiet_nil ?_
     intro w3 hw'
     obtain ⟨⟨dq,osq⟩,hw''⟩:=hw'
     have B3:Below w2.heap.size w2 w3:=by subst hw'';exact below_regrown w2 dq osq
     have HB3:=hid (bel_on B2.out B3)
     have BF3:=hid (X.out w3 HB3.out).2
     clear hw'' f0 f1 f2 f3 f4 f5 c0 c1 c2 c3 c4 m3 B3 qI cI
     go_wp2
     go_roundw
     case rel=>exact ⟨i'+1,by simp,by omega,K4,HB3⟩
     case measure=>simp [intOf];omega
    ·clear ty lby
     have KF:Hid (R=false):=hid (by
        rw [K3.out,PY]
        show ((klt y.name x.name && _) && _)=_
        rw [←KL.out,gq]
        rfl)
     have f0:=cell_regrown c0;have f1:=cell_regrown c1;have f2:=cell_regrown c2;have f3:=cell_regrown c3;have f4:=cell_regrown c4;have f5:=cell_regrown m3
     have qI:=fun d os=>Calls.regrown_of (cI (grow (redrawn w2 d) os))
     refine wp_region_quiet_below (by kernel_rfl) (by kernel_rfl) ?_
     repeat (go_big_quiet_step (first|(go_at_call 46;exact qI _ _)))
     refine wpQuiet_nil ?_
     intro w3 hw'
     obtain ⟨⟨dq,osq⟩,hw''⟩:=hw'
     have B3:Below w2.heap.size w2 w3:=by subst hw'';exact below_regrown w2 dq osq
     have HB3:=hid (bel_on B2.out B3)
     have BF3:=hid (X.out w3 HB3.out).2
     clear hw'' f0 f1 f2 f3 f4 f5 c0 c1 c2 c3 c4 m3 B3 qI cI
     go_wp2
     go_ret
     exact rbb KF.out.symm BF3.out
  ·obtain rfl:i'=c.meters.length:=by omega
   have K7:Hid (R=((c.sums.drop 0).all (sumB c) && c.parts.all (partB c))):=hid (by rw [hR.out,List.drop_length];rfl)
   have d4:=(X.out wr hb.out).1.cell 4 _ rfl
   obtain ⟨wq,hwq⟩:∃W,W=wr:=⟨_,rfl⟩
   rw [←hwq] at hb d4 ⊢
   have B7:=hb
   clear hwq hb hR hlt hi
   go_wp2
   clear d4
   go_loopw [90] (fun i wr=>∃i':Nat,i=.int .i64 (i':Int)∧i'≤c.sums.length∧Hid (R=((c.sums.drop i').all (sumB c) && c.parts.all (partB c)))∧Hid (Below w1.heap.size w1 wr)) (fun i _=>c.sums.length-(intOf i).toNat)
   case atStart=>exact ⟨0,rfl,Nat.zero_le _,K7,B7⟩
   case round=>
    obtain ⟨i',rfl,hi,hR,hb⟩:=hrel
    clear K7 B7
    by_cases hlt:i'<c.sums.length
    ·obtain ⟨x,tx⟩:∃x,c.sums[i']?=some x:=⟨_,List.getElem?_eq_getElem hlt⟩
     have K2:Hid (R=(inB x.amt 0 1000000000000 && (spanB c.a c.b x.a x.b && ((c.sums.drop (i'+1)).all (sumB c) && c.parts.all (partB c))))):=hid (by rw [hR.out,all_drop tx];unfold sumB;simp only [Bool.and_assoc])
     obtain ⟨w2,hw2⟩:∃W,W=wr.alloc (.cells ([.int .i64 x.amt,.int .i64 x.a,.int .i64 x.b]:List Value).toArray 91):=⟨_,rfl⟩
     obtain ⟨k2,hk2⟩:∃k,k=wr.heap.size:=⟨_,rfl⟩
     have b2:Below wr.heap.size wr w2:=by rw [hw2];exact bel_alloc _ _
     have X2:Box w2 k2 [.int .i64 x.amt,.int .i64 x.a,.int .i64 x.b]:=by rw [hw2,hk2];exact Box.new _ _ _
     have B2:=hid (bel_on hb.out b2)
     have HW:=hid hw2
     have HK:=hid hk2
     obtain ⟨bx,ox,e,lbx,x0,x1,x2,_⟩:=sum_at (HC.out _ hb.out).sums tx
     subst e
     have c0:=X2.cell 0 _ rfl;have c1:=X2.cell 1 _ rfl;have c2:=X2.cell 2 _ rfl
     have BF2:=hid (X.out w2 B2.out).2
     clear hw2 hk2 b2 X2 hR hb tx
     go_upto_region 12 with fail
     rw [←HW.out,←HK.out]
     clear HW HK x0 x1 x2 lbx
     have cS:=hid (in_any x.amt 0 1000000000000 w2)
     go_wp2_with fail
     refine cS.out.mono ?_
     rintro e w' ⟨rfl,rfl⟩
     clear cS
     rcases Bool.eq_false_or_eq_true (inB x.amt 0 1000000000000) with g|g
     rotate_left
     ·have KF:Hid (R=false):=hid (by rw [K2.out,g];rfl)
      rw [g]
      clear g
      go_wp2
      go_ret
      exact rbb KF.out.symm BF2.out
     have K3:Hid (R=(spanB c.a c.b x.a x.b && ((c.sums.drop (i'+1)).all (sumB c) && c.parts.all (partB c)))):=hid (by rw [K2.out,g];rfl)
     rw [g]
     clear g K2
     have RC:=hid (range_of (X.out w2 B2.out).1.cell)
     have cS:=hid (span_any c x.a x.b ma mc (some ⟨bx,ox,none⟩) sc pa pc w2)
     go_wp2_with (first|((with_reducible refine R9.wpList_load_midg (op:=Oper.mk (some 99) (Op.load 27 (Operand.tmp 1)) _ _ _ _) ?_ 27 (.tmp 1) ?_ k1 0 ?_ [.string c.cur,.int .i64 c.a,.int .i64 c.b,.slice ma c.meters.length mc,.slice (some ⟨bx,ox,none⟩) c.sums.length sc,.slice pa c.parts.length pc] _ RC.out Tryz.underlying27 ?_ ?_ ?_);(first|(exact R9.wantg rfl (by kernel_rfl) rfl));rfl;go_simp;rfl;kernel_rfl)|fail)
     refine cS.out.mono ?_
     rintro e w3 ⟨rfl,b3⟩
     have B3:=hid (bel_on B2.out b3)
     have BF3:=hid (X.out w3 B3.out).2
     clear b3 cS RC c0 c1 c2
     rcases Bool.eq_false_or_eq_true (spanB c.a c.b x.a x.b) with g|g
     rotate_left
     ·have KF:Hid (R=false):=hid (by rw [K3.out,g];rfl)
      rw [g]
      clear g
      go_wp2
      go_ret
      exact rbb KF.out.symm BF3.out
     have K4:Hid (R=((c.sums.drop (i'+1)).all (sumB c) && c.parts.all (partB c))):=hid (by rw [K3.out,g];rfl)
     rw [g]
     clear g K3
     go_wp2
     go_roundw
     case rel=>exact ⟨i'+1,by simp,by omega,K4,B3⟩
     case measure=>simp [intOf];omega
    ·obtain rfl:i'=c.sums.length:=by omega
     have K8:Hid (R=(c.parts.drop 0).all (partB c)):=hid (by rw [hR.out,List.drop_length];rfl)
     have d5:=(X.out wr hb.out).1.cell 5 _ rfl
     obtain ⟨wq,hwq⟩:∃W,W=wr:=⟨_,rfl⟩
     rw [←hwq] at hb d5 ⊢
     have B8:=hb
     clear hwq hb hR hlt hi
     go_wp2
     clear d5
     go_loopw [111] (fun i wr=>∃i':Nat,i=.int .i64 (i':Int)∧i'≤c.parts.length∧Hid (R=(c.parts.drop i').all (partB c))∧Hid (Below w1.heap.size w1 wr)) (fun i _=>c.parts.length-(intOf i).toNat)
     case atStart=>exact ⟨0,rfl,Nat.zero_le _,K8,B8⟩
     case round=>
      obtain ⟨i',rfl,hi,hR,hb⟩:=hrel
      clear K8 B8
      by_cases hlt:i'<c.parts.length
      ·obtain ⟨x,tx⟩:∃x,c.parts[i']?=some x:=⟨_,List.getElem?_eq_getElem hlt⟩
       have K2:Hid (R=(partB c x && (c.parts.drop (i'+1)).all (partB c))):=hid (by rw [hR.out,all_drop tx])
       obtain ⟨bx,ox,ta,tc,aa,ac,e,lbx,x0,x1,x2,x3,x4,x5,x6,x7,x8,hp⟩:=prt_at (HC.out _ hb.out).parts tx
       subst e
       obtain ⟨w2,hw2⟩:∃W,W=wr.alloc (.cells ([.int .i64 x.mt,.int .i64 x.a,.int .i64 x.b,.int .i64 x.allowance,.int .i64 x.block,.int .i64 x.kind,.slice ta x.tiers.length tc,.int .i64 x.mode,.slice aa x.adjusts.length ac]:List Value).toArray 59):=⟨_,rfl⟩
       obtain ⟨k2,hk2⟩:∃k,k=wr.heap.size:=⟨_,rfl⟩
       have b2:Below wr.heap.size wr w2:=by rw [hw2];exact bel_alloc _ _
       have X2:Box w2 k2 [.int .i64 x.mt,.int .i64 x.a,.int .i64 x.b,.int .i64 x.allowance,.int .i64 x.block,.int .i64 x.kind,.slice ta x.tiers.length tc,.int .i64 x.mode,.slice aa x.adjusts.length ac]:=by rw [hw2,hk2];exact Box.new _ _ _
       have B2:=hid (bel_on hb.out b2)
       have HW:=hid hw2
       have HK:=hid hk2
       have cS:=hid (part_any c x ma mc sa sc (some ⟨bx,ox,none⟩) pc ta tc aa ac w2 (hp.tiers.on b2) (hp.adjusts.on b2))
       have RP:=hid (range_of X2.cell)
       clear hw2 hk2 b2 X2 hR hb tx hp
       go_upto_region 18 with fail
       rw [←HW.out,←HK.out]
       clear HW HK x0 x1 x2 x3 x4 x5 x6 x7 x8 lbx
       have RC:=hid (range_of (X.out w2 B2.out).1.cell)
       go_wp2_with (first|(with_reducible refine wpList_load_mid (op:=Oper.mk (some 115) (Op.load 27 (Operand.tmp 1)) _ _ _ _) ?_ 27 (.tmp 1) ?_ k1 0 ?_ [.string c.cur,.int .i64 c.a,.int .i64 c.b,.slice ma c.meters.length mc,.slice sa c.sums.length sc,.slice (some ⟨bx,ox,none⟩) c.parts.length pc] _ RC.out Tryz.underlying27 ?_ ?_ ?_;rfl;rfl;go_simp;rfl;kernel_rfl)|(with_reducible refine wpList_load_mid (op:=Oper.mk (some 116) (Op.load 59 (Operand.tmp 8)) _ _ _ _) ?_ 59 (.tmp 8) ?_ k2 0 ?_ [.int .i64 x.mt,.int .i64 x.a,.int .i64 x.b,.int .i64 x.allowance,.int .i64 x.block,.int .i64 x.kind,.slice ta x.tiers.length tc,.int .i64 x.mode,.slice aa x.adjusts.length ac] _ RP.out Tryz.underlying59 ?_ ?_ ?_;rfl;rfl;go_simp;rfl;kernel_rfl)|fail)
       refine cS.out.mono ?_
       rintro e w3 ⟨rfl,b3⟩
       have B3:=hid (bel_on B2.out b3)
       have BF3:=hid (X.out w3 B3.out).2
       clear b3 cS RC RP
       rcases Bool.eq_false_or_eq_true (partB c x) with g|g
       rotate_left
       ·have KF:Hid (R=false):=hid (by rw [K2.out,g];rfl)
        rw [g]
        clear g
        go_wp2
        go_ret
        exact rbb KF.out.symm BF3.out
       have K4:Hid (R=(c.parts.drop (i'+1)).all (partB c)):=hid (by rw [K2.out,g];rfl)
       rw [g]
       clear g K2
       go_wp2
       go_roundw
       case rel=>exact ⟨i'+1,by simp,by omega,K4,B3⟩
       case measure=>simp [intOf];omega
      ·obtain rfl:i'=c.parts.length:=by omega
       have KT:Hid (R=true):=hid (by rw [hR.out,List.drop_length];rfl)
       have BFT:=hid (X.out wr hb.out).2
       go_wp2
       go_ret
       exact rbb KT.out.symm BFT.out
end Go.Proofs.YtofbobdhkbmbgaaGreatDoor.R10
/- The laws of layer 10: CoreCan. -/
namespace Go.Proofs.YtofbobdhkbmbgaaGreatDoor.L10
open Go.RowKit Go.Sort P Mm Md R6 Co
set_option maxHeartbeats 16000000 in
set_option maxRecDepth 100000 in
theorem can_walk (c:Cor) (ma:Option Addr) (mc:Nat) (sa:Option Addr) (sc:Nat) (pa:Option Addr) (pc:Nat) (w:World) (ky:Pa.Ky w) (hc:CorLies w (corC c ma mc sa sc pa pc) c ma mc sa sc pa pc) :
  Calls Tryz.prog 4 #[.agg #[.string c.cur,.int .i64 c.a,.int .i64 c.b,.slice ma c.meters.length mc,.slice sa c.sums.length sc,.slice pa c.parts.length pc]] w fun e w'=>e=.returned (.bool true)∧Below w.heap.size w w':=by
 obtain ⟨w1,hw1⟩:∃W,W=w.alloc (.cells ([.string c.cur,.int .i64 c.a,.int .i64 c.b,.slice ma c.meters.length mc,.slice sa c.sums.length sc,.slice pa c.parts.length pc]:List Value).toArray 27):=⟨_,rfl⟩
 obtain ⟨k1,hk1⟩:∃k,k=w.heap.size:=⟨_,rfl⟩
 have b1:Below w.heap.size w w1:=by rw [hw1];exact bel_alloc _ _
 have X1:Box w1 k1 [.string c.cur,.int .i64 c.a,.int .i64 c.b,.slice ma c.meters.length mc,.slice sa c.sums.length sc,.slice pa c.parts.length pc]:=by rw [hw1,hk1];exact Box.new _ _ _
 have X:=hid (fun (W:World) (b:Below w1.heap.size w1 W)=>(⟨X1.on b,bel_on b1 b⟩:Box W k1 [.string c.cur,.int .i64 c.a,.int .i64 c.b,.slice ma c.meters.length mc,.slice sa c.sums.length sc,.slice pa c.parts.length pc]∧Below w.heap.size w W))
 have HC:=hid (hc.on b1)
 have cA:=hid (alive_any w1 (ky.later b1))
 have HW:=hid hw1
 have HK:=hid hk1
 clear hw1 hk1 X1 b1 hc ky
 go_enter Tryz.func4,Tryz.ntmps4
 go_upto_region 1 with fail
 rw [←HW.out,←HK.out]
 clear HW HK
 go_wp2_with fail
 refine cA.out.mono ?_
 rintro e w2 ⟨rfl,b2⟩
 have B2:=hid b2
 have Y:=X.out w2 b2
 have HC2:=hid (HC.out.on b2)
 clear cA b2 HC
 have f0:=cell_regrown (Y.1.cell 0 _ rfl);have f1:=cell_regrown (Y.1.cell 1 _ rfl);have f2:=cell_regrown (Y.1.cell 2 _ rfl);have f3:=cell_regrown (Y.1.cell 3 _ rfl);have f4:=cell_regrown (Y.1.cell 4 _ rfl);have f5:=cell_regrown (Y.1.cell 5 _ rfl)
 have lk:=Y.1.lt
 clear Y
 have cT:=fun (W:World) (b:Below w2.heap.size w2 W)=>R10.great_any c ma mc sa sc pa pc W (HC2.out.on b)
 go_upto_region 3 with fail
 rcases Bool.eq_false_or_eq_true (R10.greatC c) with hg|hg
 ·rw [hg] at cT
  have qT:=fun d os=>Calls.regrown_of (cT _ (below_regrown w2 d os))
  refine wp_region_quiet_below (by kernel_rfl) (by kernel_rfl) ?_
  repeat (go_big_quiet_step (first|(go_at_call 14;exact qT _ _)))
  refine wpQuiet_nil ?_
  intro w3 hw'
  obtain ⟨⟨dq,osq⟩,hw''⟩:=hw'
  have BF:=hid (X.out w3 (bel_on B2.out (by rw [hw''];exact below_regrown w2 dq osq))).2
  clear hw'' f0 f1 f2 f3 f4 f5 qT
  go_wp2
  go_ret
  exact ⟨rfl,BF.out⟩
 ·rw [hg] at cT
  have ml:c.meters.length≤100000:=by
   unfold R10.greatC at hg
   simp only [Bool.or_eq_false_iff,decide_eq_false_iff_not] at hg
   have:=hg.1.1
   omega
  have cG:=fun (W:World) (b:Below w2.heap.size w2 W)=>Co.good_any c ma mc sa sc pa pc W (HC2.out.on b) ml
  have cR:=fun (W:World) (b:Below w2.heap.size w2 W)=>R10.good_any c ma mc sa sc pa pc W (HC2.out.on b)
  obtain ⟨G,hG⟩:∃G,G=goodC c:=⟨_,rfl⟩
  rw [←hG] at cG cR
  clear hG ml
  have qG:=fun d os=>Calls.regrown_of (cG _ (below_regrown w2 d os))
  have qR:=fun d os=>Calls.regrown_of (cR _ (below_regrown w2 d os))
  clear cG cR
  have qT:=fun d os=>Calls.regrown_of (cT _ (below_regrown w2 d os))
  refine wp_region_quiet_below (by kernel_rfl) (by kernel_rfl) ?_
  repeat (go_big_quiet_step (first|(go_at_call 14;exact qT _ _)|(go_at_call 15;exact qG _ _)|(go_at_call 16;exact qR _ _)))
  refine wpQuiet_nil ?_
  intro w3 hw'
  obtain ⟨⟨dq,osq⟩,hw''⟩:=hw'
  have BF:=hid (X.out w3 (bel_on B2.out (by rw [hw''];exact below_regrown w2 dq osq))).2
  clear hw'' f0 f1 f2 f3 f4 f5 qT
  go_wp2
  go_ret
  exact ⟨rfl,BF.out⟩
end Go.Proofs.YtofbobdhkbmbgaaGreatDoor.L10
