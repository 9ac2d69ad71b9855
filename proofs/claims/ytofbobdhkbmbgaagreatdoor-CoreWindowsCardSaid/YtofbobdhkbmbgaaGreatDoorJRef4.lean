/- What the document's answers for layer 3 (poundageref03) come to: Leap, Days, Good, Number. -/
import Derived.Test.YtofbobdhkbmbgaaGreatDoorJMem
set_option maxRecDepth 100000
set_option maxHeartbeats 8000000
namespace Go.Proofs.YtofbobdhkbmbgaaGreatDoor
namespace R3
open Go.RowKit Go.Sort P
theorem leap_any (y:Int) (w:World) :
  Calls Tryz.prog 108 #[.int .i64 y] w fun e w'=>e=.returned (.bool (leap y))∧w'=w:=by
 go_enter Tryz.func108,Tryz.ntmps108
 go_wp2
 all_goals
  go_ret;refine ⟨ret_b ?_,rfl⟩;unfold leap
  simp_all [tmb]
  try omega
theorem days_any (y m:Int) (w:World) :
  Calls Tryz.prog 107 #[.int .i64 y,.int .i64 m] w fun e w'=>e=.returned (.int .i64 (days y m))∧Below w.heap.size w w':=by
 by_cases h:m<1∨12<m
 ·have e:=hid (days_out (y:=y) h);have hm:m<1∨(¬ m<1∧12<m):=by omega
  clear h;go_enter Tryz.func107,Tryz.ntmps107
  rcases hm with h|⟨h1,h2⟩
  ·go_wp2;go_ret;exact ⟨ret_i e.out.symm,Below.refl _ _⟩
  ·go_wp2;go_ret;exact ⟨ret_i e.out.symm,Below.refl _ _⟩
 ·have hm:m=1∨m=2∨m=3∨m=4∨m=5∨m=6∨m=7∨m=8∨m=9∨m=10∨m=11∨m=12:=by omega
  clear h;by_cases h2:m=2
  ·subst h2;clear hm;cases hl:leap y
   ·have e:days y 2=28:=by unfold days;rw [lp_no hl];rfl
    have E:=hid e;clear e;go_enter Tryz.func107,Tryz.ntmps107
    go_wp2_with (go_at_call 108;refine (leap_any _ _).mono ?_;rintro e w' ⟨rfl,h'⟩;rw [h'])
    go_ret;exact ⟨ret_i E.out.symm,(Below.refl _ _).alloc (Nat.le_refl _) _⟩
   ·have e:days y 2=29:=by unfold days;rw [lp_yes hl];rfl
    have E:=hid e;clear e;go_enter Tryz.func107,Tryz.ntmps107
    go_wp2_with (go_at_call 108;refine (leap_any _ _).mono ?_;rintro e w' ⟨rfl,h'⟩;rw [h'])
    go_ret;exact ⟨ret_i E.out.symm,Below.refl _ _⟩
  ·rcases hm with rfl|rfl|rfl|rfl|rfl|rfl|rfl|rfl|rfl|rfl|rfl|rfl;all_goals first|omega|skip
   all_goals
    go_enter Tryz.func107,Tryz.ntmps107
    go_wp2;go_ret;exact ⟨ret_i (by unfold days;rfl),(Below.refl _ _).alloc (Nat.le_refl _) _⟩
theorem on2 {w w':World} {o:Obj} (h:Below (w.alloc o).heap.size (w.alloc o) w'):Below w.heap.size w w':=
 ((Below.refl _ _).alloc (Nat.le_refl _) _).trans (h.mono (by simp))
theorem good_any (y m d:Int) (w:World) :
  Calls Tryz.prog 95 #[dv y m d] w fun e w'=>e=.returned (.bool (good y m d))∧Below w.heap.size w w':=by
 unfold dv;have cD:∀W,Calls Tryz.prog 107 #[.int .i64 y,.int .i64 m] W fun e w'=>e=.returned (.int .i64 (days y m))∧Below W.heap.size W w':=fun W=>days_any y m W;have L:Lies3 (w.alloc (.cells #[.int .i64 y,.int .i64 m,.int .i64 d] 37)) w.heap.size (.int .i64 y) (.int .i64 m) (.int .i64 d):=Lies3.new rfl;have k0:=cell_regrown L.c0;have k1:=cell_regrown L.c1;have k2:=cell_regrown L.c2;clear L;by_cases h:1≤y∧y≤9999∧1≤m∧m≤12∧1≤d
 ·obtain ⟨h1,h2,h3,h4,h5⟩:=h;have g:good y m d=decide (d≤days y m):=by unfold good;rw [decide_eq_decide];omega
  have G:=hid g;have b1:decide (1≤y)=true:=decide_eq_true h1;have b2:decide (y≤9999)=true:=decide_eq_true h2;have b3:decide (1≤m)=true:=decide_eq_true h3;have b4:decide (m≤12)=true:=decide_eq_true h4;have b5:decide (1≤d)=true:=decide_eq_true h5;have qD:=fun a b c=>Calls.regrown_of (cD (grow (redrawn (w.alloc a) b) c));clear g h1 h2 h3 h4 h5 cD;go_enter Tryz.func95,Tryz.ntmps95
  go_wp2;refine wp_region_quiet_below (by kernel_rfl) (by kernel_rfl) ?_;repeat (go_big_quiet_step ((go_at_call 107;exact qD _ _ _)))
  refine wpQuiet_nil ?_;intro _ hw';obtain ⟨⟨dq,osq⟩,hw''⟩:=hw';subst hw'';go_wp2;go_ret;exact ⟨ret_b G.out.symm,on2 (below_regrown _ dq osq)⟩
 ·have g:good y m d=false:=by
   rw [Bool.eq_false_iff];intro k;obtain ⟨a1,a2,a3,a4,a5,_⟩:=good_iff.1 k;exact h ⟨a1,a2,a3,a4,a5⟩
  have G:=hid g;clear g cD;rcases Decidable.em (1≤y) with h1|h1
  ·have b1:decide (1≤y)=true:=decide_eq_true h1;rcases Decidable.em (y≤9999) with h2|h2
   ·have b2:decide (y≤9999)=true:=decide_eq_true h2;rcases Decidable.em (1≤m) with h3|h3
    ·have b3:decide (1≤m)=true:=decide_eq_true h3;rcases Decidable.em (m≤12) with h4|h4
     ·have b4:decide (m≤12)=true:=decide_eq_true h4;rcases Decidable.em (1≤d) with h5|h5
      ·exact absurd ⟨h1,h2,h3,h4,h5⟩ h
      ·have b5:decide (1≤d)=false:=decide_eq_false h5;clear h;go_enter Tryz.func95,Tryz.ntmps95
       go_wp2;refine wp_region_quiet_below (by kernel_rfl) (by kernel_rfl) ?_;repeat (go_big_quiet_step (fail))
       refine wpQuiet_nil ?_;intro _ hw';obtain ⟨⟨dq,osq⟩,hw''⟩:=hw';subst hw'';go_wp2;go_ret;exact ⟨ret_b G.out.symm,on2 (below_regrown _ dq osq)⟩
     ·have b4:decide (m≤12)=false:=decide_eq_false h4;clear h;go_enter Tryz.func95,Tryz.ntmps95
      go_wp2;refine wp_region_quiet_below (by kernel_rfl) (by kernel_rfl) ?_;repeat (go_big_quiet_step (fail))
      refine wpQuiet_nil ?_;intro _ hw';obtain ⟨⟨dq,osq⟩,hw''⟩:=hw';subst hw'';go_wp2;go_ret;exact ⟨ret_b G.out.symm,on2 (below_regrown _ dq osq)⟩
    ·have b3:decide (1≤m)=false:=decide_eq_false h3;clear h;go_enter Tryz.func95,Tryz.ntmps95
     go_wp2;refine wp_region_quiet_below (by kernel_rfl) (by kernel_rfl) ?_;repeat (go_big_quiet_step (fail))
     refine wpQuiet_nil ?_;intro _ hw';obtain ⟨⟨dq,osq⟩,hw''⟩:=hw';subst hw'';go_wp2;go_ret;exact ⟨ret_b G.out.symm,on2 (below_regrown _ dq osq)⟩
   ·have b2:decide (y≤9999)=false:=decide_eq_false h2;clear h;go_enter Tryz.func95,Tryz.ntmps95
    go_wp2;refine wp_region_quiet_below (by kernel_rfl) (by kernel_rfl) ?_;repeat (go_big_quiet_step (fail))
    refine wpQuiet_nil ?_;intro _ hw';obtain ⟨⟨dq,osq⟩,hw''⟩:=hw';subst hw'';go_wp2;go_ret;exact ⟨ret_b G.out.symm,on2 (below_regrown _ dq osq)⟩
  ·have b1:decide (1≤y)=false:=decide_eq_false h1;clear h;go_enter Tryz.func95,Tryz.ntmps95
   go_wp2;refine wp_region_quiet_below (by kernel_rfl) (by kernel_rfl) ?_;repeat (go_big_quiet_step (fail))
   refine wpQuiet_nil ?_;intro _ hw';obtain ⟨⟨dq,osq⟩,hw''⟩:=hw';subst hw'';go_wp2;go_ret;exact ⟨ret_b G.out.symm,on2 (below_regrown _ dq osq)⟩
end R3
namespace P
open Go.RowKit Mm
def mix (ms:List Meter) (name:ByteArray):Int:=match meterIx ms name with
 | some i=>i
 | none=>-1
theorem mix_scan (ms:List Meter) (name:ByteArray):mix ms name=L06.scan name ms 0:=by
 have e:(fun m:Meter=>decide (m.name=name))=fun m=>m.name.data.toList==name.data.toList:=by
  funext m
  rw [Bool.eq_iff_iff];simp only [decide_eq_true_eq,beq_iff_eq];constructor
  ·intro h;rw [h]
  ·intro h;exact ByteArray.ext (Array.toList_inj.1 h)
 rw [L06.scan_find,e];unfold mix meterIx;cases List.findIdx? (fun m:Meter=>m.name.data.toList==name.data.toList) ms<;>simp
theorem mix_some {ms:List Meter} {name:ByteArray} {i:Nat} : mix ms name=i↔meterIx ms name=some i:=by
 unfold mix;cases h:meterIx ms name with
 | none=>simp
 | some k=>simp;omega
theorem mix_none {ms:List Meter} {name:ByteArray} : mix ms name<0↔meterIx ms name=none:=by
 unfold mix;cases h:meterIx ms name with
 | none=>simp
 | some k=>simp
end P
namespace R9
open Go.RowKit Go.Sort P Mm Md R6 L06
end R9
namespace Co
open Go.RowKit Go.Sort P Mm Md R6 Tl L06 Te
theorem number_any (d:Day) (h:DayOk d) (w:World):Calls Tryz.prog 33 #[.agg #[d.y,d.m,d.d]] w fun e w'=>e=.returned (.int .i64 (dn d))∧Below w.heap.size w w':=by
 have c:=hid (Dt.number_yes d.y d.m d.d (w.alloc (.cells #[d.y,d.m,d.d] 37)) h);have b1:=hid (bel_alloc w (.cells #[d.y,d.m,d.d] 37));unfold dv at c;clear h;obtain ⟨n,hn⟩:∃n,n=dn d:=⟨_,rfl⟩;rw [←hn];rw [show num d.y d.m d.d=n from hn.symm] at c;clear hn;go_enter Tryz.func33,Tryz.ntmps33
 go_wp2_with fail
 refine c.out.mono ?_;rintro e w' ⟨rfl,b⟩;have BF:=hid (bel_on b1.out b);clear b c;go_wp2;go_ret;exact ⟨rfl,BF.out⟩
theorem name10_any (m:Meter) (name:ByteArray) (b:Nat) (w:World) (hk:w.cell? ⟨b,0,none⟩=some (.string name)) (hb:b<w.heap.size) :
  Calls Tryz.prog 83 #[.agg (meterC m).toArray,.pointer (some ⟨b,0,none⟩)] w fun e w'=>e=.returned (.bool (m.name.toList==name.toList))∧Below w.heap.size w w':=by
 obtain ⟨w1,hw1⟩:∃w1,w1=w.alloc (.cells (meterC m).toArray 49):=⟨_,rfl⟩;have b1:Below w.heap.size w w1:=by rw [hw1];exact bel_alloc ..
 unfold meterC at hw1 ⊢;rcases Bool.eq_false_or_eq_true (m.name.toList==name.toList) with h|h<;>rw [h]
 all_goals
  go_enter Tryz.func83,Tryz.ntmps83
  go_wp2;go_ret;rw [←hw1];exact ⟨rfl,b1⟩
theorem idxN_any (xs:List Meter) (ma:Option Addr) (mc:Nat) (name:ByteArray) (b:Nat) (w:World) (hx:Row tMeter w ma xs.length mc xs) (hb:b<w.heap.size) (hk:w.cell? ⟨b,0,none⟩=some (.string name)) :
  Calls Tryz.prog 129 #[.slice ma xs.length mc,.func (.func 83) #[] #[.pointer (some ⟨b,0,none⟩)]] w fun e w'=>e=.returned (.int .i64 (scan name xs 0))∧Below w.heap.size w w':=by
 obtain ⟨n,hn⟩:∃n,n=xs.length:=⟨_,rfl⟩;have u1:=hx.hcap;have u2:=hx.hmax;obtain ⟨R,hR⟩:∃R,R=scan name xs 0:=⟨_,rfl⟩;rw [←hR];have HR:=hid hR;rw [←hn] at hx u1 ⊢;have HX:=hid hx;have HN:=hid hn;have HL:=hid hb;have HK:=hid hk;clear hR hx hn hb hk;go_enter Tryz.func129,Tryz.ntmps129
 go_wp2;go_loopw [8] (fun i wr=>∃i':Int,i=.int .i64 i'∧0≤i'∧i'≤n∧Hid (R=scan name (xs.drop i'.toNat) i')∧Hid (Below w.heap.size w wr)) (fun i _=>((n:Int)-intOf i).toNat)
 case atStart=>exact ⟨0,rfl,by omega,by omega,hid HR.out,hid (Below.refl _ _)⟩
 case round=>
  obtain ⟨i',rfl,i0,i1,hh,hb⟩:=hrel;by_cases hlt:i'<n
  ·obtain ⟨x,tx⟩:∃x,xs[i'.toNat]?=some x:=⟨_,List.getElem?_eq_getElem (by have:=HN.out;omega)⟩
   have K:Hid (R=if x.name=name then i' else scan name (xs.drop (i'+1).toNat) (i'+1)):=hid (by
    have:=scan_drop (name:=name) tx;rw [show ((i'.toNat:Nat):Int)=i' by omega] at this
    rw [hh.out,this,show (i'+1).toNat=i'.toNat+1 by omega])
   obtain ⟨bx,ox,e,lbx,x0,x1,x2,x3,x4,_⟩:=meter_at (HX.out.on hb.out) tx;subst e;have cS:=name10_any x name b wr (by rw [hb.out.cell HL.out];exact HK.out) (Nat.lt_of_lt_of_le HL.out hb.out.size);unfold meterC at cS;clear tx hh;go_wp2_with fail
   refine cS.mono ?_;rintro e w' ⟨rfl,b3⟩;have HB:=hid (bel_on hb.out b3);clear cS b3;rcases Bool.eq_false_or_eq_true (x.name.toList==name.toList) with g|g
   ·have K2:Hid (R=i'):=hid (by rw [K.out,if_pos (str_eq.1 (eq_of_beq g))]);rw [g];go_wp2;go_ret;exact ⟨by rw [K2.out];rfl,HB.out⟩
   ·have K2:Hid (R=scan name (xs.drop (i'+1).toNat) (i'+1)):=hid (by rw [K.out,if_neg (fun e=>by rw [e] at g;simp at g)]);rw [g];go_wp2;go_roundw
    case rel=>exact ⟨i'+1,rfl,by omega,by omega,K2,HB⟩
    case measure=>simp [intOf];omega
  ·obtain rfl:i'=n:=by omega
   have K2:Hid (R = -1):=hid (by rw [hh.out,List.drop_eq_nil_of_le (by have:=HN.out;omega)];rfl);go_wp2;go_ret;exact ⟨by rw [K2.out];rfl,hb.out⟩
theorem findN_any (xs:List Meter) (ma:Option Addr) (mc:Nat) (name:ByteArray) (b:Nat) (w:World) (hx:Row tMeter w ma xs.length mc xs) (hb:b<w.heap.size) (hk:w.cell? ⟨b,0,none⟩=some (.string name)) :
  Calls Tryz.prog 80 #[.slice ma xs.length mc,.func (.func 83) #[] #[.pointer (some ⟨b,0,none⟩)]] w fun e w'=>e=.returned (.int .i64 (scan name xs 0))∧Below w.heap.size w w':=by
 have c:=idxN_any xs ma mc name b w hx hb hk;clear hx hb hk;go_enter Tryz.func80,Tryz.ntmps80
 go_wp2_with fail
 refine c.mono ?_;rintro e w' ⟨rfl,b⟩;clear c;go_wp2;go_ret;exact ⟨rfl,b⟩
def dayA (c:Cor) (x:Win):Int:=if x.has then dn x.a else c.a
def dayB (c:Cor) (x:Win):Int:=if x.has then dn x.b else c.b
theorem days_any (c:Cor) (x:Win) (ma:Option Addr) (mc:Nat) (sa:Option Addr) (sc:Nat) (pa:Option Addr) (pc:Nat) (w:World) (hx:WinOk x):Calls Tryz.prog 82 #[.agg #[c.cur,c.a,c.b,.slice ma c.meters.length mc,.slice sa c.sums.length sc,.slice pa c.parts.length pc],.agg #[x.has,x.a.y,x.a.m,x.a.d,x.b.y,x.b.m,x.b.d]] w fun e w'=>e=.returned (.tuple #[.int .i64 (dayA c x),.int .i64 (dayB c x)])∧Below w.heap.size w w':=by
 obtain ⟨w1,hw1⟩:∃W,W=(w.alloc (.cells #[c.cur,c.a,c.b,.slice ma c.meters.length mc,.slice sa c.sums.length sc,.slice pa c.parts.length pc] 27)).alloc (.cells #[x.has,x.a.y,x.a.m,x.a.d,x.b.y,x.b.m,x.b.d] 51):=⟨_,rfl⟩;have b1:Below w.heap.size w w1:=by rw [hw1];exact bel_alloc2 ..
 have X2:Box w1 (w.heap.size+1) [x.has,x.a.y,x.a.m,x.a.d,x.b.y,x.b.m,x.b.d]:=by
  rw [hw1];have:=Box.new (w.alloc (.cells #[c.cur,c.a,c.b,.slice ma c.meters.length mc,.slice sa c.sums.length sc,.slice pa c.parts.length pc] 27)) [x.has,x.a.y,x.a.m,x.a.d,x.b.y,x.b.m,x.b.d] 51;simpa using this
 have X1:Box w1 w.heap.size [c.cur,c.a,c.b,.slice ma c.meters.length mc,.slice sa c.sums.length sc,.slice pa c.parts.length pc]:=by rw [hw1];exact (Box.new w _ 27).on (bel_alloc _ _)
 have d1:=X1.cell 1 _ rfl;have d2:=X1.cell 2 _ rfl;have a0:=X2.cell 0 _ rfl;have a1:=X2.cell 1 _ rfl;have a2:=X2.cell 2 _ rfl;have a3:=X2.cell 3 _ rfl;have a4:=X2.cell 4 _ rfl;have a5:=X2.cell 5 _ rfl;have a6:=X2.cell 6 _ rfl;have HW:=hid hw1;have B1:=hid b1;clear hw1 X1 X2 b1;obtain ⟨A,hA⟩:∃A,A=dayA c x:=⟨_,rfl⟩;obtain ⟨B,hB⟩:∃B,B=dayB c x:=⟨_,rfl⟩;rw [←hA,←hB];rcases Bool.eq_false_or_eq_true x.has with g|g
 ·obtain ⟨ga,gb⟩:DayOk x.a∧DayOk x.b:=by
   rcases hx with ⟨_,h⟩|h
   ·exact h
   ·rw [h] at g;cases g
  have eA:A=dn x.a:=by rw [hA];unfold dayA;rw [g];rfl
  have eB:B=dn x.b:=by rw [hB];unfold dayB;rw [g];rfl
  have cA:=fun W=>number_any x.a ga W;have cB:=fun W=>number_any x.b gb W;rw [←eA] at cA;rw [←eB] at cB;clear eA eB hA hB ga gb hx;rw [g] at a0 HW;rw [g];clear g;go_enter Tryz.func82,Tryz.ntmps82
  go_upto_region 1 with fail
  rw [←HW.out];clear HW;go_upto_region 3 with fail
  have f1:=cell_regrown a1;have f2:=cell_regrown a2;have f3:=cell_regrown a3;have f4:=cell_regrown a4;have f5:=cell_regrown a5;have f6:=cell_regrown a6;have qA:=fun d os=>Calls.regrown_of (cA (grow (redrawn w1 d) os));have qB:=fun d os=>Calls.regrown_of (cB (grow (redrawn w1 d) os));clear cA cB a0 a1 a2 a3 a4 a5 a6 d1 d2;refine wp_region_quiet_below (by kernel_rfl) (by kernel_rfl) ?_;repeat (go_big_quiet_step (first|(go_at_call_of 33 (Value.agg #[x.a.y,x.a.m,x.a.d]);exact qA _ _)|(go_at_call 33;exact qB _ _)))
  refine wpQuiet_nil ?_;intro w3 hw';obtain ⟨⟨dq,osq⟩,hw''⟩:=hw';have B3:=hid (bel_on B1.out (show Below w1.heap.size w1 w3 by subst hw'';exact below_regrown w1 dq osq));clear hw'' qA qB f1 f2 f3 f4 f5 f6;go_wp2;go_ret2;exact ⟨rfl,B3.out⟩
 ·have eA:A=c.a:=by rw [hA];unfold dayA;rw [g];rfl
  have eB:B=c.b:=by rw [hB];unfold dayB;rw [g];rfl
  have EA:=hid eA;have EB:=hid eB;rw [g] at a0 HW;rw [g];clear g hx hA hB eA eB;go_enter Tryz.func82,Tryz.ntmps82
  go_upto_region 1 with fail
  rw [←HW.out];clear HW;go_upto_region 2 with fail
  have f1:=cell_regrown d1;have f2:=cell_regrown d2;refine wp_region_quiet_below (by kernel_rfl) (by kernel_rfl) ?_;repeat (go_big_quiet_step (fail))
  refine wpQuiet_nil ?_;intro w3 hw';obtain ⟨⟨dq,osq⟩,hw''⟩:=hw';have B3:=hid (bel_on B1.out (show Below w1.heap.size w1 w3 by subst hw'';exact below_regrown w1 dq osq));clear hw'' f1 f2 a0 a1 a2 a3 a4 a5 a6 d1 d2;go_wp2;go_ret2;exact ⟨by rw [EA.out,EB.out];rfl,B3.out⟩
theorem sum_any (c:Cor) (f:Fee) (ma:Option Addr) (mc:Nat) (sa:Option Addr) (sc:Nat) (pa:Option Addr) (pc:Nat) (w:World) (hx:WinOk f.win):Calls Tryz.prog 36 #[.agg #[c.cur,c.a,c.b,.slice ma c.meters.length mc,.slice sa c.sums.length sc,.slice pa c.parts.length pc],.agg #[f.amount,f.win.has,f.win.a.y,f.win.a.m,f.win.a.d,f.win.b.y,f.win.b.m,f.win.b.d,f.line,f.col]] w fun e w'=>e=.returned (.agg #[f.amount,.int .i64 (dayA c f.win),.int .i64 (dayB c f.win)])∧Below w.heap.size w w':=by
 obtain ⟨w1,hw1⟩:∃W,W=w.alloc (.cells #[c.cur,c.a,c.b,.slice ma c.meters.length mc,.slice sa c.sums.length sc,.slice pa c.parts.length pc] 27):=⟨_,rfl⟩;obtain ⟨w2,hw2⟩:∃W,W=w1.alloc (.cells #[f.amount,f.win.has,f.win.a.y,f.win.a.m,f.win.a.d,f.win.b.y,f.win.b.m,f.win.b.d,f.line,f.col] 53):=⟨_,rfl⟩;obtain ⟨w3,hw3⟩:∃W,W=w2.alloc (.cells #[.int .i64 0,.int .i64 0,.int .i64 0] 91):=⟨_,rfl⟩;obtain ⟨w4,hw4⟩:∃W,W=w3.alloc (.cells #[f.amount,.int .i64 0,.int .i64 0] 91):=⟨_,rfl⟩;obtain ⟨k1,hk1⟩:∃k,k=w.heap.size:=⟨_,rfl⟩;obtain ⟨k2,hk2⟩:∃k,k=k1+1:=⟨_,rfl⟩;obtain ⟨k3,hk3⟩:∃k,k=k2+1:=⟨_,rfl⟩;obtain ⟨k4,hk4⟩:∃k,k=k3+1:=⟨_,rfl⟩;have s1:w1.heap.size=k2:=by rw [hw1,hk2,hk1];simp
 have s2:w2.heap.size=k3:=by rw [hw2,hk3,←s1];simp
 have s3:w3.heap.size=k4:=by rw [hw3,hk4,←s2];simp
 have b2:Below w1.heap.size w1 w2:=by rw [hw2];exact bel_alloc _ _
 have b3:Below w2.heap.size w2 w3:=by rw [hw3];exact bel_alloc _ _
 have b4:Below w3.heap.size w3 w4:=by rw [hw4];exact bel_alloc _ _
 have X1:Box w4 k1 [c.cur,c.a,c.b,.slice ma c.meters.length mc,.slice sa c.sums.length sc,.slice pa c.parts.length pc]:=by
  have:=Box.new w [c.cur,c.a,c.b,.slice ma c.meters.length mc,.slice sa c.sums.length sc,.slice pa c.parts.length pc] 27;rw [←hw1,←hk1] at this;exact ((this.on b2).on b3).on b4
 have X2:Box w4 k2 [f.amount,f.win.has,f.win.a.y,f.win.a.m,f.win.a.d,f.win.b.y,f.win.b.m,f.win.b.d,f.line,f.col]:=by
  have:=Box.new w1 [f.amount,f.win.has,f.win.a.y,f.win.a.m,f.win.a.d,f.win.b.y,f.win.b.m,f.win.b.d,f.line,f.col] 53;rw [←hw2,s1] at this;exact (this.on b3).on b4
 have X3:Box w4 k3 [.int .i64 0,.int .i64 0,.int .i64 0]:=by
  have:=Box.new w2 [.int .i64 0,.int .i64 0,.int .i64 0] 91;rw [←hw3,s2] at this;exact this.on b4
 have X4:Box w4 k4 [f.amount,.int .i64 0,.int .i64 0]:=by
  have:=Box.new w3 [f.amount,.int .i64 0,.int .i64 0] 91;rw [←hw4,s3] at this;exact this
 have b14:Below w.heap.size w w4:=bel_on (bel_on (bel_on (by rw [hw1];exact bel_alloc _ _) b2) b3) b4;have HW:=hid (show w4=(((w.alloc (.cells #[c.cur,c.a,c.b,.slice ma c.meters.length mc,.slice sa c.sums.length sc,.slice pa c.parts.length pc] 27)).alloc (.cells #[f.amount,f.win.has,f.win.a.y,f.win.a.m,f.win.a.d,f.win.b.y,f.win.b.m,f.win.b.d,f.line,f.col] 53)).alloc (.cells #[.int .i64 0,.int .i64 0,.int .i64 0] 91)).alloc (.cells #[f.amount,.int .i64 0,.int .i64 0] 91) by rw [hw4,hw3,hw2,hw1]);have HK4:=hid (show k4=w.heap.size+1+1+1 by omega);have HK3:=hid (show k3=w.heap.size+1+1 by omega);have HK2:=hid (show k2=w.heap.size+1 by omega);have HK1:=hid hk1;have HN:=hid (show k3≠k4 by omega);obtain ⟨A,hA⟩:∃A,A=dayA c f.win:=⟨_,rfl⟩;obtain ⟨B,hB⟩:∃B,B=dayB c f.win:=⟨_,rfl⟩;rw [←hA,←hB];have cD:=hid (days_any c f.win ma mc sa sc pa pc w4 hx);rw [←hA,←hB] at cD;have q0:=X1.cell 0 _ rfl;have q1:=X1.cell 1 _ rfl;have q2:=X1.cell 2 _ rfl;have q3:=X1.cell 3 _ rfl;have q4:=X1.cell 4 _ rfl;have q5:=X1.cell 5 _ rfl;have a1:=X2.cell 1 _ rfl;have a2:=X2.cell 2 _ rfl;have a3:=X2.cell 3 _ rfl;have a4:=X2.cell 4 _ rfl;have a5:=X2.cell 5 _ rfl;have a6:=X2.cell 6 _ rfl;have a7:=X2.cell 7 _ rfl;have B4:=hid b14;have HX3:=hid X3;have HX4:=hid X4;have HB:=hid (show w.heap.size≤k3∧w.heap.size≤k4 by omega);clear hw1 hw2 hw3 hw4 hk1 hk2 hk3 hk4 s1 s2 s3 b2 b3 b4 X1 X2 X3 X4 b14 hA hB hx;go_enter Tryz.func36,Tryz.ntmps36
 go_upto_region 2 with fail
 rw [←HW.out,←HK4.out,←HK3.out,←HK2.out,←HK1.out];clear HW HK4 HK3 HK2 HK1;go_wp2_with fail
 refine cD.out.mono ?_;rintro e w5 ⟨rfl,b⟩;clear q0 q1 q2 q3 q4 q5 a1 a2 a3 a4 a5 a6 a7 cD;have Y3:=hid (HX3.out.on b);have Y4:=hid (HX4.out.on b);have B5:=hid (bel_on B4.out b);have z0:=Y4.out.cell 0 _ rfl;have z1:=Y4.out.cell 1 _ rfl;have z2:=Y4.out.cell 2 _ rfl;have e1:=Y4.out.free 1;have e2:=Y4.out.free 2;clear b HX3 HX4 B4;go_upto_region 3 with fail
 obtain ⟨w6,hw6⟩:∃W,W=(w5.setCell ⟨k4,1,none⟩ (.int .i64 A)).setCell ⟨k4,2,none⟩ (.int .i64 B):=⟨_,rfl⟩;rw [←hw6];have Z4:=hid (show Box w6 k4 [f.amount,.int .i64 A,.int .i64 B] by rw [hw6];exact (Y4.out.set 1 _).set 2 _);have Z3:=hid (show Box w6 k3 [.int .i64 0,.int .i64 0,.int .i64 0] by rw [hw6];exact (Y3.out.other (p:=⟨k4,1,none⟩) HN.out _).other (p:=⟨k4,2,none⟩) HN.out _);have B6:=hid (show Below w.heap.size w w6 by rw [hw6];exact (B5.out.setCell (p:=⟨k4,1,none⟩) HB.out.2 _).setCell (p:=⟨k4,2,none⟩) HB.out.2 _);clear hw6 z0 z1 z2 e1 e2 Y3 Y4 B5;have y0:=Z4.out.cell 0 _ rfl;have y1:=Z4.out.cell 1 _ rfl;have y2:=Z4.out.cell 2 _ rfl;have RZ:=hid (box_there Z3.out (n:=3) rfl)
 go_wp2_with (first
  | (with_reducible refine wpList_store_mid (op:=Oper.mk none (Op.store 91 (Operand.tmp 4) (Operand.tmp 18)) _ _ _ _) ?_ 91 (.tmp 4) (.tmp 18) ?_ k3 0 #[f.amount,.int .i64 A,.int .i64 B] ?_ ?_ ?_ ?_ ?_ ?_;rfl;rfl;go_simp;go_simp;(simpa using RZ.out);kernel_rfl;(simp [Value.oneCell']))
  | fail)
 have rr:(w6.setCells k3 0 [f.amount,.int .i64 A,.int .i64 B]).rangeAt k3 0 [f.amount,.int .i64 A,.int .i64 B]:=World.rangeAt_setCells_same _ _ _ [f.amount,.int .i64 A,.int .i64 B] RZ.out;refine bodyPost_ret (v:=.agg #[f.amount,.int .i64 A,.int .i64 B]) ?_ rfl ?_
 ·exact Md.results_mid rfl _ _ k3 [f.amount,.int .i64 A,.int .i64 B] _ rfl rr Tryz.underlying91 rfl (by kernel_rfl)
 exact ⟨rfl,below_setCells HB.out.1 _ _ _ B6.out⟩
theorem part_any (c:Cor) (x:Charge) (ma:Option Addr) (mc:Nat) (sa:Option Addr) (sc:Nat) (pa:Option Addr) (pc:Nat) (ta:Option Addr) (tc:Nat) (aa:Option Addr) (ac:Nat) (w:World) (hx:WinOk x.win) (hm:Row tMeter w ma c.meters.length mc c.meters):Calls Tryz.prog 37 #[.agg #[c.cur,c.a,c.b,.slice ma c.meters.length mc,.slice sa c.sums.length sc,.slice pa c.parts.length pc],.agg #[x.meter,x.win.has,x.win.a.y,x.win.a.m,x.win.a.d,x.win.b.y,x.win.b.m,x.win.b.d,x.allowance,x.block,x.kind,.slice ta x.tiers.length tc,x.mode,.slice aa x.adjusts.length ac,x.line,x.col]] w fun e w'=>e=.returned (.agg #[.int .i64 (mix c.meters x.meter),.int .i64 (dayA c x.win),.int .i64 (dayB c x.win),x.allowance,x.block,x.kind,.slice ta x.tiers.length tc,x.mode,.slice aa x.adjusts.length ac])∧Below w.heap.size w w':=by
 obtain ⟨w1,hw1⟩:∃W,W=w.alloc (.cells #[c.cur,c.a,c.b,.slice ma c.meters.length mc,.slice sa c.sums.length sc,.slice pa c.parts.length pc] 27):=⟨_,rfl⟩;obtain ⟨w2,hw2⟩:∃W,W=w1.alloc (.cells #[x.meter,x.win.has,x.win.a.y,x.win.a.m,x.win.a.d,x.win.b.y,x.win.b.m,x.win.b.d,x.allowance,x.block,x.kind,.slice ta x.tiers.length tc,x.mode,.slice aa x.adjusts.length ac,x.line,x.col] 57):=⟨_,rfl⟩;obtain ⟨w3,hw3⟩:∃W,W=w2.alloc (.cells #[.int .i64 0,.int .i64 0,.int .i64 0,.int .i64 0,.int .i64 0,.int .i64 0,.slice none 0 0,.int .i64 0,.slice none 0 0] 59):=⟨_,rfl⟩;obtain ⟨w4,hw4⟩:∃W,W=w3.alloc (.cells #[.int .i64 0,.int .i64 0,.int .i64 0,x.allowance,x.block,x.kind,.slice ta x.tiers.length tc,x.mode,.slice aa x.adjusts.length ac] 59):=⟨_,rfl⟩;obtain ⟨k1,hk1⟩:∃k,k=w.heap.size:=⟨_,rfl⟩;obtain ⟨k2,hk2⟩:∃k,k=k1+1:=⟨_,rfl⟩;obtain ⟨k3,hk3⟩:∃k,k=k2+1:=⟨_,rfl⟩;obtain ⟨k4,hk4⟩:∃k,k=k3+1:=⟨_,rfl⟩;have s1:w1.heap.size=k2:=by rw [hw1,hk2,hk1];simp
 have s2:w2.heap.size=k3:=by rw [hw2,hk3,←s1];simp
 have s3:w3.heap.size=k4:=by rw [hw3,hk4,←s2];simp
 have b1:Below w.heap.size w w1:=by rw [hw1];exact bel_alloc _ _
 have b2:Below w1.heap.size w1 w2:=by rw [hw2];exact bel_alloc _ _
 have b3:Below w2.heap.size w2 w3:=by rw [hw3];exact bel_alloc _ _
 have b4:Below w3.heap.size w3 w4:=by rw [hw4];exact bel_alloc _ _
 have X1:Box w4 k1 [c.cur,c.a,c.b,.slice ma c.meters.length mc,.slice sa c.sums.length sc,.slice pa c.parts.length pc]:=by
  have:=Box.new w [c.cur,c.a,c.b,.slice ma c.meters.length mc,.slice sa c.sums.length sc,.slice pa c.parts.length pc] 27;rw [←hw1,←hk1] at this;exact ((this.on b2).on b3).on b4
 have X2:Box w4 k2 [x.meter,x.win.has,x.win.a.y,x.win.a.m,x.win.a.d,x.win.b.y,x.win.b.m,x.win.b.d,x.allowance,x.block,x.kind,.slice ta x.tiers.length tc,x.mode,.slice aa x.adjusts.length ac,x.line,x.col]:=by
  have:=Box.new w1 [x.meter,x.win.has,x.win.a.y,x.win.a.m,x.win.a.d,x.win.b.y,x.win.b.m,x.win.b.d,x.allowance,x.block,x.kind,.slice ta x.tiers.length tc,x.mode,.slice aa x.adjusts.length ac,x.line,x.col] 57;rw [←hw2,s1] at this;exact (this.on b3).on b4
 have X3:Box w4 k3 [.int .i64 0,.int .i64 0,.int .i64 0,.int .i64 0,.int .i64 0,.int .i64 0,.slice none 0 0,.int .i64 0,.slice none 0 0]:=by
  have:=Box.new w2 [.int .i64 0,.int .i64 0,.int .i64 0,.int .i64 0,.int .i64 0,.int .i64 0,.slice none 0 0,.int .i64 0,.slice none 0 0] 59;rw [←hw3,s2] at this;exact this.on b4
 have X4:Box w4 k4 [.int .i64 0,.int .i64 0,.int .i64 0,x.allowance,x.block,x.kind,.slice ta x.tiers.length tc,x.mode,.slice aa x.adjusts.length ac]:=by
  have:=Box.new w3 [.int .i64 0,.int .i64 0,.int .i64 0,x.allowance,x.block,x.kind,.slice ta x.tiers.length tc,x.mode,.slice aa x.adjusts.length ac] 59;rw [←hw4,s3] at this;exact this
 have b14:Below w.heap.size w w4:=bel_on (bel_on (bel_on b1 b2) b3) b4;have HK4:=hid (show k4=w.heap.size+1+1+1 by omega);have HK3:=hid (show k3=w.heap.size+1+1 by omega);have HK2:=hid (show k2=w.heap.size+1 by omega);have HK1:=hid hk1;have HN:=hid (show k3≠k4 by omega);obtain ⟨A,hA⟩:∃A,A=dayA c x.win:=⟨_,rfl⟩;obtain ⟨B,hB⟩:∃B,B=dayB c x.win:=⟨_,rfl⟩;obtain ⟨M,hM⟩:∃M,M=mix c.meters x.meter:=⟨_,rfl⟩;rw [←hA,←hB,←hM];have cD:=hid (fun W=>days_any c x.win ma mc sa sc pa pc W hx);rw [←hA,←hB] at cD;have cF:=hid (findN_any c.meters ma mc x.meter k2 w4 (hm.on b14) X2.lt (X2.cell 0 _ rfl));rw [←mix_scan,←hM] at cF;have X:=hid (fun (W:World) (b:Below w4.heap.size w4 W)=>(⟨X1.on b,X2.on b,X3.on b,X4.on b,bel_on b14 b⟩:Box W k1 [c.cur,c.a,c.b,.slice ma c.meters.length mc,.slice sa c.sums.length sc,.slice pa c.parts.length pc]∧Box W k2 [x.meter,x.win.has,x.win.a.y,x.win.a.m,x.win.a.d,x.win.b.y,x.win.b.m,x.win.b.d,x.allowance,x.block,x.kind,.slice ta x.tiers.length tc,x.mode,.slice aa x.adjusts.length ac,x.line,x.col]∧Box W k3 [.int .i64 0,.int .i64 0,.int .i64 0,.int .i64 0,.int .i64 0,.int .i64 0,.slice none 0 0,.int .i64 0,.slice none 0 0]∧Box W k4 [.int .i64 0,.int .i64 0,.int .i64 0,x.allowance,x.block,x.kind,.slice ta x.tiers.length tc,x.mode,.slice aa x.adjusts.length ac]∧Below w.heap.size w W));have q3:=X1.cell 3 _ rfl;have HB:=hid (show w.heap.size≤k3∧w.heap.size≤k4 by omega);have HK:=hid (show k1≠k4∧k2≠k4∧k1<w.heap.size+4 by omega);have HW4:=hid (show w4=(((w.alloc (.cells #[c.cur,c.a,c.b,.slice ma c.meters.length mc,.slice sa c.sums.length sc,.slice pa c.parts.length pc] 27)).alloc (.cells #[x.meter,x.win.has,x.win.a.y,x.win.a.m,x.win.a.d,x.win.b.y,x.win.b.m,x.win.b.d,x.allowance,x.block,x.kind,.slice ta x.tiers.length tc,x.mode,.slice aa x.adjusts.length ac,x.line,x.col] 57)).alloc (.cells #[.int .i64 0,.int .i64 0,.int .i64 0,.int .i64 0,.int .i64 0,.int .i64 0,.slice none 0 0,.int .i64 0,.slice none 0 0] 59)).alloc (.cells #[.int .i64 0,.int .i64 0,.int .i64 0,x.allowance,x.block,x.kind,.slice ta x.tiers.length tc,x.mode,.slice aa x.adjusts.length ac] 59) by rw [hw4,hw3,hw2,hw1]);clear hw1 hw2 hw3 hw4 hk1 hk2 hk3 hk4 s1 s2 s3 b1 b2 b3 b4 X1 X2 X3 X4 b14 hA hB hM hx hm;go_enter Tryz.func37,Tryz.ntmps37
 go_upto_region 2 with fail
 rw [←HW4.out,←HK4.out,←HK3.out,←HK2.out,←HK1.out];clear HW4 HK4 HK3 HK2 HK1;go_wp2_with fail
 refine cF.out.mono ?_;rintro e w5 ⟨rfl,b⟩;have Y:=hid (X.out _ b);clear q3 cF b;have z0:=Y.out.2.2.2.1.cell 0 _ rfl;have e0:=Y.out.2.2.2.1.free 0;go_upto_region 3 with fail
 obtain ⟨w6,hw6⟩:∃W,W=w5.setCell ⟨k4,0,none⟩ (.int .i64 M):=⟨_,rfl⟩;rw [←hw6]
 have U:=hid (show Box w6 k1 [c.cur,c.a,c.b,.slice ma c.meters.length mc,.slice sa c.sums.length sc,.slice pa c.parts.length pc]∧Box w6 k2 [x.meter,x.win.has,x.win.a.y,x.win.a.m,x.win.a.d,x.win.b.y,x.win.b.m,x.win.b.d,x.allowance,x.block,x.kind,.slice ta x.tiers.length tc,x.mode,.slice aa x.adjusts.length ac,x.line,x.col]∧Box w6 k3 [.int .i64 0,.int .i64 0,.int .i64 0,.int .i64 0,.int .i64 0,.int .i64 0,.slice none 0 0,.int .i64 0,.slice none 0 0]∧Box w6 k4 [.int .i64 M,.int .i64 0,.int .i64 0,x.allowance,x.block,x.kind,.slice ta x.tiers.length tc,x.mode,.slice aa x.adjusts.length ac]∧Below w.heap.size w w6 by
  rw [hw6]
  exact ⟨Y.out.1.other (p:=⟨k4,0,none⟩) HK.out.1 _,Y.out.2.1.other (p:=⟨k4,0,none⟩) HK.out.2.1 _,Y.out.2.2.1.other (p:=⟨k4,0,none⟩) HN.out _,Y.out.2.2.2.1.set 0 _,Y.out.2.2.2.2.setCell (p:=⟨k4,0,none⟩) HB.out.2 _⟩)
 clear hw6 Y z0 e0 X;have q0:=U.out.1.cell 0 _ rfl;have q1:=U.out.1.cell 1 _ rfl;have q2:=U.out.1.cell 2 _ rfl;have q3:=U.out.1.cell 3 _ rfl;have q4:=U.out.1.cell 4 _ rfl;have q5:=U.out.1.cell 5 _ rfl;have a1:=U.out.2.1.cell 1 _ rfl;have a2:=U.out.2.1.cell 2 _ rfl;have a3:=U.out.2.1.cell 3 _ rfl;have a4:=U.out.2.1.cell 4 _ rfl;have a5:=U.out.2.1.cell 5 _ rfl;have a6:=U.out.2.1.cell 6 _ rfl;have a7:=U.out.2.1.cell 7 _ rfl;go_wp2_with fail
 refine (cD.out w6).mono ?_;rintro e w7 ⟨rfl,b⟩;clear q0 q1 q2 q3 q4 q5 a1 a2 a3 a4 a5 a6 a7 cD;have Y3:=hid (U.out.2.2.1.on b);have Y4:=hid (U.out.2.2.2.1.on b);have B7:=hid (bel_on U.out.2.2.2.2 b);have z1:=Y4.out.cell 1 _ rfl;have z2:=Y4.out.cell 2 _ rfl;have e1:=Y4.out.free 1;have e2:=Y4.out.free 2;clear b U;go_upto_region 4 with fail
 obtain ⟨w8,hw8⟩:∃W,W=(w7.setCell ⟨k4,1,none⟩ (.int .i64 A)).setCell ⟨k4,2,none⟩ (.int .i64 B):=⟨_,rfl⟩;rw [←hw8];have Z4:=hid (show Box w8 k4 [.int .i64 M,.int .i64 A,.int .i64 B,x.allowance,x.block,x.kind,.slice ta x.tiers.length tc,x.mode,.slice aa x.adjusts.length ac] by rw [hw8];exact (Y4.out.set 1 _).set 2 _);have Z3:=hid (show Box w8 k3 [.int .i64 0,.int .i64 0,.int .i64 0,.int .i64 0,.int .i64 0,.int .i64 0,.slice none 0 0,.int .i64 0,.slice none 0 0] by rw [hw8];exact (Y3.out.other (p:=⟨k4,1,none⟩) HN.out _).other (p:=⟨k4,2,none⟩) HN.out _);have B8:=hid (show Below w.heap.size w w8 by rw [hw8];exact (B7.out.setCell (p:=⟨k4,1,none⟩) HB.out.2 _).setCell (p:=⟨k4,2,none⟩) HB.out.2 _);clear hw8 z1 z2 e1 e2 Y3 Y4 B7;have RY:=hid (box_range Z4.out);have RZ:=hid (box_there Z3.out (n:=9) rfl)
 go_wp2_with (first
  | (with_reducible refine wpList_load_mid (op:=Oper.mk (some 33) (Op.load 59 (Operand.tmp 5)) _ _ _ _) ?_ 59 (.tmp 5) ?_ k4 0 ?_ [.int .i64 M,.int .i64 A,.int .i64 B,x.allowance,x.block,x.kind,.slice ta x.tiers.length tc,x.mode,.slice aa x.adjusts.length ac] _ RY.out Tryz.underlying59 ?_ ?_ ?_;rfl;rfl;go_simp;rfl;kernel_rfl)
  | (with_reducible refine wpList_store_mid (op:=Oper.mk none (Op.store 59 (Operand.tmp 4) (Operand.tmp 33)) _ _ _ _) ?_ 59 (.tmp 4) (.tmp 33) ?_ k3 0 #[.int .i64 M,.int .i64 A,.int .i64 B,x.allowance,x.block,x.kind,.slice ta x.tiers.length tc,x.mode,.slice aa x.adjusts.length ac] ?_ ?_ ?_ ?_ ?_ ?_;rfl;rfl;go_simp;go_simp;(simpa using RZ.out);kernel_rfl;(simp [Value.oneCell']))
  | fail)
 have rr:(w8.setCells k3 0 [.int .i64 M,.int .i64 A,.int .i64 B,x.allowance,x.block,x.kind,.slice ta x.tiers.length tc,x.mode,.slice aa x.adjusts.length ac]).rangeAt k3 0 [.int .i64 M,.int .i64 A,.int .i64 B,x.allowance,x.block,x.kind,.slice ta x.tiers.length tc,x.mode,.slice aa x.adjusts.length ac]:=World.rangeAt_setCells_same _ _ _ [.int .i64 M,.int .i64 A,.int .i64 B,x.allowance,x.block,x.kind,.slice ta x.tiers.length tc,x.mode,.slice aa x.adjusts.length ac] RZ.out;refine bodyPost_ret (v:=.agg #[.int .i64 M,.int .i64 A,.int .i64 B,x.allowance,x.block,x.kind,.slice ta x.tiers.length tc,x.mode,.slice aa x.adjusts.length ac]) ?_ rfl ?_
 ·exact Md.results_mid rfl _ _ k3 [.int .i64 M,.int .i64 A,.int .i64 B,x.allowance,x.block,x.kind,.slice ta x.tiers.length tc,x.mode,.slice aa x.adjusts.length ac] _ rfl rr Tryz.underlying59 rfl (by kernel_rfl)
 exact ⟨rfl,below_setCells HB.out.1 _ _ _ B8.out⟩
end Co
namespace Mm
open Go.RowKit P R6
theorem Owns.turn {W W':World} {base H:Nat} {ρ ρ':Slot→Option R} (h:Owns W base ρ) {σ:Slot} {r r':R} (hσ:ρ σ=some r) (hσ':ρ' σ=some r') (he:∀s,s≠σ→ρ' s=ρ s)
  (hg:W.grownBy W' r.v.ownBlock) (ho:W'.ownsRow base r'.e r'.size r'.v r'.n r'.xs) (hat:r'.v.ownBlock=r.v.ownBlock∨r'.v.ownBlock=some H) (hH:W.heap.size≤H):Owns W' base ρ':=by
 have oth:=h.others hσ hg
 have far:∀t q k,t≠σ→ρ t=some q→q.v.ownBlock=some k→r'.v.ownBlock=some k→False:=fun t q k hne hq hk hk'=>by
  rcases hat with e|e
  ·exact hne (h.apart t σ q r k hq hσ hk (e ▸ hk'))
  ·rw [e] at hk';have:=Option.some.inj hk';have:=((h.own t q hq).lt k hk).2;omega
 refine ⟨fun s q hs=>?_,fun s t q q' k hs ht hk hk'=>?_⟩
 ·by_cases e:s=σ
  ·subst e;rw [hσ'] at hs;obtain rfl:=Option.some.inj hs;exact ho
  ·rw [he s e] at hs;exact oth s q e hs
 ·by_cases e:s=σ<;>by_cases e2:t=σ
  ·rw [e,e2]
  ·subst e;rw [hσ'] at hs;obtain rfl:=Option.some.inj hs;rw [he t e2] at ht;exact (far t q' k e2 ht hk' hk).elim
  ·subst e2;rw [hσ'] at ht;obtain rfl:=Option.some.inj ht;rw [he s e] at hs;exact (far s q k e hs hk hk').elim
  ·rw [he s e] at hs;rw [he t e2] at ht;exact h.apart s t q q' k hs ht hk hk'
theorem Owns.add {W:World} {base S:Nat} {ρ ρ':Slot→Option R} (h:Owns W base ρ) {σ:Slot} {r:R} (hσ':ρ' σ=some r) (he:∀s,s≠σ→ρ' s=ρ s)
  (ho:W.ownsRow S r.e r.size r.v r.n r.xs) (hS:base≤S) (far:∀t q k,t≠σ→ρ t=some q→q.v.ownBlock=some k→r.v.ownBlock≠some k):Owns W base ρ':=by
 refine ⟨fun s q hs=>?_,fun s t q q' k hs ht hk hk'=>?_⟩
 ·by_cases e:s=σ
  ·subst e;rw [hσ'] at hs;obtain rfl:=Option.some.inj hs;exact ho.mono hS
  ·rw [he s e] at hs;exact h.own s q hs
 ·by_cases e:s=σ<;>by_cases e2:t=σ
  ·rw [e,e2]
  ·subst e;rw [hσ'] at hs;obtain rfl:=Option.some.inj hs;rw [he t e2] at ht;exact (far t q' k e2 ht hk' hk).elim
  ·subst e2;rw [hσ'] at ht;obtain rfl:=Option.some.inj ht;rw [he s e] at hs;exact (far s q k e hs hk hk').elim
  ·rw [he s e] at hs;rw [he t e2] at ht;exact h.apart s t q q' k hs ht hk hk'
def zeroP:List Value:=planC planZ none 0 none 0 none 0
end Mm
namespace R4
open Go.RowKit P
def dgI (x:Int):Bool:=decide (48≤x∧x≤57)
theorem dgI_of (b:UInt8):dgI ((b.toNat:Nat):Int)=isDg b:=by unfold dgI isDg;rw [decide_eq_decide];omega
theorem digit_any (x:Int) (w:World):Calls Tryz.prog 156 #[.int .u8 x] w fun e w'=>e=.returned (.bool (dgI x))∧w'=w:=by
 rcases Decidable.em (48≤x) with h|h
 ·have b:decide (48≤x)=true:=decide_eq_true h;have e:dgI x=decide (x≤57):=by unfold dgI;rw [decide_eq_decide];omega
  have E:=hid e;clear e;go_enter Tryz.func156,Tryz.ntmps156
  go_wp2;go_ret;exact ⟨ret_b E.out.symm,rfl⟩
 ·have b:decide (48≤x)=false:=decide_eq_false h;have e:dgI x=false:=by unfold dgI;rw [decide_eq_false_iff_not];omega
  have E:=hid e;clear e;go_enter Tryz.func156,Tryz.ntmps156
  go_wp2;go_ret;exact ⟨ret_b E.out.symm,rfl⟩
theorem byte_at (s:ByteArray) (i:Int) (h0:0≤i) (h1:i<s.size) (W:World):(Instr.index 9 (.string s) (.int .i64 i)).run Tryz.prog W=.ok (.int .u8 ((s.data.toList.getD i.toNat 0).toNat:Int)) W:=by
 have hl:i.toNat<s.data.toList.length:=by show _<s.size;omega
 have hb:s.data.toList[i.toNat]'hl=s[i.toNat]'(by omega):=by rw [Array.getElem_toList];rfl
 rw [run_index_string W 9 s .i64 i Tryz.underlying9,dif_pos ⟨h0,h1⟩,List.getD_eq_getElem?_getD,List.getElem?_eq_getElem hl,hb,Option.getD_some]
theorem of_any (s:ByteArray) (w:World) (hs:s.size≤9223372036854775807):Calls Tryz.prog 112 #[.string s] w fun e w'=>e=.returned (.int .i64 (fm s.data.toList))∧w'=w:=by
 obtain ⟨l,hl⟩:∃l,l=s.data.toList:=⟨_,rfl⟩;have hbyte:=byte_at s;have hz:l.length=s.size:=by rw [hl];simp
 have htl:s.toList=l:=by rw [Lib.toList_data,hl]
 rw [←hl];rw [←hl] at hbyte;clear hl;by_cases h0:l.length=0
 ·have hn:l=[]:=List.length_eq_zero_iff.1 h0;subst hn;go_enter Tryz.func112,Tryz.ntmps112
  go_wp2;go_ret;exact ⟨ret_i (by rw [fm_empty];rfl),rfl⟩
 ·have x0:=hbyte 0 (by omega) (by omega)
  have hne:(l==[])=false:=by
   rw [beq_eq_false_iff_ne];rintro rfl;exact h0 rfl
  cases hd:isDg (l.getD 0 0)
  ·have hf:=hid (fm_first hd);rw [←dgI_of] at hd;obtain ⟨x,hx⟩:∃x:Int,x=((l.getD 0 0).toNat:Int):=⟨_,rfl⟩;rw [←hx] at hd;have x0':∀W,(Instr.index 9 (.string s) (.int .i64 0)).run Tryz.prog W=.ok (.int .u8 x) W:=fun W=>by rw [hx];exact x0 W
   clear x0 hx;go_enter Tryz.func112,Tryz.ntmps112
   go_wp2_with (go_at_call 156;refine (digit_any _ _).mono ?_;rintro e w' ⟨rfl,h'⟩;rw [h'])
   go_ret;exact ⟨ret_i (by rw [hf.out];rfl),rfl⟩
  ·have hd0:=hd;rw [←dgI_of] at hd;obtain ⟨x,hx⟩:∃x:Int,x=((l.getD 0 0).toNat:Int):=⟨_,rfl⟩;rw [←hx] at hd;have x0':∀W,(Instr.index 9 (.string s) (.int .i64 0)).run Tryz.prog W=.ok (.int .u8 x) W:=fun W=>by rw [hx];exact x0 W
   have HX:=hid hx;have Hd0:=hid hd0;clear x0 hx hd0;go_enter Tryz.func112,Tryz.ntmps112
   go_wp2_with (go_at_call 156;refine (digit_any _ _).mono ?_;rintro e w' ⟨rfl,h'⟩;rw [h'])
   go_loop [3,4] (fun p i=>∃p' i':Int,p=.int .i64 p'∧i=.int .i64 i'∧0≤i'∧0≤p'∧p'≤1∧i'≤s.size∧Hid (Seen l i'.toNat p'.toNat)) (fun _ i=>((s.size:Int)-intOf i).toNat)
   case atStart=>exact ⟨0,0,rfl,rfl,by omega,by omega,by omega,by omega,hid (Seen.start (by omega))⟩
   case round=>
    obtain ⟨p',i',rfl,rfl,i0,p0,p1,i1,S⟩:=hrel;by_cases hi:i'<s.size
    ·have hil:i'.toNat<l.length:=by omega
     have hb:=hbyte i' i0 hi;have e1:(i'+1).toNat=i'.toNat+1:=by omega
     have e2:(p'+1).toNat=p'.toNat+1:=by omega
     have hlast:i'+1=s.size↔i'.toNat+1=l.length:=by omega
     have hdg:=dgI_of (l.getD i'.toNat 0)
     have h46:((l.getD i'.toNat 0).toNat:Int)=46↔l.getD i'.toNat 0=46:=by
      constructor
      ·intro h;exact UInt8.toNat_inj.1 (by show _=46;omega)
      ·intro h;rw [h];rfl
     have S':=S.out;have bad:evenBody l=false→Hid (fm l=0):=fun h=>hid (fm_body h);have f2:=fun a b=>bad (S'.two hil a b);have f3:=fun a b=>bad (ends_point (l:=l) (i:=i'.toNat) a b);have f4:=fun a b=>bad (bad_letter hil a b);have g1:isDg (l.getD i'.toNat 0)=true→Hid (Seen l (i'+1).toNat p'.toNat):=fun h=>hid (by rw [e1];exact S'.digit hil h);have g2:l.getD i'.toNat 0=46→p'.toNat=0→i'.toNat+1≠l.length→Hid (Seen l (i'+1).toNat (p'+1).toNat):=fun a b c=>hid (by rw [e1,e2];exact S'.point hil a b c);obtain ⟨b,hb'⟩:∃b,b=l.getD i'.toNat 0:=⟨_,rfl⟩;rw [←hb'] at hdg h46 f2 f3 f4 g1 g2;simp only [←hb'] at hb;obtain ⟨z,hz'⟩:∃z:Int,z=(b.toNat:Int):=⟨_,rfl⟩;rw [←hz'] at hdg h46;simp only [←hz'] at hb;clear S' S e1 e2 bad hb' hz' hbyte;by_cases hp:z=46
     ·have hp':=h46.1 hp;have b1:(z==46)=true:=by rw [hp];rfl
      by_cases p2:p'=1
      ·have hG:=f2 hp' (by rw [p2];rfl);clear f2 f3 f4 g1 g2 h46 hdg hlast;subst p2;go_wp2;go_ret;exact ⟨ret_i (by rw [hG.out];rfl),rfl⟩
      ·obtain rfl:p'=0:=by omega
       by_cases hl:i'+1=s.size
       ·have hG:=f3 (hlast.1 hl) hp';have b2:(i'==(s.size:Int)-1)=true:=by simp;omega
        clear f2 f3 f4 g1 g2 h46 hdg hlast;go_wp2;go_ret;exact ⟨ret_i (by rw [hG.out];rfl),rfl⟩
       ·have hS:=g2 hp' rfl (fun k=>hl (hlast.2 k));have b2:(i'==(s.size:Int)-1)=false:=by simp;omega
        clear f2 f3 f4 g1 g2 h46 hdg hlast;go_wp2
        go_round
        case rel=>exact ⟨_,i'+1,rfl,rfl,by omega,by omega,by omega,by omega,hS⟩
        case measure=>simp [intOf];omega
     ·have b1:(z==46)=false:=by simpa using hp
      cases hD:isDg b
      ·have hG:=f4 hD (fun k=>hp (h46.2 k));rw [hD] at hdg;clear f2 f3 f4 g1 g2 h46 hlast;go_wp2_with (go_at_call 156;refine (digit_any _ _).mono ?_;rintro e w' ⟨rfl,h'⟩;rw [h'])
       go_ret;exact ⟨ret_i (by rw [hG.out];rfl),rfl⟩
      ·have hS:=g1 hD;rw [hD] at hdg;clear f2 f3 f4 g1 g2 h46 hlast;go_wp2_with (go_at_call 156;refine (digit_any _ _).mono ?_;rintro e w' ⟨rfl,h'⟩;rw [h'])
       go_round
       case rel=>exact ⟨p',i'+1,rfl,rfl,by omega,by omega,by omega,by omega,hS⟩
       case measure=>simp [intOf];omega
    ·obtain rfl:i'=s.size:=by omega
     have hS:Seen l l.length p'.toNat:=by
      have:=S.out
      rwa [show ((s.size:Int)).toNat=l.length by omega] at this
     obtain ⟨he,hc⟩:=hS.done;have yes:oddHead l=false→Hid (fm l=1+p'.toNat):=fun h=>hid (by rw [fm_is Hd0.out he h,hc]);have no:oddHead l=true→Hid (fm l=0):=fun h=>hid (fm_head h)
     have c48:(l.getD 0 0==48)=decide (x=48):=by
      rw [Bool.eq_iff_iff,beq_iff_eq,decide_eq_true_eq,HX.out];constructor
      ·intro h;rw [h];rfl
      ·intro h;exact UInt8.toNat_inj.1 (by show _=48;omega)
     have hp':(1:Int)+p'=((1+p'.toNat:Nat):Int):=by omega
     by_cases hx:x=48
     ·by_cases hl1:(1:Int)<s.size
      ·have hy:=hbyte 1 (by omega) hl1
       have c46:(l.getD 1 0==46)=decide (((l.getD 1 0).toNat:Int)=46):=by
        rw [Bool.eq_iff_iff,beq_iff_eq,decide_eq_true_eq];constructor
        ·intro h;rw [h];rfl
        ·intro h;exact UInt8.toNat_inj.1 (by show _=46;omega)
       obtain ⟨y,hy'⟩:∃y:Int,y=((l.getD 1 0).toNat:Int):=⟨_,rfl⟩;rw [←hy'] at c46;have hy2:∀W,(Instr.index 9 (.string s) (.int .i64 1)).run Tryz.prog W=.ok (.int .u8 y) W:=fun W=>by rw [hy'];exact hy W
       have b1:(x==48)=true:=by simpa using hx
       have hll:decide (1<l.length)=true:=decide_eq_true (by omega);clear hy hy' hbyte S hS;by_cases h46:y=46
       ·have hG:=yes (by unfold oddHead;rw [c48,hll,c46,decide_eq_true h46];simp);have b2:(y != 46)=false:=by simpa using h46
        clear yes no c48 c46 HX Hd0 hd he hc;go_wp2;go_ret;exact ⟨ret_i (by rw [hG.out];omega),rfl⟩
       ·have hG:=no (by unfold oddHead;rw [c48,hll,c46,decide_eq_false h46,decide_eq_true hx];rfl);have b2:(y != 46)=true:=by simpa using h46
        clear yes no c48 c46 HX Hd0 hd he hc;go_wp2;go_ret;exact ⟨ret_i (by rw [hG.out];rfl),rfl⟩
      ·have hG:=yes (by unfold oddHead;rw [decide_eq_false (show ¬ 1<l.length by omega)];simp);have b1:(x==48)=true:=by simpa using hx
       clear yes no c48 HX Hd0 hd he hc hbyte S hS;go_wp2;go_ret;exact ⟨ret_i (by rw [hG.out];omega),rfl⟩
     ·have hG:=yes (by unfold oddHead;rw [c48,decide_eq_false hx];rfl);have b1:(x==48)=false:=by simpa using hx
      clear yes no c48 HX Hd0 hd he hc hbyte S hS;go_wp2;go_ret;exact ⟨ret_i (by rw [hG.out];omega),rfl⟩
end R4
end Go.Proofs.YtofbobdhkbmbgaaGreatDoor
