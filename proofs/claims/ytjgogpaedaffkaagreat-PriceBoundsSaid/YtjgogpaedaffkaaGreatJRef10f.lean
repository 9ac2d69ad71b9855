/- The document's answers for layer 10 (poundageref10): Make, of a plan with which nothing is wrong. -/
import Derived.Test.YtjgogpaedaffkaaGreatJHeld2
set_option maxRecDepth 100000
set_option maxHeartbeats 16000000
namespace Go.Proofs.YtjgogpaedaffkaaGreat
namespace P
end P
namespace Mm
end Mm
namespace Md
end Md
namespace R6
end R6
namespace Te
end Te
namespace Co
end Co
namespace R10
open Go.RowKit Go.Sort P Mm Md R6 Te Co
theorem info_meterQ:(Tryz.prog.info? 39).map (fun i=>(i.zero,i.size,i.bytes))=some (some (.agg (meterC ⟨⟨#[]⟩,⟨#[]⟩,0,0,0⟩).toArray),5,56):=by kernel_rfl
theorem ones_meter2 {x:Meter} {l:List Value} (h:∀u∈l,u.oneCell'=true):∀u∈[.string x.name,.string x.unit,.int .i64 x.max,.int .i64 0,.int .i64 0]++l,u.oneCell'=true:=fun u hu=>by
 rcases List.mem_append.1 hu with h1|h1
 ·simp only [List.mem_cons,List.not_mem_nil,or_false] at h1;rcases h1 with rfl|rfl|rfl|rfl|rfl<;>rfl
 ·exact h u h1
theorem meter_ln (m:Meter):(meterC m).length=5:=rfl
theorem make_any (p:Plan) (ma:Option Addr) (mc:Nat) (fa:Option Addr) (fc:Nat) (ca:Option Addr) (cc:Nat) (w:World) (hp:PlanLies w [p.name,p.cur,p.a.y,p.a.m,p.a.d,p.b.y,p.b.m,p.b.d,.slice ma p.meters.length mc,.slice fa p.fees.length fc,.slice ca p.charges.length cc,p.line,p.col] p ma mc fa fc ca cc) (gd:Gd p) (hn:(wrongOf p).1=0) :
  Calls Tryz.prog 20 #[.agg #[p.name,p.cur,p.a.y,p.a.m,p.a.d,p.b.y,p.b.m,p.b.d,.slice ma p.meters.length mc,.slice fa p.fees.length fc,.slice ca p.charges.length cc,p.line,p.col]] w fun e w'=>∃ma' mc' sa sc pa pc,e=.returned (.agg (corC (coreOf p) ma' mc' sa sc pa pc).toArray)∧(∀W',Far w.heap.size w' W'→CorLies W' (corC (coreOf p) ma' mc' sa sc pa pc) (coreOf p) ma' mc' sa sc pa pc)∧Below w.heap.size w w':=by
 obtain ⟨w0,hw0⟩:∃W,W=w.alloc (.cells #[p.name,p.cur,p.a.y,p.a.m,p.a.d,p.b.y,p.b.m,p.b.d,.slice ma p.meters.length mc,.slice fa p.fees.length fc,.slice ca p.charges.length cc,p.line,p.col] 45):=⟨_,rfl⟩;obtain ⟨w1,hw1⟩:∃W,W=w0.alloc (.cells ([.string ⟨#[]⟩,.int .i64 0,.int .i64 0,.slice none 0 0,.slice none 0 0,.slice none 0 0]:List Value).toArray 26):=⟨_,rfl⟩;obtain ⟨w2,hw2⟩:∃W,W=w1.alloc (.cells #[p.cur,.int .i64 0,.int .i64 0,.slice none 0 0,.slice none 0 0,.slice none 0 0] 26):=⟨_,rfl⟩;obtain ⟨k1,hk1⟩:∃k,k=w.heap.size:=⟨_,rfl⟩;obtain ⟨k2,hk2⟩:∃k,k=w.heap.size+1:=⟨_,rfl⟩;obtain ⟨k3,hk3⟩:∃k,k=w1.heap.size:=⟨_,rfl⟩;have s0:w0.heap.size=k2:=by rw [hw0,hk2];simp
 have s1:w1.heap.size=k2+1:=by rw [hw1,←s0];simp
 have b0:Below w.heap.size w w0:=by rw [hw0];exact bel_alloc _ _
 have b1:Below w0.heap.size w0 w1:=by rw [hw1];exact bel_alloc _ _
 have b2:Below w1.heap.size w1 w2:=by rw [hw2];exact bel_alloc _ _
 have X1:Box w1 k1 [p.name,p.cur,p.a.y,p.a.m,p.a.d,p.b.y,p.b.m,p.b.d,.slice ma p.meters.length mc,.slice fa p.fees.length fc,.slice ca p.charges.length cc,p.line,p.col]:=by
  have:=Box.new w [p.name,p.cur,p.a.y,p.a.m,p.a.d,p.b.y,p.b.m,p.b.d,.slice ma p.meters.length mc,.slice fa p.fees.length fc,.slice ca p.charges.length cc,p.line,p.col] 45;rw [←hw0,←hk1] at this;exact this.on b1
 have X2:Box w1 k2 [.string ⟨#[]⟩,.int .i64 0,.int .i64 0,.slice none 0 0,.slice none 0 0,.slice none 0 0]:=by
  have:=Box.new w0 [.string ⟨#[]⟩,.int .i64 0,.int .i64 0,.slice none 0 0,.slice none 0 0,.slice none 0 0] 26;rw [←hw1,s0] at this;exact this
 have X3:=hid (show Box w2 k3 [p.cur,.int .i64 0,.int .i64 0,.slice none 0 0,.slice none 0 0,.slice none 0 0] by rw [hw2,hk3];exact Box.new _ _ _);have B01:Below w.heap.size w w1:=bel_on b0 b1;have X:=hid (fun (W:World) (b:Below w1.heap.size w1 W)=>(⟨X1.on b,X2.on b,bel_on B01 b⟩:Box W k1 [p.name,p.cur,p.a.y,p.a.m,p.a.d,p.b.y,p.b.m,p.b.d,.slice ma p.meters.length mc,.slice fa p.fees.length fc,.slice ca p.charges.length cc,p.line,p.col]∧Box W k2 [.string ⟨#[]⟩,.int .i64 0,.int .i64 0,.slice none 0 0,.slice none 0 0,.slice none 0 0]∧Below w.heap.size w W));have HP:=hid (fun (W:World) (b:Below w1.heap.size w1 W)=>hp.on (bel_on B01 b));have HKS:=hid (show w.heap.size≤k1∧k1≠k2∧k2<w1.heap.size∧k1<w1.heap.size∧k3=w1.heap.size∧w.heap.size≤k2 from ⟨by omega,by omega,by omega,by omega,hk3,by omega⟩);have GD:=hid gd;have WN:=hid hn;have HW1:=hid (show w1=(w.alloc (.cells #[p.name,p.cur,p.a.y,p.a.m,p.a.d,p.b.y,p.b.m,p.b.d,.slice ma p.meters.length mc,.slice fa p.fees.length fc,.slice ca p.charges.length cc,p.line,p.col] 45)).alloc (.cells #[.string ⟨#[]⟩,.int .i64 0,.int .i64 0,.slice none 0 0,.slice none 0 0,.slice none 0 0] 26) by rw [hw1,hw0]);have HW2:=hid hw2;have HK1:=hid hk1;have HK2:=hid hk2;have HK3:=hid hk3;have B2:=hid b2;obtain ⟨A,hA⟩:∃A,A=dn p.a:=⟨_,rfl⟩;obtain ⟨B,hB⟩:∃A,A=dn p.b:=⟨_,rfl⟩;have HA:=hid hA;have HB:=hid hB;have fm:=meters_few hn;have ff:=fees_few hn;have fc':=charges_few hn;have cD:=hid (show Calls Tryz.prog 50 #[.agg #[p.name,p.cur,p.a.y,p.a.m,p.a.d,p.b.y,p.b.m,p.b.d,.slice ma p.meters.length mc,.slice fa p.fees.length fc,.slice ca p.charges.length cc,p.line,p.col],.agg #[.bool false,.int .i64 0,.int .i64 0,.int .i64 0,.int .i64 0,.int .i64 0,.int .i64 0]] w2 fun e w'=>e=.returned (.tuple #[.int .i64 A,.int .i64 B])∧Below w2.heap.size w2 w' by rw [hA,hB];exact days_any p ⟨false,⟨0,0,0⟩,⟨0,0,0⟩⟩ ma mc fa fc ca cc w2 gd.days (Or.inr rfl));have FT:=hid (fits_of hp);have m1:=X1.cell 1 _ rfl;have lk1:=X1.lt;clear hw0 hw1 hw2 hk1 hk2 hk3 s0 s1 b0 b1 b2 X1 X2 B01 hp gd hn hA hB;go_enter Tryz.func20,Tryz.ntmps20
 go_upto_region 1 with fail
 rw [←HW1.out,←HK2.out,←HK1.out];clear HW1 HK1 HK2;go_upto_region 2 with (first|(with_reducible refine wpList_store_new (op:=Oper.mk none (Op.store 26 (Operand.tmp 3) (Operand.tmp 19)) _ _ _ _) ?_ 26 (.tmp 3) (.tmp 19) ?_ w1 #[.string ⟨#[]⟩,.int .i64 0,.int .i64 0,.slice none 0 0,.slice none 0 0,.slice none 0 0] #[p.cur,.int .i64 0,.int .i64 0,.slice none 0 0,.slice none 0 0,.slice none 0 0] ?_ ?_ ?_ ?_ ?_ ?_;rfl;rfl;go_simp;go_simp;kernel_rfl;rfl;(simp [Value.oneCell']))|fail)
 rw [←HW2.out,←HK3.out];clear HW2 HK3 m1 lk1;have RP:=hid (range_of (X.out w2 B2.out).1.cell);go_wp2_with (first|(with_reducible refine wpList_load_mid (op:=Oper.mk (some 21) (Op.load 45 (Operand.tmp 1)) _ _ _ _) ?_ 45 (.tmp 1) ?_ k1 0 ?_ [p.name,p.cur,p.a.y,p.a.m,p.a.d,p.b.y,p.b.m,p.b.d,.slice ma p.meters.length mc,.slice fa p.fees.length fc,.slice ca p.charges.length cc,p.line,p.col] _ RP.out Tryz.underlying45 ?_ ?_ ?_;rfl;rfl;go_simp;rfl;kernel_rfl)|fail)
 refine cD.out.mono ?_;rintro e wd ⟨rfl,bd⟩;have Bd:=hid (bel_on B2.out bd);have Y3:=X3.out.on bd;obtain ⟨w3,hw3⟩:∃W,W=(wd.setCell ⟨k3,1,none⟩ (.int .i64 A)).setCell ⟨k3,2,none⟩ (.int .i64 B):=⟨_,rfl⟩
 have M3:Mk w1 w3 k3 (k3+1) p.cur A B [] [] [] none 0 none 0 none 0:=by
  refine Mk.first (by have:=HKS.out;omega) (by omega) ?_ ?_ ?_
  ·rw [hw3];have:=Y3.lt;simp;omega
  ·rw [hw3];exact (Y3.set 1 (.int .i64 A)).set 2 (.int .i64 B)
  ·rw [hw3];exact (Bd.out.setCell (p:=⟨k3,1,none⟩) (by have:=HKS.out;show w1.heap.size≤k3;omega) _).setCell (p:=⟨k3,2,none⟩) (by have:=HKS.out;show w1.heap.size≤k3;omega) _
 have M3:=hid M3;have HW3:=hid hw3;have c1:=Y3.cell 1 _ rfl;have c2:=Y3.cell 2 _ rfl;have f1:=Y3.free 1;have f2:=Y3.free 2;have lk3:=Y3.lt;clear cD RP X3 bd Y3 hw3 B2;go_upto_region 3 with fail
 rw [←HW3.out];clear HW3 c1 c2 f1 f2 lk3 Bd;have m8:=(X.out w3 M3.out.bel).1.cell 8 _ rfl;have lk1:=(X.out w3 M3.out.bel).1.lt;go_wp2;clear m8 lk1

 go_loopw [31] (fun i W=>∃(i':Nat) (T:List Meter) (ma2:Option Addr) (mc2:Nat),i=.int .i64 (i':Int)∧i'≤p.meters.length∧Hid (T=srt (p.meters.take i'))∧Hid (Mk w1 W k3 (k3+1) p.cur A B T [] [] ma2 mc2 none 0 none 0)∧(T=[]→ma2=none∧mc2=0)) (fun i _=>p.meters.length-(intOf i).toNat)
 case atStart=>exact ⟨0,[],none,0,rfl,Nat.zero_le _,hid (by rw [List.take_zero];rfl),M3,fun _=>⟨rfl,rfl⟩⟩
 case round=>
  obtain ⟨i',T,ma2,mc2,rfl,hi,hT,hM,hE⟩:=hrel;clear M3;by_cases hlt:i'<p.meters.length
  ·obtain ⟨x,tx⟩:∃x,p.meters[i']?=some x:=⟨_,List.getElem?_eq_getElem hlt⟩;have TX:=hid tx;have tl:T.length≤4:=by rw [hT.out,srt_len,List.length_take];omega
   obtain ⟨bx,ox,e,lbx,x0,x1,x2,x3,x4,_⟩:=meter_at (HP.out wr hM.out.bel).meters tx;subst e;obtain ⟨wt,hwt⟩:∃W,W=wr.alloc (.cells #[x.name,x.unit,x.max,x.line,x.col] 39):=⟨_,rfl⟩;obtain ⟨kx,hkx⟩:∃k,k=wr.heap.size:=⟨_,rfl⟩;have bt:Below wr.heap.size wr wt:=by rw [hwt];exact bel_alloc _ _
   have XT:=hid (show Box wt kx [x.name,x.unit,x.max,x.line,x.col] by rw [hwt,hkx];exact Box.new _ _ _);have HWT:=hid hwt;have HKX:=hid hkx;have hMt:=hid (hM.out.on bt);obtain ⟨k,hk⟩:∃k,k=insAt x.name T:=⟨_,rfl⟩;have kl:k≤T.length:=by rw [hk];exact insAt_le _ _
   have KA:=hid (show ∀j y,j<k→T[j]?=some y→klt y.name x.name=true from fun j y hj hy=>insAt_lt (by rw [←hk];exact hj) hy);have KB:=hid (show ∀y,T[k]?=some y→klt y.name x.name=false from fun y hy=>insAt_end (by rw [←hk];exact hy));have HKI:=hid hk;have HTN:=hid (show insM (nM x) T=srt (p.meters.take (i'+1)) by rw [srt_step _ tx,hT.out]);clear hM hwt hkx bt tx hk hT;go_upto_block 2 with fail
   rw [←HWT.out,←HKX.out];clear HWT HKX x0 x1 x2 x3 x4 lbx;have CELLS:=hid (fun (W:World) (b:Below wt.heap.size wt W)=>(⟨(hMt.out.on b).box.cell 3 _ rfl,(XT.out.on b).cell 0 _ rfl,(hMt.out.on b).box.lt,(XT.out.on b).lt⟩:W.cell? ⟨k3,3,none⟩=some (.slice ma2 T.length mc2)∧W.cell? ⟨kx,0,none⟩=some (.string x.name)∧k3<W.heap.size∧kx<W.heap.size));have B0:=hid (Below.refl wt.heap.size wt);go_cut [6] (fun a W=>a=.int .i64 (k:Int)∧Hid (Below wt.heap.size wt W))
   case first=>
    go_wp2_with fail
    go_loopw [6] (fun a wr=>∃j:Nat,a=.int .i64 (j:Int)∧j≤k∧Hid (Below wt.heap.size wt wr)) (fun a _=>k-(intOf a).toNat)
    case atStart=>exact ⟨0,rfl,Nat.zero_le _,B0⟩
    case round=>
     clear B0;obtain ⟨j,rfl,hj,hb⟩:=hrel;obtain ⟨q3,q0,lk3,lkx⟩:=CELLS.out wr hb.out;have r3:=cell_regrown q3;have r0:=cell_regrown q0;have B2:=fun d os=>hid (bel_on hb.out (below_regrown wr d os));by_cases hjk:j<k
     ·obtain ⟨y,ty⟩:∃y,T[j]?=some y:=⟨_,List.getElem?_eq_getElem (by omega)⟩;have gq:=KA.out j y hjk ty;rw [←klt_eq] at gq;have own:=(hMt.out.on hb.out).owns.own .m _ rfl;obtain ⟨g,cg,eg,_,lg⟩:=World.ownsRow.form own (show 0<T.length by omega)
      have ry:=cell_regrown (show wr.cell? ⟨g,j*5,none⟩=some (.string y.name) by
       have e2:Value.slice ma2 T.length mc2=.slice (some ⟨g,0,none⟩) T.length cg:=eg;have own2:wr.ownsRow (k3+1) 39 5 (.slice ma2 T.length mc2) T.length (T.flatMap meterC):=own;rw [e2] at own2;rw [own2.cellAt (j*5) (by omega)]
       exact flat_get (cells:=meterC) meter_ln T j y 0 _ ty rfl)
      have eg2:Value.slice ma2 T.length mc2=.slice (some ⟨g,0,none⟩) T.length cg:=eg;rw [eg2] at r3;have z1:j<T.length:=by omega
      have z2:decide (j<T.length)=true:=decide_eq_true z1;have z3:(j:Int)<(T.length:Int):=by omega
      have z4:decide ((j:Int)<(T.length:Int))=true:=decide_eq_true z3;clear own eg eg2 ty q3 q0;go_wp2;refine wp_region_quiet_below (by kernel_rfl) (by kernel_rfl) ?_;repeat (go_big_quiet_step (fail))
      refine wpQuiet_nil ?_;intro _ hw';obtain ⟨⟨dq,osq⟩,hw''⟩:=hw';subst hw'';have B3:=B2 dq osq;clear B2 r3 r0 ry;go_wp2;go_roundw
      case rel=>exact ⟨j+1,by simp,by omega,B3⟩
      case measure=>simp [intOf];omega
     ·obtain rfl:j=k:=by omega
      by_cases hkT:j<T.length
      ·obtain ⟨y,ty⟩:∃y,T[j]?=some y:=⟨_,List.getElem?_eq_getElem hkT⟩;have gq:=KB.out y ty;rw [←klt_eq] at gq;have own:=(hMt.out.on hb.out).owns.own .m _ rfl;obtain ⟨g,cg,eg,_,lg⟩:=World.ownsRow.form own (show 0<T.length by omega)
       have ry:=cell_regrown (show wr.cell? ⟨g,j*5,none⟩=some (.string y.name) by
        have e2:Value.slice ma2 T.length mc2=.slice (some ⟨g,0,none⟩) T.length cg:=eg;have own2:wr.ownsRow (k3+1) 39 5 (.slice ma2 T.length mc2) T.length (T.flatMap meterC):=own;rw [e2] at own2;rw [own2.cellAt (j*5) (by omega)]
        exact flat_get (cells:=meterC) meter_ln T j y 0 _ ty rfl)
       have eg2:Value.slice ma2 T.length mc2=.slice (some ⟨g,0,none⟩) T.length cg:=eg;rw [eg2] at r3;have z2:decide (j<T.length)=true:=decide_eq_true hkT;have z3:(j:Int)<(T.length:Int):=by omega
       have z4:decide ((j:Int)<(T.length:Int))=true:=decide_eq_true z3;clear own eg eg2 ty q3 q0;go_wp2;refine wp_region_quiet_below (by kernel_rfl) (by kernel_rfl) ?_;repeat (go_big_quiet_step (fail))
       refine wpQuiet_nil ?_;intro _ hw';obtain ⟨⟨dq,osq⟩,hw''⟩:=hw';subst hw'';have B3:=B2 dq osq;clear B2 r3 r0 ry;go_wp2;go_meet;exact ⟨rfl,B3⟩
      ·have z2:decide (j<T.length)=false:=decide_eq_false hkT;have z3:¬ (j:Int)<(T.length:Int):=by omega
       have z4:decide ((j:Int)<(T.length:Int))=false:=decide_eq_false z3;clear q3 q0;go_wp2;refine wp_region_quiet_below (by kernel_rfl) (by kernel_rfl) ?_;repeat (go_big_quiet_step (fail))
       refine wpQuiet_nil ?_;intro _ hw';obtain ⟨⟨dq,osq⟩,hw''⟩:=hw';subst hw'';have B3:=B2 dq osq;clear B2 r3 r0;go_wp2;go_meet;exact ⟨rfl,B3⟩
   case rest=>
    obtain ⟨rfl,hb⟩:=hcut;obtain ⟨wv,hwv⟩:∃W,W=wc:=⟨_,rfl⟩;rw [←hwv] at hb ⊢;clear hwv B0 CELLS KA KB;obtain ⟨wn,hwn⟩:∃W,W=wv.alloc (.cells #[x.name,x.unit,x.max,.int .i64 0,.int .i64 0] 39):=⟨_,rfl⟩;obtain ⟨kn,hkn⟩:∃k,k=wv.heap.size:=⟨_,rfl⟩;have bn:Below wv.heap.size wv wn:=by rw [hwn];exact bel_alloc _ _
    have XN:=hid (show Box wn kn [x.name,x.unit,x.max,.int .i64 0,.int .i64 0] by rw [hwn,hkn];exact Box.new _ _ _);have Mn:=hid ((hMt.out.on hb.out).on bn);have HWN:=hid hwn;have HKN:=hid hkn;have c0:=(XT.out.on hb.out).cell 0 _ rfl;have c1:=(XT.out.on hb.out).cell 1 _ rfl;have c2:=(XT.out.on hb.out).cell 2 _ rfl;have lkx:=(XT.out.on hb.out).lt;have EL:=hid (show (insM (nM x) T).length=T.length+1 from (insM_perm (nM x) T).length_eq)
    have EF:=hid (show (insM (nM x) T).flatMap meterC=(T.take k).flatMap meterC++([.string x.name,.string x.unit,.int .i64 x.max,.int .i64 0,.int .i64 0]++(T.drop k).flatMap meterC) by
     unfold insM;rw [show insAt (nM x).name T=k from HKI.out.symm,List.flatMap_append,List.flatMap_cons]
     rfl)
    clear hwn hkn bn hMt XT hb;go_upto_region 10 with (first|(with_reducible refine wpList_store_new (op:=Oper.mk none (Op.store 39 (Operand.tmp 7) (Operand.tmp 59)) _ _ _ _) ?_ 39 (.tmp 7) (.tmp 59) ?_ wv #[.string ⟨#[]⟩,.string ⟨#[]⟩,.int .i64 0,.int .i64 0,.int .i64 0] #[x.name,x.unit,x.max,.int .i64 0,.int .i64 0] ?_ ?_ ?_ ?_ ?_ ?_;rfl;rfl;go_simp;go_simp;kernel_rfl;rfl;(simp [Value.oneCell']))|fail)
    rw [←HWN.out,←HKN.out];clear HWN HKN c0 c1 c2 lkx
    have u1:T.length≤mc2:=by
     rcases (Mn.out.owns.own .m _ rfl).2 with ⟨h,h'⟩|⟨_,_,_,h,_,_,h1,_⟩
     ·have h':T.length=0:=h';omega
     ·simp only [R.v,Value.slice.injEq] at h;obtain ⟨_,_,rfl⟩:=h;exact h1
    rcases Nat.eq_zero_or_pos T.length with t0|t0
    ·obtain rfl:T=[]:=List.eq_nil_of_length_eq_zero t0;obtain ⟨rfl,rfl⟩:=hE rfl;obtain rfl:k=0:=by simpa using kl
     have TC:=hid (fun (W:World) (_:Below wn.heap.size wn W) (b:Addr) (e:(none:Option Addr)=some b) (j:Nat) (u:Value) (_:([]:List Value)[j]?=some u)=>(show W.cell? (b.add j)=some u by cases e));try simp only [List.length_nil]
     clear u1 t0 tl kl;have KS:Hid (∀w',Below wn.heap.size wn w'→w'.cell? ⟨k3,3,none⟩=some (.slice none 0 0)∧w'.frozen? ⟨k3,3,none⟩=false∧w'.rangeAt kn 0 [x.name,x.unit,x.max,.int .i64 0,.int .i64 0]∧k3<w'.heap.size∧kn<w'.heap.size):=hid fun W b=>⟨(Mn.out.on b).box.cell 3 _ rfl,(Mn.out.on b).box.free 3,range_of (XN.out.on b).cell,(Mn.out.on b).box.lt,(XN.out.on b).lt⟩;have G0:Below wn.heap.size wn wn.drew:=Below.drew (Below.refl _ _);refine Hu.wp_region_until (S:=(fun w'=>w'.cell? ⟨k3,3,none⟩=some (.slice none 0 0)∧w'.frozen? ⟨k3,3,none⟩=false∧w'.rangeAt kn 0 [x.name,x.unit,x.max,.int .i64 0,.int .i64 0]∧k3<w'.heap.size∧kn<w'.heap.size)) 14 (by kernel_rfl) ?_ (fun hHeld=>?_)
     ·exact KS.out _ G0
     iterate 5
      first|refine Hu.pk (v:=?_) 0 ?_ ?_|refine Hu.pk (v:=?_) 1 ?_ ?_|refine Hu.pk (v:=?_) 2 ?_ ?_|refine Hu.pk (v:=?_) 3 ?_ ?_|refine Hu.pk (v:=?_) 4 ?_ ?_
      rotate_left
      ·intro w hSw
       (try dsimp only at hSw)
       go_simp;all_goals (try with_reducible rfl)
      try simp only [Act.put,List.setIfInBounds_toArray,List.set_cons_zero,List.set_cons_succ]
     refine Hu.wpAnyU_take (i:=5) (oi:=(Oper.mk (some 65) (Op.load 39 (Operand.tmp 7)) _ _ _ _)) (v:=_) rfl (by kernel_rfl) (by kernel_rfl) (by kernel_rfl) (by kernel_rfl) (fun _ _ _ h=>h) (yieldsIf_load_mid (by rfl) _ _ rfl kn 0 rfl [x.name,x.unit,x.max,.int .i64 0,.int .i64 0] _ (fun w hSw=>hSw.2.2.1) Tryz.underlying39 rfl (by kernel_rfl)) (by assumption) ?_;try simp only [Act.put,List.setIfInBounds_toArray,List.set_cons_zero,List.set_cons_succ]
     iterate 4
      first|refine Hu.pk (v:=?_) 7 ?_ ?_|refine Hu.pk (v:=?_) 8 ?_ ?_|refine Hu.pk (v:=?_) 9 ?_ ?_|refine Hu.pk (v:=?_) 10 ?_ ?_
      rotate_left
      ·intro w hSw
       (try dsimp only at hSw)
       go_simp;all_goals (try with_reducible rfl)
      try simp only [Act.put,List.setIfInBounds_toArray,List.set_cons_zero,List.set_cons_succ]
     refine Hu.wpAnyU_ready (rs:=[6]) (by kernel_rfl) (by simp) ?_;refine Hu.AllReadyU.cons (o:=(Oper.mk (some 66) (Op.buildSlice _ _ _) _ _ _ _)) rfl (fun K hK=>?_) Hu.AllReadyU.nil;go_simp;have OWN1:=World.ownsRow_lit (base:=wn.heap.size) (e:=39) (size:=5) wn.drew #[x.name,x.unit,x.max,.int .i64 0,.int .i64 0] 1 (Nat.le_refl _) (by decide) rfl;have G2:Below wn.heap.size wn (wn.drew.alloc (.cells #[x.name,x.unit,x.max,.int .i64 0,.int .i64 0] 39)):=G0.alloc G0.size _;refine hK.out _ _ ?_ (fun hHeld=>?_)
     ·exact KS.out _ G2
     clear hK K;try simp only [Act.put,List.setIfInBounds_toArray,List.set_cons_zero,List.set_cons_succ]
     refine Hu.wpAnyU_ready (rs:=[11]) (by kernel_rfl) (by simp) ?_;refine Hu.AllReadyU.cons (o:=(Oper.mk (some 71) (Op.call _) _ _ _ _)) rfl (fun K hK=>?_) Hu.AllReadyU.nil;refine step_join 71 rfl rfl (.tmp 66) (.tmp 70) 22 39 _ 5 56 rfl Tryz.underlying22 info_meterQ rfl (by decide) _ 1 [x.name,x.unit,x.max,.int .i64 0,.int .i64 0] rfl OWN1 _ _ _ ([]) rfl rfl (fun _=>rfl) (fun _ e=>by cases e) (by simp) (by omega) (by decide) 1 (by omega) G2.size ?_;intro ao2 cap2 wa own2 gr2;have G3:Below wn.heap.size wn wa:=G2.grown gr2 G2.size (fun j hj=>Nat.le_of_eq (Option.some.inj hj));refine hK.out _ _ ?_ (fun hHeld=>?_)
     ·exact KS.out _ G3
     clear hK K;try simp only [Act.put,List.setIfInBounds_toArray,List.set_cons_zero,List.set_cons_succ]
     obtain ⟨g2,cg2,e2,_,lg2⟩:=World.ownsRow.form own2 (by omega);simp only [Value.slice.injEq,true_and] at e2;obtain ⟨rfl,rfl⟩:=e2;refine Hu.wpAnyU_ready (rs:=[12]) (by kernel_rfl) (by simp) ?_;refine Hu.AllReadyU.cons (o:=(Oper.mk (some 72) (Op.call _) _ _ _ _)) rfl (fun K hK=>?_) Hu.AllReadyU.nil;refine step_fresh (base:=k3+1) 72 rfl rfl (.tmp 64) (.tmp 71) 22 39 _ 5 56 rfl Tryz.underlying22 info_meterQ rfl (by decide) _ 0 0 [] rfl rfl (fun _=>⟨rfl,rfl⟩) (fun b e j u hj=>TC.out wa G3 b e j u hj) ⟨g2,0,none⟩ 1 cap2 ([.string x.name,.string x.unit,.int .i64 x.max,.int .i64 0,.int .i64 0]++([])) rfl own2.1 (own2.cells rfl) (ones_meter2 (by simp)) (by omega) (by omega) (by decide) (0+1) (by omega) (by have:=Mn.out.bs;have:=G3.size;omega) ?_;intro c3 wb own3 gr3;have G4:Below wn.heap.size wn wb:=bel_on G3 (grown_bel gr3);refine hK.out _ _ ?_ (fun hHeld=>?_)
     ·exact KS.out _ G4
     clear hK K;try simp only [Act.put,List.setIfInBounds_toArray,List.set_cons_zero,List.set_cons_succ]
     refine Hu.pk (v:=?_) 13 ?_ ?_;rotate_left
     ·intro w hSw
      (try dsimp only at hSw)
      go_simp;all_goals (try with_reducible rfl)
     try simp only [Act.put,List.setIfInBounds_toArray,List.set_cons_zero,List.set_cons_succ]
     have MB:=Mk.ins (ms':=insM (nM x) []) (ma':=some ⟨wa.heap.size,0,none⟩) (mc':=c3) (H:=wa.heap.size) Mn.out (bel_grown G4 _) (by rw [EL.out,EF.out];exact own3) (.inr rfl) G3.size;rw [EL.out] at MB;have MB:=hid MB;clear own2 own3 gr2 gr3 OWN1 G0 G2 G3 G4 KS;refine Hu.wpAnyU_ready (rs:=[14]) (by kernel_rfl) (by simp) ?_;refine Hu.AllReadyU.last (o:=(Oper.mk none (Op.store _ _ _) _ _ _ _)) rfl (by kernel_rfl) (fun K hK=>?_) Hu.AllReadyU.nil;go_simp;refine hK.out _ _ ?_;clear hK K;refine Hu.wpAnyU_done (by kernel_rfl) ?_ _;try dsimp only [Act.put]
     try dsimp only [Act.put]
     clear hHeld;go_wp2;go_roundw
     case rel=>exact ⟨i'+1,insM (nM x) [],some ⟨wa.heap.size,0,none⟩,c3,by simp,by omega,HTN,MB,fun e=>by have:=congrArg List.length e;rw [EL.out] at this;cases this⟩
     case measure=>simp [intOf];omega
    ·have own:=Mn.out.owns.own .m _ rfl;obtain ⟨g,cg,eg,_,lg⟩:=World.ownsRow.form own t0;have eg2:Value.slice ma2 T.length mc2=.slice (some ⟨g,0,none⟩) T.length cg:=eg;simp only [Value.slice.injEq,true_and] at eg2;obtain ⟨rfl,rfl⟩:=eg2;have OT:=hid (show wn.ownsRow (k3+1) 39 5 (.slice (some ⟨g,0,none⟩) T.length mc2) T.length (T.flatMap meterC) from own);have LG:=hid lg
     have TC:=hid (fun (W:World) (b:Below wn.heap.size wn W) (bb:Addr) (e:some (⟨g,0,none⟩:Addr)=some bb) (j:Nat) (u:Value) (h:((T.take k).flatMap meterC)[j]?=some u)=>(show W.cell? (bb.add j)=some u by
      obtain rfl:=Option.some.inj e;have h2:=flat_tk h;have hj:=(List.getElem?_eq_some_iff.1 h2).1;rw [flat_ln] at hj;rw [Mm.add_plain,Nat.zero_add,b.cell LG.out,OT.out.cellAt j hj]
      exact h2))
     have TD:=hid (fun (W:World) (b:Below wn.heap.size wn W) (j:Nat) (u:Value) (h:((T.drop k).flatMap meterC)[j]?=some u)=>(show W.cell? ⟨g,k*5+j,none⟩=some u by
      have h2:=flat_dr kl h;have hj:=(List.getElem?_eq_some_iff.1 h2).1;rw [flat_ln] at hj;rw [b.cell LG.out,OT.out.cellAt _ hj]
      exact h2))
     clear own eg lg hE;rcases Nat.lt_or_ge k T.length with kT|kT
     ·have kc:k≤mc2:=by omega
      have kn1:¬ mc2=k:=by omega
      have kn2:¬ k=mc2:=by omega
      have KS:Hid (∀w',Below wn.heap.size wn w'→w'.cell? ⟨k3,3,none⟩=some (.slice (some ⟨g,0,none⟩) T.length mc2)∧w'.frozen? ⟨k3,3,none⟩=false∧w'.rangeAt kn 0 [x.name,x.unit,x.max,.int .i64 0,.int .i64 0]∧k3<w'.heap.size∧kn<w'.heap.size):=hid fun W b=>⟨(Mn.out.on b).box.cell 3 _ rfl,(Mn.out.on b).box.free 3,range_of (XN.out.on b).cell,(Mn.out.on b).box.lt,(XN.out.on b).lt⟩;have G0:Below wn.heap.size wn wn.drew:=Below.drew (Below.refl _ _);refine Hu.wp_region_until (S:=(fun w'=>w'.cell? ⟨k3,3,none⟩=some (.slice (some ⟨g,0,none⟩) T.length mc2)∧w'.frozen? ⟨k3,3,none⟩=false∧w'.rangeAt kn 0 [x.name,x.unit,x.max,.int .i64 0,.int .i64 0]∧k3<w'.heap.size∧kn<w'.heap.size)) 14 (by kernel_rfl) ?_ (fun hHeld=>?_)
      ·exact KS.out _ G0
      iterate 5
       first|refine Hu.pk (v:=?_) 0 ?_ ?_|refine Hu.pk (v:=?_) 1 ?_ ?_|refine Hu.pk (v:=?_) 2 ?_ ?_|refine Hu.pk (v:=?_) 3 ?_ ?_|refine Hu.pk (v:=?_) 4 ?_ ?_
       rotate_left
       ·intro w hSw
        (try dsimp only at hSw)
        go_simp;all_goals (try with_reducible rfl)
       try simp only [Act.put,List.setIfInBounds_toArray,List.set_cons_zero,List.set_cons_succ]
      refine Hu.wpAnyU_take (i:=5) (oi:=(Oper.mk (some 65) (Op.load 39 (Operand.tmp 7)) _ _ _ _)) (v:=_) rfl (by kernel_rfl) (by kernel_rfl) (by kernel_rfl) (by kernel_rfl) (fun _ _ _ h=>h) (yieldsIf_load_mid (by rfl) _ _ rfl kn 0 rfl [x.name,x.unit,x.max,.int .i64 0,.int .i64 0] _ (fun w hSw=>hSw.2.2.1) Tryz.underlying39 rfl (by kernel_rfl)) (by assumption) ?_;try simp only [Act.put,List.setIfInBounds_toArray,List.set_cons_zero,List.set_cons_succ]
      iterate 4
       first|refine Hu.pk (v:=?_) 7 ?_ ?_|refine Hu.pk (v:=?_) 8 ?_ ?_|refine Hu.pk (v:=?_) 9 ?_ ?_|refine Hu.pk (v:=?_) 10 ?_ ?_
       rotate_left
       ·intro w hSw
        (try dsimp only at hSw)
        go_simp;all_goals (try with_reducible rfl)
       try simp only [Act.put,List.setIfInBounds_toArray,List.set_cons_zero,List.set_cons_succ]
      refine Hu.wpAnyU_ready (rs:=[6]) (by kernel_rfl) (by simp) ?_;refine Hu.AllReadyU.cons (o:=(Oper.mk (some 66) (Op.buildSlice _ _ _) _ _ _ _)) rfl (fun K hK=>?_) Hu.AllReadyU.nil;go_simp;have OWN1:=World.ownsRow_lit (base:=wn.heap.size) (e:=39) (size:=5) wn.drew #[x.name,x.unit,x.max,.int .i64 0,.int .i64 0] 1 (Nat.le_refl _) (by decide) rfl;have G2:Below wn.heap.size wn (wn.drew.alloc (.cells #[x.name,x.unit,x.max,.int .i64 0,.int .i64 0] 39)):=G0.alloc G0.size _;refine hK.out _ _ ?_ (fun hHeld=>?_)
      ·exact KS.out _ G2
      clear hK K;try simp only [Act.put,List.setIfInBounds_toArray,List.set_cons_zero,List.set_cons_succ]
      refine Hu.wpAnyU_ready (rs:=[11]) (by kernel_rfl) (by simp) ?_;refine Hu.AllReadyU.cons (o:=(Oper.mk (some 71) (Op.call _) _ _ _ _)) rfl (fun K hK=>?_) Hu.AllReadyU.nil;refine step_join 71 rfl rfl (.tmp 66) (.tmp 70) 22 39 _ 5 56 rfl Tryz.underlying22 info_meterQ rfl (by decide) _ 1 [x.name,x.unit,x.max,.int .i64 0,.int .i64 0] rfl OWN1 _ _ _ ((T.drop k).flatMap meterC) rfl (by rw [flat_ln,List.length_drop]) (fun e=>by cases e) (fun ad e j u hj=>by obtain rfl:=Option.some.inj e;rw [Mm.add_plain];exact TD.out _ G2 j u hj) (ones_flat _) (by omega) (by decide) (1+(T.length-k)) (by omega) G2.size ?_;intro ao2 cap2 wa own2 gr2;have G3:Below wn.heap.size wn wa:=G2.grown gr2 G2.size (fun j hj=>Nat.le_of_eq (Option.some.inj hj));refine hK.out _ _ ?_ (fun hHeld=>?_)
      ·exact KS.out _ G3
      clear hK K;try simp only [Act.put,List.setIfInBounds_toArray,List.set_cons_zero,List.set_cons_succ]
      obtain ⟨g2,cg2,e2,_,lg2⟩:=World.ownsRow.form own2 (by omega);simp only [Value.slice.injEq,true_and] at e2;obtain ⟨rfl,rfl⟩:=e2;refine Hu.wpAnyU_ready (rs:=[12]) (by kernel_rfl) (by simp) ?_;refine Hu.AllReadyU.cons (o:=(Oper.mk (some 72) (Op.call _) _ _ _ _)) rfl (fun K hK=>?_) Hu.AllReadyU.nil;refine step_fresh (base:=k3+1) 72 rfl rfl (.tmp 64) (.tmp 71) 22 39 _ 5 56 rfl Tryz.underlying22 info_meterQ rfl (by decide) _ k k ((T.take k).flatMap meterC) rfl (by rw [flat_ln,List.length_take,Nat.min_eq_left kl]) (fun e=>by cases e) (fun b e j u hj=>TC.out wa G3 b e j u hj) ⟨g2,0,none⟩ (1+(T.length-k)) cap2 ([.string x.name,.string x.unit,.int .i64 x.max,.int .i64 0,.int .i64 0]++((T.drop k).flatMap meterC)) rfl own2.1 (own2.cells rfl) (ones_meter2 (ones_flat _)) (by omega) (by omega) (by decide) (T.length+1) (by omega) (by have:=Mn.out.bs;have:=G3.size;omega) ?_;intro c3 wb own3 gr3;have G4:Below wn.heap.size wn wb:=bel_on G3 (grown_bel gr3);refine hK.out _ _ ?_ (fun hHeld=>?_)
      ·exact KS.out _ G4
      clear hK K;try simp only [Act.put,List.setIfInBounds_toArray,List.set_cons_zero,List.set_cons_succ]
      refine Hu.pk (v:=?_) 13 ?_ ?_;rotate_left
      ·intro w hSw
       (try dsimp only at hSw)
       go_simp;all_goals (try with_reducible rfl)
      try simp only [Act.put,List.setIfInBounds_toArray,List.set_cons_zero,List.set_cons_succ]
      have MB:=Mk.ins (ms':=insM (nM x) T) (ma':=some ⟨wa.heap.size,0,none⟩) (mc':=c3) (H:=wa.heap.size) Mn.out (bel_grown G4 _) (by rw [EL.out,EF.out];exact own3) (.inr rfl) G3.size;rw [EL.out] at MB;have MB:=hid MB;clear own2 own3 gr2 gr3 OWN1 G0 G2 G3 G4 KS;refine Hu.wpAnyU_ready (rs:=[14]) (by kernel_rfl) (by simp) ?_;refine Hu.AllReadyU.last (o:=(Oper.mk none (Op.store _ _ _) _ _ _ _)) rfl (by kernel_rfl) (fun K hK=>?_) Hu.AllReadyU.nil;go_simp;refine hK.out _ _ ?_;clear hK K;refine Hu.wpAnyU_done (by kernel_rfl) ?_ _;try dsimp only [Act.put]
      try dsimp only [Act.put]
      clear hHeld;go_wp2;go_roundw
      case rel=>exact ⟨i'+1,insM (nM x) T,some ⟨wa.heap.size,0,none⟩,c3,by simp,by omega,HTN,MB,fun e=>by have:=congrArg List.length e;rw [EL.out] at this;cases this⟩
      case measure=>simp [intOf];omega
     ·obtain rfl:k=T.length:=by omega
      have ed:(T.drop T.length).flatMap meterC=[]:=by rw [List.drop_length];rfl
      rw [ed] at EF TD;have ed:=hid ed;have et:=hid (show T.take T.length=T from List.take_length);have KS:Hid (∀w',Below wn.heap.size wn w'→w'.cell? ⟨k3,3,none⟩=some (.slice (some ⟨g,0,none⟩) T.length mc2)∧w'.frozen? ⟨k3,3,none⟩=false∧w'.rangeAt kn 0 [x.name,x.unit,x.max,.int .i64 0,.int .i64 0]∧k3<w'.heap.size∧kn<w'.heap.size):=hid fun W b=>⟨(Mn.out.on b).box.cell 3 _ rfl,(Mn.out.on b).box.free 3,range_of (XN.out.on b).cell,(Mn.out.on b).box.lt,(XN.out.on b).lt⟩;have G0:Below wn.heap.size wn wn.drew:=Below.drew (Below.refl _ _);refine Hu.wp_region_until (S:=(fun w'=>w'.cell? ⟨k3,3,none⟩=some (.slice (some ⟨g,0,none⟩) T.length mc2)∧w'.frozen? ⟨k3,3,none⟩=false∧w'.rangeAt kn 0 [x.name,x.unit,x.max,.int .i64 0,.int .i64 0]∧k3<w'.heap.size∧kn<w'.heap.size)) 14 (by kernel_rfl) ?_ (fun hHeld=>?_)
      ·exact KS.out _ G0
      iterate 5
       first|refine Hu.pk (v:=?_) 0 ?_ ?_|refine Hu.pk (v:=?_) 1 ?_ ?_|refine Hu.pk (v:=?_) 2 ?_ ?_|refine Hu.pk (v:=?_) 3 ?_ ?_|refine Hu.pk (v:=?_) 4 ?_ ?_
       rotate_left
       ·intro w hSw
        (try dsimp only at hSw)
        go_simp;all_goals (try with_reducible rfl)
       try simp only [Act.put,List.setIfInBounds_toArray,List.set_cons_zero,List.set_cons_succ]
      refine Hu.wpAnyU_take (i:=5) (oi:=(Oper.mk (some 65) (Op.load 39 (Operand.tmp 7)) _ _ _ _)) (v:=_) rfl (by kernel_rfl) (by kernel_rfl) (by kernel_rfl) (by kernel_rfl) (fun _ _ _ h=>h) (yieldsIf_load_mid (by rfl) _ _ rfl kn 0 rfl [x.name,x.unit,x.max,.int .i64 0,.int .i64 0] _ (fun w hSw=>hSw.2.2.1) Tryz.underlying39 rfl (by kernel_rfl)) (by assumption) ?_;try simp only [Act.put,List.setIfInBounds_toArray,List.set_cons_zero,List.set_cons_succ]
      iterate 4
       first|refine Hu.pk (v:=?_) 7 ?_ ?_|refine Hu.pk (v:=?_) 8 ?_ ?_|refine Hu.pk (v:=?_) 9 ?_ ?_|refine Hu.pk (v:=?_) 10 ?_ ?_
       rotate_left
       ·intro w hSw
        (try dsimp only at hSw)
        go_simp;all_goals (try with_reducible rfl)
       try simp only [Act.put,List.setIfInBounds_toArray,List.set_cons_zero,List.set_cons_succ]
      refine Hu.wpAnyU_ready (rs:=[6]) (by kernel_rfl) (by simp) ?_;refine Hu.AllReadyU.cons (o:=(Oper.mk (some 66) (Op.buildSlice _ _ _) _ _ _ _)) rfl (fun K hK=>?_) Hu.AllReadyU.nil;go_simp;have OWN1:=World.ownsRow_lit (base:=wn.heap.size) (e:=39) (size:=5) wn.drew #[x.name,x.unit,x.max,.int .i64 0,.int .i64 0] 1 (Nat.le_refl _) (by decide) rfl;have G2:Below wn.heap.size wn (wn.drew.alloc (.cells #[x.name,x.unit,x.max,.int .i64 0,.int .i64 0] 39)):=G0.alloc G0.size _;refine hK.out _ _ ?_ (fun hHeld=>?_)
      ·exact KS.out _ G2
      clear hK K;try simp only [Act.put,List.setIfInBounds_toArray,List.set_cons_zero,List.set_cons_succ]
      refine Hu.wpAnyU_ready (rs:=[11]) (by kernel_rfl) (by simp) ?_;refine Hu.AllReadyU.cons (o:=(Oper.mk (some 71) (Op.call _) _ _ _ _)) rfl (fun K hK=>?_) Hu.AllReadyU.nil;refine step_join 71 rfl rfl (.tmp 66) (.tmp 70) 22 39 _ 5 56 rfl Tryz.underlying22 info_meterQ rfl (by decide) _ 1 [x.name,x.unit,x.max,.int .i64 0,.int .i64 0] rfl OWN1 _ _ _ ([]) rfl (by simp) (fun _=>by simp) (fun _ _ j u hj=>by simp at hj) (by simp) (by omega) (by decide) 1 (by omega) G2.size ?_;intro ao2 cap2 wa own2 gr2;have G3:Below wn.heap.size wn wa:=G2.grown gr2 G2.size (fun j hj=>Nat.le_of_eq (Option.some.inj hj));refine hK.out _ _ ?_ (fun hHeld=>?_)
      ·exact KS.out _ G3
      clear hK K;try simp only [Act.put,List.setIfInBounds_toArray,List.set_cons_zero,List.set_cons_succ]
      obtain ⟨g2,cg2,e2,_,lg2⟩:=World.ownsRow.form own2 (by omega);simp only [Value.slice.injEq,true_and] at e2;obtain ⟨rfl,rfl⟩:=e2;refine Hu.wpAnyU_ready (rs:=[12]) (by kernel_rfl) (by simp) ?_;refine Hu.AllReadyU.cons (o:=(Oper.mk (some 72) (Op.call _) _ _ _ _)) rfl (fun K hK=>?_) Hu.AllReadyU.nil;refine step_fresh (base:=k3+1) 72 rfl rfl (.tmp 64) (.tmp 71) 22 39 _ 5 56 rfl Tryz.underlying22 info_meterQ rfl (by decide) _ T.length T.length ((T.take T.length).flatMap meterC) rfl (by rw [flat_ln,List.length_take,Nat.min_self]) (fun e=>by cases e) (fun b e j u hj=>TC.out wa G3 b e j u hj) ⟨g2,0,none⟩ 1 cap2 ([.string x.name,.string x.unit,.int .i64 x.max,.int .i64 0,.int .i64 0]++([])) rfl own2.1 (own2.cells rfl) (ones_meter2 (by simp)) (by omega) (by omega) (by decide) (T.length+1) (by omega) (by have:=Mn.out.bs;have:=G3.size;omega) ?_;intro c3 wb own3 gr3;have G4:Below wn.heap.size wn wb:=bel_on G3 (grown_bel gr3);refine hK.out _ _ ?_ (fun hHeld=>?_)
      ·exact KS.out _ G4
      clear hK K;try simp only [Act.put,List.setIfInBounds_toArray,List.set_cons_zero,List.set_cons_succ]
      refine Hu.pk (v:=?_) 13 ?_ ?_;rotate_left
      ·intro w hSw
       (try dsimp only at hSw)
       go_simp;all_goals (try with_reducible rfl)
      try simp only [Act.put,List.setIfInBounds_toArray,List.set_cons_zero,List.set_cons_succ]
      have MB:=Mk.ins (ms':=insM (nM x) T) (ma':=some ⟨wa.heap.size,0,none⟩) (mc':=c3) (H:=wa.heap.size) Mn.out (bel_grown G4 _) (by rw [EL.out,EF.out];exact own3) (.inr rfl) G3.size;rw [EL.out] at MB;have MB:=hid MB;clear own2 own3 gr2 gr3 OWN1 G0 G2 G3 G4 KS;refine Hu.wpAnyU_ready (rs:=[14]) (by kernel_rfl) (by simp) ?_;refine Hu.AllReadyU.last (o:=(Oper.mk none (Op.store _ _ _) _ _ _ _)) rfl (by kernel_rfl) (fun K hK=>?_) Hu.AllReadyU.nil;go_simp;refine hK.out _ _ ?_;clear hK K;refine Hu.wpAnyU_done (by kernel_rfl) ?_ _;try dsimp only [Act.put]
      try dsimp only [Act.put]
      clear hHeld;go_wp2;go_roundw
      case rel=>exact ⟨i'+1,insM (nM x) T,some ⟨wa.heap.size,0,none⟩,c3,by simp,by omega,HTN,MB,fun e=>by have:=congrArg List.length e;rw [EL.out] at this;cases this⟩
      case measure=>simp [intOf];omega
  ·obtain rfl:i'=p.meters.length:=by omega
   have HMS:=hid (show T=srt p.meters by rw [hT.out,List.take_length]);obtain ⟨wq,hwq⟩:∃W,W=wr:=⟨_,rfl⟩;rw [←hwq] at hM ⊢;have M4:=hM;have m9:=(X.out wq hM.out.bel).1.cell 9 _ rfl;have lk1:=(X.out wq hM.out.bel).1.lt;clear hwq hM hT hE hlt hi;go_wp2;clear m9 lk1;go_loopw [78] (fun i W=>∃(i':Nat) (SS:List Mm.Sm) (sa:Option Addr) (sc:Nat),i=.int .i64 (i':Int)∧i'≤p.fees.length∧Hid (SS=(p.fees.take i').map (sumOf p))∧Hid (Mk w1 W k3 (k3+1) p.cur A B T SS [] ma2 mc2 sa sc none 0)) (fun i _=>p.fees.length-(intOf i).toNat)
   case atStart=>exact ⟨0,[],none,0,rfl,Nat.zero_le _,hid (by rw [List.take_zero];rfl),M4⟩
   case round=>
    obtain ⟨i',SS,sa,sc,rfl,hi,hS,hM⟩:=hrel;clear M4;by_cases hlt:i'<p.fees.length
    ·obtain ⟨x,tx⟩:∃x,p.fees[i']?=some x:=⟨_,List.getElem?_eq_getElem hlt⟩;have TX:=hid tx;have sl:SS.length≤8:=by rw [hS.out,List.length_map,List.length_take];omega
     obtain ⟨bx,ox,e,lbx,x0,x1,x2,x3,x4,x5,x6,x7,x8,x9,_⟩:=fee_at (HP.out wr hM.out.bel).fees tx;subst e;obtain ⟨wt,hwt⟩:∃W,W=wr.alloc (.cells #[x.amount,x.win.has,x.win.a.y,x.win.a.m,x.win.a.d,x.win.b.y,x.win.b.m,x.win.b.d,x.line,x.col] 84):=⟨_,rfl⟩;obtain ⟨kx,hkx⟩:∃k,k=wr.heap.size:=⟨_,rfl⟩;have bt:Below wr.heap.size wr wt:=by rw [hwt];exact bel_alloc _ _
     have XT:=hid (show Box wt kx [x.amount,x.win.has,x.win.a.y,x.win.a.m,x.win.a.d,x.win.b.y,x.win.b.m,x.win.b.d,x.line,x.col] by rw [hwt,hkx];exact Box.new _ _ _);have HWT:=hid hwt;have HKX:=hid hkx;have hMt:=hid (hM.out.on bt);obtain ⟨DA,hDA⟩:∃A,A=winA p x.win:=⟨_,rfl⟩;obtain ⟨DB,hDB⟩:∃A,A=winB p x.win:=⟨_,rfl⟩;have HSX:=hid (show SS++[(⟨x.amount,DA,DB⟩:Mm.Sm)]=(p.fees.take (i'+1)).map (sumOf p) by rw [List.take_add_one,tx,List.map_append,←hS.out,hDA,hDB];rfl);have cD:=hid (fun W=>days_any p x.win ma mc (some ⟨bx,ox,none⟩) fc ca cc W GD.out.days (GD.out.fees x (List.mem_of_getElem? tx)).2);rw [←hDA,←hDB] at cD;clear hM hwt hkx bt tx hS hDA hDB;go_upto_region 15 with fail
     rw [←HWT.out,←HKX.out];clear HWT HKX x0 x1 x2 x3 x4 x5 x6 x7 x8 x9 lbx;have RP:=hid (range_of (X.out wt hMt.out.bel).1.cell);have c1:=XT.out.cell 1 _ rfl;have c2:=XT.out.cell 2 _ rfl;have c3:=XT.out.cell 3 _ rfl;have c4:=XT.out.cell 4 _ rfl;have c5:=XT.out.cell 5 _ rfl;have c6:=XT.out.cell 6 _ rfl;have c7:=XT.out.cell 7 _ rfl;go_wp2_with (first|(with_reducible refine wpList_load_mid (op:=Oper.mk (some 83) (Op.load 45 (Operand.tmp 1)) _ _ _ _) ?_ 45 (.tmp 1) ?_ k1 0 ?_ [p.name,p.cur,p.a.y,p.a.m,p.a.d,p.b.y,p.b.m,p.b.d,.slice ma p.meters.length mc,.slice (some ⟨bx,ox,none⟩) p.fees.length fc,.slice ca p.charges.length cc,p.line,p.col] _ RP.out Tryz.underlying45 ?_ ?_ ?_;rfl;rfl;go_simp;rfl;kernel_rfl)|fail)
     refine (cD.out wt).mono ?_;rintro e wd ⟨rfl,bd⟩;have Md4:=hid (hMt.out.on bd);have XD:=XT.out.on bd;obtain ⟨ti,jS,zS,sS,bS⟩:=info_parts info_sm;have b4:=Md4.out.box.cell 4 _ rfl;have l4:=Md4.out.box.lt;have c0:=XD.cell 0 _ rfl;have lx:=XD.lt;clear cD RP c1 c2 c3 c4 c5 c6 c7 XT hMt bd XD;go_wp2_with (first|(at_builtin;refine wpList_append_own_at _ rfl _ _ 23 rfl (k3+1) 52 ti (.agg #[.int .i64 0,.int .i64 0,.int .i64 0]) 3 24 Tryz.underlying23 jS zS sS bS rfl (by decide) _ _ _ rfl ((show wd.ownsRow (k3+1) 52 3 (.slice sa SS.length sc) SS.length (SS.flatMap smC) from Md4.out.owns.own .f _ rfl).alloc _) ⟨wd.heap.size,0,none⟩ 1 1 [x.amount,.int .i64 DA,.int .i64 DB] rfl rfl (news_new wd [x.amount,.int .i64 DA,.int .i64 DB] _) (by simp [Value.oneCell']) (by unfold maxLen;omega) (by omega) (by have:=Md4.out.bs;simp;omega) ?_;intro v' we hown hgrow _ hat;have HO:=hid hown;have HG:=hid (grown_alloc hgrow);have HA2:=hid hat;obtain ⟨sa2,sc2,ev⟩:=own_slice hown;have BX:=Md4.out.box.grown HG.out (Md4.out.ne (σ:=.f) rfl (Nat.le_refl _));have b5:=BX.cell 4 _ rfl;have f5:=BX.free 4;have l5:=BX.lt;clear hown hgrow hat BX;subst ev)|fail)
     have MS2:=hid (Mk.sum (x:=⟨x.amount,DA,DB⟩) (H:=(wd.alloc (.cells #[x.amount,.int .i64 DA,.int .i64 DB] 52)).heap.size) Md4.out HG.out HO.out HA2.out (bel_alloc _ _).size);go_roundw
     case rel=>exact ⟨i'+1,SS++[⟨x.amount,DA,DB⟩],sa2,sc2,by simp,by omega,HSX,MS2⟩
     case measure=>simp [intOf];omega

    ·obtain rfl:i'=p.fees.length:=by omega
     have HSS:=hid (show SS=p.fees.map (sumOf p) by rw [hS.out,List.take_length]);obtain ⟨wq,hwq⟩:∃W,W=wr:=⟨_,rfl⟩;rw [←hwq] at hM ⊢;have M5:=hM;have m10:=(X.out wq hM.out.bel).1.cell 10 _ rfl;have lk1:=(X.out wq hM.out.bel).1.lt;clear hwq hM hS hlt hi;go_wp2;clear m10 lk1;go_loopw [103] (fun i W=>∃(i':Nat) (PS:List (Prt×Hd)) (pa:Option Addr) (pc:Nat),i=.int .i64 (i':Int)∧i'≤p.charges.length∧Hid (PS.map Prod.fst=(p.charges.take i').map (partOf p))∧Hid (Mk w1 W k3 (k3+1) p.cur A B T SS PS ma2 mc2 sa sc pa pc)∧Hid (∀z∈PS,Kp W k3 (.slice pa PS.length pc) z)) (fun i _=>p.charges.length-(intOf i).toNat)
     case atStart=>exact ⟨0,[],none,0,rfl,Nat.zero_le _,hid (by rw [List.take_zero];rfl),M5,hid (fun z hz=>by cases hz)⟩
     case round=>
      obtain ⟨i',PS,pa,pc,rfl,hi,hPS,hM,hKP⟩:=hrel;clear M5;by_cases hlt:i'<p.charges.length
      ·obtain ⟨x,tx⟩:∃x,p.charges[i']?=some x:=⟨_,List.getElem?_eq_getElem hlt⟩;have TX:=hid tx;have xm:=List.mem_of_getElem? tx;have pl:PS.length≤8:=by have:=congrArg List.length hPS.out;rw [List.length_map,List.length_map,List.length_take] at this;omega
       obtain ⟨bx,ox,ta,tc,aa,ac,e,hat0,hcl⟩:=charge_at (HP.out wr hM.out.bel).charges tx;subst e;have gx:=GD.out.charges x xm;have ci:=charge_in WN.out xm;obtain ⟨tr,rr,et,_,_⟩:=gx.tiers;have tpos:0<x.tiers.length:=by rw [et,List.length_append];simp
       obtain ⟨bt',ot',eta,_⟩:=hcl.tiers.lie (by intro q;rw [q] at tpos;cases tpos);obtain ⟨tad,htad⟩:∃a:Addr,a=⟨bt',ot',none⟩:=⟨_,rfl⟩;rw [←htad] at eta;subst eta;clear htad;obtain ⟨K,hK⟩:=ix_srt ci.ix;rw [←HMS.out] at hK;have kl:=ix_lt hK;have HIX:=hid hK;obtain ⟨wt,hwt⟩:∃W,W=wr.alloc (.cells #[x.meter,x.win.has,x.win.a.y,x.win.a.m,x.win.a.d,x.win.b.y,x.win.b.m,x.win.b.d,x.allowance,x.block,x.kind,.slice (some tad) x.tiers.length tc,x.mode,.slice aa x.adjusts.length ac,x.line,x.col] 87):=⟨_,rfl⟩;obtain ⟨kx,hkx⟩:∃k,k=wr.heap.size:=⟨_,rfl⟩;have bt:Below wr.heap.size wr wt:=by rw [hwt];exact bel_alloc _ _
       have XT:=hid (show Box wt kx [x.meter,x.win.has,x.win.a.y,x.win.a.m,x.win.a.d,x.win.b.y,x.win.b.m,x.win.b.d,x.allowance,x.block,x.kind,.slice (some tad) x.tiers.length tc,x.mode,.slice aa x.adjusts.length ac,x.line,x.col] by rw [hwt,hkx];exact Box.new _ _ _);have RX:=hid (R9.range_ch hat0);unfold chargeC at RX;have HWT:=hid hwt;have HKX:=hid hkx;have hMt:=hid (hM.out.on bt);have NKX:=hid (show some kx≠(Value.slice pa PS.length pc).ownBlock from fun e=>by have:=((hM.out.owns.own .c _ rfl).lt kx e.symm).2;omega);have KPt:=hid (fun z hz=>(hKP.out z hz).on bt);have RT:=hid (row_flat (hcl.tiers.on bt));have RA:=hid (row_flat (hcl.adjusts.on bt));obtain ⟨DA,hDA⟩:∃A,A=winA p x.win:=⟨_,rfl⟩;obtain ⟨DB,hDB⟩:∃A,A=winB p x.win:=⟨_,rfl⟩
       have HPX:=hid (show PS.map Prod.fst++[(⟨K,DA,DB,x.allowance,x.block,x.kind,x.tiers,x.mode,x.adjusts⟩:Prt)]=(p.charges.take (i'+1)).map (partOf p) by
        rw [List.take_add_one,tx,List.map_append,←hPS.out,hDA,hDB];show _=_++[partOf p x]
        unfold partOf;rw [←HMS.out,hK]
        rfl)
       have cD:=hid (fun W=>days_any p x.win ma mc fa fc (some ⟨bx,ox,none⟩) cc W GD.out.days gx.win);rw [←hDA,←hDB] at cD;have wi:=win_in GD.out.days gx.win;rw [←hDA,←hDB] at wi;have tl8:x.tiers.length≤8:=ci.few;have al6:x.adjusts.length≤6:=ci.adjs;have tl4:T.length≤4:=by rw [HMS.out,srt_len];exact fm
       have NUM:=hid (show I64 (K:Int)∧I64 DA∧I64 DB∧I64 x.allowance∧I64 x.block∧I64 x.kind∧I64 x.mode from ⟨by unfold I64;omega,wi.1,wi.2,hcl.nums.1,hcl.nums.2.1,hcl.nums.2.2.1,hcl.nums.2.2.2.1⟩);have TOK:=hid (show ∀t∈x.tiers,I64 t.upto∧I64 t.rate from fun t ht=>(row_mem hcl.tiers ht).elim fun _ h=>h.elim fun _ h=>h);have AOK:=hid (show ∀a∈x.adjusts,I64 a.kind∧I64 a.num∧I64 a.mode from fun t ht=>(row_mem hcl.adjusts ht).elim fun _ h=>h.elim fun _ h=>h);clear hM hKP hwt hkx bt tx hPS hDA hDB hK hat0 hcl gx ci et wi xm;go_upto_region 21 with (first|(with_reducible refine wpList_load_mid (op:=Oper.mk (some 106) (Op.load 87 (Operand.tmp 105)) _ _ _ _) ?_ 87 (.tmp 105) ?_ bx (ox+i'*16) ?_ [x.meter,x.win.has,x.win.a.y,x.win.a.m,x.win.a.d,x.win.b.y,x.win.b.m,x.win.b.d,x.allowance,x.block,x.kind,.slice (some tad) x.tiers.length tc,x.mode,.slice aa x.adjusts.length ac,x.line,x.col] _ RX.out Tryz.underlying87 ?_ ?_ ?_;rfl;rfl;go_simp;rfl;kernel_rfl)|(with_reducible refine wpList_store_new (op:=Oper.mk none (Op.store 87 (Operand.tmp 13) (Operand.tmp 106)) _ _ _ _) ?_ 87 (.tmp 13) (.tmp 106) ?_ wr _ #[x.meter,x.win.has,x.win.a.y,x.win.a.m,x.win.a.d,x.win.b.y,x.win.b.m,x.win.b.d,x.allowance,x.block,x.kind,.slice (some tad) x.tiers.length tc,x.mode,.slice aa x.adjusts.length ac,x.line,x.col] ?_ ?_ ?_ ?_ ?_ ?_;rfl;rfl;go_simp;go_simp;kernel_rfl;rfl;(simp [Value.oneCell']))|fail)
       rw [←HWT.out,←HKX.out];clear HWT HKX RX;try dsimp only [Act.put]

       have RP:=hid (range_of (X.out wt hMt.out.bel).1.cell);have c1:=XT.out.cell 1 _ rfl;have c2:=XT.out.cell 2 _ rfl;have c3:=XT.out.cell 3 _ rfl;have c4:=XT.out.cell 4 _ rfl;have c5:=XT.out.cell 5 _ rfl;have c6:=XT.out.cell 6 _ rfl;have c7:=XT.out.cell 7 _ rfl;go_wp2_with (first|(with_reducible refine wpList_load_mid (op:=Oper.mk (some 108) (Op.load 45 (Operand.tmp 1)) _ _ _ _) ?_ 45 (.tmp 1) ?_ k1 0 ?_ [p.name,p.cur,p.a.y,p.a.m,p.a.d,p.b.y,p.b.m,p.b.d,.slice ma p.meters.length mc,.slice fa p.fees.length fc,.slice (some ⟨bx,ox,none⟩) p.charges.length cc,p.line,p.col] _ RP.out Tryz.underlying45 ?_ ?_ ?_;rfl;rfl;go_simp;rfl;kernel_rfl)|fail)
       refine (cD.out wt).mono ?_;rintro e wd ⟨rfl,bd⟩;have Md:=hid (hMt.out.on bd);have XD:=hid (XT.out.on bd);have KPd:=hid (fun z hz=>(KPt.out z hz).on bd);have Bd2:=hid bd;clear cD RP c1 c2 c3 c4 c5 c6 c7 XT hMt bd KPt;go_upto_block 8 with fail
       have CELLS:=hid (fun (W:World) (b:Below wd.heap.size wd W)=>(⟨(Md.out.on b).box.cell 3 _ rfl,(XD.out.on b).cell 0 _ rfl,(Md.out.on b).box.lt,(XD.out.on b).lt⟩:W.cell? ⟨k3,3,none⟩=some (.slice ma2 T.length mc2)∧W.cell? ⟨kx,0,none⟩=some (.string x.meter)∧k3<W.heap.size∧kx<W.heap.size));have B0:=hid (Below.refl wd.heap.size wd);go_cut [16] (fun a W=>a=.int .i64 (K:Int)∧Hid (Below wd.heap.size wd W))
       case first=>
        go_wp2_with fail
        go_loopw [16] (fun a wr=>∃j:Nat,a=.int .i64 (j:Int)∧j≤K∧Hid (Below wd.heap.size wd wr)) (fun a _=>K-(intOf a).toNat)
        case atStart=>exact ⟨0,rfl,Nat.zero_le _,B0⟩
        case round=>
         clear B0;obtain ⟨j,rfl,hj,hb⟩:=hrel;obtain ⟨q3,q0,lk3,lkx⟩:=CELLS.out wr hb.out;have r3:=cell_regrown q3;have r0:=cell_regrown q0;have B2:=fun d os=>hid (bel_on hb.out (below_regrown wr d os));obtain ⟨y,ty⟩:∃y,T[j]?=some y:=⟨_,List.getElem?_eq_getElem (by omega)⟩;have own:=(Md.out.on hb.out).owns.own .m _ rfl;obtain ⟨g,cg,eg,_,lg⟩:=World.ownsRow.form own (show 0<T.length by omega)
         have ry:=cell_regrown (show wr.cell? ⟨g,j*5,none⟩=some (.string y.name) by
          have e2:Value.slice ma2 T.length mc2=.slice (some ⟨g,0,none⟩) T.length cg:=eg;have own2:wr.ownsRow (k3+1) 39 5 (.slice ma2 T.length mc2) T.length (T.flatMap meterC):=own;rw [e2] at own2;rw [own2.cellAt (j*5) (by omega)]
          exact flat_get (cells:=meterC) meter_ln T j y 0 _ ty rfl)
         have eg2:Value.slice ma2 T.length mc2=.slice (some ⟨g,0,none⟩) T.length cg:=eg;rw [eg2] at r3;have z1:j<T.length:=by omega
         by_cases hjk:j<K
         ·have gq:=ix_ne HIX.out hjk ty;clear own eg eg2 ty q3 q0;go_wp2;refine wp_region_quiet_below (by kernel_rfl) (by kernel_rfl) ?_;repeat (go_big_quiet_step (fail))
          refine wpQuiet_nil ?_;intro _ hw';obtain ⟨⟨dq,osq⟩,hw''⟩:=hw';subst hw'';have B3:=B2 dq osq;clear B2 r3 r0 ry;go_wp2;go_roundw
          case rel=>exact ⟨j+1,by simp,by omega,B3⟩
          case measure=>simp [intOf];omega
         ·obtain rfl:j=K:=by omega
          have gq:=ix_eq HIX.out ty;clear own eg eg2 ty q3 q0;go_wp2;refine wp_region_quiet_below (by kernel_rfl) (by kernel_rfl) ?_;repeat (go_big_quiet_step (fail))
          refine wpQuiet_nil ?_;intro _ hw';obtain ⟨⟨dq,osq⟩,hw''⟩:=hw';subst hw'';have B3:=B2 dq osq;clear B2 r3 r0 ry;go_wp2;go_meet;exact ⟨rfl,B3⟩
       case rest=>
        obtain ⟨rfl,hb⟩:=hcut;obtain ⟨wn,hwn⟩:∃W,W=wc:=⟨_,rfl⟩;rw [←hwn] at hb ⊢;have Mn:=hid (Md.out.on hb.out);have XN:=hid (XD.out.on hb.out);have KN0:=hid (fun z hz=>(KPd.out z hz).on hb.out);have HTC:=hid (fun (W:World) (b:Below wn.heap.size wn W)=>RT.out.2 W (bel_on Bd2.out (bel_on hb.out b)));have HAC:=hid (fun (W:World) (b:Below wn.heap.size wn W)=>RA.out.2 W (bel_on Bd2.out (bel_on hb.out b)));have HA0:=hid RA.out.1;have HTL:=hid (show (x.tiers.flatMap tierC).length=x.tiers.length*2 by rw [flat_len (n:=2) (fun _=>rfl)]);have HAL:=hid (show (x.adjusts.flatMap adjC).length=x.adjusts.length*3 by rw [flat_len (n:=3) (fun _=>rfl)]);have HT0:=hid (show 0<0+x.tiers.length by omega)
        have HT1:=hid (show ∀u∈x.tiers.flatMap tierC,u.oneCell'=true from fun u hu=>by
         obtain ⟨m,_,h⟩:=List.mem_flatMap.1 hu;simp only [tierC,List.mem_cons,List.not_mem_nil,or_false] at h
         rcases h with rfl|rfl<;>rfl)
        have HA1:=hid (show ∀u∈x.adjusts.flatMap adjC,u.oneCell'=true from fun u hu=>by
         obtain ⟨m,_,h⟩:=List.mem_flatMap.1 hu;simp only [adjC,List.mem_cons,List.not_mem_nil,or_false] at h
         rcases h with rfl|rfl|rfl<;>rfl)
        have NX:=hid (show some kx≠(Value.slice pa PS.length pc).ownBlock from fun e=>by
         have h1:=((Md.out.owns.own .c _ rfl).lt kx e.symm).1;have h2:=NKX.out
         exact h2 e)
        have KS:Hid (∀w',Below wn.heap.size wn w'→w'.cell? ⟨k3,5,none⟩=some (.slice pa PS.length pc)∧w'.frozen? ⟨k3,5,none⟩=false∧w'.cell? ⟨kx,8,none⟩=some (.int .i64 x.allowance)∧w'.cell? ⟨kx,9,none⟩=some (.int .i64 x.block)∧w'.cell? ⟨kx,10,none⟩=some (.int .i64 x.kind)∧w'.cell? ⟨kx,11,none⟩=some (.slice (some tad) x.tiers.length tc)∧w'.cell? ⟨kx,12,none⟩=some (.int .i64 x.mode)∧w'.cell? ⟨kx,13,none⟩=some (.slice aa x.adjusts.length ac)∧k3<w'.heap.size∧kx<w'.heap.size):=hid fun W b=>⟨(Mn.out.on b).box.cell 5 _ rfl,(Mn.out.on b).box.free 5,(XN.out.on b).cell 8 _ rfl,(XN.out.on b).cell 9 _ rfl,(XN.out.on b).cell 10 _ rfl,(XN.out.on b).cell 11 _ rfl,(XN.out.on b).cell 12 _ rfl,(XN.out.on b).cell 13 _ rfl,(Mn.out.on b).box.lt,(XN.out.on b).lt⟩
        have KS2:Hid (∀W w',Below wn.heap.size wn W→W.grownBy w' (Value.slice pa PS.length pc).ownBlock→w'.cell? ⟨k3,5,none⟩=some (.slice pa PS.length pc)∧w'.frozen? ⟨k3,5,none⟩=false∧w'.cell? ⟨kx,8,none⟩=some (.int .i64 x.allowance)∧w'.cell? ⟨kx,9,none⟩=some (.int .i64 x.block)∧w'.cell? ⟨kx,10,none⟩=some (.int .i64 x.kind)∧w'.cell? ⟨kx,11,none⟩=some (.slice (some tad) x.tiers.length tc)∧w'.cell? ⟨kx,12,none⟩=some (.int .i64 x.mode)∧w'.cell? ⟨kx,13,none⟩=some (.slice aa x.adjusts.length ac)∧k3<w'.heap.size∧kx<w'.heap.size):=hid fun W w' b g=>by
         have M:=(Mn.out.on b).box.grown g ((Mn.out.on b).ne (σ:=.c) rfl (Nat.le_refl _));have Y:=(XN.out.on b).grown g NX.out;exact ⟨M.cell 5 _ rfl,M.free 5,Y.cell 8 _ rfl,Y.cell 9 _ rfl,Y.cell 10 _ rfl,Y.cell 11 _ rfl,Y.cell 12 _ rfl,Y.cell 13 _ rfl,M.lt,Y.lt⟩
        clear hwn B0 CELLS hb Md XD KPd Bd2 RT RA HIX NX;go_upto_region 25 with fail
        have GX:Below wn.heap.size wn wn.drew:=Below.drew (Below.refl _ _);refine Hu.wp_region_until (S:=(fun w'=>w'.cell? ⟨k3,5,none⟩=some (.slice pa PS.length pc)∧w'.frozen? ⟨k3,5,none⟩=false∧w'.cell? ⟨kx,8,none⟩=some (.int .i64 x.allowance)∧w'.cell? ⟨kx,9,none⟩=some (.int .i64 x.block)∧w'.cell? ⟨kx,10,none⟩=some (.int .i64 x.kind)∧w'.cell? ⟨kx,11,none⟩=some (.slice (some tad) x.tiers.length tc)∧w'.cell? ⟨kx,12,none⟩=some (.int .i64 x.mode)∧w'.cell? ⟨kx,13,none⟩=some (.slice aa x.adjusts.length ac)∧k3<w'.heap.size∧kx<w'.heap.size)) 25 (by kernel_rfl) ?_ (fun hHeld=>?_)
        ·exact KS.out _ GX
        iterate 17
         first|refine Hu.pk (v:=?_) 0 ?_ ?_|refine Hu.pk (v:=?_) 1 ?_ ?_|refine Hu.pk (v:=?_) 2 ?_ ?_|refine Hu.pk (v:=?_) 3 ?_ ?_|refine Hu.pk (v:=?_) 4 ?_ ?_|refine Hu.pk (v:=?_) 5 ?_ ?_|refine Hu.pk (v:=?_) 6 ?_ ?_|refine Hu.pk (v:=?_) 7 ?_ ?_|refine Hu.pk (v:=?_) 8 ?_ ?_|refine Hu.pk (v:=?_) 9 ?_ ?_|refine Hu.pk (v:=?_) 10 ?_ ?_|refine Hu.pk (v:=?_) 12 ?_ ?_|refine Hu.pk (v:=?_) 13 ?_ ?_|refine Hu.pk (v:=?_) 15 ?_ ?_|refine Hu.pk (v:=?_) 16 ?_ ?_|refine Hu.pk (v:=?_) 18 ?_ ?_|refine Hu.pk (v:=?_) 19 ?_ ?_
         rotate_left
         ·intro w hSw
          (try dsimp only at hSw)
          go_simp;all_goals (try with_reducible rfl)
         try simp only [Act.put,List.setIfInBounds_toArray,List.set_cons_zero,List.set_cons_succ]
        refine Hu.wpAnyU_ready (rs:=[11,17]) (by kernel_rfl) (by simp) ?_;refine (Hu.AllReadyU.cons (o:=(Oper.mk (some 136) (Op.buildSlice _ _ _) _ _ _ _)) rfl (fun K0 hK=>?_) (Hu.AllReadyU.cons (o:=(Oper.mk (some 142) (Op.buildSlice _ _ _) _ _ _ _)) rfl (fun K0 hK=>?_) Hu.AllReadyU.nil))
        ·go_simp;obtain ⟨w1,hw1⟩:∃W,W=(wn.alloc (.cells #[] 54)).drew:=⟨_,rfl⟩;rw [←hw1];have oT:w1.ownsRow wn.heap.size 54 2 (.slice (some ⟨wn.heap.size,0,none⟩) 0 0) 0 []:=by rw [hw1];exact World.ownsRow_lit (base:=wn.heap.size) (e:=54) (size:=2) wn.drew #[] 0 GX.size (by decide) rfl
         have BX11:Below wn.drew.heap.size wn.drew w1:=by rw [hw1];exact bel_alloc wn.drew _
         replace GX:Below wn.heap.size wn w1:=bel_on GX BX11;clear hw1;refine hK.out _ _ ?_ (fun hHeld=>?_)
         ·exact KS.out _ GX
         clear hK K0;try simp only [Act.put,List.setIfInBounds_toArray,List.set_cons_zero,List.set_cons_succ]
         refine Hu.wpAnyU_ready (rs:=[14,17]) (by kernel_rfl) (by simp) ?_;refine (Hu.AllReadyU.cons (o:=(Oper.mk (some 139) (Op.call _) _ _ _ _)) rfl (fun K0 hK=>?_) (Hu.AllReadyU.cons (o:=(Oper.mk (some 142) (Op.buildSlice _ _ _) _ _ _ _)) rfl (fun K0 hK=>?_) Hu.AllReadyU.nil))
         ·refine step_fresh (base:=wn.heap.size) 139 rfl rfl (.tmp 136) (.tmp 138) 55 54 _ 2 16 rfl Tryz.underlying55 info_tierQ rfl (by decide) _ 0 0 [] rfl rfl (fun _=>⟨rfl,rfl⟩) (fun _ _ j u hj=>by simp at hj) tad x.tiers.length tc (x.tiers.flatMap tierC) rfl HTL.out (HTC.out w1 GX tad rfl) HT1.out HT0.out (by omega) (by decide) x.tiers.length (Nat.zero_add _) GX.size ?_;intro cT w2 oT2 grT;obtain ⟨gT,hgT⟩:∃g,g=w1.heap.size:=⟨_,rfl⟩;rw [←hgT] at oT2 ⊢;have BX14:=grown_bel grT;replace GX:Below wn.heap.size wn w2:=bel_on GX BX14;clear hgT;refine hK.out _ _ ?_ (fun hHeld=>?_)
          ·exact KS.out _ GX
          clear hK K0;try simp only [Act.put,List.setIfInBounds_toArray,List.set_cons_zero,List.set_cons_succ]
          refine Hu.wpAnyU_ready (rs:=[17]) (by kernel_rfl) (by simp) ?_;refine (Hu.AllReadyU.cons (o:=(Oper.mk (some 142) (Op.buildSlice _ _ _) _ _ _ _)) rfl (fun K0 hK=>?_) Hu.AllReadyU.nil);go_simp;obtain ⟨w3,hw3⟩:∃W,W=w2.alloc (.cells #[] 115):=⟨_,rfl⟩;rw [←hw3];have oA:w3.ownsRow wn.heap.size 115 3 (.slice (some ⟨w2.heap.size,0,none⟩) 0 0) 0 []:=by rw [hw3];exact World.ownsRow_lit (base:=wn.heap.size) (e:=115) (size:=3) w2 #[] 0 GX.size (by decide) rfl
          have BX17:Below w2.heap.size w2 w3:=by rw [hw3];exact bel_alloc w2 _
          replace GX:Below wn.heap.size wn w3:=bel_on GX BX17;have nTA:gT≠w2.heap.size:=by have h:=(oT2.lt gT rfl).2;omega
          replace oT2:=owns_on oT2 BX17;clear hw3;refine hK.out _ _ ?_ (fun hHeld=>?_)
          ·exact KS.out _ GX
          clear hK K0;try simp only [Act.put,List.setIfInBounds_toArray,List.set_cons_zero,List.set_cons_succ]
          refine Hu.wpAnyU_ready (rs:=[20]) (by kernel_rfl) (by simp) ?_;refine (Hu.AllReadyU.cons (o:=(Oper.mk (some 145) (Op.call _) _ _ _ _)) rfl (fun K0 hK=>?_) Hu.AllReadyU.nil);refine step_join 145 rfl rfl (.tmp 142) (.tmp 144) 56 115 _ 3 24 rfl Tryz.underlying56 info_adjQ rfl (by decide) _ 0 [] rfl oA aa x.adjusts.length ac (x.adjusts.flatMap adjC) rfl HAL.out HA0.out (HAC.out w3 GX) HA1.out (by omega) (by decide) x.adjusts.length (Nat.zero_add _) GX.size ?_;intro aA cA w4 oA2 grA;have oT3:w4.ownsRow wn.heap.size 54 2 (.slice (some ⟨gT,0,none⟩) x.tiers.length cT) x.tiers.length ([]++x.tiers.flatMap tierC):=oT2.kept grA (.inr (fun e=>nTA (Option.some.inj e)));have GX0:=GX;replace GX:Below wn.heap.size wn w4:=GX0.grown grA GX0.size (fun j hj=>by have e:w2.heap.size=j:=Option.some.inj hj;have:=(oA.lt w2.heap.size rfl).1;omega);refine hK.out _ _ ?_ (fun hHeld=>?_)
          ·exact KS.out _ GX
          clear hK K0;try simp only [Act.put,List.setIfInBounds_toArray,List.set_cons_zero,List.set_cons_succ]
          refine Hu.pk (v:=?_) 21 ?_ ?_;rotate_left
          ·intro w hSw
           (try dsimp only at hSw)
           go_simp;all_goals (try with_reducible rfl)
          try simp only [Act.put,List.setIfInBounds_toArray,List.set_cons_zero,List.set_cons_succ]
          have MA:=hid (Mn.out.on GX);have OTF:=hid (show w4.ownsRow wn.heap.size 54 2 (.slice (some ⟨gT,0,none⟩) x.tiers.length cT) x.tiers.length (x.tiers.flatMap tierC) from oT3);have OAF:=hid (show w4.ownsRow wn.heap.size 115 3 (.slice aA x.adjusts.length cA) x.adjusts.length (x.adjusts.flatMap adjC) from oA2);refine Hu.wpAnyU_ready (rs:=[22]) (by kernel_rfl) (by simp) ?_;refine (Hu.AllReadyU.cons (o:=(Oper.mk (some 147) (Op.buildSlice _ _ _) _ _ _ _)) rfl (fun K0 hK=>?_) Hu.AllReadyU.nil);go_simp;have GW:=GX;replace GX:Below wn.heap.size wn (w4.alloc (.cells #[.int .i64 K,.int .i64 DA,.int .i64 DB,x.allowance,x.block,x.kind,.slice (some ⟨gT,0,none⟩) x.tiers.length cT,x.mode,.slice aA x.adjusts.length cA] 58)):=bel_on GX (bel_alloc _ _);refine hK.out _ _ ?_ (fun hHeld=>?_)
          ·exact KS.out _ GX
          clear hK K0;try simp only [Act.put,List.setIfInBounds_toArray,List.set_cons_zero,List.set_cons_succ]
          refine Hu.wpAnyU_ready (rs:=[23]) (by kernel_rfl) (by simp) ?_;refine (Hu.AllReadyU.cons (o:=(Oper.mk (some 148) (Op.call _) _ _ _ _)) rfl (fun K0 hK=>?_) Hu.AllReadyU.nil);refine R7.step_more7 (W:=w4) (base:=k3+1) [.int .i64 K,.int .i64 DA,.int .i64 DB,x.allowance,x.block,x.kind,.slice (some ⟨gT,0,none⟩) x.tiers.length cT,x.mode,.slice aA x.adjusts.length cA] 148 rfl rfl (.tmp 126) (.tmp 147) 24 58 _ 9 104 rfl Tryz.underlying24 info_prt rfl (by decide) (.slice pa PS.length pc) PS.length _ rfl (MA.out.owns.own .c _ rfl) rfl (by simp [Value.oneCell']) rfl (by omega) (by decide) MA.out.bs ?_;intro gb cap2 wb how hgr hat;have GB:w4.grownBy wb (Value.slice pa PS.length pc).ownBlock:=grown_alloc hgr;have GX1:=GX;replace GX:Below wn.heap.size wn wn:=Below.refl _ _;refine hK.out _ _ ?_ (fun hHeld=>?_)
          ·exact KS2.out _ _ GW GB
          clear hK K0;try simp only [Act.put,List.setIfInBounds_toArray,List.set_cons_zero,List.set_cons_succ]
          refine Hu.pk (v:=?_) 24 ?_ ?_;rotate_left
          ·intro w hSw
           (try dsimp only at hSw)
           go_simp;all_goals (try with_reducible rfl)
          try simp only [Act.put,List.setIfInBounds_toArray,List.set_cons_zero,List.set_cons_succ]
          have MB:=hid (Mk.part (x:=((⟨K,DA,DB,x.allowance,x.block,x.kind,x.tiers,x.mode,x.adjusts⟩,⟨some ⟨gT,0,none⟩,cT,aA,cA⟩):Prt×Hd)) (H:=w4.heap.size+1) MA.out (R7.grown_trans (R7.grown_below (bel_alloc _ _)) hgr) how (R7.own_at7 hat) (Nat.le_succ _))
          have KN:Kp w4 k3 (.slice pa PS.length pc) ((⟨K,DA,DB,x.allowance,x.block,x.kind,x.tiers,x.mode,x.adjusts⟩,⟨some ⟨gT,0,none⟩,cT,aA,cA⟩):Prt×Hd):=by
           refine ⟨row_of_own OTF.out TOK.out,row_of_own OAF.out AOK.out,NUM.out,fun ad e=>?_,fun ad e=>?_⟩
           ·have e2:(⟨gT,0,none⟩:Addr)=ad:=Option.some.inj e;have l1:=OTF.out.lt gT rfl;rw [←e2];refine ⟨by show k3<gT;have:=Mn.out.bs;omega,l1.2,fun q=>?_⟩;have:=((Mn.out.owns.own .c _ rfl).lt gT q).2;omega
           ·have e2:aA=some ad:=e;have l1:=OAF.out.lt ad.block (by rw [e2];rfl);refine ⟨by have:=Mn.out.bs;omega,l1.2,fun q=>?_⟩;have:=((Mn.out.owns.own .c _ rfl).lt ad.block q).2;omega
          have KB:=hid (show ∀z∈PS++[((⟨K,DA,DB,x.allowance,x.block,x.kind,x.tiers,x.mode,x.adjusts⟩,⟨some ⟨gT,0,none⟩,cT,aA,cA⟩):Prt×Hd)],Kp (wb.setCell ⟨k3,5,none⟩ (.slice (some ⟨gb,0,none⟩) (PS.length+1) cap2)) k3 (.slice (some ⟨gb,0,none⟩) (PS++[((⟨K,DA,DB,x.allowance,x.block,x.kind,x.tiers,x.mode,x.adjusts⟩,⟨some ⟨gT,0,none⟩,cT,aA,cA⟩):Prt×Hd)]).length cap2) z from fun z hz=>by
           rw [show (PS++[((⟨K,DA,DB,x.allowance,x.block,x.kind,x.tiers,x.mode,x.adjusts⟩,⟨some ⟨gT,0,none⟩,cT,aA,cA⟩):Prt×Hd)]).length=PS.length+1 from List.length_append];refine Kp.set (Kp.app ?_ GB (R7.own_at7 hat) (Nat.le_succ _)) 5 _;rcases List.mem_append.1 hz with h|h
           ·exact (KN0.out z h).on GW
           ·obtain rfl:=List.mem_singleton.1 h
            exact KN)
          clear how hgr hat GX GX0 GX1 GW GB oT2 oA2 oT3 oA KS KS2 KN;refine Hu.wpAnyU_ready (rs:=[25]) (by kernel_rfl) (by simp) ?_;refine Hu.AllReadyU.last (o:=(Oper.mk none (Op.store _ _ _) _ _ _ _)) rfl (by kernel_rfl) (fun K hK=>?_) Hu.AllReadyU.nil;go_simp;refine hK.out _ _ ?_;clear hK K;refine Hu.wpAnyU_done (by kernel_rfl) ?_ _;try dsimp only [Act.put]
          try dsimp only [Act.put]
          clear hHeld;go_wp2;go_roundw
          case rel=>exact ⟨i'+1,PS++[((⟨K,DA,DB,x.allowance,x.block,x.kind,x.tiers,x.mode,x.adjusts⟩,⟨some ⟨gT,0,none⟩,cT,aA,cA⟩):Prt×Hd)],some ⟨gb,0,none⟩,cap2,by simp,by omega,by rw [List.map_append];exact HPX,MB,KB⟩
          case measure=>simp [intOf];omega
         ·go_simp;obtain ⟨w2,hw2⟩:∃W,W=w1.alloc (.cells #[] 115):=⟨_,rfl⟩;rw [←hw2];have oA:w2.ownsRow wn.heap.size 115 3 (.slice (some ⟨w1.heap.size,0,none⟩) 0 0) 0 []:=by rw [hw2];exact World.ownsRow_lit (base:=wn.heap.size) (e:=115) (size:=3) w1 #[] 0 GX.size (by decide) rfl
          have BX17:Below w1.heap.size w1 w2:=by rw [hw2];exact bel_alloc w1 _
          replace GX:Below wn.heap.size wn w2:=bel_on GX BX17;clear hw2;refine hK.out _ _ ?_ (fun hHeld=>?_)
          ·exact KS.out _ GX
          clear hK K0;try simp only [Act.put,List.setIfInBounds_toArray,List.set_cons_zero,List.set_cons_succ]
          refine Hu.wpAnyU_ready (rs:=[14]) (by kernel_rfl) (by simp) ?_;refine (Hu.AllReadyU.cons (o:=(Oper.mk (some 139) (Op.call _) _ _ _ _)) rfl (fun K0 hK=>?_) Hu.AllReadyU.nil);refine step_fresh (base:=wn.heap.size) 139 rfl rfl (.tmp 136) (.tmp 138) 55 54 _ 2 16 rfl Tryz.underlying55 info_tierQ rfl (by decide) _ 0 0 [] rfl rfl (fun _=>⟨rfl,rfl⟩) (fun _ _ j u hj=>by simp at hj) tad x.tiers.length tc (x.tiers.flatMap tierC) rfl HTL.out (HTC.out w2 GX tad rfl) HT1.out HT0.out (by omega) (by decide) x.tiers.length (Nat.zero_add _) GX.size ?_;intro cT w3 oT2 grT;obtain ⟨gT,hgT⟩:∃g,g=w2.heap.size:=⟨_,rfl⟩;rw [←hgT] at oT2 ⊢;have BX14:=grown_bel grT;replace GX:Below wn.heap.size wn w3:=bel_on GX BX14;have nTA:gT≠w1.heap.size:=by have h:=(oA.lt w1.heap.size rfl).2;omega
          replace oA:=owns_on oA BX14;clear hgT;refine hK.out _ _ ?_ (fun hHeld=>?_)
          ·exact KS.out _ GX
          clear hK K0;try simp only [Act.put,List.setIfInBounds_toArray,List.set_cons_zero,List.set_cons_succ]
          refine Hu.wpAnyU_ready (rs:=[20]) (by kernel_rfl) (by simp) ?_;refine (Hu.AllReadyU.cons (o:=(Oper.mk (some 145) (Op.call _) _ _ _ _)) rfl (fun K0 hK=>?_) Hu.AllReadyU.nil);refine step_join 145 rfl rfl (.tmp 142) (.tmp 144) 56 115 _ 3 24 rfl Tryz.underlying56 info_adjQ rfl (by decide) _ 0 [] rfl oA aa x.adjusts.length ac (x.adjusts.flatMap adjC) rfl HAL.out HA0.out (HAC.out w3 GX) HA1.out (by omega) (by decide) x.adjusts.length (Nat.zero_add _) GX.size ?_;intro aA cA w4 oA2 grA;have oT3:w4.ownsRow wn.heap.size 54 2 (.slice (some ⟨gT,0,none⟩) x.tiers.length cT) x.tiers.length ([]++x.tiers.flatMap tierC):=oT2.kept grA (.inr (fun e=>nTA (Option.some.inj e)));have GX0:=GX;replace GX:Below wn.heap.size wn w4:=GX0.grown grA GX0.size (fun j hj=>by have e:w1.heap.size=j:=Option.some.inj hj;have:=(oA.lt w1.heap.size rfl).1;omega);refine hK.out _ _ ?_ (fun hHeld=>?_)
          ·exact KS.out _ GX
          clear hK K0;try simp only [Act.put,List.setIfInBounds_toArray,List.set_cons_zero,List.set_cons_succ]
          refine Hu.pk (v:=?_) 21 ?_ ?_;rotate_left
          ·intro w hSw
           (try dsimp only at hSw)
           go_simp;all_goals (try with_reducible rfl)
          try simp only [Act.put,List.setIfInBounds_toArray,List.set_cons_zero,List.set_cons_succ]
          have MA:=hid (Mn.out.on GX);have OTF:=hid (show w4.ownsRow wn.heap.size 54 2 (.slice (some ⟨gT,0,none⟩) x.tiers.length cT) x.tiers.length (x.tiers.flatMap tierC) from oT3);have OAF:=hid (show w4.ownsRow wn.heap.size 115 3 (.slice aA x.adjusts.length cA) x.adjusts.length (x.adjusts.flatMap adjC) from oA2);refine Hu.wpAnyU_ready (rs:=[22]) (by kernel_rfl) (by simp) ?_;refine (Hu.AllReadyU.cons (o:=(Oper.mk (some 147) (Op.buildSlice _ _ _) _ _ _ _)) rfl (fun K0 hK=>?_) Hu.AllReadyU.nil);go_simp;have GW:=GX;replace GX:Below wn.heap.size wn (w4.alloc (.cells #[.int .i64 K,.int .i64 DA,.int .i64 DB,x.allowance,x.block,x.kind,.slice (some ⟨gT,0,none⟩) x.tiers.length cT,x.mode,.slice aA x.adjusts.length cA] 58)):=bel_on GX (bel_alloc _ _);refine hK.out _ _ ?_ (fun hHeld=>?_)
          ·exact KS.out _ GX
          clear hK K0;try simp only [Act.put,List.setIfInBounds_toArray,List.set_cons_zero,List.set_cons_succ]
          refine Hu.wpAnyU_ready (rs:=[23]) (by kernel_rfl) (by simp) ?_;refine (Hu.AllReadyU.cons (o:=(Oper.mk (some 148) (Op.call _) _ _ _ _)) rfl (fun K0 hK=>?_) Hu.AllReadyU.nil);refine R7.step_more7 (W:=w4) (base:=k3+1) [.int .i64 K,.int .i64 DA,.int .i64 DB,x.allowance,x.block,x.kind,.slice (some ⟨gT,0,none⟩) x.tiers.length cT,x.mode,.slice aA x.adjusts.length cA] 148 rfl rfl (.tmp 126) (.tmp 147) 24 58 _ 9 104 rfl Tryz.underlying24 info_prt rfl (by decide) (.slice pa PS.length pc) PS.length _ rfl (MA.out.owns.own .c _ rfl) rfl (by simp [Value.oneCell']) rfl (by omega) (by decide) MA.out.bs ?_;intro gb cap2 wb how hgr hat;have GB:w4.grownBy wb (Value.slice pa PS.length pc).ownBlock:=grown_alloc hgr;have GX1:=GX;replace GX:Below wn.heap.size wn wn:=Below.refl _ _;refine hK.out _ _ ?_ (fun hHeld=>?_)
          ·exact KS2.out _ _ GW GB
          clear hK K0;try simp only [Act.put,List.setIfInBounds_toArray,List.set_cons_zero,List.set_cons_succ]
          refine Hu.pk (v:=?_) 24 ?_ ?_;rotate_left
          ·intro w hSw
           (try dsimp only at hSw)
           go_simp;all_goals (try with_reducible rfl)
          try simp only [Act.put,List.setIfInBounds_toArray,List.set_cons_zero,List.set_cons_succ]
          have MB:=hid (Mk.part (x:=((⟨K,DA,DB,x.allowance,x.block,x.kind,x.tiers,x.mode,x.adjusts⟩,⟨some ⟨gT,0,none⟩,cT,aA,cA⟩):Prt×Hd)) (H:=w4.heap.size+1) MA.out (R7.grown_trans (R7.grown_below (bel_alloc _ _)) hgr) how (R7.own_at7 hat) (Nat.le_succ _))
          have KN:Kp w4 k3 (.slice pa PS.length pc) ((⟨K,DA,DB,x.allowance,x.block,x.kind,x.tiers,x.mode,x.adjusts⟩,⟨some ⟨gT,0,none⟩,cT,aA,cA⟩):Prt×Hd):=by
           refine ⟨row_of_own OTF.out TOK.out,row_of_own OAF.out AOK.out,NUM.out,fun ad e=>?_,fun ad e=>?_⟩
           ·have e2:(⟨gT,0,none⟩:Addr)=ad:=Option.some.inj e;have l1:=OTF.out.lt gT rfl;rw [←e2];refine ⟨by show k3<gT;have:=Mn.out.bs;omega,l1.2,fun q=>?_⟩;have:=((Mn.out.owns.own .c _ rfl).lt gT q).2;omega
           ·have e2:aA=some ad:=e;have l1:=OAF.out.lt ad.block (by rw [e2];rfl);refine ⟨by have:=Mn.out.bs;omega,l1.2,fun q=>?_⟩;have:=((Mn.out.owns.own .c _ rfl).lt ad.block q).2;omega
          have KB:=hid (show ∀z∈PS++[((⟨K,DA,DB,x.allowance,x.block,x.kind,x.tiers,x.mode,x.adjusts⟩,⟨some ⟨gT,0,none⟩,cT,aA,cA⟩):Prt×Hd)],Kp (wb.setCell ⟨k3,5,none⟩ (.slice (some ⟨gb,0,none⟩) (PS.length+1) cap2)) k3 (.slice (some ⟨gb,0,none⟩) (PS++[((⟨K,DA,DB,x.allowance,x.block,x.kind,x.tiers,x.mode,x.adjusts⟩,⟨some ⟨gT,0,none⟩,cT,aA,cA⟩):Prt×Hd)]).length cap2) z from fun z hz=>by
           rw [show (PS++[((⟨K,DA,DB,x.allowance,x.block,x.kind,x.tiers,x.mode,x.adjusts⟩,⟨some ⟨gT,0,none⟩,cT,aA,cA⟩):Prt×Hd)]).length=PS.length+1 from List.length_append];refine Kp.set (Kp.app ?_ GB (R7.own_at7 hat) (Nat.le_succ _)) 5 _;rcases List.mem_append.1 hz with h|h
           ·exact (KN0.out z h).on GW
           ·obtain rfl:=List.mem_singleton.1 h
            exact KN)
          clear how hgr hat GX GX0 GX1 GW GB oT2 oA2 oT3 oA KS KS2 KN;refine Hu.wpAnyU_ready (rs:=[25]) (by kernel_rfl) (by simp) ?_;refine Hu.AllReadyU.last (o:=(Oper.mk none (Op.store _ _ _) _ _ _ _)) rfl (by kernel_rfl) (fun K hK=>?_) Hu.AllReadyU.nil;go_simp;refine hK.out _ _ ?_;clear hK K;refine Hu.wpAnyU_done (by kernel_rfl) ?_ _;try dsimp only [Act.put]
          try dsimp only [Act.put]
          clear hHeld;go_wp2;go_roundw
          case rel=>exact ⟨i'+1,PS++[((⟨K,DA,DB,x.allowance,x.block,x.kind,x.tiers,x.mode,x.adjusts⟩,⟨some ⟨gT,0,none⟩,cT,aA,cA⟩):Prt×Hd)],some ⟨gb,0,none⟩,cap2,by simp,by omega,by rw [List.map_append];exact HPX,MB,KB⟩
          case measure=>simp [intOf];omega
        ·go_simp;obtain ⟨w1,hw1⟩:∃W,W=(wn.alloc (.cells #[] 115)).drew:=⟨_,rfl⟩;rw [←hw1];have oA:w1.ownsRow wn.heap.size 115 3 (.slice (some ⟨wn.heap.size,0,none⟩) 0 0) 0 []:=by rw [hw1];exact World.ownsRow_lit (base:=wn.heap.size) (e:=115) (size:=3) wn.drew #[] 0 GX.size (by decide) rfl
         have BX17:Below wn.drew.heap.size wn.drew w1:=by rw [hw1];exact bel_alloc wn.drew _
         replace GX:Below wn.heap.size wn w1:=bel_on GX BX17;clear hw1;refine hK.out _ _ ?_ (fun hHeld=>?_)
         ·exact KS.out _ GX
         clear hK K0;try simp only [Act.put,List.setIfInBounds_toArray,List.set_cons_zero,List.set_cons_succ]
         refine Hu.wpAnyU_ready (rs:=[11]) (by kernel_rfl) (by simp) ?_;refine (Hu.AllReadyU.cons (o:=(Oper.mk (some 136) (Op.buildSlice _ _ _) _ _ _ _)) rfl (fun K0 hK=>?_) Hu.AllReadyU.nil);go_simp;obtain ⟨w2,hw2⟩:∃W,W=w1.alloc (.cells #[] 54):=⟨_,rfl⟩;rw [←hw2];have oT:w2.ownsRow wn.heap.size 54 2 (.slice (some ⟨w1.heap.size,0,none⟩) 0 0) 0 []:=by rw [hw2];exact World.ownsRow_lit (base:=wn.heap.size) (e:=54) (size:=2) w1 #[] 0 GX.size (by decide) rfl
         have BX11:Below w1.heap.size w1 w2:=by rw [hw2];exact bel_alloc w1 _
         replace GX:Below wn.heap.size wn w2:=bel_on GX BX11;replace oA:=owns_on oA BX11;clear hw2;refine hK.out _ _ ?_ (fun hHeld=>?_)
         ·exact KS.out _ GX
         clear hK K0;try simp only [Act.put,List.setIfInBounds_toArray,List.set_cons_zero,List.set_cons_succ]
         refine Hu.wpAnyU_ready (rs:=[14]) (by kernel_rfl) (by simp) ?_;refine (Hu.AllReadyU.cons (o:=(Oper.mk (some 139) (Op.call _) _ _ _ _)) rfl (fun K0 hK=>?_) Hu.AllReadyU.nil);refine step_fresh (base:=wn.heap.size) 139 rfl rfl (.tmp 136) (.tmp 138) 55 54 _ 2 16 rfl Tryz.underlying55 info_tierQ rfl (by decide) _ 0 0 [] rfl rfl (fun _=>⟨rfl,rfl⟩) (fun _ _ j u hj=>by simp at hj) tad x.tiers.length tc (x.tiers.flatMap tierC) rfl HTL.out (HTC.out w2 GX tad rfl) HT1.out HT0.out (by omega) (by decide) x.tiers.length (Nat.zero_add _) GX.size ?_;intro cT w3 oT2 grT;obtain ⟨gT,hgT⟩:∃g,g=w2.heap.size:=⟨_,rfl⟩;rw [←hgT] at oT2 ⊢;have BX14:=grown_bel grT;replace GX:Below wn.heap.size wn w3:=bel_on GX BX14;have nTA:gT≠wn.heap.size:=by have h:=(oA.lt wn.heap.size rfl).2;omega
         replace oA:=owns_on oA BX14;clear hgT;refine hK.out _ _ ?_ (fun hHeld=>?_)
         ·exact KS.out _ GX
         clear hK K0;try simp only [Act.put,List.setIfInBounds_toArray,List.set_cons_zero,List.set_cons_succ]
         refine Hu.wpAnyU_ready (rs:=[20]) (by kernel_rfl) (by simp) ?_;refine (Hu.AllReadyU.cons (o:=(Oper.mk (some 145) (Op.call _) _ _ _ _)) rfl (fun K0 hK=>?_) Hu.AllReadyU.nil);refine step_join 145 rfl rfl (.tmp 142) (.tmp 144) 56 115 _ 3 24 rfl Tryz.underlying56 info_adjQ rfl (by decide) _ 0 [] rfl oA aa x.adjusts.length ac (x.adjusts.flatMap adjC) rfl HAL.out HA0.out (HAC.out w3 GX) HA1.out (by omega) (by decide) x.adjusts.length (Nat.zero_add _) GX.size ?_;intro aA cA w4 oA2 grA;have oT3:w4.ownsRow wn.heap.size 54 2 (.slice (some ⟨gT,0,none⟩) x.tiers.length cT) x.tiers.length ([]++x.tiers.flatMap tierC):=oT2.kept grA (.inr (fun e=>nTA (Option.some.inj e)));have GX0:=GX;replace GX:Below wn.heap.size wn w4:=GX0.grown grA GX0.size (fun j hj=>by have e:wn.heap.size=j:=Option.some.inj hj;have:=(oA.lt wn.heap.size rfl).1;omega);refine hK.out _ _ ?_ (fun hHeld=>?_)
         ·exact KS.out _ GX
         clear hK K0;try simp only [Act.put,List.setIfInBounds_toArray,List.set_cons_zero,List.set_cons_succ]
         refine Hu.pk (v:=?_) 21 ?_ ?_;rotate_left
         ·intro w hSw
          (try dsimp only at hSw)
          go_simp;all_goals (try with_reducible rfl)
         try simp only [Act.put,List.setIfInBounds_toArray,List.set_cons_zero,List.set_cons_succ]
         have MA:=hid (Mn.out.on GX);have OTF:=hid (show w4.ownsRow wn.heap.size 54 2 (.slice (some ⟨gT,0,none⟩) x.tiers.length cT) x.tiers.length (x.tiers.flatMap tierC) from oT3);have OAF:=hid (show w4.ownsRow wn.heap.size 115 3 (.slice aA x.adjusts.length cA) x.adjusts.length (x.adjusts.flatMap adjC) from oA2);refine Hu.wpAnyU_ready (rs:=[22]) (by kernel_rfl) (by simp) ?_;refine (Hu.AllReadyU.cons (o:=(Oper.mk (some 147) (Op.buildSlice _ _ _) _ _ _ _)) rfl (fun K0 hK=>?_) Hu.AllReadyU.nil);go_simp;have GW:=GX;replace GX:Below wn.heap.size wn (w4.alloc (.cells #[.int .i64 K,.int .i64 DA,.int .i64 DB,x.allowance,x.block,x.kind,.slice (some ⟨gT,0,none⟩) x.tiers.length cT,x.mode,.slice aA x.adjusts.length cA] 58)):=bel_on GX (bel_alloc _ _);refine hK.out _ _ ?_ (fun hHeld=>?_)
         ·exact KS.out _ GX
         clear hK K0;try simp only [Act.put,List.setIfInBounds_toArray,List.set_cons_zero,List.set_cons_succ]
         refine Hu.wpAnyU_ready (rs:=[23]) (by kernel_rfl) (by simp) ?_;refine (Hu.AllReadyU.cons (o:=(Oper.mk (some 148) (Op.call _) _ _ _ _)) rfl (fun K0 hK=>?_) Hu.AllReadyU.nil);refine R7.step_more7 (W:=w4) (base:=k3+1) [.int .i64 K,.int .i64 DA,.int .i64 DB,x.allowance,x.block,x.kind,.slice (some ⟨gT,0,none⟩) x.tiers.length cT,x.mode,.slice aA x.adjusts.length cA] 148 rfl rfl (.tmp 126) (.tmp 147) 24 58 _ 9 104 rfl Tryz.underlying24 info_prt rfl (by decide) (.slice pa PS.length pc) PS.length _ rfl (MA.out.owns.own .c _ rfl) rfl (by simp [Value.oneCell']) rfl (by omega) (by decide) MA.out.bs ?_;intro gb cap2 wb how hgr hat;have GB:w4.grownBy wb (Value.slice pa PS.length pc).ownBlock:=grown_alloc hgr;have GX1:=GX;replace GX:Below wn.heap.size wn wn:=Below.refl _ _;refine hK.out _ _ ?_ (fun hHeld=>?_)
         ·exact KS2.out _ _ GW GB
         clear hK K0;try simp only [Act.put,List.setIfInBounds_toArray,List.set_cons_zero,List.set_cons_succ]
         refine Hu.pk (v:=?_) 24 ?_ ?_;rotate_left
         ·intro w hSw
          (try dsimp only at hSw)
          go_simp;all_goals (try with_reducible rfl)
         try simp only [Act.put,List.setIfInBounds_toArray,List.set_cons_zero,List.set_cons_succ]
         have MB:=hid (Mk.part (x:=((⟨K,DA,DB,x.allowance,x.block,x.kind,x.tiers,x.mode,x.adjusts⟩,⟨some ⟨gT,0,none⟩,cT,aA,cA⟩):Prt×Hd)) (H:=w4.heap.size+1) MA.out (R7.grown_trans (R7.grown_below (bel_alloc _ _)) hgr) how (R7.own_at7 hat) (Nat.le_succ _))
         have KN:Kp w4 k3 (.slice pa PS.length pc) ((⟨K,DA,DB,x.allowance,x.block,x.kind,x.tiers,x.mode,x.adjusts⟩,⟨some ⟨gT,0,none⟩,cT,aA,cA⟩):Prt×Hd):=by
          refine ⟨row_of_own OTF.out TOK.out,row_of_own OAF.out AOK.out,NUM.out,fun ad e=>?_,fun ad e=>?_⟩
          ·have e2:(⟨gT,0,none⟩:Addr)=ad:=Option.some.inj e;have l1:=OTF.out.lt gT rfl;rw [←e2];refine ⟨by show k3<gT;have:=Mn.out.bs;omega,l1.2,fun q=>?_⟩;have:=((Mn.out.owns.own .c _ rfl).lt gT q).2;omega
          ·have e2:aA=some ad:=e;have l1:=OAF.out.lt ad.block (by rw [e2];rfl);refine ⟨by have:=Mn.out.bs;omega,l1.2,fun q=>?_⟩;have:=((Mn.out.owns.own .c _ rfl).lt ad.block q).2;omega
         have KB:=hid (show ∀z∈PS++[((⟨K,DA,DB,x.allowance,x.block,x.kind,x.tiers,x.mode,x.adjusts⟩,⟨some ⟨gT,0,none⟩,cT,aA,cA⟩):Prt×Hd)],Kp (wb.setCell ⟨k3,5,none⟩ (.slice (some ⟨gb,0,none⟩) (PS.length+1) cap2)) k3 (.slice (some ⟨gb,0,none⟩) (PS++[((⟨K,DA,DB,x.allowance,x.block,x.kind,x.tiers,x.mode,x.adjusts⟩,⟨some ⟨gT,0,none⟩,cT,aA,cA⟩):Prt×Hd)]).length cap2) z from fun z hz=>by
          rw [show (PS++[((⟨K,DA,DB,x.allowance,x.block,x.kind,x.tiers,x.mode,x.adjusts⟩,⟨some ⟨gT,0,none⟩,cT,aA,cA⟩):Prt×Hd)]).length=PS.length+1 from List.length_append];refine Kp.set (Kp.app ?_ GB (R7.own_at7 hat) (Nat.le_succ _)) 5 _;rcases List.mem_append.1 hz with h|h
          ·exact (KN0.out z h).on GW
          ·obtain rfl:=List.mem_singleton.1 h
           exact KN)
         clear how hgr hat GX GX0 GX1 GW GB oT2 oA2 oT3 oA KS KS2 KN;refine Hu.wpAnyU_ready (rs:=[25]) (by kernel_rfl) (by simp) ?_;refine Hu.AllReadyU.last (o:=(Oper.mk none (Op.store _ _ _) _ _ _ _)) rfl (by kernel_rfl) (fun K hK=>?_) Hu.AllReadyU.nil;go_simp;refine hK.out _ _ ?_;clear hK K;refine Hu.wpAnyU_done (by kernel_rfl) ?_ _;try dsimp only [Act.put]
         try dsimp only [Act.put]
         clear hHeld;go_wp2;go_roundw
         case rel=>exact ⟨i'+1,PS++[((⟨K,DA,DB,x.allowance,x.block,x.kind,x.tiers,x.mode,x.adjusts⟩,⟨some ⟨gT,0,none⟩,cT,aA,cA⟩):Prt×Hd)],some ⟨gb,0,none⟩,cap2,by simp,by omega,by rw [List.map_append];exact HPX,MB,KB⟩
         case measure=>simp [intOf];omega
      ·obtain rfl:i'=p.charges.length:=by omega
       have EC:=hid (show coreOf p=⟨p.cur,A,B,T,SS,PS.map Prod.fst⟩ by
        rw [hPS.out,List.take_length,HMS.out,HSS.out,HA.out,HB.out]
        rfl)
       obtain ⟨wq,hwq⟩:∃W,W=wr:=⟨_,rfl⟩;rw [←hwq] at hM hKP ⊢;have RC:=hid (range_of hM.out.box.cell);unfold mkC at RC;have Y2:=(X.out wq hM.out.bel).2.1;have RT2:=hid (Te.box_there Y2 (n:=6) rfl);have R2:=hid (range_of (Box.sets (W:=wq) [p.cur,.int .i64 A,.int .i64 B,.slice ma2 T.length mc2,.slice sa SS.length sc,.slice pa PS.length pc] 0 Y2).cell);have BF:=hid (below_setCells HKS.out.2.2.2.2.2 [p.cur,.int .i64 A,.int .i64 B,.slice ma2 T.length mc2,.slice sa SS.length sc,.slice pa PS.length pc] 0 _ (X.out wq hM.out.bel).2.2);have HMM:=hM;have HKK:=hKP;clear hwq hM hKP hPS hlt hi Y2;go_wp2_with (first|(with_reducible refine wpList_load_mid (op:=Oper.mk (some 151) (Op.load 26 (Operand.tmp 3)) _ _ _ _) ?_ 26 (.tmp 3) ?_ k3 0 ?_ [p.cur,.int .i64 A,.int .i64 B,.slice ma2 T.length mc2,.slice sa SS.length sc,.slice pa PS.length pc] _ RC.out Tryz.underlying26 ?_ ?_ ?_;rfl;rfl;go_simp;rfl;kernel_rfl)|(with_reducible refine wpList_store_mid (op:=Oper.mk none (Op.store 26 (Operand.tmp 2) (Operand.tmp 151)) _ _ _ _) ?_ 26 (.tmp 2) (.tmp 151) ?_ k2 0 #[p.cur,.int .i64 A,.int .i64 B,.slice ma2 T.length mc2,.slice sa SS.length sc,.slice pa PS.length pc] ?_ ?_ ?_ ?_ ?_ ?_;rfl;rfl;go_simp;go_simp;(simpa using RT2.out);kernel_rfl;(simp [Value.oneCell']))|fail)
       refine bodyPost_ret (v:=.agg #[p.cur,.int .i64 A,.int .i64 B,.slice ma2 T.length mc2,.slice sa SS.length sc,.slice pa PS.length pc]) ?_ rfl ?_
       ·exact Md.results_mid rfl _ _ k2 [p.cur,.int .i64 A,.int .i64 B,.slice ma2 T.length mc2,.slice sa SS.length sc,.slice pa PS.length pc] _ rfl R2.out Tryz.underlying26 rfl (by kernel_rfl)
       refine ⟨ma2,mc2,sa,sc,pa,pc,?_,?_,BF.out⟩
       ·rw [EC.out];unfold corC;simp only [List.length_map]
       ·intro W' hf;have l2:k2<k3:=by have:=HKS.out;omega
        have l3:w.heap.size≤k3:=by have:=HKS.out;omega
        have far0:Far k3 wq (wq.setCells k2 0 [p.cur,.int .i64 A,.int .i64 B,.slice ma2 T.length mc2,.slice sa SS.length sc,.slice pa PS.length pc]):=Far.sets l2 _ 0 (Far.refl _ _);have sz:wq.heap.size≤(wq.setCells k2 0 [p.cur,.int .i64 A,.int .i64 B,.slice ma2 T.length mc2,.slice sa SS.length sc,.slice pa PS.length pc]).heap.size:=(below_setCells (B:=0) (a:=wq) (Nat.zero_le _) _ _ _ (Below.refl 0 wq)).size;have far:Far k3 wq W':=fun b h1 h2=>(hf b (Nat.le_trans l3 h1) (Nat.lt_of_lt_of_le h2 sz)).trans (far0 b h1 h2);have OWN:=fun s r (hr:rowsC T SS PS ma2 mc2 sa sc pa pc s=some r)=>owns_far (HMM.out.owns.own s r hr) (Nat.le_succ k3) far;rw [EC.out];refine ⟨rfl,row_of_own (OWN .m _ rfl) (fun m hm=>?_),row_of_own (OWN .f _ rfl) (fun s hs=>?_),prt_row (OWN .c _ rfl) (fun z hz=>?_),FT.out.name.2,by rw [HA.out];exact dn_in GD.out.days.1,by rw [HB.out];exact dn_in GD.out.days.2⟩
        ·rw [HMS.out] at hm;obtain ⟨m0,hm0,rfl⟩:=List.mem_map.1 ((srt_perm p.meters).mem_iff.1 hm);have:=FT.out.meters m0 hm0;exact ⟨this.1,this.2.1,this.2.2.1,by show I64 (0:Int);unfold I64;decide,by show I64 (0:Int);unfold I64;decide⟩
        ·rw [HSS.out] at hs;obtain ⟨f0,hf0,rfl⟩:=List.mem_map.1 hs;have w2:=win_in GD.out.days (GD.out.fees f0 hf0).2;exact ⟨(FT.out.fees f0 hf0).1,w2.1,w2.2⟩
        ·have kz:=HKK.out z hz;exact ⟨rfl,row_far kz.ts (fun ad e=>far _ (Nat.le_of_lt (kz.tb ad e).1) (kz.tb ad e).2.1),row_far kz.as' (fun ad e=>far _ (Nat.le_of_lt (kz.ab ad e).1) (kz.ab ad e).2.1),kz.nums⟩
end R10
end Go.Proofs.YtjgogpaedaffkaaGreat
