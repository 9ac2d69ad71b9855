/- Package tiers, walked: Micro: what a quantity costs: the sum over the steps, as long as it stays within 64 bits. -/
import Derived.Test.YtcimcdoiiepjoaaJTi3
import Derived.Deep.RegionHeld
import Derived.Test.YtcimcdoiiepjoaaJDiv
import Derived.Lib.QuietBelow
import Derived.BigQuiet
import Derived.Deep.CutBlock
import Derived.Deep.CutRange
import Derived.Deep.DeepCutAuto
import Derived.Test.YtcimcdoiiepjoaaJTieQ
set_option maxRecDepth 100000
set_option maxHeartbeats 8000000
namespace Go.Proofs.Ytcimcdoiiepjoaa
namespace P
end P
namespace Mm
end Mm
namespace Md
end Md
namespace R6
end R6
namespace Te
end Te
namespace Co
end Co
namespace R10
end R10
namespace R11
end R11
namespace L11
end L11
namespace Tg
open Go.RowKit Go.Sort Go.Shelf P Mm Md R6 Te Co R10 R11 L11
attribute [local go_sem] Oper.semAt_some
def StOk (s:Stp):Prop:=I64 s.a∧I64 s.b∧I64 s.r∧I64 (s.b-s.a)
abbrev StG:={ s:Stp // StOk s }
def vals (l:List StG):List Stp:=l.map (·.1)
theorem vals_snoc (l:List StG) (s:StG):vals (l++[s])=vals l++[s.1]:=by simp [vals]
theorem goes_stops {n lo hi gf:Nat} {lb:Array Value} {S:List Stp} {w:World} (h:Goes n lo hi gf lb S w) (hS:∀s∈S,StOk s) (Kp:World→World→Prop) (hKp:∀A B,Kp A B→∀j,lo≤j∧j<hi→B.heap[j]?=A.heap[j]?) :
  SeqStopsK Fence.wide n Try.prog gf lb (fun s:StG=>encS s.1) Kp (fun ys=>vals ys=S) (fun pre=>vals pre <+: S) S.length w:=fun l J Jx W hW hJ _ hY h0=>by
 refine (h l (fun ys W=>∃l',vals l'=ys∧J l' W) (fun ys W=>∃l',vals l'=ys∧Jx l' W) W hW ?_ ?_ ⟨[],rfl,h0⟩).mono ?_
 ·rintro ys A B row ⟨l',e,hj⟩ hg hr
  exact ⟨l',e,hJ l' A B row hj hg hr⟩
 ·rintro pre x W1 ⟨l',rfl,hj⟩ hp
  have hx:StOk x:=hS x (hp.subset (by simp))
  have hl:=hp.length_le
  simp [vals] at hl
  obtain ⟨fn,tmps,assign,body,hy,hR⟩:=hY l' ⟨x,hx⟩ W1 hj (by omega)
  refine ⟨fn,tmps,assign,body,hy,hR.mono ?_⟩
  rintro e W' (⟨h1,h2,h3⟩|⟨h1,h2⟩)
  ·exact .inl ⟨h1,⟨_,vals_snoc _ _,h2⟩,hKp _ _ h3⟩
  ·exact .inr ⟨h1,_,vals_snoc _ _,h2⟩
 ·rintro e W' ⟨hv,⟨ys,rfl,l',e,hj⟩|⟨pre,hp,l',e,hj⟩⟩
  ·exact ⟨hv,.inl ⟨l',e,hj⟩⟩
  ·exact ⟨hv,.inr ⟨l',(show vals l' <+: S by rw [e];exact hp),hj⟩⟩
structure MI (w:World) (n0 K4 K5 K8:Nat) (pre:List StG) (W:World):Prop where
 tot:∃t,SumTo t (vals pre)∧Boxed W K8 3 (.int .i64 t)
 r4:Boxed W K4 3 (.int .i64 0)
 r5:Boxed W K5 4 (.bool false)
 bel:Below w.heap.size w W
 size:n0≤W.heap.size
structure MX (w:World) (K4 K5:Nat) (c:Code) (pre:List StG) (W:World):Prop where
 code:c=Code.ret
 no:∀rest,sumS 0 (vals pre++rest)=none
 r4:Boxed W K4 3 (.int .i64 0)
 r5:Boxed W K5 4 (.bool false)
 bel:Below w.heap.size w W
theorem mi_own {w:World} {n0 K4 K5 K8:Nat} {B:Nat} (hB:w.heap.size≤B):OwnFrom B (MI w n0 K4 K5 K8):=by
 intro pre A C row h hg hr
 obtain ⟨t,ht,hb⟩:=h.tot
 have o1:=(Own.from (boxed_own (β:=Unit) K8 3 (fun _=>.int .i64 t)) B) () A C row hb hg hr
 have o2:=(Own.from (boxed_own (β:=Unit) K4 3 (fun _=>.int .i64 0)) B) () A C row h.r4 hg hr
 have o3:=(Own.from (boxed_own (β:=Unit) K5 4 (fun _=>.bool false)) B) () A C row h.r5 hg hr
 have o4:=(ownFrom_below (β:=Unit) (w₀:=w) (Nat.le_refl w.heap.size) hB) () A C row h.bel hg hr
 exact ⟨⟨t,ht,o1⟩,o2,o3,o4,Nat.le_trans h.size hg.size⟩
theorem mx_own {w:World} {K4 K5:Nat} {B:Nat} {c:Code} (hB:w.heap.size≤B):OwnFrom B (MX w K4 K5 c):=by
 intro pre A C row h hg hr
 have o2:=(Own.from (boxed_own (β:=Unit) K4 3 (fun _=>.int .i64 0)) B) () A C row h.r4 hg hr
 have o3:=(Own.from (boxed_own (β:=Unit) K5 4 (fun _=>.bool false)) B) () A C row h.r5 hg hr
 have o4:=(ownFrom_below (β:=Unit) (w₀:=w) (Nat.le_refl w.heap.size) hB) () A C row h.bel hg hr
 exact ⟨h.code,h.no,o2,o3,o4⟩
theorem results_m (tmps:Array Value) (W:World) (K4 K5:Nat) (a:Int) (b:Bool) (h4:tmps.getD 4 undef=.pointer (some ⟨K4,0,none⟩)) (h5:tmps.getD 5 undef=.pointer (some ⟨K5,0,none⟩)) (c4:W.cell? ⟨K4,0,none⟩=some (.int .i64 a)) (c5:W.cell? ⟨K5,0,none⟩=some (.bool b)) :
  (results Try.f14 tmps).run Try.prog W=.ok (.tuple #[.int .i64 a,.bool b]) W:=by
 have h4':tmps[4]?.getD undef=.pointer (some ⟨K4,0,none⟩):=by simpa using h4
 have h5':tmps[5]?.getD undef=.pointer (some ⟨K5,0,none⟩):=by simpa using h5
 simp [results,Try.f14,go_sem,h4',h5',asAddr,c4,c5]
theorem micro_any (x:Prt) (ta:Option Addr) (tc:Nat) (aa:Option Addr) (ac:Nat) (q:Int) (w:World) (ht:Row tTier w ta x.tiers.length tc x.tiers) (hq:I64 q) (g:GoodT x) :
  Calls Try.prog 14 #[.agg #[.int .i64 x.mt,.int .i64 x.a,.int .i64 x.b,.int .i64 x.allowance,.int .i64 x.block,.int .i64 x.kind,.slice ta x.tiers.length tc,.int .i64 x.mode,.slice aa x.adjusts.length ac],.int .i64 q] w fun e w'=>e=.returned (.tuple #[.int .i64 (oV (microO x q)),.bool (oB (microO x q))])∧Below w.heap.size w w':=by
 refine (callsIn_wide (n:=5)).1 ?_
 have hro:Fence.wide.round=none:=rfl
 obtain ⟨w1,hw1⟩:∃W,W=((w.alloc (.cells ([.int .i64 x.mt,.int .i64 x.a,.int .i64 x.b,.int .i64 x.allowance,.int .i64 x.block,.int .i64 x.kind,.slice ta x.tiers.length tc,.int .i64 x.mode,.slice aa x.adjusts.length ac]:List Value).toArray 25)).alloc (.cells #[.int .i64 0] 3)).alloc (.cells #[.bool false] 4):=⟨_,rfl⟩
 obtain ⟨k1,hk1⟩:∃k,k=w.heap.size:=⟨_,rfl⟩
 obtain ⟨K4,hK4⟩:∃k,k=w.heap.size+1:=⟨_,rfl⟩
 obtain ⟨K5,hK5⟩:∃k,k=w.heap.size+1+1:=⟨_,rfl⟩
 have b1:Below w.heap.size w w1:=by rw [hw1];exact (((Below.refl _ w).alloc (Nat.le_refl _) _).alloc (by simp) _).alloc (by simp;omega) _
 have z1:w1.heap.size=w.heap.size+3:=by rw [hw1];simp
 have X1:Box w1 k1 [.int .i64 x.mt,.int .i64 x.a,.int .i64 x.b,.int .i64 x.allowance,.int .i64 x.block,.int .i64 x.kind,.slice ta x.tiers.length tc,.int .i64 x.mode,.slice aa x.adjusts.length ac]:=by
  rw [hw1,hk1]
  exact ((Box.new w _ 25).on (bel_alloc _ _)).on (bel_alloc _ _)
 have b4:Boxed w1 K4 3 (.int .i64 0):=by
  rw [hw1,hK4]
  have:=(Boxed.new (w.alloc (.cells ([.int .i64 x.mt,.int .i64 x.a,.int .i64 x.b,.int .i64 x.allowance,.int .i64 x.block,.int .i64 x.kind,.slice ta x.tiers.length tc,.int .i64 x.mode,.slice aa x.adjusts.length ac]:List Value).toArray 25)) 3 (.int .i64 0)).alloc (.cells #[.bool false] 4)
  simpa using this
 have b5:Boxed w1 K5 4 (.bool false):=by
  rw [hw1,hK5]
  have:=Boxed.new ((w.alloc (.cells ([.int .i64 x.mt,.int .i64 x.a,.int .i64 x.b,.int .i64 x.allowance,.int .i64 x.block,.int .i64 x.kind,.slice ta x.tiers.length tc,.int .i64 x.mode,.slice aa x.adjusts.length ac]:List Value).toArray 25)).alloc (.cells #[.int .i64 0] 3)) 4 (.bool false)
  simpa using this
 have cQ:=hid (quantity_any x ta tc aa ac q w1 hq g)
 have B1:=hid b1
 have HW:=hid hw1
 have HK:=hid hk1
 have H4:=hid hK4
 have H5:=hid hK5
 have HT:=hid ht
 have GD:=hid g
 have X0:=hid X1
 have P4:=hid b4
 have P5:=hid b5
 have Z1:=hid z1
 clear hw1 hk1 hK4 hK5 X1 b1 ht g b4 b5 z1
 refine callsIn_of_wp_marks Try.func14 rfl trivial ?_ hro
 simp only [Try.ntmps14,List.size_toArray,List.length_cons,List.length_nil,Nat.reduceAdd,Nat.reduceSub,Array.replicate_succ,Array.replicate_zero,List.push_toArray,List.append_toArray,List.nil_append,List.cons_append]
 gi_wp2_with fail
 rw [←HW.out]
 rw [←H5.out,←H4.out,←HK.out]
 refine ⟨trivial,(callsIn_wide.2 cQ.out).mono ?_⟩
 rintro e w2 ⟨rfl,b2⟩
 have B2:=hid (bel_on B1.out b2)
 have X2:=hid (X0.out.on b2)
 have b4:Boxed w2 K4 3 (.int .i64 0):=(b2.block K4 P4.out.lt).trans P4.out
 have b5:Boxed w2 K5 4 (.bool false):=(b2.block K5 P5.out.lt).trans P5.out
 have hz2:w1.heap.size≤w2.heap.size:=b2.size
 have n45:K4≠K5:=by have:=H4.out;have:=H5.out;omega
 have n54:K5≠K4:=by omega
 have c4:=b4.cell
 have c5:=b5.cell
 have f4:=b4.frozen
 have f5:=b5.frozen
 have l4:K4<w2.heap.size:=b4.lt
 have l5:K5<w2.heap.size:=b5.lt
 have Q4:=hid b4
 have Q5:=hid b5
 clear b2 cQ HW HK X0 P4 P5 b4 b5
 rcases Bool.eq_false_or_eq_true (lqOk x q) with hl|hl
 rotate_left
 ·have e1:oV (lqO x q)=0:=by unfold lqO;rw [hl];rfl
  have e2:oB (lqO x q)=false:=by unfold lqO;rw [hl];rfl
  have e3:=hid (show microO x q=none by unfold microO;rw [hl];rfl)
  rw [e1,e2]
  clear e1 e2 hl
  gi_wp2
  refine ⟨_,results_m _ _ K4 K5 0 false rfl rfl ?_ ?_,?_⟩
  ·exact ((Q4.out.set _).other n45 _).cell
  ·exact ((Q5.out.other n54 _).set _).cell
  ·exact ⟨by rw [e3.out];rfl,(B2.out.setCell (p:=⟨K4,0,none⟩) (by have:=H4.out;show w.heap.size≤K4;omega) _).setCell (p:=⟨K5,0,none⟩) (by have:=H5.out;show w.heap.size≤K5;omega) _⟩
 ·obtain ⟨Q,hQ⟩:∃Q,Q=lq x q:=⟨_,rfl⟩
  have e1:oV (lqO x q)=Q:=by unfold lqO;rw [hl,hQ];rfl
  have e2:oB (lqO x q)=true:=by unfold lqO;rw [hl];rfl
  have EM:=hid (show microO x q=sumS 0 (stepsP x Q) by unfold microO;rw [hl,hQ];rfl)
  have QI:I64 Q:=by
   unfold lqOk at hl
   rw [Bool.and_eq_true,←hQ] at hl
   rcases Classical.em (I64 Q) with k|k
   ·exact k
   ·rw [ok64_f k] at hl;exact absurd hl.2 (by decide)
  rw [e1,e2]
  have SG:=hid (show ∀s∈stepsP x Q,StOk s from fun s hs=>by
   have:=stepsP_pos GD.out Q s hs
   unfold StOk
   unfold I64 at *
   omega)
  obtain ⟨w3,hw3⟩:∃W,W=w2.alloc (.cells #[.int .i64 0] 3):=⟨_,rfl⟩
  obtain ⟨K8,hK8⟩:∃k,k=w2.heap.size:=⟨_,rfl⟩
  have b23:Below w2.heap.size w2 w3:=by rw [hw3];exact bel_alloc _ _
  have b8:Boxed w3 K8 3 (.int .i64 0):=by rw [hw3,hK8];exact Boxed.new w2 3 (.int .i64 0)
  have z3:w3.heap.size=K8+1:=by rw [hw3,hK8];simp
  have B3:=hid (bel_on B2.out b23)
  have cS:=hid (steps_any x ta tc aa ac Q w3 (HT.out.on B3.out) GD.out)
  have W3:=hid hw3
  have HK8:=hid hK8
  have P8:=hid b8
  have P4:Hid (Boxed w3 K4 3 (.int .i64 0)):=hid ((b23.block K4 l4).trans Q4.out)
  have P5:Hid (Boxed w3 K5 4 (.bool false)):=hid ((b23.block K5 l5).trans Q5.out)
  have Z3:=hid z3
  have c0:=X2.out.cell 0 _ rfl
  have c1:=X2.out.cell 1 _ rfl
  have c2:=X2.out.cell 2 _ rfl
  have c3:=X2.out.cell 3 _ rfl
  have d4:=X2.out.cell 4 _ rfl
  have d5:=X2.out.cell 5 _ rfl
  have c6:=X2.out.cell 6 _ rfl
  have c7:=X2.out.cell 7 _ rfl
  have c8:=X2.out.cell 8 _ rfl
  have l1:=X2.out.lt
  clear e1 e2 hl hQ hw3 hK8 b23 b8 z3 c4 c5 f4 f5 hz2 QI
  gi_wp2_with fail
  rw [←W3.out,←HK8.out]
  refine ⟨trivial,(callsIn_wide.2 cS.out).mono ?_⟩
  rintro e w4 ⟨b34,gf,lb,rfl,hen,hgo⟩
  have B4:=hid (bel_on B3.out b34)
  have R8:Boxed w4 K8 3 (.int .i64 0):=(b34.block K8 P8.out.lt).trans P8.out
  have R4:Boxed w4 K4 3 (.int .i64 0):=(b34.block K4 P4.out.lt).trans P4.out
  have R5:Boxed w4 K5 4 (.bool false):=(b34.block K5 P5.out.lt).trans P5.out
  obtain ⟨n0,hn0⟩:∃n,n=w4.heap.size:=⟨_,rfl⟩
  have z34:=b34.size
  have lw:=B1.out.size
  have Z3':=Z3.out
  have h4':=H4.out
  have h5':=H5.out
  have z1':=Z1.out
  have z2':=HK8.out
  have K1:w.heap.size≤n0:=by have:=B4.out.size;omega
  have K2:K8<n0:=by omega
  have K3:w.heap.size≤K8:=by have:=B2.out.size;omega
  have K6:n0≤w4.heap.size:=by omega
  have K7:w3.heap.size=K8+1:=by omega
  have N1:w.heap.size≤K4:=by omega
  have N2:w.heap.size≤K5:=by omega
  have N3:K8≠K4:=by omega
  have N4:K8≠K5:=by omega
  have N5:K4<n0:=by omega
  have N6:K5<n0:=by omega
  have HN:=hid hn0
  clear hn0 z34 lw Z3' h4' h5' z1' z2' c0 c1 c2 c3 d4 d5 c6 c7 c8 l1 l4 l5 cS Q4 Q5 X2 P8 P4 P5 W3 HK8 Z3 Z1 H4 H5
  gi_wp2
  refine wpIn_rangeFunc_ownH hro (by omega:1≤5) (gf:=gf) (lb:=lb) rfl trivial hen
   (goes_stops (hgo 4 (by omega)) SG.out (fun A B=>∀j,j<n0→j≠K8→B.heap[j]?=A.heap[j]?) (fun A B h j hj=>h j (by have:=HN.out;omega) (by omega)))
   (fun h k j hj hne=>(k j hj hne).trans (h j hj hne)) (fun W l o o' hl _ _ _ j hj hne=>World.putObj_heap_other (by omega)) (Below.refl _ _) (fun _=>rfl)
   (MI w n0 K4 K5 K8) (MX w K4 K5) (mi_own (by omega)) (fun c=>mx_own (by omega)) ⟨⟨0,sumTo_nil,R8⟩,R4,R5,B4.out,K6⟩
   (fun s a' W=>∃Bx,K8<Bx∧Cells W Bx 33 [.int .i64 s.1.a,.int .i64 s.1.b,.int .i64 s.1.r]∧a' = { tmps:=#[.agg #[.int .i64 x.mt,.int .i64 x.a,.int .i64 x.b,.int .i64 x.allowance,.int .i64 x.block,.int .i64 x.kind,.slice ta x.tiers.length tc,.int .i64 x.mode,.slice aa x.adjusts.length ac],.int .i64 q,.pointer (some ⟨k1,0,none⟩),undef,.pointer (some ⟨K4,0,none⟩),.pointer (some ⟨K5,0,none⟩),.int .i64 Q,.bool true,.pointer (some ⟨K8,0,none⟩),.pointer (some ⟨Bx,0,none⟩),undef,undef,.tuple #[.int .i64 Q,.bool true],.agg #[.int .i64 x.mt,.int .i64 x.a,.int .i64 x.b,.int .i64 x.allowance,.int .i64 x.block,.int .i64 x.kind,.slice ta x.tiers.length tc,.int .i64 x.mode,.slice aa x.adjusts.length ac],.int .i64 q,.tuple #[.int .i64 Q,.bool true],.int .i64 Q,.bool true,.bool true,.bool false,.agg #[.int .i64 x.mt,.int .i64 x.a,.int .i64 x.b,.int .i64 x.allowance,.int .i64 x.block,.int .i64 x.kind,.slice ta x.tiers.length tc,.int .i64 x.mode,.slice aa x.adjusts.length ac],.int .i64 Q,.func (.func gf) #[] lb,.agg #[.int .i64 s.1.a,.int .i64 s.1.b,.int .i64 s.1.r],undef,undef,undef,undef,undef,undef,undef,undef,undef,undef,undef,undef,undef,undef,undef,undef,undef,undef,undef,undef,undef,undef],defers:=[] })
   (fun s a' u A C row h hg hr=>by
    obtain ⟨Bx,h1,h2,h3⟩:=h
    exact ⟨Bx,h1,cells_own Bx _ _ _ u A C row h2 hg hr,h3⟩)
   ?assign ?body ?done ?stop
  case assign=>
   intro l pre s W K hI hK
   unfold encS
   gi_wp2
   exact hK _ _ ((KeepsOthers.alloc _ _).from _) (fun j hj hne=>Below.heap_alloc W _ j (by have:=hI.size;omega)) ((mi_own (B:=W.heap.size) hI.bel.size).alloc _ hI) ⟨W.heap.size,by have:=hI.size;omega,World.alloc_heap_new W _,rfl⟩
  case body=>
   rintro l pre s a' W hl hrr hI ⟨Bx,hBx,hC,rfl⟩ hlt
   obtain ⟨t,hT,b8⟩:=hI.tot
   obtain ⟨sa,sb,sr,sd⟩:=s.2
   have c8:=b8.cell
   have f8:=b8.frozen
   have l8:=b8.lt
   have c4:=hI.r4.cell
   have f4:=hI.r4.frozen
   have l4:=hI.r4.lt
   have c5:=hI.r5.cell
   have f5:=hI.r5.frozen
   have l5:=hI.r5.lt
   have hs0:W.cell? ⟨Bx,0,none⟩=some (.int .i64 s.1.a):=hC.cell 0
   have hs1:W.cell? ⟨Bx,1,none⟩=some (.int .i64 s.1.b):=hC.cell 1
   have hs2:W.cell? ⟨Bx,2,none⟩=some (.int .i64 s.1.r):=hC.cell 2
   have hlB:=hC.lt
   have wd:IntKind.i64.wrap (s.1.b-s.1.a)=s.1.b-s.1.a:=wrap_i sd
   have cM:=hid (Ex.mul_any s.1.r (s.1.b-s.1.a) W sr sd)
   have HI:=hid hI
   have HT:=hid hT
   have HB8:=hid b8
   clear hI hT b8 hC
   by_cases hm:I64 (s.1.r*(s.1.b-s.1.a))
   ·rw [cut64_t hm,ok64_t hm] at cM
    obtain ⟨M,hM⟩:∃M,M=s.1.r*(s.1.b-s.1.a):=⟨_,rfl⟩
    have HM:=hid (show M=stW s.1 from hM)
    rw [←hM] at cM hm
    have cA:=hid (Ex.add_any t M W HT.out.1 hm)
    have MI64:=hid hm
    clear hM hm
    by_cases ha:I64 (t+M)
    ·rw [cut64_t ha,ok64_t ha] at cA
     have NX:=hid (show SumTo (t+M) (vals (pre++[s])) by rw [vals_snoc,HM.out];exact sumTo_next HT.out (by rw [←HM.out];exact MI64.out) (by rw [←HM.out];exact ha))
     clear ha
     gi_wp2_with fail
     refine ⟨trivial,(CallsIn.inRound l (callsIn_wide.2 cM.out)).mono ?_⟩
     rintro e w5 ⟨rfl,rfl⟩
     gi_wp2_with fail
     refine ⟨trivial,(CallsIn.inRound l (callsIn_wide.2 cA.out)).mono ?_⟩
     rintro e w5 ⟨rfl,rfl⟩
     gi_wp2
     refine ⟨(KeepsOthers.setCell _ _ _).from _,fun j hj hne=>Below.heap_setCell _ ⟨K8,0,none⟩ _ j hne,⟨⟨_,NX.out,HB8.out.set _⟩,HI.out.r4.other N3.symm _,HI.out.r5.other N4.symm _,HI.out.bel.setCell (p:=⟨K8,0,none⟩) K3 _,?_⟩⟩
     have:=HI.out.size
     simpa using this
    ·rw [cut64_f ha,ok64_f ha] at cA
     have NO:=hid (show ∀rest,sumS 0 (vals (pre++[s])++rest)=none from fun rest=>by
      rw [vals_snoc,List.append_assoc]
      exact sumTo_no HT.out (.inr (by rw [←HM.out];exact ha)) rest)
     clear ha
     gi_wp2_with fail
     refine ⟨trivial,(CallsIn.inRound l (callsIn_wide.2 cM.out)).mono ?_⟩
     rintro e w5 ⟨rfl,rfl⟩
     gi_wp2_with fail
     refine ⟨trivial,(CallsIn.inRound l (callsIn_wide.2 cA.out)).mono ?_⟩
     rintro e w5 ⟨rfl,rfl⟩
     gi_wp2
     exact ⟨(((KeepsOthers.setCell _ _ _).trans (KeepsOthers.setCell _ _ _)).trans (KeepsOthers.setCell _ _ _)).from _,rfl,NO.out,((HI.out.r4.other N3.symm _).set _).other n45 _,((HI.out.r5.other N4.symm _).other n54 _).set _,((HI.out.bel.setCell (p:=⟨K8,0,none⟩) K3 _).setCell (p:=⟨K4,0,none⟩) N1 _).setCell (p:=⟨K5,0,none⟩) N2 _⟩
   ·rw [cut64_f hm,ok64_f hm] at cM
    have NO:=hid (show ∀rest,sumS 0 (vals (pre++[s])++rest)=none from fun rest=>by
     rw [vals_snoc,List.append_assoc]
     exact sumTo_no HT.out (.inl hm) rest)
    clear hm
    gi_wp2_with fail
    refine ⟨trivial,(CallsIn.inRound l (callsIn_wide.2 cM.out)).mono ?_⟩
    rintro e w5 ⟨rfl,rfl⟩
    gi_wp2
    exact ⟨((KeepsOthers.setCell _ _ _).trans (KeepsOthers.setCell _ _ _)).from _,rfl,NO.out,(HI.out.r4.set _).other n45 _,(HI.out.r5.other n54 _).set _,(HI.out.bel.setCell (p:=⟨K4,0,none⟩) N1 _).setCell (p:=⟨K5,0,none⟩) N2 _⟩
  case done=>
   rintro D ys W hD hys hI hK
   obtain ⟨t,hT,b8⟩:=hI.tot
   have c8:=b8.cell
   have c4:=hI.r4.cell
   have f4:=hI.r4.frozen
   have c5:=hI.r5.cell
   have f5:=hI.r5.frozen
   have EV:=hid (show microO x q=some t by rw [EM.out,←hys];exact sumTo_all hT)
   have HI:=hid hI
   clear hT b8 hI hys
   gi_wp2
   have hK':=((KeepsOthers.setCell W ⟨K4,0,none⟩ (.int .i64 t)).trans (KeepsOthers.setCell _ ⟨K5,0,none⟩ (.bool true))).same D _ hK rfl
   refine ⟨by simp,.inl ⟨_,_,rfl,run_takeDeferred hK',?_⟩⟩
   have h4:=cell_kept ((HI.out.r4.set (.int .i64 t)).other n45 (.bool true)).cell (grownBy_putObj' _ D (.deferred none)) (fun r e=>by cases e;exact ⟨_,hK',rfl⟩)
   have h5:=cell_kept ((HI.out.r5.other n54 (.int .i64 t)).set (.bool true)).cell (grownBy_putObj' _ D (.deferred none)) (fun r e=>by cases e;exact ⟨_,hK',rfl⟩)
   refine ⟨_,results_m _ _ K4 K5 t true rfl rfl h4 h5,by rw [EV.out];rfl,?_⟩
   exact ((HI.out.bel.setCell (p:=⟨K4,0,none⟩) N1 _).setCell (p:=⟨K5,0,none⟩) N2 _).trans (belowK_b (w:=w) (Nat.le_refl _) _ D _ _ (by have:=HI.out.bel.size;omega) hK' rfl rfl)
  case stop=>
   rintro D c pre W hD hSp hIx hK
   obtain rfl:=hIx.code
   have EV:=hid (show microO x q=none by
    obtain ⟨r,hr⟩:=hSp
    rw [EM.out,←hr]
    exact hIx.no r)
   have HI:=hid hIx
   clear hIx hSp
   gi_wp2
   refine ⟨by simp,.inl ⟨_,_,rfl,run_takeDeferred hK,?_⟩⟩
   have h4:=cell_kept HI.out.r4.cell (grownBy_putObj' _ D (.deferred none)) (fun r e=>by cases e;exact ⟨_,hK,rfl⟩)
   have h5:=cell_kept HI.out.r5.cell (grownBy_putObj' _ D (.deferred none)) (fun r e=>by cases e;exact ⟨_,hK,rfl⟩)
   refine ⟨_,results_m _ _ K4 K5 0 false rfl rfl h4 h5,by rw [EV.out];rfl,?_⟩
   exact HI.out.bel.trans (belowK_b (w:=w) (Nat.le_refl _) _ D _ _ (by have:=HI.out.bel.size;omega) hK rfl rfl)
end Tg
namespace Tg
open Go.RowKit Go.Sort Go.Shelf P Mm Md R6 Te Co R10 R11 L11
theorem micro_in {x:Prt} (g:GoodT x) {q m:Int} (h:microO x q=some m):I64 m:=by
 rw [microO_eq g] at h
 split at h
 ·rename_i k
  rw [Bool.and_eq_true] at k
  obtain rfl:=Option.some.inj h
  rcases Classical.em (I64 (costP x q)) with i|i
  ·exact i
  ·have:=k.2
   rw [ok64_f i] at this
   cases this
 ·cases h
theorem charge_any (x:Prt) (ta:Option Addr) (tc:Nat) (aa:Option Addr) (ac:Nat) (q:Int) (w:World) (ht:Row tTier w ta x.tiers.length tc x.tiers) (hq:I64 q) (g:GoodT x) :
  Calls Try.prog 12 #[.agg #[.int .i64 x.mt,.int .i64 x.a,.int .i64 x.b,.int .i64 x.allowance,.int .i64 x.block,.int .i64 x.kind,.slice ta x.tiers.length tc,.int .i64 x.mode,.slice aa x.adjusts.length ac],.int .i64 q] w fun e w'=>e=.returned (.tuple #[.int .i64 (oV (chargeO x q)),.bool (oB (chargeO x q))])∧Below w.heap.size w w':=by
 obtain ⟨w1,hw1⟩:∃W,W=w.alloc (.cells ([.int .i64 x.mt,.int .i64 x.a,.int .i64 x.b,.int .i64 x.allowance,.int .i64 x.block,.int .i64 x.kind,.slice ta x.tiers.length tc,.int .i64 x.mode,.slice aa x.adjusts.length ac]:List Value).toArray 25):=⟨_,rfl⟩
 obtain ⟨k1,hk1⟩:∃k,k=w.heap.size:=⟨_,rfl⟩
 have b1:Below w.heap.size w w1:=by rw [hw1];exact bel_alloc _ _
 have X1:Box w1 k1 [.int .i64 x.mt,.int .i64 x.a,.int .i64 x.b,.int .i64 x.allowance,.int .i64 x.block,.int .i64 x.kind,.slice ta x.tiers.length tc,.int .i64 x.mode,.slice aa x.adjusts.length ac]:=by rw [hw1,hk1];exact Box.new w _ 25
 have cM:=hid (micro_any x ta tc aa ac q w1 (ht.on b1) hq g)
 have HX:=hid X1
 have HB1:=hid b1
 have HW:=hid hw1
 have HK:=hid hk1
 have GD:=hid g
 clear hw1 hk1 X1 b1 hq g ht
 go_enter Try.func12,Try.ntmps12
 go_upto_region 1 with fail
 rw [←HW.out,←HK.out]
 have c0:=HX.out.cell 0 _ rfl
 have c1:=HX.out.cell 1 _ rfl
 have c2:=HX.out.cell 2 _ rfl
 have c3:=HX.out.cell 3 _ rfl
 have c4:=HX.out.cell 4 _ rfl
 have c5:=HX.out.cell 5 _ rfl
 have c6:=HX.out.cell 6 _ rfl
 have c7:=HX.out.cell 7 _ rfl
 have c8:=HX.out.cell 8 _ rfl
 have l1:=HX.out.lt
 go_wp2_with fail
 refine cM.out.mono ?_
 rintro e w2 ⟨rfl,b2⟩
 have B2:=hid (bel_on HB1.out b2)
 have X2:=HX.out.on b2
 clear c0 c1 c2 c3 c4 c5 c6 c7 c8 l1 cM b2 HW HK HX
 have c7:=X2.cell 7 _ rfl
 have l1:=X2.lt
 clear X2
 rcases hm:microO x q with _|m
 ·have e:=hid (show chargeO x q=none by unfold chargeO;rw [hm];rfl)
  rw [show oV (none:Option Int)=0 from rfl,show oB (none:Option Int)=false from rfl]
  clear hm
  go_wp2
  go_ret2
  exact ⟨by rw [e.out];rfl,B2.out⟩
 ·have hi:=micro_in GD.out hm
  have e:=hid (show chargeO x q=some (rnd m 1000000 x.mode) by unfold chargeO;rw [hm];rfl)
  rw [show oV (some m)=m from rfl,show oB (some m)=true from rfl]
  obtain ⟨d1,d2⟩:=mdb_i64 (c:=1000000) hi (by omega) (gt_mode GD.out)
  have cD:=fun W=>Rd.div_any m 1000000 x.mode W hi (by unfold I64;omega)
  rw [d1,d2] at cD
  have cD:=hid cD
  clear hm hi d1 d2
  go_wp2_with fail
  refine (cD.out _).mono ?_
  rintro e w3 ⟨rfl,n,rfl⟩
  go_wp2
  go_ret2
  exact ⟨by rw [e.out];rfl,P.bel_drewN B2.out n⟩
theorem ti:Ti:=⟨fun x ta tc aa ac q w ht hq g=>micro_any x ta tc aa ac q w ht hq g,fun x ta tc aa ac q w ht hq g=>charge_any x ta tc aa ac q w ht hq g⟩
end Tg
namespace Hu
open Go
section
variable {P:Program} {ops:Array Oper} {Q:Exit→Act→World→Prop} {md:Region.Mode} {S:World→Prop} {st:Nat}
def wpAnyU (P:Program) (md:Region.Mode) (ops:Array Oper) (Q:Exit→Act→World→Prop) (S:World→Prop) (st:Nat):Nat→Array Bool→Act→World→Prop
 | 0,listed,a,w=>Region.ready md ops listed=[]∧Q .normal a w
 | fuel+1,listed,a,w=>
   (Region.ready md ops listed=[]→Q .normal a w)∧
   ∀i∈Region.ready md ops listed,wpOp P ops Q i (fun a' w'=>((listed.setIfInBounds i true).getD st true=false→S w')∧wpAnyU P md ops Q S st fuel (listed.setIfInBounds i true) a' w') a w
def AllReadyU (P:Program) (md:Region.Mode) (ops:Array Oper) (Q:Exit→Act→World→Prop) (S:World→Prop) (st:Nat) (fuel:Nat) (listed:Array Bool) (a:Act) (w:World) (rs:List Nat):Prop:=
 ∀i∈rs,wpOp P ops Q i (fun a' w'=>((listed.setIfInBounds i true).getD st true=false→S w')∧wpAnyU P md ops Q S st fuel (listed.setIfInBounds i true) a' w') a w
theorem AllReadyU.nil {fuel:Nat} {listed:Array Bool} {a:Act} {w:World} : AllReadyU P md ops Q S st fuel listed a w []:=fun _ h=>by cases h
theorem AllReadyU.cons {fuel:Nat} {listed:Array Bool} {a:Act} {w:World} {i:Nat} {o:Oper} {rs:List Nat} (ho:ops[i]?=some o)
  (h:∀K':Act→World→Prop,Shut (∀a w,S w→(S w→wpAnyU P md ops Q S st fuel (listed.setIfInBounds i true) a w)→K' a w)→if Region.wanted o (yielded ops a.tmps)=true then Oper.wp P o a w K' Q else K' (a.put o.dst undef) w)
  (hs:AllReadyU P md ops Q S st fuel listed a w rs):AllReadyU P md ops Q S st fuel listed a w (i::rs):=fun j hj=>by
 rcases List.mem_cons.1 hj with rfl|hj
 ·exact wpOp_step ho (fun K' hK=>h K' (fun a w hS hW=>hK a w ⟨fun _=>hS,hW hS⟩))
 ·exact hs j hj
theorem AllReadyU.last {fuel:Nat} {listed:Array Bool} {a:Act} {w:World} {i:Nat} {o:Oper} {rs:List Nat} (ho:ops[i]?=some o) (hst:(listed.setIfInBounds i true).getD st true=true)
  (h:∀K':Act→World→Prop,Shut (∀a w,wpAnyU P md ops Q S st fuel (listed.setIfInBounds i true) a w→K' a w)→if Region.wanted o (yielded ops a.tmps)=true then Oper.wp P o a w K' Q else K' (a.put o.dst undef) w)
  (hs:AllReadyU P md ops Q S st fuel listed a w rs):AllReadyU P md ops Q S st fuel listed a w (i::rs):=fun j hj=>by
 rcases List.mem_cons.1 hj with rfl|hj
 ·exact wpOp_step ho (fun K' hK=>h K' (fun a w hW=>hK a w ⟨fun h0=>(by rw [hst] at h0;cases h0),hW⟩))
 ·exact hs j hj
end
section
variable {P:Program} {ops:Array Oper} {Q:Exit→Act→World→Prop} {md:Region.Mode} {S:World→Prop} {st:Nat}
theorem ph (i:Nat) {dst:Option Tmp} {op:Op} {ty:TypeId} {pos:String} {after:Array Edge} {gd:Option (Nat×Bool)} {v:Value} {fuel:Nat} {listed:Array Bool} {a:Act} {w:World} (hy:∀w,S w→(execOp a.eval ⟨dst,op,ty,pos,after,gd⟩).run P w=.ok (.value v) w)
  (h:wpAnyH P md ops Q S fuel (listed.setIfInBounds i true) (a.put dst v) w) (hr:(Region.ready md ops listed).contains i=true:=by decide +kernel) (hi:ops[i]?=some ⟨dst,op,ty,pos,after,gd⟩:=by rfl)
  (hwd:Region.wanted ⟨dst,op,ty,pos,after,gd⟩ (yielded ops a.tmps)=true:=by rfl)
  (hs:Region.noSelect ops=true:=by kernel_rfl) (hf:Region.free md ops listed i=true:=by kernel_rfl)
  (hQ:∀c a w,Q (.panic c) (a.put dst v) w→Q (.panic c) a w:=by exact fun _ _ _ h=>h) (hS:S w:=by assumption):wpAnyH P md ops Q S (fuel+1) listed a w:=
 wpAnyH_take hi hs hf hr hQ (Or.inl ⟨hwd,hy⟩) hS h
end
end Hu
namespace L11
open Go.RowKit Go.Sort P Mm Md R6 Te Co R10 R11
theorem stp_at {w:World} {ao:Option Addr} {len cap:Nat} {xs:List Stp} (h:Row tStp w ao len cap xs) {j:Nat} {m:Stp} (hj:xs[j]?=some m) :
  ∃b o,ao=some ⟨b,o,none⟩∧b<w.heap.size∧w.cell? ⟨b,o+j*3,none⟩=some (.int .i64 m.a)∧w.cell? ⟨b,o+j*3+1,none⟩=some (.int .i64 m.b)∧w.cell? ⟨b,o+j*3+2,none⟩=some (.int .i64 m.r):=by
 obtain ⟨b,o,cs,h1,h2,⟨h3,_⟩,h4⟩:=h.at hj
 subst h3
 exact ⟨b,o,h1,h2,h4 0 _ rfl,h4 1 _ rfl,h4 2 _ rfl⟩
theorem steps_walk (T:Ti) (S:St) (x:Prt) (ta:Option Addr) (tc:Nat) (aa:Option Addr) (ac:Nat) (q most:Int) (w:World) (hq:I64 q) (ht:Row tTier w ta x.tiers.length tc x.tiers) (ha:Row tAdj w aa x.adjusts.length ac x.adjusts) :
  Calls Try.prog 3 #[.agg #[.int .i64 x.mt,.int .i64 x.a,.int .i64 x.b,.int .i64 x.allowance,.int .i64 x.block,.int .i64 x.kind,.slice ta x.tiers.length tc,.int .i64 x.mode,.slice aa x.adjusts.length ac],.int .i64 q,.int .i64 most] w fun e w'=>e=.returned (.bool true)∧Below w.heap.size w w':=by
 obtain ⟨w1,hw1⟩:∃W,W=w.alloc (.cells ([.int .i64 x.mt,.int .i64 x.a,.int .i64 x.b,.int .i64 x.allowance,.int .i64 x.block,.int .i64 x.kind,.slice ta x.tiers.length tc,.int .i64 x.mode,.slice aa x.adjusts.length ac]:List Value).toArray 25):=⟨_,rfl⟩
 obtain ⟨k1,hk1⟩:∃k,k=w.heap.size:=⟨_,rfl⟩
 have b1:Below w.heap.size w w1:=by rw [hw1];exact bel_alloc _ _
 have X1:Box w1 k1 [.int .i64 x.mt,.int .i64 x.a,.int .i64 x.b,.int .i64 x.allowance,.int .i64 x.block,.int .i64 x.kind,.slice ta x.tiers.length tc,.int .i64 x.mode,.slice aa x.adjusts.length ac]:=by rw [hw1,hk1];exact Box.new w _ 25
 have X:=hid (fun (W:World) (b:Below w1.heap.size w1 W)=>(⟨X1.on b,bel_on b1 b⟩:Box W k1 [.int .i64 x.mt,.int .i64 x.a,.int .i64 x.b,.int .i64 x.allowance,.int .i64 x.block,.int .i64 x.kind,.slice ta x.tiers.length tc,.int .i64 x.mode,.slice aa x.adjusts.length ac]∧Below w.heap.size w W))
 have HT:=hid (fun (W:World) (b:Below w1.heap.size w1 W)=>(⟨ht.on (bel_on b1 b),ha.on (bel_on b1 b)⟩:Row tTier W ta x.tiers.length tc x.tiers∧Row tAdj W aa x.adjusts.length ac x.adjusts))
 have HW:=hid hw1
 have HK:=hid hk1
 have cA:=hid (alive_any T w1)
 have HQ:=hid hq
 clear hw1 hk1 b1 X1 ht ha hq
 go_enter Try.func3,Try.ntmps3
 go_upto_region 1 with fail
 rw [←HW.out,←HK.out]
 clear HW HK
 go_wp2_with fail
 refine cA.out.mono ?_
 rintro e w2 ⟨rfl,b2⟩
 have B2:=hid b2
 have Y:=(X.out w2 b2).1
 have c0:=Y.cell 0 _ rfl;have c1:=Y.cell 1 _ rfl;have c2:=Y.cell 2 _ rfl;have c3:=Y.cell 3 _ rfl;have c4:=Y.cell 4 _ rfl;have c5:=Y.cell 5 _ rfl;have c6:=Y.cell 6 _ rfl;have c7:=Y.cell 7 _ rfl;have c8:=Y.cell 8 _ rfl
 have l1:=Y.lt
 have cG:=hid (good_any x ta tc aa ac w2 (HT.out w2 b2).1 (HT.out w2 b2).2)
 clear b2 cA Y
 go_wp2_with fail
 refine cG.out.mono ?_
 rintro e w3 ⟨rfl,b3⟩
 have B3:=hid (bel_on B2.out b3)
 have Y:=(X.out w3 B3.out).1
 have BF:=hid (X.out w3 B3.out).2
 clear b3 cG B2 c0 c1 c2 c3 c4 c5 c6 c7 c8 l1
 have c3:=Y.cell 3 _ rfl;have c4:=Y.cell 4 _ rfl
 have l1:=Y.lt
 rcases Bool.eq_false_or_eq_true (goodX x) with hg|hg
 rotate_left
 ·rw [hg]
  clear hg
  go_wp2
  go_ret
  exact ⟨rfl,BF.out⟩
 rw [hg]
 have g:=(goodX_t hg).1
 obtain ⟨g0,g1⟩:=g.allow
 obtain ⟨g2,g3⟩:=g.block
 have GD:=hid g
 clear hg g
 have g:=GD.out
 have KS:Hid (∀w',Below w3.heap.size w3 w'→w'.cell? ⟨k1,0,none⟩=some (.int .i64 x.mt)∧w'.cell? ⟨k1,1,none⟩=some (.int .i64 x.a)∧w'.cell? ⟨k1,2,none⟩=some (.int .i64 x.b)∧w'.cell? ⟨k1,3,none⟩=some (.int .i64 x.allowance)∧w'.cell? ⟨k1,4,none⟩=some (.int .i64 x.block)∧w'.cell? ⟨k1,5,none⟩=some (.int .i64 x.kind)∧w'.cell? ⟨k1,6,none⟩=some (.slice ta x.tiers.length tc)∧w'.cell? ⟨k1,7,none⟩=some (.int .i64 x.mode)∧w'.cell? ⟨k1,8,none⟩=some (.slice aa x.adjusts.length ac)∧k1<w'.heap.size):=hid fun W b=>⟨(X.out W (bel_on B3.out b)).1.cell 0 _ rfl,(X.out W (bel_on B3.out b)).1.cell 1 _ rfl,(X.out W (bel_on B3.out b)).1.cell 2 _ rfl,(X.out W (bel_on B3.out b)).1.cell 3 _ rfl,(X.out W (bel_on B3.out b)).1.cell 4 _ rfl,(X.out W (bel_on B3.out b)).1.cell 5 _ rfl,(X.out W (bel_on B3.out b)).1.cell 6 _ rfl,(X.out W (bel_on B3.out b)).1.cell 7 _ rfl,(X.out W (bel_on B3.out b)).1.cell 8 _ rfl,(X.out W (bel_on B3.out b)).1.lt⟩
 have cG:=hid (fun (W:World) (bW:Below w1.heap.size w1 W)=>gone_any S x ta tc aa ac q 20 W (HT.out W bW).1 HQ.out GD.out)
 have cH:=hid (fun (W:World) (bW:Below w1.heap.size w1 W)=>gone_any S x ta tc aa ac q most W (HT.out W bW).1 HQ.out GD.out)
 have cS:=hid (fun (W:World) (bW:Below w1.heap.size w1 W)=>steps_any x ta tc aa ac q W (HT.out W bW).1 HQ.out GD.out)
 obtain ⟨L,hL⟩:∃L,L=stepsP x q:=⟨_,rfl⟩
 have SL:L.length≤8:=by rw [hL];exact stepsP_len g q
 have eG:goneL x q 20=L:=by unfold goneL;rw [←hL];exact List.take_of_length_le (by omega)
 have lH:((goneL x q most).length:Int)=min (max most 0) (L.length:Int):=by
  unfold goneL
  rw [←hL,List.length_take]
  omega
 rw [eG] at cG
 rw [←hL] at cS
 have HL:=hid hL
 obtain ⟨LH,hLH⟩:∃l,l=goneL x q most:=⟨_,rfl⟩
 rw [←hLH] at cH lH
 have HLH:=hid lH
 clear hL eG lH hLH g c3 c4 l1 Y BF
 go_upto_region 5 with fail
 refine wp_region_held_drew (S:=(fun w'=>w'.cell? ⟨k1,0,none⟩=some (.int .i64 x.mt)∧w'.cell? ⟨k1,1,none⟩=some (.int .i64 x.a)∧w'.cell? ⟨k1,2,none⟩=some (.int .i64 x.b)∧w'.cell? ⟨k1,3,none⟩=some (.int .i64 x.allowance)∧w'.cell? ⟨k1,4,none⟩=some (.int .i64 x.block)∧w'.cell? ⟨k1,5,none⟩=some (.int .i64 x.kind)∧w'.cell? ⟨k1,6,none⟩=some (.slice ta x.tiers.length tc)∧w'.cell? ⟨k1,7,none⟩=some (.int .i64 x.mode)∧w'.cell? ⟨k1,8,none⟩=some (.slice aa x.adjusts.length ac)∧k1<w'.heap.size)) (by kernel_rfl) ?_ (fun hHeld=>?_)
 ·exact KS.out _ (Below.drew (Below.refl _ _))
 iterate 4
  first|refine Hu.ph (v:=?_) 0 ?_ ?_|refine Hu.ph (v:=?_) 1 ?_ ?_|refine Hu.ph (v:=?_) 3 ?_ ?_|refine Hu.ph (v:=?_) 4 ?_ ?_
  rotate_left
  ·intro w hSw
   (try dsimp only at hSw)
   go_simp
   all_goals (try with_reducible rfl)
  try simp only [Act.put,List.setIfInBounds_toArray,List.set_cons_zero,List.set_cons_succ]
 refine wpAnyH_ready (rs:=[2]) (by kernel_rfl) (by simp) ?_
 refine AllReadyH.cons (o:=(Oper.mk (some 19) (Op.call _) _ _ _ _)) rfl (fun K hK=>?_) AllReadyH.nil
 go_simp
 go_at_call 10
 refine (cG.out _ (bel_on B3.out (Below.drew (Below.refl _ _)))).mono ?_
 rintro e w4 ⟨⟨ao,cap,rfl,R4⟩,b4⟩
 have B34:=bel_on (Below.drew (Below.refl w3.heap.size w3)) b4
 refine hK.out _ _ ?_ (fun hHeld=>?_)
 ·exact KS.out _ B34
 clear hK K
 try simp only [Act.put,List.setIfInBounds_toArray,List.set_cons_zero,List.set_cons_succ]
 refine wpAnyH_ready (rs:=[5]) (by kernel_rfl) (by simp) ?_
 refine AllReadyH.cons (o:=(Oper.mk (some 22) (Op.call _) _ _ _ _)) rfl (fun K hK=>?_) AllReadyH.nil
 go_simp
 go_at_call 11
 refine (cS.out _ (bel_on B3.out B34)).mono ?_
 rintro e w5 ⟨bo,cbp,rfl,R5,b5⟩
 have B35:=bel_on B34 b5
 refine hK.out _ _ ?_ (fun hHeld=>?_)
 ·exact KS.out _ B35
 clear hK K
 try simp only [Act.put,List.setIfInBounds_toArray,List.set_cons_zero,List.set_cons_succ]
 iterate 2
  first|refine Hu.ph (v:=?_) 6 ?_ ?_|refine Hu.ph (v:=?_) 7 ?_ ?_
  rotate_left
  ·intro w hSw
   (try dsimp only at hSw)
   go_simp
   all_goals (try with_reducible rfl)
  try simp only [Act.put,List.setIfInBounds_toArray,List.set_cons_zero,List.set_cons_succ]
 refine wpAnyH_done (by kernel_rfl) ?_ _
 try dsimp only [Act.put]
 clear hHeld KS
 have B5:=hid (bel_on B3.out B35)
 have R4':=hid (R4.on b5)
 have R5':=hid R5
 have capm:=R4.hmax
 have capl:=R4.hcap
 have cbpm:=R5.hmax
 have cbpl:=R5.hcap
 clear R4 R5 b4 b5 B34 B35 cG cS
 have y1:((LH.length:Int) != min (max most 0) (L.length:Int))=false:=by rw [HLH.out];simp
 have QC:=hid (show (q<1∧L=[])∨(0<q∧0<L.length∧chainS 0 L q) from by
  by_cases h:q<1
  ·exact .inl ⟨h,by rw [HL.out];exact stepsP_none GD.out (by omega)⟩
  ·have hc:=stepsP_chain GD.out (show 0<q by omega)
   rw [←HL.out] at hc
   refine .inr ⟨by omega,?_,hc⟩
   cases L with
   | nil=>have:(0:Int)=q:=hc;omega
   | cons _ _=>simp)
 have KV:=hid (show x.kind=2→L.length≤1 from fun h=>by rw [HL.out];exact stepsP_vol h q)
 clear HLH
 go_upto_region 6 with fail
 go_cut [58] (fun v W=>v=.bool false∧Hid (Below w5.heap.size w5 W))
 case first=>
  have Y:=(X.out w5 B5.out).1
  have c0:=Y.cell 0 _ rfl;have c1:=Y.cell 1 _ rfl;have c2:=Y.cell 2 _ rfl;have c3:=Y.cell 3 _ rfl;have c4:=Y.cell 4 _ rfl;have c5:=Y.cell 5 _ rfl;have c6:=Y.cell 6 _ rfl;have c7:=Y.cell 7 _ rfl;have c8:=Y.cell 8 _ rfl
  have l1:=Y.lt
  clear Y
  go_wp2_with fail
  refine (cH.out _ B5.out).mono ?_
  rintro e w6 ⟨⟨ao2,cap2,rfl,_⟩,b6⟩
  have B6:=hid (bel_on B5.out b6)
  have B56:=hid b6
  clear b6 c0 c1 c2 c3 c4 c5 c6 c7 c8 l1 cH
  have c5:=(X.out w6 B6.out).1.cell 5 _ rfl
  have l1:=(X.out w6 B6.out).1.lt
  have y2:((L.length:Int)==0)=decide (q<1):=by
   rcases QC.out with ⟨h1,h2⟩|⟨h1,h2,_⟩
   ·rw [h2,decide_eq_true h1];rfl
   ·rw [decide_eq_false (by omega)];simp;intro h;rw [h] at h2;simp at h2
  rcases GD.out.kind with hk|hk
  ·have qk:(x.kind==2)=false:=by rw [hk];rfl
   clear hk
   go_wp2
   go_meet
   exact ⟨by simp,B56⟩
  ·have qk:(x.kind==2)=true:=by rw [hk];rfl
   have y3:decide ((1:Int)<(L.length:Int))=false:=decide_eq_false (by have:=KV.out hk;omega)
   clear hk
   go_wp2
   go_meet
   exact ⟨by simp,B56⟩
 case rest=>
  obtain ⟨rfl,b6⟩:=hcut
  have B6:=hid (bel_on B5.out b6.out)
  have R46:=hid (R4'.out.on b6.out)
  have R56:=hid (R5'.out.on b6.out)
  obtain ⟨w6,hw6⟩:∃W,W=wc:=⟨_,rfl⟩
  rw [←hw6] at B6 R46 R56 ⊢
  have BF:=hid (X.out w6 B6.out).2
  clear y1 KV cH b6 hw6 R4' R5' B5 B3
  have CH:=hid (show chainS 0 (L.drop 0) (max q 0) from by
   rcases QC.out with ⟨h1,h2⟩|⟨h1,_,h2⟩
   ·rw [h2]
    show (0:Int)=max q 0
    omega
   ·rw [List.drop_zero,Int.max_eq_left (by omega)]
    exact h2)
  clear QC
  go_wp2
  go_loopw [9,61] (fun a i wr=>∃(at':Int) (i':Nat),a=.int .i64 at'∧i=.int .i64 (i':Int)∧i'≤L.length∧Hid (chainS at' (L.drop i') (max q 0))∧Hid (Below w6.heap.size w6 wr)) (fun _ i _=>L.length-(intOf i).toNat)
  case atStart=>exact ⟨0,0,rfl,rfl,Nat.zero_le _,CH,hid (Below.refl _ _)⟩
  case round=>
   obtain ⟨at',i',rfl,rfl,hi,hC,hb⟩:=hrel
   clear CH
   by_cases hlt:i'<L.length
   ·obtain ⟨s,hs⟩:∃s,L[i']?=some s:=⟨_,List.getElem?_eq_getElem hlt⟩
    obtain ⟨ba,oa,ea,la,a0,a1,a2⟩:=stp_at (R46.out.on hb.out) hs
    subst ea
    obtain ⟨wt,hwt⟩:∃W,W=wr.alloc (.cells ([.int .i64 s.a,.int .i64 s.b,.int .i64 s.r]:List Value).toArray 33):=⟨_,rfl⟩
    obtain ⟨kt,hkt⟩:∃k,k=wr.heap.size:=⟨_,rfl⟩
    have bt2:Below wr.heap.size wr wt:=by rw [hwt];exact bel_alloc _ _
    have XT:Box wt kt [.int .i64 s.a,.int .i64 s.b,.int .i64 s.r]:=by rw [hwt,hkt];exact Box.new _ _ _
    have BT:=hid (bel_on hb.out bt2)
    have HXT:=hid XT
    have HWT:=hid hwt
    have HKT:=hid hkt
    have hd:=hC.out
    rw [drop_at hs] at hd
    obtain ⟨h1,h2,h3⟩:=hd
    subst h1
    have NX:=hid h3
    have HS:=hid hs
    clear hwt hkt bt2 XT hs hC h3
    go_upto_region 12 with fail
    rw [←HWT.out,←HKT.out]
    clear HWT HKT a0 a1 a2 la
    obtain ⟨bb,ob,eb,lb,d0,d1,d2⟩:=stp_at (R56.out.on BT.out) HS.out
    subst eb
    have f0:=cell_regrown (HXT.out.cell 0 _ rfl)
    have f1:=cell_regrown (HXT.out.cell 1 _ rfl)
    have f2:=cell_regrown (HXT.out.cell 2 _ rfl)
    have e0:=cell_regrown d0
    have e1:=cell_regrown d1
    have e2:=cell_regrown d2
    have z1:decide (s.b≤s.a)=false:=decide_eq_false (by omega)
    have z2:decide (i'<L.length)=true:=decide_eq_true hlt
    have z3:(i':Int)<(L.length:Int):=by omega
    have z4:decide ((i':Int)<(L.length:Int))=true:=decide_eq_true z3
    have z5:(s.a != s.a)=false:=by simp
    have z6:(s.b != s.b)=false:=by simp
    have z7:(s.r != s.r)=false:=by simp
    have B2:=fun d os=>hid (bel_on BT.out (below_regrown wt d os))
    have HX2:=fun d os=>hid (HXT.out.on (below_regrown wt d os))
    clear d0 d1 d2 lb
    refine wp_region_quiet_below (by kernel_rfl) (by kernel_rfl) ?_
    repeat (go_big_quiet_step (fail))
    refine wpQuiet_nil ?_
    intro _ hw'
    obtain ⟨⟨dq,osq⟩,hw''⟩:=hw'
    subst hw''
    have B3:=B2 dq osq
    have X3:=HX2 dq osq
    clear B2 HX2 f0 f1 f2 e0 e1 e2
    have g1:=X3.out.cell 1 _ rfl
    have lk:=X3.out.lt
    go_wp2
    go_roundw
    case rel=>exact ⟨s.b,i'+1,rfl,by simp,by omega,NX,B3⟩
    case measure=>simp [intOf];omega
   ·have FN:=hid (show at'=max q 0 from by
     have:=hC.out
     rw [List.drop_of_length_le (by omega)] at this
     exact this)
    have BF:=hid (X.out wr (bel_on B6.out hb.out)).2
    have y5:(at'==max q 0)=true:=by rw [FN.out];simp
    clear hC FN hb
    go_wp2
    go_ret
    exact ⟨by first|rfl|(rw [y5];rfl),BF.out⟩
end L11
namespace Mm
open Go.RowKit Go.Deep Go.ChangeShapes Go.WideShapes P
section
variable {H:Type} {enc:TypeId×Value→H} {w:World} {base:Nat} {spare:Nat→Bool} {held:Bool}
theorem open_prt {d:DataW H} {v:Value} {ps:List MemPlace} {r:Reach} {b0:Nat} (hv:Value.okWide Try.prog w r b0 25 v) (h:DataW.Trod enc Try.prog w base spare held 25 v d ps) :
  ∃x ta tc aa ac,v=.agg (prtC x ta tc aa ac).toArray∧PrtLies w (prtC x ta tc aa ac) x ta tc aa ac:=by
 obtain ⟨fuel,hf⟩:=h
 obtain ⟨p,ta,tc,aa,ac,hp⟩:=down_prt hf
 have hx:=okWide_struct (P:=Try.prog) (t:=25) Try.underlying25 hv
 obtain ⟨cs,hx,_⟩:=hx
 subst hx
 have e:cs.toList=prtC p ta tc aa ac:=hp.cells
 exact ⟨p,ta,tc,aa,ac,by rw [←e],rfl,hp.tiers,hp.adjusts,hp.nums⟩
end
end Mm
end Go.Proofs.Ytcimcdoiiepjoaa
