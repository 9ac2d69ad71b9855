/- Package tiers, walked: Steps: a function that goes over the steps of a part, and may be left at any time. -/
import Derived.Test.YtcimcdoiiepjoaaJTi2
import Derived.Test.YtcimcdoiiepjoaaJBits
set_option maxRecDepth 100000
set_option maxHeartbeats 8000000
namespace Go.Proofs.Ytcimcdoiiepjoaa
namespace P
end P
namespace Mm
end Mm
namespace Md
end Md
namespace R6
end R6
namespace Te
end Te
namespace Co
end Co
namespace R10
end R10
namespace R11
end R11
namespace L11
end L11
namespace Tg
open Go.RowKit Go.Sort Go.Shelf P Mm Md R6 Te Co R10 R11 L11
attribute [local go_sem] Oper.semAt_some
theorem row_block {A B:World} {b o len cap:Nat} {xs:List Tier} (h:Row tTier A (some ⟨b,o,none⟩) len cap xs) (e:B.heap[b]?=A.heap[b]?):Row tTier B (some ⟨b,o,none⟩) len cap xs:=
 ⟨h.hlen,h.hcap,h.hmax,fun n=>by
  obtain ⟨b',o',h1,h2,h3⟩:=h.lie n
  obtain ⟨rfl,rfl⟩:b'=b∧o'=o:=by
   have:=Option.some.inj h1
   simp only [Addr.mk.injEq] at this
   exact ⟨this.1.symm,this.2.1.symm⟩
  refine ⟨b',o',rfl,?_,fun j x hj=>?_⟩
  ·rcases Nat.lt_or_ge b' B.heap.size with k|k
   ·exact k
   ·rw [Array.getElem?_eq_none k,Array.getElem?_eq_getElem h2] at e
    cases e
  ·obtain ⟨cs,h4,h5⟩:=h3 j x hj
   exact ⟨cs,h4,fun i v hi=>(World.cell?_of_block (a:=⟨b',o'+j*2+i,none⟩) e).trans (h5 i v hi)⟩⟩
theorem volume_mk (a:Option Addr) (n c:Nat) (q:Int) (w:World):Calls Try.prog 27 #[.slice a n c,.int .i64 q] w fun e w'=>e=.returned (.func (.func 39) #[] #[.pointer (some ⟨w.heap.size+1,0,none⟩),.pointer (some ⟨w.heap.size,0,none⟩)])∧w'=(w.alloc (.cells #[.slice a n c] 22)).alloc (.cells #[.int .i64 q] 3):=by
 go_enter Try.func27,Try.ntmps27
 go_wp2
 go_ret
 refine ⟨?_,rfl⟩
 simp
theorem graduated_mk (a:Option Addr) (n c:Nat) (q:Int) (w:World):Calls Try.prog 28 #[.slice a n c,.int .i64 q] w fun e w'=>e=.returned (.func (.func 41) #[] #[.pointer (some ⟨w.heap.size,0,none⟩),.pointer (some ⟨w.heap.size+1,0,none⟩)])∧w'=(w.alloc (.cells #[.slice a n c] 22)).alloc (.cells #[.int .i64 q] 3):=by
 go_enter Try.func28,Try.ntmps28
 go_wp2
 go_ret
 refine ⟨?_,rfl⟩
 simp
def Goes (n lo hi gf:Nat) (lb:Array Value) (S:List Stp) (w:World):Prop:=
 ∀(l:Nat) (J Jx:List Stp→World→Prop) (W:World),Below w.heap.size w W→AbidesFrom W.heap.size J→
  (∀pre x W1,J pre W1→(pre++[x]) <+: S→YieldAt Fence.wide (n-1) Try.prog l (encS x) W1 fun e W'=>(e=.returned (.bool true)∧J (pre++[x]) W'∧∀j,lo≤j∧j<hi→W'.heap[j]?=W1.heap[j]?)∨(e=.returned (.bool false)∧Jx (pre++[x]) W'))→J [] W→
  CallsIn Fence.wide n Try.prog gf (#[.func (.yield l) #[] #[]]++lb) W fun e W'=>(∃v,e=.returned v)∧((∃ys,ys=S∧J ys W')∨(∃pre,pre <+: S∧Jx pre W'))
theorem hd_kept {lo hi bl bq:Nat} {ts:List Tier} {b o tc:Nat} {q:Int} (h1:lo≤bl∧bl<hi) (h2:lo≤bq∧bq<hi) (h3:lo≤b∧b<hi) (A B:World) (k:∀j,lo≤j∧j<hi→B.heap[j]?=A.heap[j]?) (h:Hd bl bq ts (some ⟨b,o,none⟩) tc q A):Hd bl bq ts (some ⟨b,o,none⟩) tc q B:=
 ⟨(World.cell?_of_block (a:=⟨bl,0,none⟩) (k bl h1)).trans h.lst,(World.cell?_of_block (a:=⟨bq,0,none⟩) (k bq h2)).trans h.qty,row_block h.row (k b h3)⟩
theorem steps_any (x:Prt) (ta:Option Addr) (tc:Nat) (aa:Option Addr) (ac:Nat) (q:Int) (w:World) (ht:Row tTier w ta x.tiers.length tc x.tiers) (g:GoodT x) :
  Calls Try.prog 16 #[.agg #[.int .i64 x.mt,.int .i64 x.a,.int .i64 x.b,.int .i64 x.allowance,.int .i64 x.block,.int .i64 x.kind,.slice ta x.tiers.length tc,.int .i64 x.mode,.slice aa x.adjusts.length ac],.int .i64 q] w fun e w'=>Below w.heap.size w w'∧∃(gf:Nat) (lb:Array Value),e=.returned (.func (.func gf) #[] lb)∧(∀args W,(callFunc gf args).run Try.prog W=.ok (.enter gf args) W)∧∀n,1≤n→Goes n w.heap.size w'.heap.size gf lb (stepsP x q) w':=by
 obtain ⟨w1,hw1⟩:∃W,W=w.alloc (.cells ([.int .i64 x.mt,.int .i64 x.a,.int .i64 x.b,.int .i64 x.allowance,.int .i64 x.block,.int .i64 x.kind,.slice ta x.tiers.length tc,.int .i64 x.mode,.slice aa x.adjusts.length ac]:List Value).toArray 25):=⟨_,rfl⟩
 obtain ⟨k1,hk1⟩:∃k,k=w.heap.size:=⟨_,rfl⟩
 have b1:Below w.heap.size w w1:=by rw [hw1];exact bel_alloc _ _
 have X1:Box w1 k1 [.int .i64 x.mt,.int .i64 x.a,.int .i64 x.b,.int .i64 x.allowance,.int .i64 x.block,.int .i64 x.kind,.slice ta x.tiers.length tc,.int .i64 x.mode,.slice aa x.adjusts.length ac]:=by rw [hw1,hk1];exact Box.new w _ 25
 obtain ⟨n1,n8⟩:=g.len
 have cC:=hid (cloneT_any x.tiers ta tc w1 (ht.on b1) (by omega))
 have c6:=X1.cell 6 _ rfl
 have l1:=X1.lt
 have HX:=hid X1
 have B1:=hid b1
 have HW:=hid hw1
 have HK:=hid hk1
 have GD:=hid g
 have TI:Hid (∀t∈x.tiers,I64 t.upto∧I64 t.rate):=hid (fun t h=>by
  obtain ⟨j,hj⟩:=List.getElem?_of_mem h
  obtain ⟨_,_,_,_,_,⟨_,hok⟩,_⟩:=ht.at hj
  exact hok)
 clear hw1 hk1 b1 X1 g ht
 go_enter Try.func16,Try.ntmps16
 go_upto_region 1 with fail
 rw [←HW.out,←HK.out]
 go_wp2_with fail
 refine cC.out.mono ?_
 rintro e w2 ⟨v,rfl,hv,b2⟩
 obtain ⟨ao,cap,rfl,R⟩:=row_own (n:=2) (cells:=tierC) (ok:=fun t:Tier=>I64 t.upto∧I64 t.rate) (hn:=fun _=>rfl) hv TI.out
 obtain ⟨b,e,hb1⟩:∃b,ao=some ⟨b,0,none⟩∧w1.heap.size≤b:=by
  rcases hv.2 with ⟨h1,h2⟩|⟨g,cp,cur,h1,h2,_⟩
  ·omega
  ·refine ⟨g,?_,h2⟩
   injection h1
 subst e
 have hb2:b<w2.heap.size:=by
  obtain ⟨z,hz⟩:∃z,x.tiers[0]?=some z:=⟨_,List.getElem?_eq_getElem (by omega)⟩
  obtain ⟨b',o',e',hlt,_⟩:=tier_at R hz
  have:=Option.some.inj e'
  simp only [Addr.mk.injEq] at this
  omega
 have X2:=HX.out.on b2
 have c5:=X2.cell 5 _ rfl
 have l2:=X2.lt
 have HR:=hid R
 have B2:=hid (bel_on B1.out b2)
 have KW:Hid (w.heap.size≤w1.heap.size):=hid B1.out.size
 have HB:Hid (w1.heap.size≤b∧b<w2.heap.size):=hid ⟨hb1,hb2⟩
 clear hv R b2 X2 cC c6 l1 hb1 hb2 HX TI HW HK
 obtain ⟨w3,hw3⟩:∃W,W=(w2.alloc (.cells #[.slice (some ⟨b,0,none⟩) x.tiers.length cap] 22)).alloc (.cells #[.int .i64 q] 3):=⟨_,rfl⟩
 have b3:Below w2.heap.size w2 w3:=by rw [hw3];exact ((Below.refl _ w2).alloc (Nat.le_refl _) _).alloc (by simp) _
 have z3:w3.heap.size=w2.heap.size+2:=by rw [hw3];simp
 have L3:w3.cell? ⟨w2.heap.size,0,none⟩=some (.slice (some ⟨b,0,none⟩) x.tiers.length cap):=by
  rw [hw3]
  simp
 have Q3:w3.cell? ⟨w2.heap.size+1,0,none⟩=some (.int .i64 q):=by
  rw [hw3]
  simp
 have H3:=hid (⟨L3,Q3,HR.out.on b3⟩:Hd w2.heap.size (w2.heap.size+1) x.tiers (some ⟨b,0,none⟩) cap q w3)
 have BF:=hid (bel_on B2.out b3)
 have Z3:=hid z3
 have W3:=hid hw3
 clear b3 z3 L3 Q3 hw3 HR
 by_cases hk:x.kind=2
 ·have z:(x.kind==2)=true:=beq_iff_eq.2 hk
  have ES:=hid (show stepsP x q=volS q x.tiers by unfold stepsP;rw [if_pos hk])
  clear hk
  go_wp2_with fail
  refine (volume_mk _ _ _ _ _).mono ?_
  rintro e w4 ⟨rfl,h4⟩
  rw [←W3.out] at h4
  subst h4
  go_wp2
  go_ret
  refine ⟨BF.out,_,_,rfl,enters_of Try.func39 (by kernel_rfl) rfl,fun n hn l J Jx W hW hJ hY h0=>?_⟩
  exact vol_in n hn l _ _ x.tiers _ cap q n1 (by omega) _ J Jx W hJ _ ES.out hY (H3.out.on hW) h0
 ·have z:(x.kind==2)=false:=beq_eq_false_iff_ne.2 hk
  have ES:=hid (show stepsP x q=walkS x.tiers q x.tiers.length 0 0 from (walkS_all GD.out hk q).symm)
  clear hk
  go_wp2_with fail
  refine (graduated_mk _ _ _ _ _).mono ?_
  rintro e w4 ⟨rfl,h4⟩
  rw [←W3.out] at h4
  subst h4
  go_wp2
  go_ret
  refine ⟨BF.out,_,_,rfl,enters_of Try.func41 (by kernel_rfl) rfl,fun n hn l J Jx W hW hJ hY h0=>?_⟩
  exact grad_in n hn l _ _ x.tiers _ cap q (by omega) _ (hd_kept (by have:=KW.out;have:=HB.out;have:=Z3.out;omega) (by have:=KW.out;have:=HB.out;have:=Z3.out;omega) (by have:=KW.out;have:=HB.out;have:=Z3.out;omega)) J Jx W hJ _ ES.out hY (H3.out.on hW) h0
end Tg
namespace Tg
open Go.RowKit Go.Sort Go.Shelf P Mm Md R6 Te Co R10 R11 L11
attribute [local go_sem] Oper.semAt_some
def StOk (s:Stp):Prop:=I64 s.a∧I64 s.b∧I64 s.r∧I64 (s.b-s.a)
abbrev StG:={ s:Stp // StOk s }
def vals (l:List StG):List Stp:=l.map (·.1)
theorem vals_snoc (l:List StG) (s:StG):vals (l++[s])=vals l++[s.1]:=by simp [vals]
theorem goes_stops {n lo hi gf:Nat} {lb:Array Value} {S:List Stp} {w:World} (h:Goes n lo hi gf lb S w) (hS:∀s∈S,StOk s) (Kp:World→World→Prop) (hKp:∀A B,Kp A B→∀j,lo≤j∧j<hi→B.heap[j]?=A.heap[j]?) :
  SeqStopsK Fence.wide n Try.prog gf lb (fun s:StG=>encS s.1) Kp (fun ys=>vals ys=S) (fun pre=>vals pre <+: S) S.length w:=fun l J Jx W hW hJ _ hY h0=>by
 refine (h l (fun ys W=>∃l',vals l'=ys∧J l' W) (fun ys W=>∃l',vals l'=ys∧Jx l' W) W hW ?_ ?_ ⟨[],rfl,h0⟩).mono ?_
 ·rintro ys A B row ⟨l',e,hj⟩ hg hr
  exact ⟨l',e,hJ l' A B row hj hg hr⟩
 ·rintro pre x W1 ⟨l',rfl,hj⟩ hp
  have hx:StOk x:=hS x (hp.subset (by simp))
  have hl:=hp.length_le
  simp [vals] at hl
  obtain ⟨fn,tmps,assign,body,hy,hR⟩:=hY l' ⟨x,hx⟩ W1 hj (by omega)
  refine ⟨fn,tmps,assign,body,hy,hR.mono ?_⟩
  rintro e W' (⟨h1,h2,h3⟩|⟨h1,h2⟩)
  ·exact .inl ⟨h1,⟨_,vals_snoc _ _,h2⟩,hKp _ _ h3⟩
  ·exact .inr ⟨h1,_,vals_snoc _ _,h2⟩
 ·rintro e W' ⟨hv,⟨ys,rfl,l',e,hj⟩|⟨pre,hp,l',e,hj⟩⟩
  ·exact ⟨hv,.inl ⟨l',e,hj⟩⟩
  ·exact ⟨hv,.inr ⟨l',(show vals l' <+: S by rw [e];exact hp),hj⟩⟩
structure MI (w:World) (n0 K4 K5 K8:Nat) (pre:List StG) (W:World):Prop where
 tot:∃t,SumTo t (vals pre)∧Boxed W K8 3 (.int .i64 t)
 r4:Boxed W K4 3 (.int .i64 0)
 r5:Boxed W K5 4 (.bool false)
 bel:Below w.heap.size w W
 size:n0≤W.heap.size
structure MX (w:World) (K4 K5:Nat) (c:Code) (pre:List StG) (W:World):Prop where
 code:c=Code.ret
 no:∀rest,sumS 0 (vals pre++rest)=none
 r4:Boxed W K4 3 (.int .i64 0)
 r5:Boxed W K5 4 (.bool false)
 bel:Below w.heap.size w W
theorem mi_own {w:World} {n0 K4 K5 K8:Nat} {B:Nat} (hB:w.heap.size≤B):OwnFrom B (MI w n0 K4 K5 K8):=by
 intro pre A C row h hg hr
 obtain ⟨t,ht,hb⟩:=h.tot
 have o1:=(Own.from (boxed_own (β:=Unit) K8 3 (fun _=>.int .i64 t)) B) () A C row hb hg hr
 have o2:=(Own.from (boxed_own (β:=Unit) K4 3 (fun _=>.int .i64 0)) B) () A C row h.r4 hg hr
 have o3:=(Own.from (boxed_own (β:=Unit) K5 4 (fun _=>.bool false)) B) () A C row h.r5 hg hr
 have o4:=(ownFrom_below (β:=Unit) (w₀:=w) (Nat.le_refl w.heap.size) hB) () A C row h.bel hg hr
 exact ⟨⟨t,ht,o1⟩,o2,o3,o4,Nat.le_trans h.size hg.size⟩
theorem mx_own {w:World} {K4 K5:Nat} {B:Nat} {c:Code} (hB:w.heap.size≤B):OwnFrom B (MX w K4 K5 c):=by
 intro pre A C row h hg hr
 have o2:=(Own.from (boxed_own (β:=Unit) K4 3 (fun _=>.int .i64 0)) B) () A C row h.r4 hg hr
 have o3:=(Own.from (boxed_own (β:=Unit) K5 4 (fun _=>.bool false)) B) () A C row h.r5 hg hr
 have o4:=(ownFrom_below (β:=Unit) (w₀:=w) (Nat.le_refl w.heap.size) hB) () A C row h.bel hg hr
 exact ⟨h.code,h.no,o2,o3,o4⟩
theorem results_m (tmps:Array Value) (W:World) (K4 K5:Nat) (a:Int) (b:Bool) (h4:tmps.getD 4 undef=.pointer (some ⟨K4,0,none⟩)) (h5:tmps.getD 5 undef=.pointer (some ⟨K5,0,none⟩)) (c4:W.cell? ⟨K4,0,none⟩=some (.int .i64 a)) (c5:W.cell? ⟨K5,0,none⟩=some (.bool b)) :
  (results Try.f14 tmps).run Try.prog W=.ok (.tuple #[.int .i64 a,.bool b]) W:=by
 have h4':tmps[4]?.getD undef=.pointer (some ⟨K4,0,none⟩):=by simpa using h4
 have h5':tmps[5]?.getD undef=.pointer (some ⟨K5,0,none⟩):=by simpa using h5
 simp [results,Try.f14,go_sem,h4',h5',asAddr,c4,c5]
theorem micro_any (x:Prt) (ta:Option Addr) (tc:Nat) (aa:Option Addr) (ac:Nat) (q:Int) (w:World) (ht:Row tTier w ta x.tiers.length tc x.tiers) (hq:I64 q) (g:GoodT x) :
  Calls Try.prog 14 #[.agg #[.int .i64 x.mt,.int .i64 x.a,.int .i64 x.b,.int .i64 x.allowance,.int .i64 x.block,.int .i64 x.kind,.slice ta x.tiers.length tc,.int .i64 x.mode,.slice aa x.adjusts.length ac],.int .i64 q] w fun e w'=>e=.returned (.tuple #[.int .i64 (oV (microO x q)),.bool (oB (microO x q))])∧Below w.heap.size w w':=by
 refine (callsIn_wide (n:=5)).1 ?_
 have hro:Fence.wide.round=none:=rfl
 obtain ⟨w1,hw1⟩:∃W,W=((w.alloc (.cells ([.int .i64 x.mt,.int .i64 x.a,.int .i64 x.b,.int .i64 x.allowance,.int .i64 x.block,.int .i64 x.kind,.slice ta x.tiers.length tc,.int .i64 x.mode,.slice aa x.adjusts.length ac]:List Value).toArray 25)).alloc (.cells #[.int .i64 0] 3)).alloc (.cells #[.bool false] 4):=⟨_,rfl⟩
 obtain ⟨k1,hk1⟩:∃k,k=w.heap.size:=⟨_,rfl⟩
 obtain ⟨K4,hK4⟩:∃k,k=w.heap.size+1:=⟨_,rfl⟩
 obtain ⟨K5,hK5⟩:∃k,k=w.heap.size+1+1:=⟨_,rfl⟩
 have b1:Below w.heap.size w w1:=by rw [hw1];exact (((Below.refl _ w).alloc (Nat.le_refl _) _).alloc (by simp) _).alloc (by simp;omega) _
 have z1:w1.heap.size=w.heap.size+3:=by rw [hw1];simp
 have X1:Box w1 k1 [.int .i64 x.mt,.int .i64 x.a,.int .i64 x.b,.int .i64 x.allowance,.int .i64 x.block,.int .i64 x.kind,.slice ta x.tiers.length tc,.int .i64 x.mode,.slice aa x.adjusts.length ac]:=by
  rw [hw1,hk1]
  exact ((Box.new w _ 25).on (bel_alloc _ _)).on (bel_alloc _ _)
 have b4:Boxed w1 K4 3 (.int .i64 0):=by
  rw [hw1,hK4]
  have:=(Boxed.new (w.alloc (.cells ([.int .i64 x.mt,.int .i64 x.a,.int .i64 x.b,.int .i64 x.allowance,.int .i64 x.block,.int .i64 x.kind,.slice ta x.tiers.length tc,.int .i64 x.mode,.slice aa x.adjusts.length ac]:List Value).toArray 25)) 3 (.int .i64 0)).alloc (.cells #[.bool false] 4)
  simpa using this
 have b5:Boxed w1 K5 4 (.bool false):=by
  rw [hw1,hK5]
  have:=Boxed.new ((w.alloc (.cells ([.int .i64 x.mt,.int .i64 x.a,.int .i64 x.b,.int .i64 x.allowance,.int .i64 x.block,.int .i64 x.kind,.slice ta x.tiers.length tc,.int .i64 x.mode,.slice aa x.adjusts.length ac]:List Value).toArray 25)).alloc (.cells #[.int .i64 0] 3)) 4 (.bool false)
  simpa using this
 have cQ:=hid (quantity_any x ta tc aa ac q w1 hq g)
 have B1:=hid b1
 have HW:=hid hw1
 have HK:=hid hk1
 have H4:=hid hK4
 have H5:=hid hK5
 have HT:=hid ht
 have GD:=hid g
 have X0:=hid X1
 have P4:=hid b4
 have P5:=hid b5
 have Z1:=hid z1
 clear hw1 hk1 hK4 hK5 X1 b1 ht g b4 b5 z1
 refine callsIn_of_wp_marks Try.func14 rfl trivial ?_ hro
 simp only [Try.ntmps14,List.size_toArray,List.length_cons,List.length_nil,Nat.reduceAdd,Nat.reduceSub,Array.replicate_succ,Array.replicate_zero,List.push_toArray,List.append_toArray,List.nil_append,List.cons_append]
 gi_wp2_with fail
 rw [←HW.out]
 rw [←H5.out,←H4.out,←HK.out]
 refine ⟨trivial,(callsIn_wide.2 cQ.out).mono ?_⟩
 rintro e w2 ⟨rfl,b2⟩
 have B2:=hid (bel_on B1.out b2)
 have X2:=hid (X0.out.on b2)
 have b4:Boxed w2 K4 3 (.int .i64 0):=(b2.block K4 P4.out.lt).trans P4.out
 have b5:Boxed w2 K5 4 (.bool false):=(b2.block K5 P5.out.lt).trans P5.out
 have hz2:w1.heap.size≤w2.heap.size:=b2.size
 have n45:K4≠K5:=by have:=H4.out;have:=H5.out;omega
 have n54:K5≠K4:=by omega
 have c4:=b4.cell
 have c5:=b5.cell
 have f4:=b4.frozen
 have f5:=b5.frozen
 have l4:K4<w2.heap.size:=b4.lt
 have l5:K5<w2.heap.size:=b5.lt
 have Q4:=hid b4
 have Q5:=hid b5
 clear b2 cQ HW HK X0 P4 P5 b4 b5
 rcases Bool.eq_false_or_eq_true (lqOk x q) with hl|hl
 rotate_left
 ·have e1:oV (lqO x q)=0:=by unfold lqO;rw [hl];rfl
  have e2:oB (lqO x q)=false:=by unfold lqO;rw [hl];rfl
  have e3:=hid (show microO x q=none by unfold microO;rw [hl];rfl)
  rw [e1,e2]
  clear e1 e2 hl
  gi_wp2
  refine ⟨_,results_m _ _ K4 K5 0 false rfl rfl ?_ ?_,?_⟩
  ·exact ((Q4.out.set _).other n45 _).cell
  ·exact ((Q5.out.other n54 _).set _).cell
  ·exact ⟨by rw [e3.out];rfl,(B2.out.setCell (p:=⟨K4,0,none⟩) (by have:=H4.out;show w.heap.size≤K4;omega) _).setCell (p:=⟨K5,0,none⟩) (by have:=H5.out;show w.heap.size≤K5;omega) _⟩
 ·obtain ⟨Q,hQ⟩:∃Q,Q=lq x q:=⟨_,rfl⟩
  have e1:oV (lqO x q)=Q:=by unfold lqO;rw [hl,hQ];rfl
  have e2:oB (lqO x q)=true:=by unfold lqO;rw [hl];rfl
  have EM:=hid (show microO x q=sumS 0 (stepsP x Q) by unfold microO;rw [hl,hQ];rfl)
  have QI:I64 Q:=by
   unfold lqOk at hl
   rw [Bool.and_eq_true,←hQ] at hl
   rcases Classical.em (I64 Q) with k|k
   ·exact k
   ·rw [ok64_f k] at hl;exact absurd hl.2 (by decide)
  rw [e1,e2]
  have SG:=hid (show ∀s∈stepsP x Q,StOk s from fun s hs=>by
   have:=stepsP_pos GD.out Q s hs
   unfold StOk
   unfold I64 at *
   omega)
  obtain ⟨w3,hw3⟩:∃W,W=w2.alloc (.cells #[.int .i64 0] 3):=⟨_,rfl⟩
  obtain ⟨K8,hK8⟩:∃k,k=w2.heap.size:=⟨_,rfl⟩
  have b23:Below w2.heap.size w2 w3:=by rw [hw3];exact bel_alloc _ _
  have b8:Boxed w3 K8 3 (.int .i64 0):=by rw [hw3,hK8];exact Boxed.new w2 3 (.int .i64 0)
  have z3:w3.heap.size=K8+1:=by rw [hw3,hK8];simp
  have B3:=hid (bel_on B2.out b23)
  have cS:=hid (steps_any x ta tc aa ac Q w3 (HT.out.on B3.out) GD.out)
  have W3:=hid hw3
  have HK8:=hid hK8
  have P8:=hid b8
  have P4:Hid (Boxed w3 K4 3 (.int .i64 0)):=hid ((b23.block K4 l4).trans Q4.out)
  have P5:Hid (Boxed w3 K5 4 (.bool false)):=hid ((b23.block K5 l5).trans Q5.out)
  have Z3:=hid z3
  have c0:=X2.out.cell 0 _ rfl
  have c1:=X2.out.cell 1 _ rfl
  have c2:=X2.out.cell 2 _ rfl
  have c3:=X2.out.cell 3 _ rfl
  have d4:=X2.out.cell 4 _ rfl
  have d5:=X2.out.cell 5 _ rfl
  have c6:=X2.out.cell 6 _ rfl
  have c7:=X2.out.cell 7 _ rfl
  have c8:=X2.out.cell 8 _ rfl
  have l1:=X2.out.lt
  clear e1 e2 hl hQ hw3 hK8 b23 b8 z3 c4 c5 f4 f5 hz2 QI
  gi_wp2_with fail
  rw [←W3.out,←HK8.out]
  refine ⟨trivial,(callsIn_wide.2 cS.out).mono ?_⟩
  rintro e w4 ⟨b34,gf,lb,rfl,hen,hgo⟩
  have B4:=hid (bel_on B3.out b34)
  have R8:Boxed w4 K8 3 (.int .i64 0):=(b34.block K8 P8.out.lt).trans P8.out
  have R4:Boxed w4 K4 3 (.int .i64 0):=(b34.block K4 P4.out.lt).trans P4.out
  have R5:Boxed w4 K5 4 (.bool false):=(b34.block K5 P5.out.lt).trans P5.out
  obtain ⟨n0,hn0⟩:∃n,n=w4.heap.size:=⟨_,rfl⟩
  have z34:=b34.size
  have lw:=B1.out.size
  have Z3':=Z3.out
  have h4':=H4.out
  have h5':=H5.out
  have z1':=Z1.out
  have z2':=HK8.out
  have K1:w.heap.size≤n0:=by have:=B4.out.size;omega
  have K2:K8<n0:=by omega
  have K3:w.heap.size≤K8:=by have:=B2.out.size;omega
  have K6:n0≤w4.heap.size:=by omega
  have K7:w3.heap.size=K8+1:=by omega
  have N1:w.heap.size≤K4:=by omega
  have N2:w.heap.size≤K5:=by omega
  have N3:K8≠K4:=by omega
  have N4:K8≠K5:=by omega
  have N5:K4<n0:=by omega
  have N6:K5<n0:=by omega
  have HN:=hid hn0
  clear hn0 z34 lw Z3' h4' h5' z1' z2' c0 c1 c2 c3 d4 d5 c6 c7 c8 l1 l4 l5 cS Q4 Q5 X2 P8 P4 P5 W3 HK8 Z3 Z1 H4 H5
  gi_wp2
  refine wpIn_rangeFunc_ownH hro (by omega:1≤5) (gf:=gf) (lb:=lb) rfl trivial hen
   (goes_stops (hgo 4 (by omega)) SG.out (fun A B=>∀j,j<n0→j≠K8→B.heap[j]?=A.heap[j]?) (fun A B h j hj=>h j (by have:=HN.out;omega) (by omega)))
   (fun h k j hj hne=>(k j hj hne).trans (h j hj hne)) (fun W l o o' hl _ _ _ j hj hne=>World.putObj_heap_other (by omega)) (Below.refl _ _) (fun _=>rfl)
   (MI w n0 K4 K5 K8) (MX w K4 K5) (mi_own (by omega)) (fun c=>mx_own (by omega)) ⟨⟨0,sumTo_nil,R8⟩,R4,R5,B4.out,K6⟩
   (fun s a' W=>∃Bx,K8<Bx∧Cells W Bx 33 [.int .i64 s.1.a,.int .i64 s.1.b,.int .i64 s.1.r]∧a' = { tmps:=#[.agg #[.int .i64 x.mt,.int .i64 x.a,.int .i64 x.b,.int .i64 x.allowance,.int .i64 x.block,.int .i64 x.kind,.slice ta x.tiers.length tc,.int .i64 x.mode,.slice aa x.adjusts.length ac],.int .i64 q,.pointer (some ⟨k1,0,none⟩),undef,.pointer (some ⟨K4,0,none⟩),.pointer (some ⟨K5,0,none⟩),.int .i64 Q,.bool true,.pointer (some ⟨K8,0,none⟩),.pointer (some ⟨Bx,0,none⟩),undef,undef,.tuple #[.int .i64 Q,.bool true],.agg #[.int .i64 x.mt,.int .i64 x.a,.int .i64 x.b,.int .i64 x.allowance,.int .i64 x.block,.int .i64 x.kind,.slice ta x.tiers.length tc,.int .i64 x.mode,.slice aa x.adjusts.length ac],.int .i64 q,.tuple #[.int .i64 Q,.bool true],.int .i64 Q,.bool true,.bool true,.bool false,.agg #[.int .i64 x.mt,.int .i64 x.a,.int .i64 x.b,.int .i64 x.allowance,.int .i64 x.block,.int .i64 x.kind,.slice ta x.tiers.length tc,.int .i64 x.mode,.slice aa x.adjusts.length ac],.int .i64 Q,.func (.func gf) #[] lb,.agg #[.int .i64 s.1.a,.int .i64 s.1.b,.int .i64 s.1.r],undef,undef,undef,undef,undef,undef,undef,undef,undef,undef,undef,undef,undef,undef,undef,undef,undef,undef,undef,undef,undef,undef],defers:=[] })
   (fun s a' u A C row h hg hr=>by
    obtain ⟨Bx,h1,h2,h3⟩:=h
    exact ⟨Bx,h1,cells_own Bx _ _ _ u A C row h2 hg hr,h3⟩)
   ?assign ?body ?done ?stop
  case assign=>
   intro l pre s W K hI hK
   unfold encS
   gi_wp2
   exact hK _ _ ((KeepsOthers.alloc _ _).from _) (fun j hj hne=>Below.heap_alloc W _ j (by have:=hI.size;omega)) ((mi_own (B:=W.heap.size) hI.bel.size).alloc _ hI) ⟨W.heap.size,by have:=hI.size;omega,World.alloc_heap_new W _,rfl⟩
  case body=>
   rintro l pre s a' W hl hrr hI ⟨Bx,hBx,hC,rfl⟩ hlt
   obtain ⟨t,hT,b8⟩:=hI.tot
   obtain ⟨sa,sb,sr,sd⟩:=s.2
   have c8:=b8.cell
   have f8:=b8.frozen
   have l8:=b8.lt
   have c4:=hI.r4.cell
   have f4:=hI.r4.frozen
   have l4:=hI.r4.lt
   have c5:=hI.r5.cell
   have f5:=hI.r5.frozen
   have l5:=hI.r5.lt
   have hs0:W.cell? ⟨Bx,0,none⟩=some (.int .i64 s.1.a):=hC.cell 0
   have hs1:W.cell? ⟨Bx,1,none⟩=some (.int .i64 s.1.b):=hC.cell 1
   have hs2:W.cell? ⟨Bx,2,none⟩=some (.int .i64 s.1.r):=hC.cell 2
   have hlB:=hC.lt
   have wd:IntKind.i64.wrap (s.1.b-s.1.a)=s.1.b-s.1.a:=wrap_i sd
   have cM:=hid (Ex.mul_any s.1.r (s.1.b-s.1.a) W sr sd)
   have HI:=hid hI
   have HT:=hid hT
   have HB8:=hid b8
   clear hI hT b8 hC
   by_cases hm:I64 (s.1.r*(s.1.b-s.1.a))
   ·rw [cut64_t hm,ok64_t hm] at cM
    obtain ⟨M,hM⟩:∃M,M=s.1.r*(s.1.b-s.1.a):=⟨_,rfl⟩
    have HM:=hid (show M=stW s.1 from hM)
    rw [←hM] at cM hm
    have cA:=hid (Ex.add_any t M W HT.out.1 hm)
    have MI64:=hid hm
    clear hM hm
    by_cases ha:I64 (t+M)
    ·rw [cut64_t ha,ok64_t ha] at cA
     have NX:=hid (show SumTo (t+M) (vals (pre++[s])) by rw [vals_snoc,HM.out];exact sumTo_next HT.out (by rw [←HM.out];exact MI64.out) (by rw [←HM.out];exact ha))
     clear ha
     gi_wp2_with fail
     refine ⟨trivial,(CallsIn.inRound l (callsIn_wide.2 cM.out)).mono ?_⟩
     rintro e w5 ⟨rfl,rfl⟩
     gi_wp2_with fail
     refine ⟨trivial,(CallsIn.inRound l (callsIn_wide.2 cA.out)).mono ?_⟩
     rintro e w5 ⟨rfl,rfl⟩
     gi_wp2
     refine ⟨(KeepsOthers.setCell _ _ _).from _,fun j hj hne=>Below.heap_setCell _ ⟨K8,0,none⟩ _ j hne,⟨⟨_,NX.out,HB8.out.set _⟩,HI.out.r4.other N3.symm _,HI.out.r5.other N4.symm _,HI.out.bel.setCell (p:=⟨K8,0,none⟩) K3 _,?_⟩⟩
     have:=HI.out.size
     simpa using this
    ·rw [cut64_f ha,ok64_f ha] at cA
     have NO:=hid (show ∀rest,sumS 0 (vals (pre++[s])++rest)=none from fun rest=>by
      rw [vals_snoc,List.append_assoc]
      exact sumTo_no HT.out (.inr (by rw [←HM.out];exact ha)) rest)
     clear ha
     gi_wp2_with fail
     refine ⟨trivial,(CallsIn.inRound l (callsIn_wide.2 cM.out)).mono ?_⟩
     rintro e w5 ⟨rfl,rfl⟩
     gi_wp2_with fail
     refine ⟨trivial,(CallsIn.inRound l (callsIn_wide.2 cA.out)).mono ?_⟩
     rintro e w5 ⟨rfl,rfl⟩
     gi_wp2
     exact ⟨(((KeepsOthers.setCell _ _ _).trans (KeepsOthers.setCell _ _ _)).trans (KeepsOthers.setCell _ _ _)).from _,rfl,NO.out,((HI.out.r4.other N3.symm _).set _).other n45 _,((HI.out.r5.other N4.symm _).other n54 _).set _,((HI.out.bel.setCell (p:=⟨K8,0,none⟩) K3 _).setCell (p:=⟨K4,0,none⟩) N1 _).setCell (p:=⟨K5,0,none⟩) N2 _⟩
   ·rw [cut64_f hm,ok64_f hm] at cM
    have NO:=hid (show ∀rest,sumS 0 (vals (pre++[s])++rest)=none from fun rest=>by
     rw [vals_snoc,List.append_assoc]
     exact sumTo_no HT.out (.inl hm) rest)
    clear hm
    gi_wp2_with fail
    refine ⟨trivial,(CallsIn.inRound l (callsIn_wide.2 cM.out)).mono ?_⟩
    rintro e w5 ⟨rfl,rfl⟩
    gi_wp2
    exact ⟨((KeepsOthers.setCell _ _ _).trans (KeepsOthers.setCell _ _ _)).from _,rfl,NO.out,(HI.out.r4.set _).other n45 _,(HI.out.r5.other n54 _).set _,(HI.out.bel.setCell (p:=⟨K4,0,none⟩) N1 _).setCell (p:=⟨K5,0,none⟩) N2 _⟩
  case done=>
   rintro D ys W hD hys hI hK
   obtain ⟨t,hT,b8⟩:=hI.tot
   have c8:=b8.cell
   have c4:=hI.r4.cell
   have f4:=hI.r4.frozen
   have c5:=hI.r5.cell
   have f5:=hI.r5.frozen
   have EV:=hid (show microO x q=some t by rw [EM.out,←hys];exact sumTo_all hT)
   have HI:=hid hI
   clear hT b8 hI hys
   gi_wp2
   have hK':=((KeepsOthers.setCell W ⟨K4,0,none⟩ (.int .i64 t)).trans (KeepsOthers.setCell _ ⟨K5,0,none⟩ (.bool true))).same D _ hK rfl
   refine ⟨by simp,.inl ⟨_,_,rfl,run_takeDeferred hK',?_⟩⟩
   have h4:=cell_kept ((HI.out.r4.set (.int .i64 t)).other n45 (.bool true)).cell (grownBy_putObj' _ D (.deferred none)) (fun r e=>by cases e;exact ⟨_,hK',rfl⟩)
   have h5:=cell_kept ((HI.out.r5.other n54 (.int .i64 t)).set (.bool true)).cell (grownBy_putObj' _ D (.deferred none)) (fun r e=>by cases e;exact ⟨_,hK',rfl⟩)
   refine ⟨_,results_m _ _ K4 K5 t true rfl rfl h4 h5,by rw [EV.out];rfl,?_⟩
   exact ((HI.out.bel.setCell (p:=⟨K4,0,none⟩) N1 _).setCell (p:=⟨K5,0,none⟩) N2 _).trans (belowK_b (w:=w) (Nat.le_refl _) _ D _ _ (by have:=HI.out.bel.size;omega) hK' rfl rfl)
  case stop=>
   rintro D c pre W hD hSp hIx hK
   obtain rfl:=hIx.code
   have EV:=hid (show microO x q=none by
    obtain ⟨r,hr⟩:=hSp
    rw [EM.out,←hr]
    exact hIx.no r)
   have HI:=hid hIx
   clear hIx hSp
   gi_wp2
   refine ⟨by simp,.inl ⟨_,_,rfl,run_takeDeferred hK,?_⟩⟩
   have h4:=cell_kept HI.out.r4.cell (grownBy_putObj' _ D (.deferred none)) (fun r e=>by cases e;exact ⟨_,hK,rfl⟩)
   have h5:=cell_kept HI.out.r5.cell (grownBy_putObj' _ D (.deferred none)) (fun r e=>by cases e;exact ⟨_,hK,rfl⟩)
   refine ⟨_,results_m _ _ K4 K5 0 false rfl rfl h4 h5,by rw [EV.out];rfl,?_⟩
   exact HI.out.bel.trans (belowK_b (w:=w) (Nat.le_refl _) _ D _ _ (by have:=HI.out.bel.size;omega) hK rfl rfl)
end Tg
namespace Tg
open Go.RowKit Go.Sort Go.Shelf P Mm Md R6 Te Co R10 R11 L11
theorem micro_in {x:Prt} (g:GoodT x) {q m:Int} (h:microO x q=some m):I64 m:=by
 rw [microO_eq g] at h
 split at h
 ·rename_i k
  rw [Bool.and_eq_true] at k
  obtain rfl:=Option.some.inj h
  rcases Classical.em (I64 (costP x q)) with i|i
  ·exact i
  ·have:=k.2
   rw [ok64_f i] at this
   cases this
 ·cases h
theorem charge_any (x:Prt) (ta:Option Addr) (tc:Nat) (aa:Option Addr) (ac:Nat) (q:Int) (w:World) (ht:Row tTier w ta x.tiers.length tc x.tiers) (hq:I64 q) (g:GoodT x) :
  Calls Try.prog 12 #[.agg #[.int .i64 x.mt,.int .i64 x.a,.int .i64 x.b,.int .i64 x.allowance,.int .i64 x.block,.int .i64 x.kind,.slice ta x.tiers.length tc,.int .i64 x.mode,.slice aa x.adjusts.length ac],.int .i64 q] w fun e w'=>e=.returned (.tuple #[.int .i64 (oV (chargeO x q)),.bool (oB (chargeO x q))])∧Below w.heap.size w w':=by
 obtain ⟨w1,hw1⟩:∃W,W=w.alloc (.cells ([.int .i64 x.mt,.int .i64 x.a,.int .i64 x.b,.int .i64 x.allowance,.int .i64 x.block,.int .i64 x.kind,.slice ta x.tiers.length tc,.int .i64 x.mode,.slice aa x.adjusts.length ac]:List Value).toArray 25):=⟨_,rfl⟩
 obtain ⟨k1,hk1⟩:∃k,k=w.heap.size:=⟨_,rfl⟩
 have b1:Below w.heap.size w w1:=by rw [hw1];exact bel_alloc _ _
 have X1:Box w1 k1 [.int .i64 x.mt,.int .i64 x.a,.int .i64 x.b,.int .i64 x.allowance,.int .i64 x.block,.int .i64 x.kind,.slice ta x.tiers.length tc,.int .i64 x.mode,.slice aa x.adjusts.length ac]:=by rw [hw1,hk1];exact Box.new w _ 25
 have cM:=hid (micro_any x ta tc aa ac q w1 (ht.on b1) hq g)
 have HX:=hid X1
 have HB1:=hid b1
 have HW:=hid hw1
 have HK:=hid hk1
 have GD:=hid g
 clear hw1 hk1 X1 b1 hq g ht
 go_enter Try.func12,Try.ntmps12
 go_upto_region 1 with fail
 rw [←HW.out,←HK.out]
 have c0:=HX.out.cell 0 _ rfl
 have c1:=HX.out.cell 1 _ rfl
 have c2:=HX.out.cell 2 _ rfl
 have c3:=HX.out.cell 3 _ rfl
 have c4:=HX.out.cell 4 _ rfl
 have c5:=HX.out.cell 5 _ rfl
 have c6:=HX.out.cell 6 _ rfl
 have c7:=HX.out.cell 7 _ rfl
 have c8:=HX.out.cell 8 _ rfl
 have l1:=HX.out.lt
 go_wp2_with fail
 refine cM.out.mono ?_
 rintro e w2 ⟨rfl,b2⟩
 have B2:=hid (bel_on HB1.out b2)
 have X2:=HX.out.on b2
 clear c0 c1 c2 c3 c4 c5 c6 c7 c8 l1 cM b2 HW HK HX
 have c7:=X2.cell 7 _ rfl
 have l1:=X2.lt
 clear X2
 rcases hm:microO x q with _|m
 ·have e:=hid (show chargeO x q=none by unfold chargeO;rw [hm];rfl)
  rw [show oV (none:Option Int)=0 from rfl,show oB (none:Option Int)=false from rfl]
  clear hm
  go_wp2
  go_ret2
  exact ⟨by rw [e.out];rfl,B2.out⟩
 ·have hi:=micro_in GD.out hm
  have e:=hid (show chargeO x q=some (rnd m 1000000 x.mode) by unfold chargeO;rw [hm];rfl)
  rw [show oV (some m)=m from rfl,show oB (some m)=true from rfl]
  obtain ⟨d1,d2⟩:=mdb_i64 (c:=1000000) hi (by omega) (gt_mode GD.out)
  have cD:=fun W=>Rd.div_any m 1000000 x.mode W hi (by unfold I64;omega)
  rw [d1,d2] at cD
  have cD:=hid cD
  clear hm hi d1 d2
  go_wp2_with fail
  refine (cD.out _).mono ?_
  rintro e w3 ⟨rfl,n,rfl⟩
  go_wp2
  go_ret2
  exact ⟨by rw [e.out];rfl,P.bel_drewN B2.out n⟩
theorem ti:Ti:=⟨fun x ta tc aa ac q w ht hq g=>micro_any x ta tc aa ac q w ht hq g,fun x ta tc aa ac q w ht hq g=>charge_any x ta tc aa ac q w ht hq g⟩
end Tg
namespace L11
open Go.RowKit Go.Sort P Mm Md R6 Te Co R10 R11
def asP (x:Prt) (k:Int) (ts:List Tier):Prt:=⟨x.mt,x.a,x.b,x.allowance,x.block,k,ts,x.mode,x.adjusts⟩
theorem asP_good {x:Prt} (g:GoodT x) {k:Int} (hk:k=1∨k=2) {ts:List Tier} (h1:1≤ts.length∧ts.length≤8) (hB:tiersB 0 ts=true):GoodT (asP x k ts):=⟨g.allow,g.block,hk,g.mode,h1,hB,g.adjs⟩
theorem last_in {x:Prt} (g:GoodT x) {N:Nat} (hN:x.tiers.length=N+1) {t:Tier} (h:x.tiers[N]?=some t):0≤t.rate∧t.rate≤1000000000000∧t.upto=0:=by
 have e:x.tiers=x.tiers.take N++[t]:=by
  have:=List.take_append_drop N x.tiers
  rw [drop_at h,List.drop_of_length_le (by omega)] at this
  exact this.symm
 have hB:=g.tiers
 rw [e,tiersB_split] at hB
 simp only [Bool.and_eq_true,decide_eq_true_eq,List.all_append,List.all_cons,List.all_nil,Bool.and_true] at hB
 have:=hB.2.2.2
 unfold rateB at this
 rw [inB_iff] at this
 exact ⟨this.1,this.2,hB.2.1⟩
theorem one_same {x:Prt} (g:GoodT x) {r u:Int} (r0:0≤r) (r1:r≤1000000000000) (u0:1≤u) (u1:u≤1000000) (q:Int) :
  chargeO (asP x 2 [⟨0,r⟩]) q=chargeO (asP x 1 [⟨0,r⟩]) q∧chargeO (asP x 1 [⟨u,r⟩,⟨0,r⟩]) q=chargeO (asP x 1 [⟨0,r⟩]) q∧chargeO (asP x 2 [⟨u,r⟩,⟨0,r⟩]) q=chargeO (asP x 1 [⟨0,r⟩]) q:=by
 have t1:tiersB 0 [⟨0,r⟩]=true:=by
  show (inB r 0 1000000000000&&decide ((0:Int)=0))=true
  rw [inB_iff.2 ⟨r0,r1⟩]
  rfl
 have t2:tiersB 0 [⟨u,r⟩,⟨0,r⟩]=true:=by
  show (inB r 0 1000000000000&&inB u (0+1) 1000000&&(inB r 0 1000000000000&&decide ((0:Int)=0)))=true
  rw [inB_iff.2 ⟨r0,r1⟩,inB_iff.2 ⟨by omega,u1⟩]
  rfl
 have ga:=asP_good g (k:=1) (.inl rfl) (by simp) t1
 have gb:=asP_good g (k:=2) (.inr rfl) (by simp) t1
 have gc:=asP_good g (k:=1) (.inl rfl) (by simp) t2
 have gd:=asP_good g (k:=2) (.inr rfl) (by simp) t2
 refine ⟨one_cost gb ga rfl rfl rfl (fun z=>?_) q,one_cost gc ga rfl rfl rfl (fun z=>?_) q,one_cost gd ga rfl rfl rfl (fun z=>?_) q⟩
 ·show costS (volS z [⟨0,r⟩])=costS (gradS z 0 [⟨0,r⟩])
  rw [cost_one,cost_onev]
 ·show costS (gradS z 0 [⟨u,r⟩,⟨0,r⟩])=costS (gradS z 0 [⟨0,r⟩])
  rw [cost_one,cost_two r u (by omega)]
 ·show costS (volS z [⟨u,r⟩,⟨0,r⟩])=costS (gradS z 0 [⟨0,r⟩])
  rw [cost_one,cost_twov]
theorem one_walk (T:Ti) (x:Prt) (ta:Option Addr) (tc:Nat) (aa:Option Addr) (ac:Nat) (q u:Int) (w:World) (hq:I64 q) (ht:Row tTier w ta x.tiers.length tc x.tiers) (ha:Row tAdj w aa x.adjusts.length ac x.adjusts) :
  Calls Try.prog 6 #[.agg #[.int .i64 x.mt,.int .i64 x.a,.int .i64 x.b,.int .i64 x.allowance,.int .i64 x.block,.int .i64 x.kind,.slice ta x.tiers.length tc,.int .i64 x.mode,.slice aa x.adjusts.length ac],.int .i64 q,.int .i64 u] w fun e w'=>e=.returned (.bool true)∧Below w.heap.size w w':=by
 obtain ⟨w1,hw1⟩:∃W,W=w.alloc (.cells ([.int .i64 x.mt,.int .i64 x.a,.int .i64 x.b,.int .i64 x.allowance,.int .i64 x.block,.int .i64 x.kind,.slice ta x.tiers.length tc,.int .i64 x.mode,.slice aa x.adjusts.length ac]:List Value).toArray 25):=⟨_,rfl⟩
 obtain ⟨k1,hk1⟩:∃k,k=w.heap.size:=⟨_,rfl⟩
 have b1:Below w.heap.size w w1:=by rw [hw1];exact bel_alloc _ _
 have X1:Box w1 k1 [.int .i64 x.mt,.int .i64 x.a,.int .i64 x.b,.int .i64 x.allowance,.int .i64 x.block,.int .i64 x.kind,.slice ta x.tiers.length tc,.int .i64 x.mode,.slice aa x.adjusts.length ac]:=by rw [hw1,hk1];exact Box.new w _ 25
 have X:=hid (fun (W:World) (b:Below w1.heap.size w1 W)=>(⟨X1.on b,bel_on b1 b⟩:Box W k1 [.int .i64 x.mt,.int .i64 x.a,.int .i64 x.b,.int .i64 x.allowance,.int .i64 x.block,.int .i64 x.kind,.slice ta x.tiers.length tc,.int .i64 x.mode,.slice aa x.adjusts.length ac]∧Below w.heap.size w W))
 have HQ:=hid hq
 have tm:=ht.hmax
 have tcp:=ht.hcap
 have HK0:=hid (show k1<w1.heap.size∧w.heap.size≤k1 from ⟨X1.lt,by omega⟩)
 have HT:=hid (fun (W:World) (b:Below w1.heap.size w1 W)=>(⟨ht.on (bel_on b1 b),ha.on (bel_on b1 b)⟩:Row tTier W ta x.tiers.length tc x.tiers∧Row tAdj W aa x.adjusts.length ac x.adjusts))
 have HW:=hid hw1
 have HK:=hid hk1
 have cA:=hid (alive_any T w1)
 have HB1:=hid b1
 clear hw1 hk1 b1 X1 ht ha hq
 go_enter Try.func6,Try.ntmps6
 go_upto_region 1 with fail
 rw [←HW.out,←HK.out]
 clear HW HK
 go_wp2_with fail
 refine cA.out.mono ?_
 rintro e w2 ⟨rfl,b2⟩
 have B2:=hid b2
 have Y:=(X.out w2 b2).1
 have c0:=Y.cell 0 _ rfl;have c1:=Y.cell 1 _ rfl;have c2:=Y.cell 2 _ rfl;have c3:=Y.cell 3 _ rfl;have c4:=Y.cell 4 _ rfl;have c5:=Y.cell 5 _ rfl;have c6:=Y.cell 6 _ rfl;have c7:=Y.cell 7 _ rfl;have c8:=Y.cell 8 _ rfl
 have l1:=Y.lt
 have cG:=hid (good_any x ta tc aa ac w2 (HT.out w2 b2).1 (HT.out w2 b2).2)
 clear b2 cA Y
 go_wp2_with fail
 refine cG.out.mono ?_
 rintro e w3 ⟨rfl,b3⟩
 have B3:=hid (bel_on B2.out b3)
 have Y:=(X.out w3 B3.out).1
 have BF:=hid (X.out w3 B3.out).2
 clear b3 cG B2 c0 c1 c2 c3 c4 c5 c6 c7 c8 l1
 have c3:=Y.cell 3 _ rfl;have c4:=Y.cell 4 _ rfl
 have l1:=Y.lt
 rcases Bool.eq_false_or_eq_true (goodX x) with hg|hg
 rotate_left
 ·rw [hg]
  clear hg
  go_wp2
  go_ret
  exact ⟨rfl,BF.out⟩
 rw [hg]
 have g:=(goodX_t hg).1
 obtain ⟨g0,g1⟩:=g.allow
 obtain ⟨g2,g3⟩:=g.block
 have GD:=hid g
 clear hg g
 by_cases h1:u<1
 ·have z1:decide (u<1)=true:=decide_eq_true h1
  go_wp2
  go_ret
  exact ⟨rfl,BF.out⟩
 have z1:decide (u<1)=false:=decide_eq_false h1
 by_cases h2:1000000<u
 ·have z2:decide (1000000<u)=true:=decide_eq_true h2
  go_wp2
  go_ret
  exact ⟨rfl,BF.out⟩
 have z2:decide (1000000<u)=false:=decide_eq_false h2
 obtain ⟨n1,n8⟩:=GD.out.len
 obtain ⟨N,hN⟩:∃N:Nat,x.tiers.length=N+1:=⟨x.tiers.length-1,by omega⟩
 obtain ⟨t,ht⟩:∃t,x.tiers[N]?=some t:=⟨_,List.getElem?_eq_getElem (by omega)⟩
 obtain ⟨bt,ot,et,-⟩:=tier_at (HT.out w3 B3.out).1 ht
 subst et
 obtain ⟨t0,t1⟩:=tier_in (HT.out w3 B3.out).1 ht
 obtain ⟨r0,r1,ru⟩:=last_in GD.out hN ht
 obtain ⟨r,hr⟩:∃r,r=t.rate:=⟨_,rfl⟩
 rw [←hr] at t1 r0 r1
 rw [ru] at t0
 have SAME:=hid (one_same GD.out r0 r1 (by omega:1≤u) (by omega) q)
 have wn:IntKind.i64.wrap ((x.tiers.length:Int)-1)=(N:Int):=by rw [wrap_i (by unfold I64;omega)];omega
 have nl:N<x.tiers.length:=by omega
 have nl2:(N:Int)<(x.tiers.length:Int):=by omega
 have nl3:(0:Int)≤(N:Int):=by omega
 obtain ⟨w5,hw5⟩:∃W,W=w3.alloc (.cells ([.int .i64 0,.int .i64 r]:List Value).toArray 39):=⟨_,rfl⟩
 obtain ⟨k5,hk5⟩:∃k,k=w3.heap.size:=⟨_,rfl⟩
 have b35:Below w3.heap.size w3 w5:=by rw [hw5];exact bel_alloc _ _
 have Z5:Box w5 k5 [.int .i64 0,.int .i64 r]:=by rw [hw5,hk5];exact Box.new _ _ _
 have Y5:=Y.on b35
 have s5:k5<w5.heap.size:=Z5.lt
 obtain ⟨w6,hw6⟩:∃W,W=w5.alloc (.cells ([.int .i64 x.mt,.int .i64 x.a,.int .i64 x.b,.int .i64 x.allowance,.int .i64 x.block,.int .i64 x.kind,.slice (some ⟨bt,ot,none⟩) x.tiers.length tc,.int .i64 x.mode,.slice aa x.adjusts.length ac]:List Value).toArray 25):=⟨_,rfl⟩
 obtain ⟨ka,hka⟩:∃k,k=w5.heap.size:=⟨_,rfl⟩
 have A6:Box w6 ka [.int .i64 x.mt,.int .i64 x.a,.int .i64 x.b,.int .i64 x.allowance,.int .i64 x.block,.int .i64 x.kind,.slice (some ⟨bt,ot,none⟩) x.tiers.length tc,.int .i64 x.mode,.slice aa x.adjusts.length ac]:=by rw [hw6,hka];exact Box.new _ _ _
 have b56:Below w5.heap.size w5 w6:=by rw [hw6];exact bel_alloc _ _
 obtain ⟨w7,hw7⟩:∃W,W=w6.setCell ⟨ka,5,none⟩ (.int .i64 1):=⟨_,rfl⟩
 have A7:Box w7 ka [.int .i64 x.mt,.int .i64 x.a,.int .i64 x.b,.int .i64 x.allowance,.int .i64 x.block,.int .i64 1,.slice (some ⟨bt,ot,none⟩) x.tiers.length tc,.int .i64 x.mode,.slice aa x.adjusts.length ac]:=by rw [hw7];exact A6.set 5 (.int .i64 1)
 have b57:Below w5.heap.size w5 w7:=by rw [hw7];exact b56.setCell (p:=⟨ka,5,none⟩) (by show w5.heap.size≤ka;omega) _
 have Z7:=Z5.on b57
 have s7:ka<w7.heap.size:=A7.lt
 obtain ⟨w8,hw8⟩:∃W,W=w7.alloc (.cells ([.int .i64 0,.int .i64 r]:List Value).toArray 39):=⟨_,rfl⟩
 obtain ⟨kt,hkt⟩:∃k,k=w7.heap.size:=⟨_,rfl⟩
 have T8:Box w8 kt [.int .i64 0,.int .i64 r]:=by rw [hw8,hkt];exact Box.new _ _ _
 have b78:Below w7.heap.size w7 w8:=by rw [hw8];exact bel_alloc _ _
 obtain ⟨w9,hw9⟩:∃W,W=w8.setCell ⟨ka,6,none⟩ (.slice (some ⟨kt,0,none⟩) 1 1):=⟨_,rfl⟩
 have A9:Box w9 ka [.int .i64 x.mt,.int .i64 x.a,.int .i64 x.b,.int .i64 x.allowance,.int .i64 x.block,.int .i64 1,.slice (some ⟨kt,0,none⟩) 1 1,.int .i64 x.mode,.slice aa x.adjusts.length ac]:=by rw [hw9];exact (A7.on b78).set 6 _
 have T9:Box w9 kt [.int .i64 0,.int .i64 r]:=by rw [hw9];exact T8.other (by show kt≠ka;omega) _
 have b59:Below w5.heap.size w5 w9:=by rw [hw9];exact (bel_on b57 b78).setCell (p:=⟨ka,6,none⟩) (by show w5.heap.size≤ka;omega) _
 have Z9:=Z5.on b59
 have s9:kt<w9.heap.size:=T9.lt
 obtain ⟨w10,hw10⟩:∃W,W=w9.alloc (.cells ([.int .i64 x.mt,.int .i64 x.a,.int .i64 x.b,.int .i64 x.allowance,.int .i64 x.block,.int .i64 1,.slice (some ⟨kt,0,none⟩) 1 1,.int .i64 x.mode,.slice aa x.adjusts.length ac]:List Value).toArray 25):=⟨_,rfl⟩
 obtain ⟨kb,hkb⟩:∃k,k=w9.heap.size:=⟨_,rfl⟩
 have Q10:Box w10 kb [.int .i64 x.mt,.int .i64 x.a,.int .i64 x.b,.int .i64 x.allowance,.int .i64 x.block,.int .i64 1,.slice (some ⟨kt,0,none⟩) 1 1,.int .i64 x.mode,.slice aa x.adjusts.length ac]:=by rw [hw10,hkb];exact Box.new _ _ _
 have b910:Below w9.heap.size w9 w10:=by rw [hw10];exact bel_alloc _ _
 obtain ⟨w11,hw11⟩:∃W,W=w10.setCell ⟨kb,5,none⟩ (.int .i64 2):=⟨_,rfl⟩
 have Q11:Box w11 kb [.int .i64 x.mt,.int .i64 x.a,.int .i64 x.b,.int .i64 x.allowance,.int .i64 x.block,.int .i64 2,.slice (some ⟨kt,0,none⟩) 1 1,.int .i64 x.mode,.slice aa x.adjusts.length ac]:=by rw [hw11];exact Q10.set 5 _
 have b911:Below w9.heap.size w9 w11:=by rw [hw11];exact b910.setCell (p:=⟨kb,5,none⟩) (by show w9.heap.size≤kb;omega) _
 have A11:=A9.on b911
 have T11:=T9.on b911
 have Z11:=Z9.on b911
 obtain ⟨w12,hw12⟩:∃W,W=w11.alloc (.cells ([.int .i64 x.mt,.int .i64 x.a,.int .i64 x.b,.int .i64 x.allowance,.int .i64 x.block,.int .i64 1,.slice (some ⟨kt,0,none⟩) 1 1,.int .i64 x.mode,.slice aa x.adjusts.length ac]:List Value).toArray 25):=⟨_,rfl⟩
 obtain ⟨kc,hkc⟩:∃k,k=w11.heap.size:=⟨_,rfl⟩
 have C12:Box w12 kc [.int .i64 x.mt,.int .i64 x.a,.int .i64 x.b,.int .i64 x.allowance,.int .i64 x.block,.int .i64 1,.slice (some ⟨kt,0,none⟩) 1 1,.int .i64 x.mode,.slice aa x.adjusts.length ac]:=by rw [hw12,hkc];exact Box.new _ _ _
 have b1112:Below w11.heap.size w11 w12:=by rw [hw12];exact bel_alloc _ _
 obtain ⟨w13,hw13⟩:∃W,W=w12.alloc (.cells ([.int .i64 u,.int .i64 r,.int .i64 0,.int .i64 r]:List Value).toArray 39):=⟨_,rfl⟩
 obtain ⟨ku,hku⟩:∃k,k=w12.heap.size:=⟨_,rfl⟩
 have U13:Box w13 ku [.int .i64 u,.int .i64 r,.int .i64 0,.int .i64 r]:=by rw [hw13,hku];exact Box.new _ _ _
 have b1213:Below w12.heap.size w12 w13:=by rw [hw13];exact bel_alloc _ _
 have s12:kc<w12.heap.size:=C12.lt
 obtain ⟨w14,hw14⟩:∃W,W=w13.setCell ⟨kc,6,none⟩ (.slice (some ⟨ku,0,none⟩) 2 2):=⟨_,rfl⟩
 have C14:Box w14 kc [.int .i64 x.mt,.int .i64 x.a,.int .i64 x.b,.int .i64 x.allowance,.int .i64 x.block,.int .i64 1,.slice (some ⟨ku,0,none⟩) 2 2,.int .i64 x.mode,.slice aa x.adjusts.length ac]:=by rw [hw14];exact (C12.on b1213).set 6 _
 have U14:Box w14 ku [.int .i64 u,.int .i64 r,.int .i64 0,.int .i64 r]:=by rw [hw14];exact U13.other (by show ku≠kc;omega) _
 have b1114:Below w11.heap.size w11 w14:=by rw [hw14];exact (bel_on b1112 b1213).setCell (p:=⟨kc,6,none⟩) (by show w11.heap.size≤kc;omega) _
 obtain ⟨w15,hw15⟩:∃W,W=w14.alloc (.cells ([.int .i64 x.mt,.int .i64 x.a,.int .i64 x.b,.int .i64 x.allowance,.int .i64 x.block,.int .i64 1,.slice (some ⟨ku,0,none⟩) 2 2,.int .i64 x.mode,.slice aa x.adjusts.length ac]:List Value).toArray 25):=⟨_,rfl⟩
 obtain ⟨kd,hkd⟩:∃k,k=w14.heap.size:=⟨_,rfl⟩
 have D15:Box w15 kd [.int .i64 x.mt,.int .i64 x.a,.int .i64 x.b,.int .i64 x.allowance,.int .i64 x.block,.int .i64 1,.slice (some ⟨ku,0,none⟩) 2 2,.int .i64 x.mode,.slice aa x.adjusts.length ac]:=by rw [hw15,hkd];exact Box.new _ _ _
 have b1415:Below w14.heap.size w14 w15:=by rw [hw15];exact bel_alloc _ _
 obtain ⟨w16,hw16⟩:∃W,W=w15.setCell ⟨kd,5,none⟩ (.int .i64 2):=⟨_,rfl⟩
 have D16:Box w16 kd [.int .i64 x.mt,.int .i64 x.a,.int .i64 x.b,.int .i64 x.allowance,.int .i64 x.block,.int .i64 2,.slice (some ⟨ku,0,none⟩) 2 2,.int .i64 x.mode,.slice aa x.adjusts.length ac]:=by rw [hw16];exact D15.set 5 _
 have b1416:Below w14.heap.size w14 w16:=by rw [hw16];exact b1415.setCell (p:=⟨kd,5,none⟩) (by show w14.heap.size≤kd;omega) _
 have b1116:=bel_on b1114 b1416
 have AA:=hid (A11.on b1116)
 have TT:=hid (T11.on b1116)
 have QQ:=hid (Q11.on b1116)
 have CC:=hid (C14.on b1416)
 have UU:=hid (U14.on b1416)
 have DD:=hid D16
 have BB:=hid (bel_on B3.out (bel_on b35 (bel_on b59 (bel_on b911 b1116))))
 have HW5:=hid (show w5=w3.alloc (.cells #[.int .i64 0,.int .i64 r] 39) from hw5)
 have HK5:=hid hk5
 have HW6:=hid (show w6=w5.alloc (.cells #[.int .i64 x.mt,.int .i64 x.a,.int .i64 x.b,.int .i64 x.allowance,.int .i64 x.block,.int .i64 x.kind,.slice (some ⟨bt,ot,none⟩) x.tiers.length tc,.int .i64 x.mode,.slice aa x.adjusts.length ac] 25) from hw6)
 have HKA:=hid hka
 have HW7:=hid hw7
 have HKT:=hid hkt
 have HW9:=hid (show w9=(w7.setCell ⟨ka,6,none⟩ (.slice (some ⟨kt,0,none⟩) 1 1)).alloc (.cells #[.int .i64 0,.int .i64 r] 39) by rw [hw9,hw8];exact World.setCell_alloc_past _ _ _ _ s7)
 have HW10:=hid (show w10=w9.alloc (.cells #[.int .i64 x.mt,.int .i64 x.a,.int .i64 x.b,.int .i64 x.allowance,.int .i64 x.block,.int .i64 1,.slice (some ⟨kt,0,none⟩) 1 1,.int .i64 x.mode,.slice aa x.adjusts.length ac] 25) from hw10)
 have HKB:=hid hkb
 have HW11:=hid hw11
 have HW12:=hid (show w12=w11.alloc (.cells #[.int .i64 x.mt,.int .i64 x.a,.int .i64 x.b,.int .i64 x.allowance,.int .i64 x.block,.int .i64 1,.slice (some ⟨kt,0,none⟩) 1 1,.int .i64 x.mode,.slice aa x.adjusts.length ac] 25) from hw12)
 have HKC:=hid hkc
 have HKU:=hid hku
 have HW14:=hid (show w14=(w12.setCell ⟨kc,6,none⟩ (.slice (some ⟨ku,0,none⟩) 2 2)).alloc (.cells #[.int .i64 u,.int .i64 r,.int .i64 0,.int .i64 r] 39) by rw [hw14,hw13];exact World.setCell_alloc_past _ _ _ _ s12)
 have HW15:=hid (show w15=w14.alloc (.cells #[.int .i64 x.mt,.int .i64 x.a,.int .i64 x.b,.int .i64 x.allowance,.int .i64 x.block,.int .i64 1,.slice (some ⟨ku,0,none⟩) 2 2,.int .i64 x.mode,.slice aa x.adjusts.length ac] 25) from hw15)
 have HKD:=hid hkd
 have HW16:=hid hw16
 have L0:=hid Y
 have L5:=hid Y5
 have M6:=hid A6
 have M7:=hid A7
 have O7:=hid Z7
 have M9:=hid A9
 have N10:=hid Q10
 have M11:=hid A11
 have O12:=hid (Z11.on b1112)
 have N12:=hid C12
 have N14:=hid C14
 have N15:=hid D15
 have HR:=hid hr
 clear hw5 hw6 hw7 hw8 hw9 hw10 hw11 hw12 hw13 hw14 hw15 hw16 hk5 hka hkt hkb hkc hku hkd Z5 Y5 A6 A7 Z7 T8 A9 T9 Z9 Q10 Q11 A11 T11 Z11 C12 U13 C14 U14 D15 D16 Y b35 b56 b57 b78 b59 b910 b911 b1112 b1213 b1114 b1415 b1416 b1116 s5 s7 s9 s12 ru hN ht hr B3 BF HT X
 have c6:=L0.out.cell 6 _ rfl
 go_upto_region 6 with fail
 rw [←HW5.out,←HK5.out]
 clear c3 c4 c6 l1 t0 t1 HW5 HK5 wn nl nl2 nl3
 have d0:=L5.out.cell 0 _ rfl;have d1:=L5.out.cell 1 _ rfl;have d2:=L5.out.cell 2 _ rfl;have d3:=L5.out.cell 3 _ rfl;have d4:=L5.out.cell 4 _ rfl;have d5:=L5.out.cell 5 _ rfl;have d6:=L5.out.cell 6 _ rfl;have d7:=L5.out.cell 7 _ rfl;have d8:=L5.out.cell 8 _ rfl
 have l5:=L5.out.lt
 go_upto_region 7 with fail
 rw [←HW6.out,←HKA.out]
 clear HW6 HKA d0 d1 d2 d3 d4 d5 d6 d7 d8 l5
 have d5:=M6.out.cell 5 _ rfl
 have f5:=M6.out.free 5
 have l6:=M6.out.lt
 go_upto_region 8 with fail
 rw [←HW7.out]
 clear HW7 d5 f5 l6
 have d6:=M7.out.cell 6 _ rfl
 have f6:=M7.out.free 6
 have l7:=M7.out.lt
 have z0:=O7.out.cell 0 _ rfl
 have z1':=O7.out.cell 1 _ rfl
 go_upto_region 9 with fail
 rw [←HKT.out,←HW9.out]
 clear HKT HW9 d6 f6 l7 z0 z1'
 have d0:=M9.out.cell 0 _ rfl;have d1:=M9.out.cell 1 _ rfl;have d2:=M9.out.cell 2 _ rfl;have d3:=M9.out.cell 3 _ rfl;have d4:=M9.out.cell 4 _ rfl;have d5:=M9.out.cell 5 _ rfl;have d6:=M9.out.cell 6 _ rfl;have d7:=M9.out.cell 7 _ rfl;have d8:=M9.out.cell 8 _ rfl
 have l9:=M9.out.lt
 go_upto_region 10 with fail
 rw [←HW10.out,←HKB.out]
 clear HW10 HKB d0 d1 d2 d3 d4 d5 d6 d7 d8 l9
 have d5:=N10.out.cell 5 _ rfl
 have f5:=N10.out.free 5
 have l10:=N10.out.lt
 go_upto_region 11 with fail
 rw [←HW11.out]
 clear HW11 d5 f5 l10
 have d0:=M11.out.cell 0 _ rfl;have d1:=M11.out.cell 1 _ rfl;have d2:=M11.out.cell 2 _ rfl;have d3:=M11.out.cell 3 _ rfl;have d4:=M11.out.cell 4 _ rfl;have d5:=M11.out.cell 5 _ rfl;have d6:=M11.out.cell 6 _ rfl;have d7:=M11.out.cell 7 _ rfl;have d8:=M11.out.cell 8 _ rfl
 have l11:=M11.out.lt
 go_upto_region 12 with fail
 rw [←HW12.out,←HKC.out]
 clear HW12 HKC d0 d1 d2 d3 d4 d5 d6 d7 d8 l11
 have d6:=N12.out.cell 6 _ rfl
 have f6:=N12.out.free 6
 have l12:=N12.out.lt
 have z0:=O12.out.cell 0 _ rfl
 have z1':=O12.out.cell 1 _ rfl
 have l5:=O12.out.lt
 go_upto_region 13 with fail
 rw [←HKU.out,←HW14.out]
 clear HKU HW14 d6 f6 l12 z0 z1' l5
 have d0:=N14.out.cell 0 _ rfl;have d1:=N14.out.cell 1 _ rfl;have d2:=N14.out.cell 2 _ rfl;have d3:=N14.out.cell 3 _ rfl;have d4:=N14.out.cell 4 _ rfl;have d5:=N14.out.cell 5 _ rfl;have d6:=N14.out.cell 6 _ rfl;have d7:=N14.out.cell 7 _ rfl;have d8:=N14.out.cell 8 _ rfl
 have l14:=N14.out.lt
 go_upto_region 14 with fail
 rw [←HW15.out,←HKD.out]
 clear HW15 HKD d0 d1 d2 d3 d4 d5 d6 d7 d8 l14
 have d5:=N15.out.cell 5 _ rfl
 have f5:=N15.out.free 5
 have l15:=N15.out.lt
 go_upto_region 15 with fail
 rw [←HW16.out]
 clear HW16 d5 f5 l15 L0 L5 M6 M7 O7 M9 N10 M11 O12 N12 N14 N15
 obtain ⟨CH,hCH⟩:∃CH,CH=chargeO (asP x 1 [⟨0,r⟩]) q:=⟨_,rfl⟩
 have RT:=hid (fun (W:World) (h:Box W kt [.int .i64 0,.int .i64 r])=>show Row tTier W (some ⟨kt,0,none⟩) 1 1 [⟨0,r⟩] from row_box (α:=Tier) (n:=2) (cells:=tierC) (ok:=fun t=>I64 t.upto∧I64 t.rate) (hn:=fun _=>rfl) (xs:=[⟨0,r⟩]) h (fun t ht=>by
  rw [List.mem_singleton] at ht
  subst ht
  exact ⟨by show I64 0;unfold I64;omega,by show I64 r;unfold I64;omega⟩) (by simp))
 have RU:=hid (fun (W:World) (h:Box W ku [.int .i64 u,.int .i64 r,.int .i64 0,.int .i64 r])=>show Row tTier W (some ⟨ku,0,none⟩) 2 2 [⟨u,r⟩,⟨0,r⟩] from row_box (α:=Tier) (n:=2) (cells:=tierC) (ok:=fun t=>I64 t.upto∧I64 t.rate) (hn:=fun _=>rfl) (xs:=[⟨u,r⟩,⟨0,r⟩]) h (fun t ht=>by
  simp only [List.mem_cons,List.not_mem_nil,or_false] at ht
  rcases ht with rfl|rfl
  ·exact ⟨by show I64 u;unfold I64;omega,by show I64 r;unfold I64;omega⟩
  ·exact ⟨by show I64 0;unfold I64;omega,by show I64 r;unfold I64;omega⟩) (by simp))
 have t1:tiersB 0 [⟨0,r⟩]=true:=by
  show (inB r 0 1000000000000&&decide ((0:Int)=0))=true
  rw [inB_iff.2 ⟨r0,r1⟩]
  rfl
 have t2:tiersB 0 [⟨u,r⟩,⟨0,r⟩]=true:=by
  show (inB r 0 1000000000000&&inB u (0+1) 1000000&&(inB r 0 1000000000000&&decide ((0:Int)=0)))=true
  rw [inB_iff.2 ⟨r0,r1⟩,inB_iff.2 ⟨by omega,by omega⟩]
  rfl
 have cA:=hid (fun (W:World) (h:Box W kt [.int .i64 0,.int .i64 r])=>show Calls Try.prog 12 #[.agg #[.int .i64 x.mt,.int .i64 x.a,.int .i64 x.b,.int .i64 x.allowance,.int .i64 x.block,.int .i64 1,.slice (some ⟨kt,0,none⟩) 1 1,.int .i64 x.mode,.slice aa x.adjusts.length ac],.int .i64 q] W fun e w'=>e=.returned (.tuple #[.int .i64 (oV CH),.bool (oB CH)])∧Below W.heap.size W w' by
  have:=T.charge (asP x 1 [⟨0,r⟩]) (some ⟨kt,0,none⟩) 1 aa ac q W (RT.out W h) HQ.out (asP_good GD.out (.inl rfl) (by simp) t1)
  rw [←hCH] at this
  exact this)
 have cB:=hid (fun (W:World) (h:Box W kt [.int .i64 0,.int .i64 r])=>show Calls Try.prog 12 #[.agg #[.int .i64 x.mt,.int .i64 x.a,.int .i64 x.b,.int .i64 x.allowance,.int .i64 x.block,.int .i64 2,.slice (some ⟨kt,0,none⟩) 1 1,.int .i64 x.mode,.slice aa x.adjusts.length ac],.int .i64 q] W fun e w'=>e=.returned (.tuple #[.int .i64 (oV CH),.bool (oB CH)])∧Below W.heap.size W w' by
  have:=T.charge (asP x 2 [⟨0,r⟩]) (some ⟨kt,0,none⟩) 1 aa ac q W (RT.out W h) HQ.out (asP_good GD.out (.inr rfl) (by simp) t1)
  rw [SAME.out.1,←hCH] at this
  exact this)
 have cC:=hid (fun (W:World) (h:Box W ku [.int .i64 u,.int .i64 r,.int .i64 0,.int .i64 r])=>show Calls Try.prog 12 #[.agg #[.int .i64 x.mt,.int .i64 x.a,.int .i64 x.b,.int .i64 x.allowance,.int .i64 x.block,.int .i64 1,.slice (some ⟨ku,0,none⟩) 2 2,.int .i64 x.mode,.slice aa x.adjusts.length ac],.int .i64 q] W fun e w'=>e=.returned (.tuple #[.int .i64 (oV CH),.bool (oB CH)])∧Below W.heap.size W w' by
  have:=T.charge (asP x 1 [⟨u,r⟩,⟨0,r⟩]) (some ⟨ku,0,none⟩) 2 aa ac q W (RU.out W h) HQ.out (asP_good GD.out (.inl rfl) (by simp) t2)
  rw [SAME.out.2.1,←hCH] at this
  exact this)
 have cD:=hid (fun (W:World) (h:Box W ku [.int .i64 u,.int .i64 r,.int .i64 0,.int .i64 r])=>show Calls Try.prog 12 #[.agg #[.int .i64 x.mt,.int .i64 x.a,.int .i64 x.b,.int .i64 x.allowance,.int .i64 x.block,.int .i64 2,.slice (some ⟨ku,0,none⟩) 2 2,.int .i64 x.mode,.slice aa x.adjusts.length ac],.int .i64 q] W fun e w'=>e=.returned (.tuple #[.int .i64 (oV CH),.bool (oB CH)])∧Below W.heap.size W w' by
  have:=T.charge (asP x 2 [⟨u,r⟩,⟨0,r⟩]) (some ⟨ku,0,none⟩) 2 aa ac q W (RU.out W h) HQ.out (asP_good GD.out (.inr rfl) (by simp) t2)
  rw [SAME.out.2.2,←hCH] at this
  exact this)
 clear hCH SAME RT RU t1 t2 r0 r1
 have y1:(oV CH==oV CH)=true:=by simp
 have y2:(oB CH==oB CH)=true:=by simp
 have d0:=AA.out.cell 0 _ rfl;have d1:=AA.out.cell 1 _ rfl;have d2:=AA.out.cell 2 _ rfl;have d3:=AA.out.cell 3 _ rfl;have d4:=AA.out.cell 4 _ rfl;have d5:=AA.out.cell 5 _ rfl;have d6:=AA.out.cell 6 _ rfl;have d7:=AA.out.cell 7 _ rfl;have d8:=AA.out.cell 8 _ rfl
 have l1:=AA.out.lt
 go_wp2_with fail
 refine (cA.out _ TT.out).mono ?_
 rintro e w17 ⟨rfl,bq⟩
 have BB:=hid (bel_on BB.out bq)
 have AA:=hid (AA.out.on bq)
 have TT:=hid (TT.out.on bq)
 have QQ:=hid (QQ.out.on bq)
 have CC:=hid (CC.out.on bq)
 have UU:=hid (UU.out.on bq)
 have DD:=hid (DD.out.on bq)
 clear bq l1 d0 d1 d2 d3 d4 d5 d6 d7 d8 cA
 have d0:=QQ.out.cell 0 _ rfl;have d1:=QQ.out.cell 1 _ rfl;have d2:=QQ.out.cell 2 _ rfl;have d3:=QQ.out.cell 3 _ rfl;have d4:=QQ.out.cell 4 _ rfl;have d5:=QQ.out.cell 5 _ rfl;have d6:=QQ.out.cell 6 _ rfl;have d7:=QQ.out.cell 7 _ rfl;have d8:=QQ.out.cell 8 _ rfl
 have l1:=QQ.out.lt
 go_wp2_with fail
 refine (cB.out _ TT.out).mono ?_
 rintro e w18 ⟨rfl,bq⟩
 have BB:=hid (bel_on BB.out bq)
 have AA:=hid (AA.out.on bq)
 have TT:=hid (TT.out.on bq)
 have QQ:=hid (QQ.out.on bq)
 have CC:=hid (CC.out.on bq)
 have UU:=hid (UU.out.on bq)
 have DD:=hid (DD.out.on bq)
 clear bq l1 d0 d1 d2 d3 d4 d5 d6 d7 d8 cB
 have d0:=CC.out.cell 0 _ rfl;have d1:=CC.out.cell 1 _ rfl;have d2:=CC.out.cell 2 _ rfl;have d3:=CC.out.cell 3 _ rfl;have d4:=CC.out.cell 4 _ rfl;have d5:=CC.out.cell 5 _ rfl;have d6:=CC.out.cell 6 _ rfl;have d7:=CC.out.cell 7 _ rfl;have d8:=CC.out.cell 8 _ rfl
 have l1:=CC.out.lt
 go_wp2_with fail
 refine (cC.out _ UU.out).mono ?_
 rintro e w19 ⟨rfl,bq⟩
 have BB:=hid (bel_on BB.out bq)
 have AA:=hid (AA.out.on bq)
 have TT:=hid (TT.out.on bq)
 have QQ:=hid (QQ.out.on bq)
 have CC:=hid (CC.out.on bq)
 have UU:=hid (UU.out.on bq)
 have DD:=hid (DD.out.on bq)
 clear bq l1 d0 d1 d2 d3 d4 d5 d6 d7 d8 cC
 have d0:=DD.out.cell 0 _ rfl;have d1:=DD.out.cell 1 _ rfl;have d2:=DD.out.cell 2 _ rfl;have d3:=DD.out.cell 3 _ rfl;have d4:=DD.out.cell 4 _ rfl;have d5:=DD.out.cell 5 _ rfl;have d6:=DD.out.cell 6 _ rfl;have d7:=DD.out.cell 7 _ rfl;have d8:=DD.out.cell 8 _ rfl
 have l1:=DD.out.lt
 go_wp2_with fail
 refine (cD.out _ UU.out).mono ?_
 rintro e w20 ⟨rfl,bq⟩
 have BB:=hid (bel_on BB.out bq)
 have AA:=hid (AA.out.on bq)
 have TT:=hid (TT.out.on bq)
 have QQ:=hid (QQ.out.on bq)
 have CC:=hid (CC.out.on bq)
 have UU:=hid (UU.out.on bq)
 have DD:=hid (DD.out.on bq)
 clear bq l1 d0 d1 d2 d3 d4 d5 d6 d7 d8 cD
 have BF:=hid (bel_on HB1.out BB.out)
 go_wp2
 go_ret
 exact ⟨rfl,BF.out⟩
end L11
end Go.Proofs.Ytcimcdoiiepjoaa
