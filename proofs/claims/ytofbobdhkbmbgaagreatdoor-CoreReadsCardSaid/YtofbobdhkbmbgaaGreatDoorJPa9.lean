/- What package parse does: windows, adjustments. -/
import Derived.Test.YtofbobdhkbmbgaaGreatDoorJPa6
set_option maxHeartbeats 8000000
namespace Go.Proofs.YtofbobdhkbmbgaaGreatDoor
namespace Pa
open Go.RowKit Go.Sort P Tl
def winV (x:Mm.Win):Value:=.agg #[x.has,x.a.y,x.a.m,x.a.d,x.b.y,x.b.m,x.b.d]
def z7:List Value:=[.bool false,.int .i64 0,.int .i64 0,.int .i64 0,.int .i64 0,.int .i64 0,.int .i64 0]
theorem window_any (b tb cap:Nat) (ts:List Tok) (s:St) (w:World) (h:Rd w b tb cap ts s) :
  Calls Tryz.prog 188 #[.pointer (some ⟨b,0,none⟩)] w fun x w'=>x=.returned (winV (winS ts s).1)∧Rd w' b tb cap ts (winS ts s).2∧w.grownBy w' (some b):=by
 obtain ⟨w0,hw0⟩:∃w0,w0=w.alloc (.cells z7.toArray 51):=⟨_,rfl⟩;have b0:Below w.heap.size w w0:=by rw [hw0];exact (Below.refl _ _).alloc (Nat.le_refl _) _
 have Z0:Bx w0 w.heap.size z7:=by rw [hw0];exact Bx.new _ _ _
 have hb:=h.lt;have cF:=next_any b tb cap ts s ⟨#[102,114,111,109]⟩ (by decide) w0 (h.on b0);have eF:(⟨#[102,114,111,109]⟩:ByteArray).data.toList=wFrom:=rfl;rw [eF] at cF;have HW0:Hid (w.alloc (.cells #[.bool false,.int .i64 0,.int .i64 0,.int .i64 0,.int .i64 0,.int .i64 0,.int .i64 0] 51)=w0):=hid hw0.symm;have nb:some w.heap.size≠some b:=fun e=>by have:=Option.some.inj e;omega
 cases ho:onW ts s wFrom
 ·have e:winS ts s=(⟨false,⟨0,0,0⟩,⟨0,0,0⟩⟩,s):=by unfold winS;rw [ho];rfl
  have e2:tke ts s wFrom=(false,s):=by unfold tke;rw [ho];rfl
  rw [e];rw [e2] at cF;have HZ0:=hid Z0;clear e e2 ho h hw0 eF Z0;go_enter Tryz.func188,Tryz.ntmps188
  go_wp2_with fail
  rw [HW0.out];refine cF.mono ?_;rintro e w1 ⟨rfl,q1,g1⟩;have Z1:=HZ0.out.grown g1 nb;have c:=Z1.cell;have c0:=c 0 _ rfl;have c1:=c 1 _ rfl;have c2:=c 2 _ rfl;have c3:=c 3 _ rfl;have c4:=c 4 _ rfl;have c5:=c 5 _ rfl;have c6:=c 6 _ rfl;have f0:=Z1.free 0;have f1:=Z1.free 1;have f2:=Z1.free 2;have f3:=Z1.free 3;have f4:=Z1.free 4;have f5:=Z1.free 5;have f6:=Z1.free 6;have HQ1:=hid q1;have GG:=hid (grown_trans (grown_below b0) g1);clear c q1 g1 b0 Z1;go_wp2;exact bodyPost_ret (v:=.agg #[.bool false,.int .i64 0,.int .i64 0,.int .i64 0,.int .i64 0,.int .i64 0,.int .i64 0]) (by simp [results,Tryz.results188,go_sem, *]) rfl ⟨rfl,by (iterate 7 (refine Rd.far' ?_ hb (Nat.le_refl _) _ _));exact HQ1.out,by (iterate 7 (refine grown_put ?_ (Nat.le_refl _) _ _));exact GG.out⟩
 ·have ok1:=h.ok.next (onW_k ho);obtain ⟨A,hA⟩:∃A,A=dayS ts s.next:=⟨_,rfl⟩;obtain ⟨s2,hs2⟩:∃s2,s2=wnt ts A.2 wTo:=⟨_,rfl⟩;obtain ⟨B,hB⟩:∃B,B=dayS ts s2:=⟨_,rfl⟩;have e:winS ts s=(⟨true,A.1,B.1⟩,B.2):=by unfold winS;rw [ho,hB,hs2,hA];rfl
  have e2:tke ts s wFrom=(true,s.next):=by unfold tke;rw [ho];rfl
  rw [e];rw [e2] at cF;have HA:=hid hA;have HS2:=hid hs2;have HB:=hid hB;have HZ0:=hid Z0;clear e e2 ho h hw0 eF Z0 hA hs2 hB;go_enter Tryz.func188,Tryz.ntmps188
  go_wp2_with fail
  rw [HW0.out];refine cF.mono ?_;rintro e w1 ⟨rfl,q1,g1⟩;have HZ1:=hid (HZ0.out.grown g1 nb);have G1:=hid (grown_trans (grown_below b0) g1);obtain ⟨w2,hw2⟩:∃w2,w2=w1.alloc (.cells #[.bool true,.int .i64 0,.int .i64 0,.int .i64 0,.int .i64 0,.int .i64 0,.int .i64 0] 51):=⟨_,rfl⟩;have b2:Below w1.heap.size w1 w2:=by rw [hw2];exact (Below.refl _ _).alloc (Nat.le_refl _) _
  have Y2:Bx w2 w1.heap.size [.bool true,.int .i64 0,.int .i64 0,.int .i64 0,.int .i64 0,.int .i64 0,.int .i64 0]:=by rw [hw2];exact Bx.new _ _ _
  have HZ2:=hid (HZ1.out.on b2);have G2:=hid (grown_trans G1.out (grown_below b2));have cA:=day_any b tb cap ts s.next w2 (q1.on b2);rw [←HA.out] at cA;unfold dayV at cA;have HW2:=hid hw2;obtain ⟨ka,hka⟩:∃ka,ka=w1.heap.size:=⟨_,rfl⟩;have hbk:ka≠b:=by have:=q1.lt;omega
  have hak:w.heap.size<ka:=by have:=HZ1.out.lt;omega
  have nka:some ka≠some b:=fun e=>hbk (Option.some.inj e);have hz:ka≠w.heap.size:=by omega
  have hz':w.heap.size≠ka:=by omega
  have HKA:=hid hka;rw [←hka] at Y2;clear q1 g1 b0 b2 hw2 hka;go_wp2_with fail
  rw [←HW2.out,←HKA.out];refine cA.mono ?_;rintro e w3 ⟨rfl,q3,g3⟩;have Y3:=Y2.grown g3 nka;have HZ3:=hid (HZ2.out.grown g3 nb);have G3:=hid (grown_trans G2.out g3);have d1:=Y3.cell 1 _ rfl;have d2:=Y3.cell 2 _ rfl;have d3:=Y3.cell 3 _ rfl;have f1:=Y3.free 1;have f2:=Y3.free 2;have f3:=Y3.free 3;have lk:=Y3.lt;obtain ⟨w4,hw4⟩:∃w4,w4=(((w3.setCell ⟨ka,1,none⟩ (.int .i64 A.1.y)).setCell ⟨ka,2,none⟩ (.int .i64 A.1.m)).setCell ⟨ka,3,none⟩ (.int .i64 A.1.d)):=⟨_,rfl⟩;have Y4:Bx w4 ka [.bool true,A.1.y,A.1.m,A.1.d,.int .i64 0,.int .i64 0,.int .i64 0]:=by rw [hw4];exact ((Y3.set 1 _).set 2 _).set 3 _
  have Z4:Bx w4 w.heap.size z7:=by rw [hw4];exact ((HZ3.out.other (p:=⟨ka,1,none⟩) hz' _).other (p:=⟨ka,2,none⟩) hz' _).other (p:=⟨ka,3,none⟩) hz' _
  have q4:Rd w4 b tb cap ts A.2:=by rw [hw4];exact ((q3.far' hb (Nat.le_of_lt hak) _ _).far' hb (Nat.le_of_lt hak) _ _).far' hb (Nat.le_of_lt hak) _ _
  have g4:w.grownBy w4 (some b):=by rw [hw4];exact grown_put (grown_put (grown_put G3.out (Nat.le_of_lt hak) _ _) (Nat.le_of_lt hak) _ _) (Nat.le_of_lt hak) _ _
  have HW4:=hid hw4;have cW:=need_any b tb cap ts A.2 ⟨#[116,111]⟩ (by decide) w4 q4;have eT:(⟨#[116,111]⟩:ByteArray).data.toList=wTo:=rfl;rw [eT,←HS2.out] at cW;have HZ4:=hid Z4;clear q3 g3 Y3 hw4 q4 eT Z4;go_wp2_with fail
  rw [←HW4.out];refine cW.mono ?_;rintro e w5 ⟨rfl,q5,g5⟩;have HY5:=hid (Y4.grown g5 nka);have HZ5:=hid (HZ4.out.grown g5 nb);have G5:=hid (grown_trans g4 g5);have cB:=day_any b tb cap ts s2 w5 q5;rw [←HB.out] at cB;unfold dayV at cB;clear d1 d2 d3 f1 f2 f3 lk q5 g5 g4 Y4;go_wp2_with fail
  refine cB.mono ?_;rintro e w6 ⟨rfl,q6,g6⟩;have Y6:=HY5.out.grown g6 nka;have Z6:=HZ5.out.grown g6 nb;have G6:=hid (grown_trans G5.out g6);have d0:=Y6.cell 0 _ rfl;have d1:=Y6.cell 1 _ rfl;have d2:=Y6.cell 2 _ rfl;have d3:=Y6.cell 3 _ rfl;have d4:=Y6.cell 4 _ rfl;have d5:=Y6.cell 5 _ rfl;have d6:=Y6.cell 6 _ rfl;have f4:=Y6.free 4;have f5:=Y6.free 5;have f6:=Y6.free 6;have lk:=Y6.lt;have c0:=Z6.cell 0 _ rfl;have c1:=Z6.cell 1 _ rfl;have c2:=Z6.cell 2 _ rfl;have c3:=Z6.cell 3 _ rfl;have c4:=Z6.cell 4 _ rfl;have c5:=Z6.cell 5 _ rfl;have c6:=Z6.cell 6 _ rfl;have r0:=Z6.free 0;have r1:=Z6.free 1;have r2:=Z6.free 2;have r3:=Z6.free 3;have r4:=Z6.free 4;have r5:=Z6.free 5;have r6:=Z6.free 6;have lz:=Z6.lt;have HQ6:=hid q6;clear q6 g6 Y6 Z6 nb nka hak;go_wp2;have hak:w.heap.size≤ka:=by have:=HKA.out;have:=HZ1.out.lt;omega
  exact bodyPost_ret (v:=.agg #[.bool true,A.1.y,A.1.m,A.1.d,B.1.y,B.1.m,B.1.d]) (by simp [results,Tryz.results188,go_sem, *]) rfl ⟨rfl,by (iterate 7 (refine Rd.far' ?_ hb (Nat.le_refl _) _ _));(iterate 3 (refine Rd.far' ?_ hb hak _ _));exact HQ6.out,by (iterate 7 (refine grown_put ?_ (Nat.le_refl _) _ _));(iterate 3 (refine grown_put ?_ hak _ _));exact G6.out⟩
theorem amount_any (b tb cap:Nat) (ts:List Tok) (s:St) (k:Int) (w:World) (h:Rd w b tb cap ts s) :
  Calls Tryz.prog 220 #[.pointer (some ⟨b,0,none⟩),.int .i64 k] w fun x w'=>x=.returned (.agg #[.int .i64 k,.int .i64 (numS ts s 0 1000000000000).1,.int .i64 0])∧Rd w' b tb cap ts (numS ts s 0 1000000000000).2∧w.grownBy w' (some b):=by
 obtain ⟨w0,hw0,b0,B0⟩:=loaded w [.int .i64 0,.int .i64 0,.int .i64 0] 121;have HW:Hid (w.alloc (.cells #[.int .i64 0,.int .i64 0,.int .i64 0] 121)=w0):=hid hw0;have hb:=h.lt;have cN:=whole_any b tb cap ts s 1000000000000 w0 (h.on b0);generalize numS ts s 0 1000000000000=X at *;have nb:some w.heap.size≠some b:=fun e=>by have:=Option.some.inj e;omega
 have G0:=hid b0;clear h hw0 b0;go_enter Tryz.func220,Tryz.ntmps220
 go_wp2_with fail
 rw [HW.out];refine cN.mono ?_;rintro e w1 ⟨rfl,q1,g1⟩;have Z1:=B0.grown g1 nb;have c0:=Z1.cell 0 _ rfl;have c1:=Z1.cell 1 _ rfl;have c2:=Z1.cell 2 _ rfl;have f0:=Z1.free 0;have f1:=Z1.free 1;have f2:=Z1.free 2;have lz:=Z1.lt;have HQ1:=hid q1;have G1:=hid g1;clear q1 g1 Z1 B0 nb;go_wp2;exact bodyPost_ret (v:=.agg #[.int .i64 k,.int .i64 X.1,.int .i64 0]) (by simp [results,Tryz.results220,go_sem, *]) rfl ⟨rfl,by (iterate 3 (refine Rd.far' ?_ hb (Nat.le_refl _) _ _));exact HQ1.out,by (iterate 3 (refine grown_put ?_ (Nat.le_refl _) _ _));exact grown_trans (grown_below G0.out) G1.out⟩
theorem percent_any (b tb cap:Nat) (ts:List Tok) (s:St) (w:World) (h:Rd w b tb cap ts s) :
  Calls Tryz.prog 219 #[.pointer (some ⟨b,0,none⟩)] w fun x w'=>x=.returned (.agg #[.int .i64 1,.int .i64 (numS ts s 3 100000000).1,.int .i64 (modeS ts (numS ts s 3 100000000).2).1])∧Rd w' b tb cap ts (modeS ts (numS ts s 3 100000000).2).2∧w.grownBy w' (some b):=by
 obtain ⟨X,hX⟩:∃X,X=numS ts s 3 100000000:=⟨_,rfl⟩;obtain ⟨M,hM⟩:∃M,M=modeS ts X.2:=⟨_,rfl⟩;rw [←hX,←hM];obtain ⟨w0,hw0,b0,B0⟩:=loaded w [.int .i64 0,.int .i64 0,.int .i64 0] 121;have HW:Hid (w.alloc (.cells #[.int .i64 0,.int .i64 0,.int .i64 0] 121)=w0):=hid hw0;obtain ⟨w1,hw1,b1,B1⟩:=loaded w0 [.int .i64 1,.int .i64 0,.int .i64 0] 121;have HW1:Hid (w0.alloc (.cells #[.int .i64 1,.int .i64 0,.int .i64 0] 121)=w1):=hid hw1;have hb:=h.lt;have sz:w0.heap.size=w.heap.size+1:=by rw [←hw0];simp
 have cN:=number_any b tb cap ts s 3 100000000 w1 ((h.on b0).on b1);rw [←hX] at cN;have HM:=hid hM;have nb:some w.heap.size≠some b:=fun e=>by have:=Option.some.inj e;omega
 obtain ⟨ka,hka⟩:∃ka,ka=w0.heap.size:=⟨_,rfl⟩;rw [←hka] at B1;have nka:some ka≠some b:=fun e=>by have:=Option.some.inj e;omega
 have G1:=hid (grown_trans (grown_below (row:=some b) b0) (grown_below b1));have Z1:=hid (B0.on b1);have hz:ka≠w.heap.size:=by omega
 have hz':w.heap.size≠ka:=by omega
 have HAK:=hid (show w.heap.size≤ka by omega);have HKA:=hid hka;have eka:Hid (w.heap.size+1=ka):=hid (by omega);clear h hw0 hw1 b0 b1 B0 hX hM hka sz;go_enter Tryz.func219,Tryz.ntmps219
 go_wp2_with fail
 rw [HW.out,HW1.out,eka.out];refine cN.mono ?_;rintro e w2 ⟨rfl,q2,g2⟩;have Y2:=B1.grown g2 nka;have Z2:=hid (Z1.out.grown g2 nb);have d1:=Y2.cell 1 _ rfl;have f1:=Y2.free 1;have lk:=Y2.lt;obtain ⟨w3,hw3⟩:∃w3,w3=w2.setCell ⟨ka,1,none⟩ (.int .i64 X.1):=⟨_,rfl⟩;have Y3:Bx w3 ka [.int .i64 1,.int .i64 X.1,.int .i64 0]:=by rw [hw3];exact Y2.set 1 _
 have Z3:Bx w3 w.heap.size [.int .i64 0,.int .i64 0,.int .i64 0]:=by rw [hw3];exact Z2.out.other (p:=⟨ka,1,none⟩) hz' _
 have q3:Rd w3 b tb cap ts X.2:=by rw [hw3];exact q2.far' hb HAK.out _ _
 have g3:w.grownBy w3 (some b):=by rw [hw3];exact grown_put (grown_trans G1.out g2) HAK.out _ _
 have HW3:=hid hw3;have cM:=mode_any b tb cap ts X.2 w3 q3;rw [←HM.out] at cM;have HY3:=hid Y3;have HZ3:=hid Z3;clear q2 g2 Y2 hw3 q3 Y3 Z3;go_wp2_with fail
 rw [←HW3.out];refine cM.mono ?_;rintro e w4 ⟨rfl,q4,g4⟩;clear d1 f1 lk;have Y4:=HY3.out.grown g4 nka;have Z4:=HZ3.out.grown g4 nb;have d0:=Y4.cell 0 _ rfl;have d1:=Y4.cell 1 _ rfl;have d2:=Y4.cell 2 _ rfl;have f2:=Y4.free 2;have lk:=Y4.lt;have c0:=Z4.cell 0 _ rfl;have c1:=Z4.cell 1 _ rfl;have c2:=Z4.cell 2 _ rfl;have r0:=Z4.free 0;have r1:=Z4.free 1;have r2:=Z4.free 2;have lz:=Z4.lt;have HQ4:=hid q4;have G4:=hid (grown_trans g3 g4);clear q4 g4 g3 Y4 Z4 nb nka;go_wp2;exact bodyPost_ret (v:=.agg #[.int .i64 1,.int .i64 X.1,.int .i64 M.1]) (by simp [results,Tryz.results219,go_sem, *]) rfl ⟨rfl,by (iterate 3 (refine Rd.far' ?_ hb (Nat.le_refl _) _ _));exact HQ4.out.far' hb HAK.out _ _,by (iterate 3 (refine grown_put ?_ (Nat.le_refl _) _ _));exact grown_put G4.out HAK.out _ _⟩
end Pa
namespace Pa
open Go.RowKit Go.Sort P Tl Mm
theorem own_call {w w':World} {base b:Nat} {e:TypeId} {size n:Nat} {v:Value} {xs:List Value} (h:w.ownsRow base e size v n xs) (g:w.grownBy w' (some b)) (hb:b<base):w'.ownsRow base e size v n xs:=by
 refine h.kept g ?_;cases hv:v.ownBlock with
 | none=>exact .inl rfl
 | some k=>exact .inr (fun e=>by have:=(h.lt k hv).1;have:=Option.some.inj e;omega)
theorem grown_own {w w2 w3:World} {row r:Option Nat} (a:w.grownBy w2 row) (g:w2.grownBy w3 r) (hr:∀k,r=some k→w.heap.size≤k):w.grownBy w3 row:=
 ⟨g.os.trans a.os,g.tape.trans a.tape,g.output.trans a.output,Nat.le_trans a.size g.size,fun k hk hne=>(g.block k (Nat.lt_of_lt_of_le hk a.size) (fun e=>by have:=hr k e.symm;omega)).trans (a.block k hk hne)⟩
theorem grown_alloc (w:World) (x:Obj) (row:Option Nat):w.grownBy (w.alloc x) row:=grown_below ((Below.refl _ _).alloc (Nat.le_refl _) _)
theorem info_tierP:(Tryz.prog.info? 119).map (fun i=>(i.zero,i.size,i.bytes))=some (some (.agg (tierC ⟨0,0⟩).toArray),2,16):=by kernel_rfl
theorem info_adjP:(Tryz.prog.info? 121).map (fun i=>(i.zero,i.size,i.bytes))=some (some (.agg (adjC ⟨0,0,0⟩).toArray),3,24):=by kernel_rfl
theorem news_at (w:World) (cs:List Value) (t:TypeId):∀j u,cs[j]?=some u→(w.alloc (.cells cs.toArray t)).cell? ((⟨w.heap.size,0,none⟩:Addr).add j)=some u:=fun j u h=>by
 rw [add_plain,Nat.zero_add];exact (Bx.new w cs t).cell j u h
def leftOf (W:World) (b:Nat):Nat:=match W.cell? ⟨b,0,none⟩ with
 | some (.slice _ n _)=>n
 | _=>0
theorem leftOf_rd {w:World} {b tb cap:Nat} {ts:List Tok} {s:St} (h:Rd w b tb cap ts s):leftOf w b=ts.length-vw ts s:=by
 unfold leftOf;rw [h.c0]
theorem left_less {ts:List Tok} {s s':St} (h:Ok ts s.next) (e:s.err=0) (o:Ok ts s') (hl:s.i+1≤s'.i):ts.length-vw ts s'<ts.length-vw ts s:=by
 have h1:=h.lt;have h2:s.i+1<ts.length:=h1;have h3:=vw_lt o;rw [vw_ok e];by_cases e':s'.err=0
 ·rw [vw_ok e'] at h3 ⊢;omega
 ·rw [vw_bad e'] at h3 ⊢;omega
theorem tiers_len (ts:List Tok):∀(n:Nat) (s:St) (acc:List Tier),Toks ts→∀{r:List Tier×St},r=tiersS ts n s acc→r.1.length≤n+acc.length
 | 0,s,acc,_,r,h=>by rw [h];show acc.length≤_;omega
 | n+1,s,acc,hk,r,h=>by
   rw [h];unfold tiersS;split
   ·have:=tiers_len ts n (tierS ts s.next).2 (acc++[(tierS ts s.next).1]) hk rfl;simp only [List.length_append,List.length_singleton] at this;omega
   ·show acc.length≤_;omega
def tiersAll (ts:List Tok) (s:St):List Tier×St:=
 let a:=tiersS ts ts.length (wnt ts s sOpen) [];let r:=rateS ts (wnt ts a.2 wRest)
 (a.1++[⟨0,r.1⟩],wnt ts r.2 sShut)
theorem tiers_any (b tb cap:Nat) (ts:List Tok) (s:St) (w:World) (h:Rd w b tb cap ts s) :
  Calls Tryz.prog 190 #[.pointer (some ⟨b,0,none⟩)] w fun x w'=>∃v,x=.returned v∧w'.ownsRow w.heap.size 119 2 v (tiersAll ts s).1.length ((tiersAll ts s).1.flatMap tierC)∧Rd w' b tb cap ts (tiersAll ts s).2∧w.grownBy w' (some b):=by
 obtain ⟨i0,hi,hz0,hz1,hz2⟩:=info_parts info_tierP;obtain ⟨ti,hti⟩:∃ti,ti=tiersS ts ts.length (wnt ts s sOpen) []:=⟨_,rfl⟩;obtain ⟨rt,hrt⟩:∃rt,rt=rateS ts (wnt ts ti.2 wRest):=⟨_,rfl⟩;have e:tiersAll ts s=(ti.1++[⟨0,rt.1⟩],wnt ts rt.2 sShut):=by rw [hrt,hti];rfl
 rw [e];have HTI:=hid hti;have HRT:=hid hrt;have hb:=h.lt;have c1:=need_any b tb cap ts s ⟨#[123]⟩ (by decide) w h;rw [show (⟨#[123]⟩:ByteArray).data.toList=sOpen from rfl] at c1;have hlen:ti.1.length≤100000:=by have:=tiers_len ts ts.length (wnt ts s sOpen) [] h.ok.toks hti;have:=h.cnt;simp only [List.length_nil] at *;omega
 clear e hti hrt h;go_enter Tryz.func190,Tryz.ntmps190
 go_wp2_with fail
 refine c1.mono ?_;rintro e w1 ⟨rfl,q1,g1⟩;have Q1:=hid q1;have G1:=hid g1;clear q1 g1;go_wp2_with fail
 go_loopw [3,4] (fun v _ wr=>∃(V:Value) (σ:St) (acc:List Tier),v=V∧Hid (Rd wr b tb cap ts σ∧w.grownBy wr (some b)∧wr.ownsRow w.heap.size 119 2 V acc.length (acc.flatMap tierC)∧ti=tiersS ts ts.length σ acc∧acc.length≤σ.i)) (fun _ _ wr=>leftOf wr b)
 case atStart=>exact ⟨_,_,[],rfl,hid ⟨Q1.out,G1.out,World.ownsRow_nil _ _ _ _,HTI.out,Nat.zero_le _⟩⟩
 case round=>
  obtain ⟨V,σ,acc,rfl,hst⟩:=hrel;have cT:=next_any b tb cap ts σ ⟨#[117,112,116,111]⟩ (by decide) wr hst.out.1;rw [show (⟨#[117,112,116,111]⟩:ByteArray).data.toList=wUpto from rfl] at cT;cases ho:onW ts σ wUpto
  ·have e2:tke ts σ wUpto=(false,σ):=by unfold tke;rw [ho];rfl
   have hfin:Hid (ti=(acc,σ)):=hid (by
    rw [hst.out.2.2.2.1];obtain ⟨n,hn⟩:∃n,ts.length=n+1:=⟨ts.length-1,by have:=hst.out.1.ok.lt;omega⟩
    rw [hn];unfold tiersS;rw [ho];rfl)
   rw [e2] at cT;clear e2 ho;go_wp2_with fail
   refine cT.mono ?_;rintro e w2 ⟨rfl,q2,g2⟩;have G2:=hid (grown_trans hst.out.2.1 g2);have O2:=hid (own_call hst.out.2.2.1 g2 hb);have cN:=need_any b tb cap ts σ ⟨#[114,101,115,116]⟩ (by decide) w2 q2;rw [show (⟨#[114,101,115,116]⟩:ByteArray).data.toList=wRest from rfl] at cN;clear q2 g2;go_wp2_with fail
   refine cN.mono ?_;rintro e w3 ⟨rfl,q3,g3⟩;have G3:=hid (grown_trans G2.out g3);have O3:=hid (own_call O2.out g3 hb);have cR:=rate_any b tb cap ts (wnt ts σ wRest) w3 q3;rw [show wnt ts σ wRest=wnt ts ti.2 wRest by rw [hfin.out],←HRT.out] at cR;clear q3 g3;go_wp2_with fail
   refine cR.mono ?_;rintro e w4 ⟨rfl,q4,g4⟩;have G4:=hid (grown_trans G3.out g4);have o4:=own_call O3.out g4 hb;have Q4:=hid q4;have hbs:w.heap.size≤w4.heap.size:=G4.out.size;have hac:acc.length+1≤1000000:=by rw [hfin.out] at hlen;simp only at hlen;omega
   clear q4 g4;go_wp2_with (at_builtin;refine wpList_append_own _ rfl _ _ 54 rfl w.heap.size 119 i0 (.agg (tierC ⟨0,0⟩).toArray) 2 16 Tryz.underlying54 hi hz0 hz1 hz2 rfl (by decide) _ _ _ rfl (o4.alloc _) ⟨w4.heap.size,0,none⟩ 1 1 (tierC ⟨0,rt.1⟩) rfl rfl (news_at w4 (tierC ⟨0,rt.1⟩) _) (by simp [tierC,Value.oneCell']) (by unfold maxLen;omega) (by omega) (by simp;omega) ?_)
   intro v5 w5 hown hgrow _;have nk:=fun (k:Nat) e=>(o4.lt k e).1;have G5:=hid (grown_own (grown_trans G4.out (grown_alloc w4 _ _)) hgrow nk);have Q5:Rd w5 b tb cap ts rt.2:=(Q4.out.on ((Below.refl _ _).alloc (Nat.le_refl _) _)).other hgrow (fun k e=>by have:=nk k e;omega);have cS:=need_any b tb cap ts rt.2 ⟨#[125]⟩ (by decide) w5 Q5;rw [show (⟨#[125]⟩:ByteArray).data.toList=sShut from rfl] at cS;have O5:=hid hown;clear hown hgrow nk Q5 o4;go_wp2_with fail
   refine cS.mono ?_;rintro e w6 ⟨rfl,q6,g6⟩;have O6:=hid (own_call O5.out g6 hb);have G6:=hid (grown_trans G5.out g6);have Q6:=hid q6;clear q6 g6;go_wp2;go_ret;refine ⟨_,rfl,?_,Q6.out,G6.out⟩;rw [hfin.out];simp only [List.length_append,List.length_singleton,List.flatMap_append,List.flatMap_cons,List.flatMap_nil,List.append_nil];exact O6.out
  ·have e2:tke ts σ wUpto=(true,σ.next):=by unfold tke;rw [ho];rfl
   rw [e2] at cT;have HE:=hid (on_err ho);have HON:=hid (hst.out.1.ok.next (onW_k ho));obtain ⟨a,ha⟩:∃a,a=numS ts σ.next 0 1000000:=⟨_,rfl⟩;obtain ⟨v1,hv⟩:∃v1,v1=rateS ts a.2:=⟨_,rfl⟩;have e3:tierS ts σ.next=(⟨a.1,v1.1⟩,v1.2):=by rw [hv,ha];rfl
   have hfin:Hid (ti=tiersS ts ts.length v1.2 (acc++[⟨a.1,v1.1⟩])):=hid (by
    rw [hst.out.2.2.2.1];have o:=hst.out.1.ok;have o1:=o.next (onW_k ho);have l1:=tierS_le ts σ.next;obtain ⟨n,hn⟩:∃n,ts.length=n+1:=⟨ts.length-1,by have:=o.lt;omega⟩;have o2:=o1.tierS;rw [e3] at l1 o2;have key:=tiers_fuel ts n (n+1) v1.2 (acc++[⟨a.1,v1.1⟩]) o2 (by have:σ.next.i=σ.i+1:=rfl;rw [this] at l1;simp only at l1;omega) (by omega);rw [hn,←key];show tiersS ts (n+1) σ acc=_
    rw [tiersS,if_pos ho,e3])
   have hle:=hid (show σ.i+1≤v1.2.i by
    have l1:=tierS_le ts σ.next;rw [e3] at l1
    exact l1)
   have HA:=hid ha;have HV:=hid hv;have hac:acc.length+1≤1000000:=by have:=hst.out.2.2.2.2;have:=hst.out.1.ok.lt;have:=hst.out.1.cnt;omega
   clear e2 ho ha hv e3;go_wp2_with fail
   refine cT.mono ?_;rintro e w2 ⟨rfl,q2,g2⟩;have G2:=hid (grown_trans hst.out.2.1 g2);have O2:=hid (own_call hst.out.2.2.1 g2 hb);have cN:=whole_any b tb cap ts σ.next 1000000 w2 q2;rw [←HA.out] at cN;clear q2 g2;go_wp2_with fail
   refine cN.mono ?_;rintro e w3 ⟨rfl,q3,g3⟩;have G3:=hid (grown_trans G2.out g3);have O3:=hid (own_call O2.out g3 hb);have cR:=rate_any b tb cap ts a.2 w3 q3;rw [←HV.out] at cR;clear q3 g3;go_wp2_with fail
   refine cR.mono ?_;rintro e w4 ⟨rfl,q4,g4⟩;have G4:=hid (grown_trans G3.out g4);have o4:=own_call O3.out g4 hb;have Q4:=hid q4;have hbs:w.heap.size≤w4.heap.size:=G4.out.size;clear q4 g4;go_wp2_with (at_builtin;refine wpList_append_own _ rfl _ _ 54 rfl w.heap.size 119 i0 (.agg (tierC ⟨0,0⟩).toArray) 2 16 Tryz.underlying54 hi hz0 hz1 hz2 rfl (by decide) _ _ _ rfl (o4.alloc _) ⟨w4.heap.size,0,none⟩ 1 1 (tierC ⟨a.1,v1.1⟩) rfl rfl (news_at w4 (tierC ⟨a.1,v1.1⟩) _) (by simp [tierC,Value.oneCell']) (by unfold maxLen;omega) (by omega) (by simp;omega) ?_)
   intro v5 w5 hown hgrow _;have nk:=fun (k:Nat) e=>(o4.lt k e).1;have G5:=hid (grown_own (grown_trans G4.out (grown_alloc w4 _ _)) hgrow nk);have Q5:Rd w5 b tb cap ts v1.2:=(Q4.out.on ((Below.refl _ _).alloc (Nat.le_refl _) _)).other hgrow (fun k e=>by have:=nk k e;omega);have O5:=hid hown;have HQ5:=hid Q5;clear hown hgrow nk Q5 o4;go_wp2;go_roundw
   case rel=>exact ⟨_,v1.2,acc++[⟨a.1,v1.1⟩],rfl,hid ⟨HQ5.out,G5.out,by
    simp only [List.length_append,List.length_singleton,List.flatMap_append,List.flatMap_cons,List.flatMap_nil,List.append_nil]
    exact O5.out,hfin.out,by have h1:=hst.out.2.2.2.2;have h2:=hle.out;simp only [List.length_append,List.length_singleton];omega⟩⟩
   case measure=>
    rw [leftOf_rd HQ5.out,leftOf_rd hst.out.1];exact left_less HON.out HE.out HQ5.out.ok hle.out
theorem one_adj (ts:List Tok) (s:St):oneS ts s adjWords=if onW ts s wPercent then (0,s.next) else if onW ts s wCap then (1,s.next) else if onW ts s wMinimum then (2,s.next) else if onW ts s wAdd then (3,s.next) else (-1,s):=rfl
theorem adjs_step {ts:List Tok} {s:St} {acc:List Adj} {k:Int} {a:Adj} {s':St} (h:Ok ts s) (hk:0≤k) (ho:oneS ts s adjWords=(k,s.next)) (e:adjS ts s.next (1+k)=(a,s')):adjsS ts ts.length s acc=adjsS ts ts.length s' (acc++[a])∧s.i+1≤s'.i:=by
 obtain ⟨n,hn⟩:∃n,ts.length=n+1:=⟨ts.length-1,by have:=h.lt;omega⟩
 have o1:Ok ts s.next:=by
  have:=h.oneS adjWords;rw [ho] at this;exact this
 have l1:=adjS_le ts s.next (1+k);have o2:=o1.adjS (1+k);rw [e] at l1 o2;have l2:s.i+1≤s'.i:=l1;refine ⟨?_,l2⟩;have key:=adjs_fuel ts n (n+1) s' (acc++[a]) o2 (by omega) (by omega);rw [hn,←key];show adjsS ts (n+1) s acc=_
 rw [adjsS];simp only [ho,e];rw [if_neg (by omega)]
theorem adjs_stop {ts:List Tok} {s:St} {acc:List Adj} (h:Ok ts s) (ho:oneS ts s adjWords=(-1,s)):adjsS ts ts.length s acc=(acc,s):=by
 obtain ⟨n,hn⟩:∃n,ts.length=n+1:=⟨ts.length-1,by have:=h.lt;omega⟩;rw [hn,adjsS];simp only [ho];rfl
theorem adjusts_any (b tb cap:Nat) (ts:List Tok) (s:St) (w:World) (h:Rd w b tb cap ts s) :
  Calls Tryz.prog 192 #[.pointer (some ⟨b,0,none⟩)] w fun x w'=>∃v,x=.returned v∧w'.ownsRow w.heap.size 121 3 v (adjsS ts ts.length s []).1.length ((adjsS ts ts.length s []).1.flatMap adjC)∧Rd w' b tb cap ts (adjsS ts ts.length s []).2∧w.grownBy w' (some b):=by
 obtain ⟨i0,hi,hz0,hz1,hz2⟩:=info_parts info_adjP;obtain ⟨ad,had⟩:∃ad,ad=adjsS ts ts.length s []:=⟨_,rfl⟩;rw [←had];have HAD:=hid had;have hb:=h.lt;have H:=hid h;clear had h;go_enter Tryz.func192,Tryz.ntmps192
 go_wp2_with fail
 go_loopw [3] (fun v wr=>∃(V:Value) (σ:St) (acc:List Adj),v=V∧Hid (Rd wr b tb cap ts σ∧w.grownBy wr (some b)∧wr.ownsRow w.heap.size 121 3 V acc.length (acc.flatMap adjC)∧ad=adjsS ts ts.length σ acc∧acc.length≤σ.i)) (fun _ wr=>leftOf wr b)
 case atStart=>exact ⟨_,_,[],rfl,hid ⟨H.out,grown_refl _ _,World.ownsRow_nil _ _ _ _,HAD.out,Nat.zero_le _⟩⟩
 case round=>
  obtain ⟨V,σ,acc,rfl,hst⟩:=hrel;obtain ⟨wa,hwa,ba,Ba⟩:=loaded wr [.int .i64 0,.int .i64 0,.int .i64 0] 121;have HWA:Hid (wr.alloc (.cells #[.int .i64 0,.int .i64 0,.int .i64 0] 121)=wa):=hid hwa;have Oa:=hid (owns_on hst.out.2.2.1 ba);have Qa:=hid (hst.out.1.on ba);have Ga:=hid (grown_trans hst.out.2.1 (grown_below ba));have NV:=hid (fun (k:Nat) e=>(hst.out.2.2.1.lt k e).2);obtain ⟨ka,hka⟩:∃ka,ka=wr.heap.size:=⟨_,rfl⟩;rw [←hka] at Ba;have HKA:=hid hka;have HB:=hid Ba;have nka:some ka≠some b:=fun e=>by have:=Option.some.inj e;have:=hst.out.1.lt;omega
  have lka:w.heap.size≤ka:=by rw [hka];exact hst.out.2.1.size
  have hac:acc.length+1≤1000000:=by have:=hst.out.2.2.2.2;have:=hst.out.1.ok.lt;have:=hst.out.1.cnt;omega
  have OK:=hid hst.out.1.ok;have ONE:=hid (one_adj ts σ);clear hwa ba Ba hka;cases o0:onW ts σ wPercent
  case true=>
   have HE:=hid (on_err o0);have HON:=hid (OK.out.next (onW_k o0));have E0:Hid (tke ts σ wPercent=(true,σ.next)):=hid (by unfold tke;rw [o0];rfl);have hone:oneS ts σ adjWords=(0,σ.next):=by rw [ONE.out,o0];rfl
   obtain ⟨N,hN⟩:∃N,N=numS ts σ.next 3 100000000:=⟨_,rfl⟩;obtain ⟨M,hM⟩:∃M,M=modeS ts N.2:=⟨_,rfl⟩;have ST:=hid (adjs_step (acc:=acc) (a:=⟨1,N.1,M.1⟩) (s':=wnt ts M.2 sSemi) OK.out (by omega) hone (by rw [hM,hN];rfl));have HN:=hid hN;have HM:=hid hM;clear hone hN hM o0;have c:=next_any b tb cap ts σ ⟨#[112,101,114,99,101,110,116]⟩ (by decide) wa Qa.out;rw [show (⟨#[112,101,114,99,101,110,116]⟩:ByteArray).data.toList=wPercent from rfl] at c;rw [E0.out] at c;go_wp2_with fail
   rw [HWA.out,←HKA.out];refine c.mono ?_;rintro e wb ⟨rfl,q,g⟩;have Qb:=hid q;have Gb:=hid (grown_trans Ga.out g);have Ob:=hid (own_call Oa.out g hb);have Yb:=hid (HB.out.grown g nka);clear c q g;have c:=percent_any b tb cap ts σ.next wb Qb.out;rw [←HN.out,←HM.out] at c;go_wp2_with fail
   refine c.mono ?_;rintro e wp ⟨rfl,q,g⟩;have yp:=Yb.out.grown g nka;have Gp:=hid (grown_trans Gb.out g);have Op:=hid (own_call Ob.out g hb);have d0:=yp.cell 0 _ rfl;have d1:=yp.cell 1 _ rfl;have d2:=yp.cell 2 _ rfl;have f0:=yp.free 0;have f1:=yp.free 1;have f2:=yp.free 2;have lk:=yp.lt;obtain ⟨wq,hwq⟩:∃wq,wq=((wp.setCell ⟨ka,0,none⟩ (.int .i64 1)).setCell ⟨ka,1,none⟩ (.int .i64 N.1)).setCell ⟨ka,2,none⟩ (.int .i64 M.1):=⟨_,rfl⟩;have Yq:Bx wq ka [.int .i64 1,.int .i64 N.1,.int .i64 M.1]:=by rw [hwq];exact ((yp.set 0 _).set 1 _).set 2 _
   have Qq:Rd wq b tb cap ts M.2:=by rw [hwq];exact ((q.far' hb lka _ _).far' hb lka _ _).far' hb lka _ _
   have Gq:w.grownBy wq (some b):=by rw [hwq];exact grown_put (grown_put (grown_put Gp.out lka _ _) lka _ _) lka _ _
   have nv:=fun e=>Nat.lt_irrefl _ (Nat.lt_of_lt_of_eq (NV.out ka e) HKA.out.symm);have oq:=ownsRow_setCell_other (ownsRow_setCell_other (ownsRow_setCell_other Op.out (a:=⟨ka,0,none⟩) nv (.int .i64 1)) (a:=⟨ka,1,none⟩) nv (.int .i64 N.1)) (a:=⟨ka,2,none⟩) nv (.int .i64 M.1);rw [←hwq] at oq;have HWQ:=hid hwq;have Oq:=hid oq;have c:=need_any b tb cap ts M.2 ⟨#[59]⟩ (by decide) wq Qq;rw [show (⟨#[59]⟩:ByteArray).data.toList=sSemi from rfl] at c;clear q g yp hwq nv oq Qq;go_wp2_with fail
   rw [←HWQ.out];refine c.mono ?_;rintro e wz ⟨rfl,q,g⟩;have yz:=Yq.grown g nka;have Gz:=hid (grown_trans Gq g);have oz:=own_call Oq.out g hb;have Qz:=hid q;clear d0 d1 d2 f0 f1 f2 lk c q g Yq Gq;have d0:=yz.cell 0 _ rfl;have d1:=yz.cell 1 _ rfl;have d2:=yz.cell 2 _ rfl;have lk:=yz.lt;have hbs:w.heap.size≤wz.heap.size:=Gz.out.size;clear yz;go_wp2_with (at_builtin;refine wpList_append_own _ rfl _ _ 55 rfl w.heap.size 121 i0 (.agg (adjC ⟨0,0,0⟩).toArray) 3 24 Tryz.underlying55 hi hz0 hz1 hz2 rfl (by decide) _ _ _ rfl (oz.alloc _) ⟨wz.heap.size,0,none⟩ 1 1 (adjC ⟨1,N.1,M.1⟩) rfl rfl (news_at wz (adjC ⟨1,N.1,M.1⟩) _) (by simp [adjC,Value.oneCell']) (by unfold maxLen;omega) (by omega) (by simp;omega) ?_)
   intro v5 w5 hown hgrow _;have nk:=fun (k:Nat) e=>(oz.lt k e).1;have G5:=hid (grown_own (grown_trans Gz.out (grown_alloc wz _ _)) hgrow nk);have Q5:Rd w5 b tb cap ts (wnt ts M.2 sSemi):=(Qz.out.on ((Below.refl _ _).alloc (Nat.le_refl _) _)).other hgrow (fun k e=>by have:=nk k e;omega);have O5:=hid hown;have HQ5:=hid Q5;clear hown hgrow nk Q5 oz;go_wp2;go_roundw
   case rel=>exact ⟨_,wnt ts M.2 sSemi,acc++[⟨1,N.1,M.1⟩],rfl,hid ⟨HQ5.out,G5.out,by
     simp only [List.length_append,List.length_singleton,List.flatMap_append,List.flatMap_cons,List.flatMap_nil,List.append_nil]
     exact O5.out,hst.out.2.2.2.1.trans ST.out.1,by have h1:=hst.out.2.2.2.2;have h2:=ST.out.2;simp only [List.length_append,List.length_singleton];omega⟩⟩
   case measure=>
    rw [leftOf_rd HQ5.out,leftOf_rd hst.out.1];exact left_less HON.out HE.out HQ5.out.ok ST.out.2
  case false=>
   have E0:Hid (tke ts σ wPercent=(false,σ)):=hid (by unfold tke;rw [o0];rfl);cases o1:onW ts σ wCap
   case true=>
    have HE:=hid (on_err o1);have HON:=hid (OK.out.next (onW_k o1));have E1:Hid (tke ts σ wCap=(true,σ.next)):=hid (by unfold tke;rw [o1];rfl);have hone:oneS ts σ adjWords=(1,σ.next):=by rw [ONE.out,o0,o1];rfl
    obtain ⟨N,hN⟩:∃N,N=numS ts σ.next 0 1000000000000:=⟨_,rfl⟩;have ST:=hid (adjs_step (acc:=acc) (a:=⟨2,N.1,0⟩) (s':=wnt ts N.2 sSemi) OK.out (by omega) hone (by rw [hN];rfl));have HN:=hid hN;clear hone hN o0 o1;have c:=next_any b tb cap ts σ ⟨#[112,101,114,99,101,110,116]⟩ (by decide) wa Qa.out;rw [show (⟨#[112,101,114,99,101,110,116]⟩:ByteArray).data.toList=wPercent from rfl] at c;rw [E0.out] at c;go_wp2_with fail
    rw [HWA.out,←HKA.out];refine c.mono ?_;rintro e wb ⟨rfl,q,g⟩;have Qb:=hid q;have Gb:=hid (grown_trans Ga.out g);have Ob:=hid (own_call Oa.out g hb);have Yb:=hid (HB.out.grown g nka);clear c q g;have c:=next_any b tb cap ts σ ⟨#[99,97,112]⟩ (by decide) wb Qb.out;rw [show (⟨#[99,97,112]⟩:ByteArray).data.toList=wCap from rfl] at c;rw [E1.out] at c;go_wp2_with fail
    refine c.mono ?_;rintro e wc ⟨rfl,q,g⟩;have Qc:=hid q;have Gc:=hid (grown_trans Gb.out g);have Oc:=hid (own_call Ob.out g hb);have Yc:=hid (Yb.out.grown g nka);clear c q g;have c:=amount_any b tb cap ts σ.next 2 wc Qc.out;rw [←HN.out] at c;go_wp2_with fail
    refine c.mono ?_;rintro e wp ⟨rfl,q,g⟩;have yp:=Yc.out.grown g nka;have Gp:=hid (grown_trans Gc.out g);have Op:=hid (own_call Oc.out g hb);have d0:=yp.cell 0 _ rfl;have d1:=yp.cell 1 _ rfl;have d2:=yp.cell 2 _ rfl;have f0:=yp.free 0;have f1:=yp.free 1;have f2:=yp.free 2;have lk:=yp.lt;obtain ⟨wq,hwq⟩:∃wq,wq=((wp.setCell ⟨ka,0,none⟩ (.int .i64 2)).setCell ⟨ka,1,none⟩ (.int .i64 N.1)).setCell ⟨ka,2,none⟩ (.int .i64 0):=⟨_,rfl⟩;have Yq:Bx wq ka [.int .i64 2,.int .i64 N.1,.int .i64 0]:=by rw [hwq];exact ((yp.set 0 _).set 1 _).set 2 _
    have Qq:Rd wq b tb cap ts N.2:=by rw [hwq];exact ((q.far' hb lka _ _).far' hb lka _ _).far' hb lka _ _
    have Gq:w.grownBy wq (some b):=by rw [hwq];exact grown_put (grown_put (grown_put Gp.out lka _ _) lka _ _) lka _ _
    have nv:=fun e=>Nat.lt_irrefl _ (Nat.lt_of_lt_of_eq (NV.out ka e) HKA.out.symm);have oq:=ownsRow_setCell_other (ownsRow_setCell_other (ownsRow_setCell_other Op.out (a:=⟨ka,0,none⟩) nv (.int .i64 2)) (a:=⟨ka,1,none⟩) nv (.int .i64 N.1)) (a:=⟨ka,2,none⟩) nv (.int .i64 0);rw [←hwq] at oq;have HWQ:=hid hwq;have Oq:=hid oq;have c:=need_any b tb cap ts N.2 ⟨#[59]⟩ (by decide) wq Qq;rw [show (⟨#[59]⟩:ByteArray).data.toList=sSemi from rfl] at c;clear q g yp hwq nv oq Qq;go_wp2_with fail
    rw [←HWQ.out];refine c.mono ?_;rintro e wz ⟨rfl,q,g⟩;have yz:=Yq.grown g nka;have Gz:=hid (grown_trans Gq g);have oz:=own_call Oq.out g hb;have Qz:=hid q;clear d0 d1 d2 f0 f1 f2 lk c q g Yq Gq;have d0:=yz.cell 0 _ rfl;have d1:=yz.cell 1 _ rfl;have d2:=yz.cell 2 _ rfl;have lk:=yz.lt;have hbs:w.heap.size≤wz.heap.size:=Gz.out.size;clear yz;go_wp2_with (at_builtin;refine wpList_append_own _ rfl _ _ 55 rfl w.heap.size 121 i0 (.agg (adjC ⟨0,0,0⟩).toArray) 3 24 Tryz.underlying55 hi hz0 hz1 hz2 rfl (by decide) _ _ _ rfl (oz.alloc _) ⟨wz.heap.size,0,none⟩ 1 1 (adjC ⟨2,N.1,0⟩) rfl rfl (news_at wz (adjC ⟨2,N.1,0⟩) _) (by simp [adjC,Value.oneCell']) (by unfold maxLen;omega) (by omega) (by simp;omega) ?_)
    intro v5 w5 hown hgrow _;have nk:=fun (k:Nat) e=>(oz.lt k e).1;have G5:=hid (grown_own (grown_trans Gz.out (grown_alloc wz _ _)) hgrow nk);have Q5:Rd w5 b tb cap ts (wnt ts N.2 sSemi):=(Qz.out.on ((Below.refl _ _).alloc (Nat.le_refl _) _)).other hgrow (fun k e=>by have:=nk k e;omega);have O5:=hid hown;have HQ5:=hid Q5;clear hown hgrow nk Q5 oz;go_wp2;go_roundw
    case rel=>exact ⟨_,wnt ts N.2 sSemi,acc++[⟨2,N.1,0⟩],rfl,hid ⟨HQ5.out,G5.out,by
      simp only [List.length_append,List.length_singleton,List.flatMap_append,List.flatMap_cons,List.flatMap_nil,List.append_nil]
      exact O5.out,hst.out.2.2.2.1.trans ST.out.1,by have h1:=hst.out.2.2.2.2;have h2:=ST.out.2;simp only [List.length_append,List.length_singleton];omega⟩⟩
    case measure=>
     rw [leftOf_rd HQ5.out,leftOf_rd hst.out.1];exact left_less HON.out HE.out HQ5.out.ok ST.out.2
   case false=>
    have E1:Hid (tke ts σ wCap=(false,σ)):=hid (by unfold tke;rw [o1];rfl);cases o2:onW ts σ wMinimum
    case true=>
     have HE:=hid (on_err o2);have HON:=hid (OK.out.next (onW_k o2));have E2:Hid (tke ts σ wMinimum=(true,σ.next)):=hid (by unfold tke;rw [o2];rfl);have hone:oneS ts σ adjWords=(2,σ.next):=by rw [ONE.out,o0,o1,o2];rfl
     obtain ⟨N,hN⟩:∃N,N=numS ts σ.next 0 1000000000000:=⟨_,rfl⟩;have ST:=hid (adjs_step (acc:=acc) (a:=⟨3,N.1,0⟩) (s':=wnt ts N.2 sSemi) OK.out (by omega) hone (by rw [hN];rfl));have HN:=hid hN;clear hone hN o0 o1 o2;have c:=next_any b tb cap ts σ ⟨#[112,101,114,99,101,110,116]⟩ (by decide) wa Qa.out;rw [show (⟨#[112,101,114,99,101,110,116]⟩:ByteArray).data.toList=wPercent from rfl] at c;rw [E0.out] at c;go_wp2_with fail
     rw [HWA.out,←HKA.out];refine c.mono ?_;rintro e wb ⟨rfl,q,g⟩;have Qb:=hid q;have Gb:=hid (grown_trans Ga.out g);have Ob:=hid (own_call Oa.out g hb);have Yb:=hid (HB.out.grown g nka);clear c q g;have c:=next_any b tb cap ts σ ⟨#[99,97,112]⟩ (by decide) wb Qb.out;rw [show (⟨#[99,97,112]⟩:ByteArray).data.toList=wCap from rfl] at c;rw [E1.out] at c;go_wp2_with fail
     refine c.mono ?_;rintro e wc ⟨rfl,q,g⟩;have Qc:=hid q;have Gc:=hid (grown_trans Gb.out g);have Oc:=hid (own_call Ob.out g hb);have Yc:=hid (Yb.out.grown g nka);clear c q g;have c:=next_any b tb cap ts σ ⟨#[109,105,110,105,109,117,109]⟩ (by decide) wc Qc.out;rw [show (⟨#[109,105,110,105,109,117,109]⟩:ByteArray).data.toList=wMinimum from rfl] at c;rw [E2.out] at c;go_wp2_with fail
     refine c.mono ?_;rintro e wd ⟨rfl,q,g⟩;have Qd:=hid q;have Gd:=hid (grown_trans Gc.out g);have Od:=hid (own_call Oc.out g hb);have Yd:=hid (Yc.out.grown g nka);clear c q g;have c:=amount_any b tb cap ts σ.next 3 wd Qd.out;rw [←HN.out] at c;go_wp2_with fail
     refine c.mono ?_;rintro e wp ⟨rfl,q,g⟩;have yp:=Yd.out.grown g nka;have Gp:=hid (grown_trans Gd.out g);have Op:=hid (own_call Od.out g hb);have d0:=yp.cell 0 _ rfl;have d1:=yp.cell 1 _ rfl;have d2:=yp.cell 2 _ rfl;have f0:=yp.free 0;have f1:=yp.free 1;have f2:=yp.free 2;have lk:=yp.lt;obtain ⟨wq,hwq⟩:∃wq,wq=((wp.setCell ⟨ka,0,none⟩ (.int .i64 3)).setCell ⟨ka,1,none⟩ (.int .i64 N.1)).setCell ⟨ka,2,none⟩ (.int .i64 0):=⟨_,rfl⟩;have Yq:Bx wq ka [.int .i64 3,.int .i64 N.1,.int .i64 0]:=by rw [hwq];exact ((yp.set 0 _).set 1 _).set 2 _
     have Qq:Rd wq b tb cap ts N.2:=by rw [hwq];exact ((q.far' hb lka _ _).far' hb lka _ _).far' hb lka _ _
     have Gq:w.grownBy wq (some b):=by rw [hwq];exact grown_put (grown_put (grown_put Gp.out lka _ _) lka _ _) lka _ _
     have nv:=fun e=>Nat.lt_irrefl _ (Nat.lt_of_lt_of_eq (NV.out ka e) HKA.out.symm);have oq:=ownsRow_setCell_other (ownsRow_setCell_other (ownsRow_setCell_other Op.out (a:=⟨ka,0,none⟩) nv (.int .i64 3)) (a:=⟨ka,1,none⟩) nv (.int .i64 N.1)) (a:=⟨ka,2,none⟩) nv (.int .i64 0);rw [←hwq] at oq;have HWQ:=hid hwq;have Oq:=hid oq;have c:=need_any b tb cap ts N.2 ⟨#[59]⟩ (by decide) wq Qq;rw [show (⟨#[59]⟩:ByteArray).data.toList=sSemi from rfl] at c;clear q g yp hwq nv oq Qq;go_wp2_with fail
     rw [←HWQ.out];refine c.mono ?_;rintro e wz ⟨rfl,q,g⟩;have yz:=Yq.grown g nka;have Gz:=hid (grown_trans Gq g);have oz:=own_call Oq.out g hb;have Qz:=hid q;clear d0 d1 d2 f0 f1 f2 lk c q g Yq Gq;have d0:=yz.cell 0 _ rfl;have d1:=yz.cell 1 _ rfl;have d2:=yz.cell 2 _ rfl;have lk:=yz.lt;have hbs:w.heap.size≤wz.heap.size:=Gz.out.size;clear yz;go_wp2_with (at_builtin;refine wpList_append_own _ rfl _ _ 55 rfl w.heap.size 121 i0 (.agg (adjC ⟨0,0,0⟩).toArray) 3 24 Tryz.underlying55 hi hz0 hz1 hz2 rfl (by decide) _ _ _ rfl (oz.alloc _) ⟨wz.heap.size,0,none⟩ 1 1 (adjC ⟨3,N.1,0⟩) rfl rfl (news_at wz (adjC ⟨3,N.1,0⟩) _) (by simp [adjC,Value.oneCell']) (by unfold maxLen;omega) (by omega) (by simp;omega) ?_)
     intro v5 w5 hown hgrow _;have nk:=fun (k:Nat) e=>(oz.lt k e).1;have G5:=hid (grown_own (grown_trans Gz.out (grown_alloc wz _ _)) hgrow nk);have Q5:Rd w5 b tb cap ts (wnt ts N.2 sSemi):=(Qz.out.on ((Below.refl _ _).alloc (Nat.le_refl _) _)).other hgrow (fun k e=>by have:=nk k e;omega);have O5:=hid hown;have HQ5:=hid Q5;clear hown hgrow nk Q5 oz;go_wp2;go_roundw
     case rel=>exact ⟨_,wnt ts N.2 sSemi,acc++[⟨3,N.1,0⟩],rfl,hid ⟨HQ5.out,G5.out,by
       simp only [List.length_append,List.length_singleton,List.flatMap_append,List.flatMap_cons,List.flatMap_nil,List.append_nil]
       exact O5.out,hst.out.2.2.2.1.trans ST.out.1,by have h1:=hst.out.2.2.2.2;have h2:=ST.out.2;simp only [List.length_append,List.length_singleton];omega⟩⟩
     case measure=>
      rw [leftOf_rd HQ5.out,leftOf_rd hst.out.1];exact left_less HON.out HE.out HQ5.out.ok ST.out.2
    case false=>
     have E2:Hid (tke ts σ wMinimum=(false,σ)):=hid (by unfold tke;rw [o2];rfl);cases o3:onW ts σ wAdd
     case true=>
      have HE:=hid (on_err o3);have HON:=hid (OK.out.next (onW_k o3));have E3:Hid (tke ts σ wAdd=(true,σ.next)):=hid (by unfold tke;rw [o3];rfl);have hone:oneS ts σ adjWords=(3,σ.next):=by rw [ONE.out,o0,o1,o2,o3];rfl
      obtain ⟨N,hN⟩:∃N,N=numS ts σ.next 0 1000000000000:=⟨_,rfl⟩;have ST:=hid (adjs_step (acc:=acc) (a:=⟨4,N.1,0⟩) (s':=wnt ts N.2 sSemi) OK.out (by omega) hone (by rw [hN];rfl));have HN:=hid hN;clear hone hN o0 o1 o2 o3;have c:=next_any b tb cap ts σ ⟨#[112,101,114,99,101,110,116]⟩ (by decide) wa Qa.out;rw [show (⟨#[112,101,114,99,101,110,116]⟩:ByteArray).data.toList=wPercent from rfl] at c;rw [E0.out] at c;go_wp2_with fail
      rw [HWA.out,←HKA.out];refine c.mono ?_;rintro e wb ⟨rfl,q,g⟩;have Qb:=hid q;have Gb:=hid (grown_trans Ga.out g);have Ob:=hid (own_call Oa.out g hb);have Yb:=hid (HB.out.grown g nka);clear c q g;have c:=next_any b tb cap ts σ ⟨#[99,97,112]⟩ (by decide) wb Qb.out;rw [show (⟨#[99,97,112]⟩:ByteArray).data.toList=wCap from rfl] at c;rw [E1.out] at c;go_wp2_with fail
      refine c.mono ?_;rintro e wc ⟨rfl,q,g⟩;have Qc:=hid q;have Gc:=hid (grown_trans Gb.out g);have Oc:=hid (own_call Ob.out g hb);have Yc:=hid (Yb.out.grown g nka);clear c q g;have c:=next_any b tb cap ts σ ⟨#[109,105,110,105,109,117,109]⟩ (by decide) wc Qc.out;rw [show (⟨#[109,105,110,105,109,117,109]⟩:ByteArray).data.toList=wMinimum from rfl] at c;rw [E2.out] at c;go_wp2_with fail
      refine c.mono ?_;rintro e wd ⟨rfl,q,g⟩;have Qd:=hid q;have Gd:=hid (grown_trans Gc.out g);have Od:=hid (own_call Oc.out g hb);have Yd:=hid (Yc.out.grown g nka);clear c q g;have c:=next_any b tb cap ts σ ⟨#[97,100,100]⟩ (by decide) wd Qd.out;rw [show (⟨#[97,100,100]⟩:ByteArray).data.toList=wAdd from rfl] at c;rw [E3.out] at c;go_wp2_with fail
      refine c.mono ?_;rintro e we ⟨rfl,q,g⟩;have Qe:=hid q;have Ge:=hid (grown_trans Gd.out g);have Oe:=hid (own_call Od.out g hb);have Ye:=hid (Yd.out.grown g nka);clear c q g;have c:=amount_any b tb cap ts σ.next 4 we Qe.out;rw [←HN.out] at c;go_wp2_with fail
      refine c.mono ?_;rintro e wp ⟨rfl,q,g⟩;have yp:=Ye.out.grown g nka;have Gp:=hid (grown_trans Ge.out g);have Op:=hid (own_call Oe.out g hb);have d0:=yp.cell 0 _ rfl;have d1:=yp.cell 1 _ rfl;have d2:=yp.cell 2 _ rfl;have f0:=yp.free 0;have f1:=yp.free 1;have f2:=yp.free 2;have lk:=yp.lt;obtain ⟨wq,hwq⟩:∃wq,wq=((wp.setCell ⟨ka,0,none⟩ (.int .i64 4)).setCell ⟨ka,1,none⟩ (.int .i64 N.1)).setCell ⟨ka,2,none⟩ (.int .i64 0):=⟨_,rfl⟩;have Yq:Bx wq ka [.int .i64 4,.int .i64 N.1,.int .i64 0]:=by rw [hwq];exact ((yp.set 0 _).set 1 _).set 2 _
      have Qq:Rd wq b tb cap ts N.2:=by rw [hwq];exact ((q.far' hb lka _ _).far' hb lka _ _).far' hb lka _ _
      have Gq:w.grownBy wq (some b):=by rw [hwq];exact grown_put (grown_put (grown_put Gp.out lka _ _) lka _ _) lka _ _
      have nv:=fun e=>Nat.lt_irrefl _ (Nat.lt_of_lt_of_eq (NV.out ka e) HKA.out.symm);have oq:=ownsRow_setCell_other (ownsRow_setCell_other (ownsRow_setCell_other Op.out (a:=⟨ka,0,none⟩) nv (.int .i64 4)) (a:=⟨ka,1,none⟩) nv (.int .i64 N.1)) (a:=⟨ka,2,none⟩) nv (.int .i64 0);rw [←hwq] at oq;have HWQ:=hid hwq;have Oq:=hid oq;have c:=need_any b tb cap ts N.2 ⟨#[59]⟩ (by decide) wq Qq;rw [show (⟨#[59]⟩:ByteArray).data.toList=sSemi from rfl] at c;clear q g yp hwq nv oq Qq;go_wp2_with fail
      rw [←HWQ.out];refine c.mono ?_;rintro e wz ⟨rfl,q,g⟩;have yz:=Yq.grown g nka;have Gz:=hid (grown_trans Gq g);have oz:=own_call Oq.out g hb;have Qz:=hid q;clear d0 d1 d2 f0 f1 f2 lk c q g Yq Gq;have d0:=yz.cell 0 _ rfl;have d1:=yz.cell 1 _ rfl;have d2:=yz.cell 2 _ rfl;have lk:=yz.lt;have hbs:w.heap.size≤wz.heap.size:=Gz.out.size;clear yz;go_wp2_with (at_builtin;refine wpList_append_own _ rfl _ _ 55 rfl w.heap.size 121 i0 (.agg (adjC ⟨0,0,0⟩).toArray) 3 24 Tryz.underlying55 hi hz0 hz1 hz2 rfl (by decide) _ _ _ rfl (oz.alloc _) ⟨wz.heap.size,0,none⟩ 1 1 (adjC ⟨4,N.1,0⟩) rfl rfl (news_at wz (adjC ⟨4,N.1,0⟩) _) (by simp [adjC,Value.oneCell']) (by unfold maxLen;omega) (by omega) (by simp;omega) ?_)
      intro v5 w5 hown hgrow _;have nk:=fun (k:Nat) e=>(oz.lt k e).1;have G5:=hid (grown_own (grown_trans Gz.out (grown_alloc wz _ _)) hgrow nk);have Q5:Rd w5 b tb cap ts (wnt ts N.2 sSemi):=(Qz.out.on ((Below.refl _ _).alloc (Nat.le_refl _) _)).other hgrow (fun k e=>by have:=nk k e;omega);have O5:=hid hown;have HQ5:=hid Q5;clear hown hgrow nk Q5 oz;go_wp2;go_roundw
      case rel=>exact ⟨_,wnt ts N.2 sSemi,acc++[⟨4,N.1,0⟩],rfl,hid ⟨HQ5.out,G5.out,by
        simp only [List.length_append,List.length_singleton,List.flatMap_append,List.flatMap_cons,List.flatMap_nil,List.append_nil]
        exact O5.out,hst.out.2.2.2.1.trans ST.out.1,by have h1:=hst.out.2.2.2.2;have h2:=ST.out.2;simp only [List.length_append,List.length_singleton];omega⟩⟩
      case measure=>
       rw [leftOf_rd HQ5.out,leftOf_rd hst.out.1];exact left_less HON.out HE.out HQ5.out.ok ST.out.2
     case false=>
      have E3:Hid (tke ts σ wAdd=(false,σ)):=hid (by unfold tke;rw [o3];rfl);have hone:oneS ts σ adjWords=(-1,σ):=by rw [ONE.out,o0,o1,o2,o3];rfl
      have ST:=hid (adjs_stop (acc:=acc) OK.out hone);clear hone o0 o1 o2 o3;have c:=next_any b tb cap ts σ ⟨#[112,101,114,99,101,110,116]⟩ (by decide) wa Qa.out;rw [show (⟨#[112,101,114,99,101,110,116]⟩:ByteArray).data.toList=wPercent from rfl] at c;rw [E0.out] at c;go_wp2_with fail
      rw [HWA.out];refine c.mono ?_;rintro e wb ⟨rfl,q,g⟩;have Qb:=hid q;have Gb:=hid (grown_trans Ga.out g);have Ob:=hid (own_call Oa.out g hb);clear c q g;have c:=next_any b tb cap ts σ ⟨#[99,97,112]⟩ (by decide) wb Qb.out;rw [show (⟨#[99,97,112]⟩:ByteArray).data.toList=wCap from rfl] at c;rw [E1.out] at c;go_wp2_with fail
      refine c.mono ?_;rintro e wc ⟨rfl,q,g⟩;have Qc:=hid q;have Gc:=hid (grown_trans Gb.out g);have Oc:=hid (own_call Ob.out g hb);clear c q g;have c:=next_any b tb cap ts σ ⟨#[109,105,110,105,109,117,109]⟩ (by decide) wc Qc.out;rw [show (⟨#[109,105,110,105,109,117,109]⟩:ByteArray).data.toList=wMinimum from rfl] at c;rw [E2.out] at c;go_wp2_with fail
      refine c.mono ?_;rintro e wd ⟨rfl,q,g⟩;have Qd:=hid q;have Gd:=hid (grown_trans Gc.out g);have Od:=hid (own_call Oc.out g hb);clear c q g;have c:=next_any b tb cap ts σ ⟨#[97,100,100]⟩ (by decide) wd Qd.out;rw [show (⟨#[97,100,100]⟩:ByteArray).data.toList=wAdd from rfl] at c;rw [E3.out] at c;go_wp2_with fail
      refine c.mono ?_;rintro e we ⟨rfl,q,g⟩;have Qe:=hid q;have Ge:=hid (grown_trans Gd.out g);have Oe:=hid (own_call Od.out g hb);clear c q g;go_wp2;go_ret;refine ⟨_,rfl,?_,?_,Ge.out⟩
      ·rw [hst.out.2.2.2.1,ST.out];exact Oe.out
      ·rw [hst.out.2.2.2.1,ST.out];exact Qe.out
end Pa
end Go.Proofs.YtofbobdhkbmbgaaGreatDoor
