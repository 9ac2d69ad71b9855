/- What package parse does: one fee more. -/
import Derived.Test.YtofbobdhkbmbgaaGreatDoorJPaD
set_option maxRecDepth 100000
set_option maxHeartbeats 8000000
namespace Go.Proofs.YtofbobdhkbmbgaaGreatDoor
namespace Pa
open Go.RowKit Go.Sort P Tl Mm Md
theorem item_fee {w0:World} {b tb cap:Nat} {ts:List Tok} {kr kp base:Nat} {s:St} {p:Plan} {ma:Option Addr} {mc:Nat} {fa:Option Addr} {fc:Nat} {ca:Option Addr} {cc:Nat} {hs:List Hd} (w:World)
  (h:Pq w0 w b tb cap ts kr kp base s p ma mc fa fc ca cc hs) (hgo:s.err=0) (hf0:onW ts s wMeter=false) (ho:onW ts s wFee=true) (hn:p.fees.length≤100000) :
  Calls Tryz.prog 106 #[.pointer (some ⟨b,0,none⟩),.pointer (some ⟨kp,0,none⟩)] w fun x w'=>x=.returned (.tuple #[])∧
   ∃fa' fc',Pq w0 w' b tb cap ts kr kp base (feeS ts s.next (tk ts s).ln (tk ts s).cl).2 { p with fees:=p.fees++[(feeS ts s.next (tk ts s).ln (tk ts s).cl).1] } ma mc fa' fc' ca cc hs:=by
 have H:=hid h;have hb:=h.rd.lt;have c0:=h.rd.c0;obtain ⟨a0,a1,a2,a3⟩:=h.rd.at;obtain ⟨T,hT⟩:∃T:ByteArray,T=⟨(vk ts s).t.toArray⟩:=⟨_,rfl⟩;obtain ⟨K,hK⟩:∃K:Int,K=((vk ts s).k:Int):=⟨_,rfl⟩;obtain ⟨L,hL⟩:∃L:Int,L=((vk ts s).ln:Int):=⟨_,rfl⟩;obtain ⟨C,hC⟩:∃C:Int,C=((vk ts s).cl:Int):=⟨_,rfl⟩;rw [←hT] at a1;rw [←hK] at a0;rw [←hL] at a2;rw [←hC] at a3;have hc:1≤ts.length-vw ts s:=by have:=vw_lt h.rd.ok;omega
 obtain ⟨wt,hwt,bt,Bt⟩:=loaded w [.int .i64 K,.string T,.int .i64 L,.int .i64 C] 154;have HWT:Hid (w.alloc (.cells #[.int .i64 K,.string T,.int .i64 L,.int .i64 C] 154)=wt):=hid hwt;have Pt:=hid (h.on bt);obtain ⟨kt,hkt⟩:∃kt,kt=w.heap.size:=⟨_,rfl⟩;rw [←hkt] at Bt;have HKT:=hid hkt;have lkt:base≤kt:=by rw [hkt];exact h.bsz
 have nkt:some kt≠some b:=fun e=>by have:=Option.some.inj e;omega
 obtain ⟨m,hm⟩:∃m,m=feeS ts s.next 0 0:=⟨_,rfl⟩;have e:feeS ts s.next (tk ts s).ln (tk ts s).cl=({ m.1 with line:=L,col:=C },m.2):=by rw [hL,hC,vk_ok hgo,hm];rfl
 rw [e];have HM:=hid hm;obtain ⟨mv,hmv⟩:∃mv,mv=m.1:=⟨_,rfl⟩;have HMV:=hid hmv;have E0:Hid (tke ts s wMeter=(false,s)):=hid (by unfold tke;rw [hf0];rfl);have E1:Hid (tke ts s wFee=(true,s.next)):=hid (by unfold tke;rw [ho];rfl);clear e hm hmv hT hK hL hC hwt bt hkt h hgo ho hf0;go_enter Tryz.func106,Tryz.ntmps106
 have c:=next_any b tb cap ts s ⟨#[109,101,116,101,114]⟩ (by decide) wt Pt.out.rd;rw [show (⟨#[109,101,116,101,114]⟩:ByteArray).data.toList=wMeter from rfl,E0.out] at c;go_wp2_with fail
 rw [HWT.out,←HKT.out];clear c0 a0 a1 a2 a3 hc hb;refine c.mono ?_;rintro e wa ⟨rfl,q,g⟩;have Pa:=hid (Pt.out.call q g);have Ba:=hid (Bt.grown g nkt);clear c q g Bt;have c:=next_any b tb cap ts s ⟨#[102,101,101]⟩ (by decide) wa Pa.out.rd;rw [show (⟨#[102,101,101]⟩:ByteArray).data.toList=wFee from rfl,E1.out] at c;go_wp2_with fail
 refine c.mono ?_;rintro e wb ⟨rfl,q,g⟩;have Pb:=hid (Pa.out.call q g);have Bb:=hid (Ba.out.grown g nkt);clear c q g;have c:=fee_any b tb cap ts s.next wb Pb.out.rd;rw [←HM.out] at c;go_wp2_with fail
 refine c.mono ?_;rintro e w2 ⟨rfl,q,g⟩;have P2:=hid (Pb.out.call q g);have B2:=hid (Bb.out.grown g nkt);clear c q g Pb Bb;rw [←HMV.out];unfold feeC;go_upto_region 8 with fail
 obtain ⟨w3,hw3,b3,B3⟩:=loaded w2 [mv.amount,mv.win.has,mv.win.a.y,mv.win.a.m,mv.win.a.d,mv.win.b.y,mv.win.b.m,mv.win.b.d,mv.line,mv.col] 53;have HW3:Hid (w2.alloc (.cells #[mv.amount,mv.win.has,mv.win.a.y,mv.win.a.m,mv.win.a.d,mv.win.b.y,mv.win.b.m,mv.win.b.d,mv.line,mv.col] 53)=w3):=hid hw3;rw [HW3.out];have P3:=hid (P2.out.on b3);have Bt3:=B2.out.on b3;obtain ⟨km,hkm⟩:∃km,km=w2.heap.size:=⟨_,rfl⟩;rw [←hkm] at B3 ⊢;have hne:kt≠km:=by have:=B2.out.lt;omega
 have hne':km≠kt:=fun e=>hne e.symm;have t2:=Bt3.cell 2 _ rfl;have t3:=Bt3.cell 3 _ rfl;have x3:=B3.cell 8 _ rfl;have x4:=B3.cell 9 _ rfl;have f3:=B3.free 8;have f4:=B3.free 9;have lk:=B3.lt;have HKM:=hid hkm;have HB3:=hid B3;have OLD:=hid (fun (σ:Slot) (r:R) (hr:rowOf p ma mc fa fc ca cc hs σ=some r) (e:r.v.ownBlock=some km)=>Nat.lt_irrefl _ (Nat.lt_of_lt_of_eq ((P2.out.owns.own σ r hr).lt km e).2 hkm.symm));clear hw3 b3 B3 Bt3 hkm;go_region_held3 (fun w'=>w'.cell? ⟨kt,2,none⟩=some (.int .i64 L)∧w'.cell? ⟨kt,3,none⟩=some (.int .i64 C)) (go_keep) (fail)
 obtain ⟨w4,hw4⟩:∃w4,w4=((w3.setCell ⟨km,8,none⟩ (.int .i64 L)).setCell ⟨km,9,none⟩ (.int .i64 C)).drew:=⟨_,rfl⟩;have lkm:w0.heap.size≤km:=by rw [HKM.out];exact P2.out.gr.size
 have bkm:base≤km:=by rw [HKM.out];exact P2.out.bsz
 have nkr:kr≠km:=by have:=P2.out.lr;omega
 have nkp:kp≠km:=by have:=P2.out.lp;omega
 have P4:=hid ((((P3.out.aside lkm nkr nkp (fun σ r hr e=>OLD.out σ r hr e) 8 (.int .i64 L)).aside lkm nkr nkp (fun σ r hr e=>OLD.out σ r hr e) 9 (.int .i64 C)).on (Below.drew (Below.refl _ _))));have B4:Bx w4 km [mv.amount,mv.win.has,mv.win.a.y,mv.win.a.m,mv.win.a.d,mv.win.b.y,mv.win.b.m,mv.win.b.d,.int .i64 L,.int .i64 C]:=by rw [hw4];exact ((HB3.out.set 8 _).set 9 _).on (Below.drew (Below.refl _ _))
 rw [←hw4] at P4;have HW4:=hid hw4;have P5:=hid (P4.out.on (Below.drew (Below.refl w4.heap.size w4)));have y0:=B4.cell 0 _ rfl;have y1:=B4.cell 1 _ rfl;have y2:=B4.cell 2 _ rfl;have y3:=B4.cell 3 _ rfl;have y4:=B4.cell 4 _ rfl;have y5:=B4.cell 5 _ rfl;have y6:=B4.cell 6 _ rfl;have y7:=B4.cell 7 _ rfl;have y8:=B4.cell 8 _ rfl;have y9:=B4.cell 9 _ rfl;have pp:=P4.out.box.cell 9 _ rfl;have lkp:=P4.out.box.lt;have lkm4:=B4.lt;clear t2 t3 x3 x4 f3 f4 lk lkm bkm nkr nkp hw4 B4;rw [←HW4.out];go_upto_region 9 with fail
 go_region_law
  (refine step_more [mv.amount,mv.win.has,mv.win.a.y,mv.win.a.m,mv.win.a.d,mv.win.b.y,mv.win.b.m,mv.win.b.d,.int .i64 L,.int .i64 C] _ rfl rfl _ _ 38 53 _ 10 80 rfl Tryz.underlying38 info_feeP rfl (by decide) _ _ _ rfl (P5.out.owns.own .f _ rfl) rfl (by simp [Value.oneCell']) rfl (show p.fees.length+1≤1000000 by omega) (by decide) P5.out.bsz ?_
   intro g7 cap7 w7 hown hgrow hat;have AL:=(Below.refl w4.drew.heap.size w4.drew).alloc (Nat.le_refl _) (.cells #[mv.amount,mv.win.has,mv.win.a.y,mv.win.a.m,mv.win.a.d,mv.win.b.y,mv.win.b.m,mv.win.b.d,.int .i64 L,.int .i64 C] 53);have P6:=P5.out.on AL;have Z7:=P6.box.grown hgrow (P6.ne (σ:=.f) rfl P6.lp);have z8:=Z7.cell 9 _ rfl;have f8:=Z7.free 9;have lz:=Z7.lt;have P7:=hid (P6.fee (x:={ mv with line:=L,col:=C }) hgrow hown (own_at hat) (by simp))
   clear hown hgrow hat P6 Z7 AL)
 all_goals
  clear y0 y1 y2 y3 y4 y5 y6 y7 y8 y9 pp lkp lkm4;go_wp2
  go_end0
  have P8:=P7.out;rw [HMV.out] at P8;exact ⟨rfl,_,_,P8⟩
end Pa
end Go.Proofs.YtofbobdhkbmbgaaGreatDoor
