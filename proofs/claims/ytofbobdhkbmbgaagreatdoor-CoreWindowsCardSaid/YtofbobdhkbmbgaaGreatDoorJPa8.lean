/- What package parse does: modes. -/
import Derived.Test.YtofbobdhkbmbgaaGreatDoorJPa5
set_option maxHeartbeats 4000000
namespace Go.Proofs.YtofbobdhkbmbgaaGreatDoor
namespace Pa
open Go.RowKit Go.Sort P Tl
theorem ix0 (W:World):(Instr.index 237 (.agg #[.string ⟨#[102,108,111,111,114]⟩,.string ⟨#[99,101,105,108]⟩,.string ⟨#[104,97,108,102,117,112]⟩,.string ⟨#[104,97,108,102,101,118,101,110]⟩]) (.int .i64 0)).run Tryz.prog W=.ok (.string ⟨#[102,108,111,111,114]⟩) W:=by kernel_rfl
theorem ix1 (W:World):(Instr.index 237 (.agg #[.string ⟨#[102,108,111,111,114]⟩,.string ⟨#[99,101,105,108]⟩,.string ⟨#[104,97,108,102,117,112]⟩,.string ⟨#[104,97,108,102,101,118,101,110]⟩]) (.int .i64 1)).run Tryz.prog W=.ok (.string ⟨#[99,101,105,108]⟩) W:=by kernel_rfl
theorem ix2 (W:World):(Instr.index 237 (.agg #[.string ⟨#[102,108,111,111,114]⟩,.string ⟨#[99,101,105,108]⟩,.string ⟨#[104,97,108,102,117,112]⟩,.string ⟨#[104,97,108,102,101,118,101,110]⟩]) (.int .i64 2)).run Tryz.prog W=.ok (.string ⟨#[104,97,108,102,117,112]⟩) W:=by kernel_rfl
theorem ix3 (W:World):(Instr.index 237 (.agg #[.string ⟨#[102,108,111,111,114]⟩,.string ⟨#[99,101,105,108]⟩,.string ⟨#[104,97,108,102,117,112]⟩,.string ⟨#[104,97,108,102,101,118,101,110]⟩]) (.int .i64 3)).run Tryz.prog W=.ok (.string ⟨#[104,97,108,102,101,118,101,110]⟩) W:=by kernel_rfl
theorem mode_cut (ts:List Tok) (s:St) (i:Nat) (l:List UInt8) (r:List (List UInt8)) (k:Int) (h:modes.drop i=l::r):oneAt ts s (modes.drop i) k=if onW ts s l then (k,s.next) else oneAt ts s (modes.drop (i+1)) (k+1):=by
 have e:modes.drop (i+1)=r:=by rw [←List.drop_drop,h];rfl
 rw [h,oneAt,e]
theorem mode_any (b tb cap:Nat) (ts:List Tok) (s:St) (w:World) (h:Rd w b tb cap ts s) :
  Calls Tryz.prog 191 #[.pointer (some ⟨b,0,none⟩)] w fun e w'=>e=.returned (.int .i64 (modeS ts s).1)∧Rd w' b tb cap ts (modeS ts s).2∧w.grownBy w' (some b):=by
 have H:=hid h;have MD:=h.ky.2;have m0:w.cell? ⟨1,0,none⟩=some (.string ⟨#[102,108,111,111,114]⟩):=MD 0 _ rfl;have m1:w.cell? ⟨1,1,none⟩=some (.string ⟨#[99,101,105,108]⟩):=MD 1 _ rfl;have m2:w.cell? ⟨1,2,none⟩=some (.string ⟨#[104,97,108,102,117,112]⟩):=MD 2 _ rfl;have m3:w.cell? ⟨1,3,none⟩=some (.string ⟨#[104,97,108,102,101,118,101,110]⟩):=MD 3 _ rfl;have x0:=ix0;have x1:=ix1;have x2:=ix2;have x3:=ix3;have lg:=h.ky.lt.2;obtain ⟨MS,hMS⟩:∃MS,MS=modeS ts s:=⟨_,rfl⟩;rw [←hMS];have HM:=hid hMS;clear MD h hMS;go_enter Tryz.func191,Tryz.ntmps191
 go_wp2;clear m0 m1 m2 m3;go_loopw [6] (fun i wr=>∃i':Int,i=.int .i64 i'∧0≤i'∧i'≤4∧Hid (Rd wr b tb cap ts s∧w.grownBy wr (some b)∧oneS ts s modes=oneAt ts s (modes.drop i'.toNat) i')) (fun i _=>((4:Int)-intOf i).toNat)
 case atStart=>exact ⟨0,rfl,by omega,by omega,hid ⟨H.out,grown_refl _ _,rfl⟩⟩
 case round=>
  obtain ⟨i',rfl,i0,i1,hst⟩:=hrel;have hcase:i'=0∨i'=1∨i'=2∨i'=3∨i'=4:=by omega
  rcases hcase with rfl|rfl|rfl|rfl|rfl
  ·have cT:=next_any b tb cap ts s ⟨#[102,108,111,111,114]⟩ (by decide) wr hst.out.1;rw [show (⟨#[102,108,111,111,114]⟩:ByteArray).data.toList=[102,108,111,111,114] from rfl] at cT;have hd:=hst.out.2.2;rw [mode_cut ts s (0:Int).toNat [102,108,111,111,114] _ 0 rfl] at hd;cases ho:onW ts s [102,108,111,111,114]
   ·have e:tke ts s [102,108,111,111,114]=(false,s):=by unfold tke;rw [ho];rfl
    rw [e] at cT;rw [ho] at hd;have HD:=hid hd;clear e ho hd;go_wp2_with (go_at_call 144;refine cT.mono ?_;rintro e w1 ⟨rfl,q1,g1⟩;have Q1:=hid q1;have G1:=hid g1;clear q1 g1)
    go_roundw
    case rel=>exact ⟨1,rfl,by omega,by omega,hid ⟨Q1.out,grown_trans hst.out.2.1 G1.out,HD.out⟩⟩
    case measure=>simp [intOf]
   ·have e:tke ts s [102,108,111,111,114]=(true,s.next):=by unfold tke;rw [ho];rfl
    rw [e] at cT;rw [ho] at hd;have ME:Hid (MS=(0,s.next)):=hid (by rw [HM.out];unfold modeS;rw [hd];rfl);clear e ho hd;go_wp2_with (go_at_call 144;refine cT.mono ?_;rintro e w1 ⟨rfl,q1,g1⟩;have Q1:=hid q1;have G1:=hid g1;clear q1 g1)
    go_ret;exact ⟨by rw [ME.out];rfl,by rw [ME.out];exact Q1.out,grown_trans hst.out.2.1 G1.out⟩
  ·have cT:=next_any b tb cap ts s ⟨#[99,101,105,108]⟩ (by decide) wr hst.out.1;rw [show (⟨#[99,101,105,108]⟩:ByteArray).data.toList=[99,101,105,108] from rfl] at cT;have hd:=hst.out.2.2;rw [mode_cut ts s (1:Int).toNat [99,101,105,108] _ 1 rfl] at hd;cases ho:onW ts s [99,101,105,108]
   ·have e:tke ts s [99,101,105,108]=(false,s):=by unfold tke;rw [ho];rfl
    rw [e] at cT;rw [ho] at hd;have HD:=hid hd;clear e ho hd;go_wp2_with (go_at_call 144;refine cT.mono ?_;rintro e w1 ⟨rfl,q1,g1⟩;have Q1:=hid q1;have G1:=hid g1;clear q1 g1)
    go_roundw
    case rel=>exact ⟨2,rfl,by omega,by omega,hid ⟨Q1.out,grown_trans hst.out.2.1 G1.out,HD.out⟩⟩
    case measure=>simp [intOf]
   ·have e:tke ts s [99,101,105,108]=(true,s.next):=by unfold tke;rw [ho];rfl
    rw [e] at cT;rw [ho] at hd;have ME:Hid (MS=(1,s.next)):=hid (by rw [HM.out];unfold modeS;rw [hd];rfl);clear e ho hd;go_wp2_with (go_at_call 144;refine cT.mono ?_;rintro e w1 ⟨rfl,q1,g1⟩;have Q1:=hid q1;have G1:=hid g1;clear q1 g1)
    go_ret;exact ⟨by rw [ME.out];rfl,by rw [ME.out];exact Q1.out,grown_trans hst.out.2.1 G1.out⟩
  ·have cT:=next_any b tb cap ts s ⟨#[104,97,108,102,117,112]⟩ (by decide) wr hst.out.1;rw [show (⟨#[104,97,108,102,117,112]⟩:ByteArray).data.toList=[104,97,108,102,117,112] from rfl] at cT;have hd:=hst.out.2.2;rw [mode_cut ts s (2:Int).toNat [104,97,108,102,117,112] _ 2 rfl] at hd;cases ho:onW ts s [104,97,108,102,117,112]
   ·have e:tke ts s [104,97,108,102,117,112]=(false,s):=by unfold tke;rw [ho];rfl
    rw [e] at cT;rw [ho] at hd;have HD:=hid hd;clear e ho hd;go_wp2_with (go_at_call 144;refine cT.mono ?_;rintro e w1 ⟨rfl,q1,g1⟩;have Q1:=hid q1;have G1:=hid g1;clear q1 g1)
    go_roundw
    case rel=>exact ⟨3,rfl,by omega,by omega,hid ⟨Q1.out,grown_trans hst.out.2.1 G1.out,HD.out⟩⟩
    case measure=>simp [intOf]
   ·have e:tke ts s [104,97,108,102,117,112]=(true,s.next):=by unfold tke;rw [ho];rfl
    rw [e] at cT;rw [ho] at hd;have ME:Hid (MS=(2,s.next)):=hid (by rw [HM.out];unfold modeS;rw [hd];rfl);clear e ho hd;go_wp2_with (go_at_call 144;refine cT.mono ?_;rintro e w1 ⟨rfl,q1,g1⟩;have Q1:=hid q1;have G1:=hid g1;clear q1 g1)
    go_ret;exact ⟨by rw [ME.out];rfl,by rw [ME.out];exact Q1.out,grown_trans hst.out.2.1 G1.out⟩
  ·have cT:=next_any b tb cap ts s ⟨#[104,97,108,102,101,118,101,110]⟩ (by decide) wr hst.out.1;rw [show (⟨#[104,97,108,102,101,118,101,110]⟩:ByteArray).data.toList=[104,97,108,102,101,118,101,110] from rfl] at cT;have hd:=hst.out.2.2;rw [mode_cut ts s (3:Int).toNat [104,97,108,102,101,118,101,110] _ 3 rfl] at hd;cases ho:onW ts s [104,97,108,102,101,118,101,110]
   ·have e:tke ts s [104,97,108,102,101,118,101,110]=(false,s):=by unfold tke;rw [ho];rfl
    rw [e] at cT;rw [ho] at hd;have HD:=hid hd;clear e ho hd;go_wp2_with (go_at_call 144;refine cT.mono ?_;rintro e w1 ⟨rfl,q1,g1⟩;have Q1:=hid q1;have G1:=hid g1;clear q1 g1)
    go_roundw
    case rel=>exact ⟨4,rfl,by omega,by omega,hid ⟨Q1.out,grown_trans hst.out.2.1 G1.out,HD.out⟩⟩
    case measure=>simp [intOf]
   ·have e:tke ts s [104,97,108,102,101,118,101,110]=(true,s.next):=by unfold tke;rw [ho];rfl
    rw [e] at cT;rw [ho] at hd;have ME:Hid (MS=(3,s.next)):=hid (by rw [HM.out];unfold modeS;rw [hd];rfl);clear e ho hd;go_wp2_with (go_at_call 144;refine cT.mono ?_;rintro e w1 ⟨rfl,q1,g1⟩;have Q1:=hid q1;have G1:=hid g1;clear q1 g1)
    go_ret;exact ⟨by rw [ME.out];rfl,by rw [ME.out];exact Q1.out,grown_trans hst.out.2.1 G1.out⟩
  ·have hd:=hst.out.2.2;have ME:Hid (MS=(0,wrg ts s 4)):=hid (by rw [HM.out];unfold modeS;rw [hd];rfl);have cR:=refuse_any b tb cap ts s 4 (by decide) wr hst.out.1;clear hd;go_wp2_with (go_at_call 145;refine cR.mono ?_;rintro e w1 ⟨rfl,q1,g1⟩;have Q1:=hid q1;have G1:=hid g1;clear q1 g1)
   go_ret;exact ⟨by rw [ME.out];rfl,by rw [ME.out];exact Q1.out,grown_trans hst.out.2.1 G1.out⟩
def winV (x:Mm.Win):Value:=.agg #[x.has,x.a.y,x.a.m,x.a.d,x.b.y,x.b.m,x.b.d]
def z7:List Value:=[.bool false,.int .i64 0,.int .i64 0,.int .i64 0,.int .i64 0,.int .i64 0,.int .i64 0]
theorem window_any (b tb cap:Nat) (ts:List Tok) (s:St) (w:World) (h:Rd w b tb cap ts s) :
  Calls Tryz.prog 188 #[.pointer (some ⟨b,0,none⟩)] w fun x w'=>x=.returned (winV (winS ts s).1)∧Rd w' b tb cap ts (winS ts s).2∧w.grownBy w' (some b):=by
 obtain ⟨w0,hw0⟩:∃w0,w0=w.alloc (.cells z7.toArray 51):=⟨_,rfl⟩;have b0:Below w.heap.size w w0:=by rw [hw0];exact (Below.refl _ _).alloc (Nat.le_refl _) _
 have Z0:Bx w0 w.heap.size z7:=by rw [hw0];exact Bx.new _ _ _
 have hb:=h.lt;have cF:=next_any b tb cap ts s ⟨#[102,114,111,109]⟩ (by decide) w0 (h.on b0);have eF:(⟨#[102,114,111,109]⟩:ByteArray).data.toList=wFrom:=rfl;rw [eF] at cF;have HW0:Hid (w.alloc (.cells #[.bool false,.int .i64 0,.int .i64 0,.int .i64 0,.int .i64 0,.int .i64 0,.int .i64 0] 51)=w0):=hid hw0.symm;have nb:some w.heap.size≠some b:=fun e=>by have:=Option.some.inj e;omega
 cases ho:onW ts s wFrom
 ·have e:winS ts s=(⟨false,⟨0,0,0⟩,⟨0,0,0⟩⟩,s):=by unfold winS;rw [ho];rfl
  have e2:tke ts s wFrom=(false,s):=by unfold tke;rw [ho];rfl
  rw [e];rw [e2] at cF;have HZ0:=hid Z0;clear e e2 ho h hw0 eF Z0;go_enter Tryz.func188,Tryz.ntmps188
  go_wp2_with fail
  rw [HW0.out];refine cF.mono ?_;rintro e w1 ⟨rfl,q1,g1⟩;have Z1:=HZ0.out.grown g1 nb;have c:=Z1.cell;have c0:=c 0 _ rfl;have c1:=c 1 _ rfl;have c2:=c 2 _ rfl;have c3:=c 3 _ rfl;have c4:=c 4 _ rfl;have c5:=c 5 _ rfl;have c6:=c 6 _ rfl;have f0:=Z1.free 0;have f1:=Z1.free 1;have f2:=Z1.free 2;have f3:=Z1.free 3;have f4:=Z1.free 4;have f5:=Z1.free 5;have f6:=Z1.free 6;have HQ1:=hid q1;have GG:=hid (grown_trans (grown_below b0) g1);clear c q1 g1 b0 Z1;go_wp2;exact bodyPost_ret (v:=.agg #[.bool false,.int .i64 0,.int .i64 0,.int .i64 0,.int .i64 0,.int .i64 0,.int .i64 0]) (by simp [results,Tryz.results188,go_sem, *]) rfl ⟨rfl,by (iterate 7 (refine Rd.far' ?_ hb (Nat.le_refl _) _ _));exact HQ1.out,by (iterate 7 (refine grown_put ?_ (Nat.le_refl _) _ _));exact GG.out⟩
 ·have ok1:=h.ok.next (onW_k ho);obtain ⟨A,hA⟩:∃A,A=dayS ts s.next:=⟨_,rfl⟩;obtain ⟨s2,hs2⟩:∃s2,s2=wnt ts A.2 wTo:=⟨_,rfl⟩;obtain ⟨B,hB⟩:∃B,B=dayS ts s2:=⟨_,rfl⟩;have e:winS ts s=(⟨true,A.1,B.1⟩,B.2):=by unfold winS;rw [ho,hB,hs2,hA];rfl
  have e2:tke ts s wFrom=(true,s.next):=by unfold tke;rw [ho];rfl
  rw [e];rw [e2] at cF;have HA:=hid hA;have HS2:=hid hs2;have HB:=hid hB;have HZ0:=hid Z0;clear e e2 ho h hw0 eF Z0 hA hs2 hB;go_enter Tryz.func188,Tryz.ntmps188
  go_wp2_with fail
  rw [HW0.out];refine cF.mono ?_;rintro e w1 ⟨rfl,q1,g1⟩;have HZ1:=hid (HZ0.out.grown g1 nb);have G1:=hid (grown_trans (grown_below b0) g1);obtain ⟨w2,hw2⟩:∃w2,w2=w1.alloc (.cells #[.bool true,.int .i64 0,.int .i64 0,.int .i64 0,.int .i64 0,.int .i64 0,.int .i64 0] 51):=⟨_,rfl⟩;have b2:Below w1.heap.size w1 w2:=by rw [hw2];exact (Below.refl _ _).alloc (Nat.le_refl _) _
  have Y2:Bx w2 w1.heap.size [.bool true,.int .i64 0,.int .i64 0,.int .i64 0,.int .i64 0,.int .i64 0,.int .i64 0]:=by rw [hw2];exact Bx.new _ _ _
  have HZ2:=hid (HZ1.out.on b2);have G2:=hid (grown_trans G1.out (grown_below b2));have cA:=day_any b tb cap ts s.next w2 (q1.on b2);rw [←HA.out] at cA;unfold dayV at cA;have HW2:=hid hw2;obtain ⟨ka,hka⟩:∃ka,ka=w1.heap.size:=⟨_,rfl⟩;have hbk:ka≠b:=by have:=q1.lt;omega
  have hak:w.heap.size<ka:=by have:=HZ1.out.lt;omega
  have nka:some ka≠some b:=fun e=>hbk (Option.some.inj e);have hz:ka≠w.heap.size:=by omega
  have hz':w.heap.size≠ka:=by omega
  have HKA:=hid hka;rw [←hka] at Y2;clear q1 g1 b0 b2 hw2 hka;go_wp2_with fail
  rw [←HW2.out,←HKA.out];refine cA.mono ?_;rintro e w3 ⟨rfl,q3,g3⟩;have Y3:=Y2.grown g3 nka;have HZ3:=hid (HZ2.out.grown g3 nb);have G3:=hid (grown_trans G2.out g3);have d1:=Y3.cell 1 _ rfl;have d2:=Y3.cell 2 _ rfl;have d3:=Y3.cell 3 _ rfl;have f1:=Y3.free 1;have f2:=Y3.free 2;have f3:=Y3.free 3;have lk:=Y3.lt;obtain ⟨w4,hw4⟩:∃w4,w4=(((w3.setCell ⟨ka,1,none⟩ (.int .i64 A.1.y)).setCell ⟨ka,2,none⟩ (.int .i64 A.1.m)).setCell ⟨ka,3,none⟩ (.int .i64 A.1.d)):=⟨_,rfl⟩;have Y4:Bx w4 ka [.bool true,A.1.y,A.1.m,A.1.d,.int .i64 0,.int .i64 0,.int .i64 0]:=by rw [hw4];exact ((Y3.set 1 _).set 2 _).set 3 _
  have Z4:Bx w4 w.heap.size z7:=by rw [hw4];exact ((HZ3.out.other (p:=⟨ka,1,none⟩) hz' _).other (p:=⟨ka,2,none⟩) hz' _).other (p:=⟨ka,3,none⟩) hz' _
  have q4:Rd w4 b tb cap ts A.2:=by rw [hw4];exact ((q3.far' hb (Nat.le_of_lt hak) _ _).far' hb (Nat.le_of_lt hak) _ _).far' hb (Nat.le_of_lt hak) _ _
  have g4:w.grownBy w4 (some b):=by rw [hw4];exact grown_put (grown_put (grown_put G3.out (Nat.le_of_lt hak) _ _) (Nat.le_of_lt hak) _ _) (Nat.le_of_lt hak) _ _
  have HW4:=hid hw4;have cW:=need_any b tb cap ts A.2 ⟨#[116,111]⟩ (by decide) w4 q4;have eT:(⟨#[116,111]⟩:ByteArray).data.toList=wTo:=rfl;rw [eT,←HS2.out] at cW;have HZ4:=hid Z4;clear q3 g3 Y3 hw4 q4 eT Z4;go_wp2_with fail
  rw [←HW4.out];refine cW.mono ?_;rintro e w5 ⟨rfl,q5,g5⟩;have HY5:=hid (Y4.grown g5 nka);have HZ5:=hid (HZ4.out.grown g5 nb);have G5:=hid (grown_trans g4 g5);have cB:=day_any b tb cap ts s2 w5 q5;rw [←HB.out] at cB;unfold dayV at cB;clear d1 d2 d3 f1 f2 f3 lk q5 g5 g4 Y4;go_wp2_with fail
  refine cB.mono ?_;rintro e w6 ⟨rfl,q6,g6⟩;have Y6:=HY5.out.grown g6 nka;have Z6:=HZ5.out.grown g6 nb;have G6:=hid (grown_trans G5.out g6);have d0:=Y6.cell 0 _ rfl;have d1:=Y6.cell 1 _ rfl;have d2:=Y6.cell 2 _ rfl;have d3:=Y6.cell 3 _ rfl;have d4:=Y6.cell 4 _ rfl;have d5:=Y6.cell 5 _ rfl;have d6:=Y6.cell 6 _ rfl;have f4:=Y6.free 4;have f5:=Y6.free 5;have f6:=Y6.free 6;have lk:=Y6.lt;have c0:=Z6.cell 0 _ rfl;have c1:=Z6.cell 1 _ rfl;have c2:=Z6.cell 2 _ rfl;have c3:=Z6.cell 3 _ rfl;have c4:=Z6.cell 4 _ rfl;have c5:=Z6.cell 5 _ rfl;have c6:=Z6.cell 6 _ rfl;have r0:=Z6.free 0;have r1:=Z6.free 1;have r2:=Z6.free 2;have r3:=Z6.free 3;have r4:=Z6.free 4;have r5:=Z6.free 5;have r6:=Z6.free 6;have lz:=Z6.lt;have HQ6:=hid q6;clear q6 g6 Y6 Z6 nb nka hak;go_wp2;have hak:w.heap.size≤ka:=by have:=HKA.out;have:=HZ1.out.lt;omega
  exact bodyPost_ret (v:=.agg #[.bool true,A.1.y,A.1.m,A.1.d,B.1.y,B.1.m,B.1.d]) (by simp [results,Tryz.results188,go_sem, *]) rfl ⟨rfl,by (iterate 7 (refine Rd.far' ?_ hb (Nat.le_refl _) _ _));(iterate 3 (refine Rd.far' ?_ hb hak _ _));exact HQ6.out,by (iterate 7 (refine grown_put ?_ (Nat.le_refl _) _ _));(iterate 3 (refine grown_put ?_ hak _ _));exact G6.out⟩
theorem amount_any (b tb cap:Nat) (ts:List Tok) (s:St) (k:Int) (w:World) (h:Rd w b tb cap ts s) :
  Calls Tryz.prog 220 #[.pointer (some ⟨b,0,none⟩),.int .i64 k] w fun x w'=>x=.returned (.agg #[.int .i64 k,.int .i64 (numS ts s 0 1000000000000).1,.int .i64 0])∧Rd w' b tb cap ts (numS ts s 0 1000000000000).2∧w.grownBy w' (some b):=by
 obtain ⟨w0,hw0,b0,B0⟩:=loaded w [.int .i64 0,.int .i64 0,.int .i64 0] 121;have HW:Hid (w.alloc (.cells #[.int .i64 0,.int .i64 0,.int .i64 0] 121)=w0):=hid hw0;have hb:=h.lt;have cN:=whole_any b tb cap ts s 1000000000000 w0 (h.on b0);generalize numS ts s 0 1000000000000=X at *;have nb:some w.heap.size≠some b:=fun e=>by have:=Option.some.inj e;omega
 have G0:=hid b0;clear h hw0 b0;go_enter Tryz.func220,Tryz.ntmps220
 go_wp2_with fail
 rw [HW.out];refine cN.mono ?_;rintro e w1 ⟨rfl,q1,g1⟩;have Z1:=B0.grown g1 nb;have c0:=Z1.cell 0 _ rfl;have c1:=Z1.cell 1 _ rfl;have c2:=Z1.cell 2 _ rfl;have f0:=Z1.free 0;have f1:=Z1.free 1;have f2:=Z1.free 2;have lz:=Z1.lt;have HQ1:=hid q1;have G1:=hid g1;clear q1 g1 Z1 B0 nb;go_wp2;exact bodyPost_ret (v:=.agg #[.int .i64 k,.int .i64 X.1,.int .i64 0]) (by simp [results,Tryz.results220,go_sem, *]) rfl ⟨rfl,by (iterate 3 (refine Rd.far' ?_ hb (Nat.le_refl _) _ _));exact HQ1.out,by (iterate 3 (refine grown_put ?_ (Nat.le_refl _) _ _));exact grown_trans (grown_below G0.out) G1.out⟩
theorem percent_any (b tb cap:Nat) (ts:List Tok) (s:St) (w:World) (h:Rd w b tb cap ts s) :
  Calls Tryz.prog 219 #[.pointer (some ⟨b,0,none⟩)] w fun x w'=>x=.returned (.agg #[.int .i64 1,.int .i64 (numS ts s 3 100000000).1,.int .i64 (modeS ts (numS ts s 3 100000000).2).1])∧Rd w' b tb cap ts (modeS ts (numS ts s 3 100000000).2).2∧w.grownBy w' (some b):=by
 obtain ⟨X,hX⟩:∃X,X=numS ts s 3 100000000:=⟨_,rfl⟩;obtain ⟨M,hM⟩:∃M,M=modeS ts X.2:=⟨_,rfl⟩;rw [←hX,←hM];obtain ⟨w0,hw0,b0,B0⟩:=loaded w [.int .i64 0,.int .i64 0,.int .i64 0] 121;have HW:Hid (w.alloc (.cells #[.int .i64 0,.int .i64 0,.int .i64 0] 121)=w0):=hid hw0;obtain ⟨w1,hw1,b1,B1⟩:=loaded w0 [.int .i64 1,.int .i64 0,.int .i64 0] 121;have HW1:Hid (w0.alloc (.cells #[.int .i64 1,.int .i64 0,.int .i64 0] 121)=w1):=hid hw1;have hb:=h.lt;have sz:w0.heap.size=w.heap.size+1:=by rw [←hw0];simp
 have cN:=number_any b tb cap ts s 3 100000000 w1 ((h.on b0).on b1);rw [←hX] at cN;have HM:=hid hM;have nb:some w.heap.size≠some b:=fun e=>by have:=Option.some.inj e;omega
 obtain ⟨ka,hka⟩:∃ka,ka=w0.heap.size:=⟨_,rfl⟩;rw [←hka] at B1;have nka:some ka≠some b:=fun e=>by have:=Option.some.inj e;omega
 have G1:=hid (grown_trans (grown_below (row:=some b) b0) (grown_below b1));have Z1:=hid (B0.on b1);have hz:ka≠w.heap.size:=by omega
 have hz':w.heap.size≠ka:=by omega
 have HAK:=hid (show w.heap.size≤ka by omega);have HKA:=hid hka;have eka:Hid (w.heap.size+1=ka):=hid (by omega);clear h hw0 hw1 b0 b1 B0 hX hM hka sz;go_enter Tryz.func219,Tryz.ntmps219
 go_wp2_with fail
 rw [HW.out,HW1.out,eka.out];refine cN.mono ?_;rintro e w2 ⟨rfl,q2,g2⟩;have Y2:=B1.grown g2 nka;have Z2:=hid (Z1.out.grown g2 nb);have d1:=Y2.cell 1 _ rfl;have f1:=Y2.free 1;have lk:=Y2.lt;obtain ⟨w3,hw3⟩:∃w3,w3=w2.setCell ⟨ka,1,none⟩ (.int .i64 X.1):=⟨_,rfl⟩;have Y3:Bx w3 ka [.int .i64 1,.int .i64 X.1,.int .i64 0]:=by rw [hw3];exact Y2.set 1 _
 have Z3:Bx w3 w.heap.size [.int .i64 0,.int .i64 0,.int .i64 0]:=by rw [hw3];exact Z2.out.other (p:=⟨ka,1,none⟩) hz' _
 have q3:Rd w3 b tb cap ts X.2:=by rw [hw3];exact q2.far' hb HAK.out _ _
 have g3:w.grownBy w3 (some b):=by rw [hw3];exact grown_put (grown_trans G1.out g2) HAK.out _ _
 have HW3:=hid hw3;have cM:=mode_any b tb cap ts X.2 w3 q3;rw [←HM.out] at cM;have HY3:=hid Y3;have HZ3:=hid Z3;clear q2 g2 Y2 hw3 q3 Y3 Z3;go_wp2_with fail
 rw [←HW3.out];refine cM.mono ?_;rintro e w4 ⟨rfl,q4,g4⟩;clear d1 f1 lk;have Y4:=HY3.out.grown g4 nka;have Z4:=HZ3.out.grown g4 nb;have d0:=Y4.cell 0 _ rfl;have d1:=Y4.cell 1 _ rfl;have d2:=Y4.cell 2 _ rfl;have f2:=Y4.free 2;have lk:=Y4.lt;have c0:=Z4.cell 0 _ rfl;have c1:=Z4.cell 1 _ rfl;have c2:=Z4.cell 2 _ rfl;have r0:=Z4.free 0;have r1:=Z4.free 1;have r2:=Z4.free 2;have lz:=Z4.lt;have HQ4:=hid q4;have G4:=hid (grown_trans g3 g4);clear q4 g4 g3 Y4 Z4 nb nka;go_wp2;exact bodyPost_ret (v:=.agg #[.int .i64 1,.int .i64 X.1,.int .i64 M.1]) (by simp [results,Tryz.results219,go_sem, *]) rfl ⟨rfl,by (iterate 3 (refine Rd.far' ?_ hb (Nat.le_refl _) _ _));exact HQ4.out.far' hb HAK.out _ _,by (iterate 3 (refine grown_put ?_ (Nat.le_refl _) _ _));exact grown_put G4.out HAK.out _ _⟩
end Pa
namespace Pa
open Go.RowKit Go.Sort P Tl Mm
theorem own_call {w w':World} {base b:Nat} {e:TypeId} {size n:Nat} {v:Value} {xs:List Value} (h:w.ownsRow base e size v n xs) (g:w.grownBy w' (some b)) (hb:b<base):w'.ownsRow base e size v n xs:=by
 refine h.kept g ?_;cases hv:v.ownBlock with
 | none=>exact .inl rfl
 | some k=>exact .inr (fun e=>by have:=(h.lt k hv).1;have:=Option.some.inj e;omega)
theorem grown_own {w w2 w3:World} {row r:Option Nat} (a:w.grownBy w2 row) (g:w2.grownBy w3 r) (hr:∀k,r=some k→w.heap.size≤k):w.grownBy w3 row:=
 ⟨g.os.trans a.os,g.tape.trans a.tape,g.output.trans a.output,Nat.le_trans a.size g.size,fun k hk hne=>(g.block k (Nat.lt_of_lt_of_le hk a.size) (fun e=>by have:=hr k e.symm;omega)).trans (a.block k hk hne)⟩
theorem grown_alloc (w:World) (x:Obj) (row:Option Nat):w.grownBy (w.alloc x) row:=grown_below ((Below.refl _ _).alloc (Nat.le_refl _) _)
theorem info_tierP:(Tryz.prog.info? 119).map (fun i=>(i.zero,i.size,i.bytes))=some (some (.agg (tierC ⟨0,0⟩).toArray),2,16):=by kernel_rfl
theorem info_adjP:(Tryz.prog.info? 121).map (fun i=>(i.zero,i.size,i.bytes))=some (some (.agg (adjC ⟨0,0,0⟩).toArray),3,24):=by kernel_rfl
theorem news_at (w:World) (cs:List Value) (t:TypeId):∀j u,cs[j]?=some u→(w.alloc (.cells cs.toArray t)).cell? ((⟨w.heap.size,0,none⟩:Addr).add j)=some u:=fun j u h=>by
 rw [add_plain,Nat.zero_add];exact (Bx.new w cs t).cell j u h
def leftOf (W:World) (b:Nat):Nat:=match W.cell? ⟨b,0,none⟩ with
 | some (.slice _ n _)=>n
 | _=>0
theorem leftOf_rd {w:World} {b tb cap:Nat} {ts:List Tok} {s:St} (h:Rd w b tb cap ts s):leftOf w b=ts.length-vw ts s:=by
 unfold leftOf;rw [h.c0]
theorem left_less {ts:List Tok} {s s':St} (h:Ok ts s.next) (e:s.err=0) (o:Ok ts s') (hl:s.i+1≤s'.i):ts.length-vw ts s'<ts.length-vw ts s:=by
 have h1:=h.lt;have h2:s.i+1<ts.length:=h1;have h3:=vw_lt o;rw [vw_ok e];by_cases e':s'.err=0
 ·rw [vw_ok e'] at h3 ⊢;omega
 ·rw [vw_bad e'] at h3 ⊢;omega
theorem tiers_len (ts:List Tok):∀(n:Nat) (s:St) (acc:List Tier),Toks ts→∀{r:List Tier×St},r=tiersS ts n s acc→r.1.length≤n+acc.length
 | 0,s,acc,_,r,h=>by rw [h];show acc.length≤_;omega
 | n+1,s,acc,hk,r,h=>by
   rw [h];unfold tiersS;split
   ·have:=tiers_len ts n (tierS ts s.next).2 (acc++[(tierS ts s.next).1]) hk rfl;simp only [List.length_append,List.length_singleton] at this;omega
   ·show acc.length≤_;omega
def tiersAll (ts:List Tok) (s:St):List Tier×St:=
 let a:=tiersS ts ts.length (wnt ts s sOpen) [];let r:=rateS ts (wnt ts a.2 wRest)
 (a.1++[⟨0,r.1⟩],wnt ts r.2 sShut)
theorem tiers_any (b tb cap:Nat) (ts:List Tok) (s:St) (w:World) (h:Rd w b tb cap ts s) :
  Calls Tryz.prog 190 #[.pointer (some ⟨b,0,none⟩)] w fun x w'=>∃v,x=.returned v∧w'.ownsRow w.heap.size 119 2 v (tiersAll ts s).1.length ((tiersAll ts s).1.flatMap tierC)∧Rd w' b tb cap ts (tiersAll ts s).2∧w.grownBy w' (some b):=by
 obtain ⟨i0,hi,hz0,hz1,hz2⟩:=info_parts info_tierP;obtain ⟨ti,hti⟩:∃ti,ti=tiersS ts ts.length (wnt ts s sOpen) []:=⟨_,rfl⟩;obtain ⟨rt,hrt⟩:∃rt,rt=rateS ts (wnt ts ti.2 wRest):=⟨_,rfl⟩;have e:tiersAll ts s=(ti.1++[⟨0,rt.1⟩],wnt ts rt.2 sShut):=by rw [hrt,hti];rfl
 rw [e];have HTI:=hid hti;have HRT:=hid hrt;have hb:=h.lt;have c1:=need_any b tb cap ts s ⟨#[123]⟩ (by decide) w h;rw [show (⟨#[123]⟩:ByteArray).data.toList=sOpen from rfl] at c1;have hlen:ti.1.length≤100000:=by have:=tiers_len ts ts.length (wnt ts s sOpen) [] h.ok.toks hti;have:=h.cnt;simp only [List.length_nil] at *;omega
 clear e hti hrt h;go_enter Tryz.func190,Tryz.ntmps190
 go_wp2_with fail
 refine c1.mono ?_;rintro e w1 ⟨rfl,q1,g1⟩;have Q1:=hid q1;have G1:=hid g1;clear q1 g1;go_wp2_with fail
 go_loopw [3,4] (fun v _ wr=>∃(V:Value) (σ:St) (acc:List Tier),v=V∧Hid (Rd wr b tb cap ts σ∧w.grownBy wr (some b)∧wr.ownsRow w.heap.size 119 2 V acc.length (acc.flatMap tierC)∧ti=tiersS ts ts.length σ acc∧acc.length≤σ.i)) (fun _ _ wr=>leftOf wr b)
 case atStart=>exact ⟨_,_,[],rfl,hid ⟨Q1.out,G1.out,World.ownsRow_nil _ _ _ _,HTI.out,Nat.zero_le _⟩⟩
 case round=>
  obtain ⟨V,σ,acc,rfl,hst⟩:=hrel;have cT:=next_any b tb cap ts σ ⟨#[117,112,116,111]⟩ (by decide) wr hst.out.1;rw [show (⟨#[117,112,116,111]⟩:ByteArray).data.toList=wUpto from rfl] at cT;cases ho:onW ts σ wUpto
  ·have e2:tke ts σ wUpto=(false,σ):=by unfold tke;rw [ho];rfl
   have hfin:Hid (ti=(acc,σ)):=hid (by
    rw [hst.out.2.2.2.1];obtain ⟨n,hn⟩:∃n,ts.length=n+1:=⟨ts.length-1,by have:=hst.out.1.ok.lt;omega⟩
    rw [hn];unfold tiersS;rw [ho];rfl)
   rw [e2] at cT;clear e2 ho;go_wp2_with fail
   refine cT.mono ?_;rintro e w2 ⟨rfl,q2,g2⟩;have G2:=hid (grown_trans hst.out.2.1 g2);have O2:=hid (own_call hst.out.2.2.1 g2 hb);have cN:=need_any b tb cap ts σ ⟨#[114,101,115,116]⟩ (by decide) w2 q2;rw [show (⟨#[114,101,115,116]⟩:ByteArray).data.toList=wRest from rfl] at cN;clear q2 g2;go_wp2_with fail
   refine cN.mono ?_;rintro e w3 ⟨rfl,q3,g3⟩;have G3:=hid (grown_trans G2.out g3);have O3:=hid (own_call O2.out g3 hb);have cR:=rate_any b tb cap ts (wnt ts σ wRest) w3 q3;rw [show wnt ts σ wRest=wnt ts ti.2 wRest by rw [hfin.out],←HRT.out] at cR;clear q3 g3;go_wp2_with fail
   refine cR.mono ?_;rintro e w4 ⟨rfl,q4,g4⟩;have G4:=hid (grown_trans G3.out g4);have o4:=own_call O3.out g4 hb;have Q4:=hid q4;have hbs:w.heap.size≤w4.heap.size:=G4.out.size;have hac:acc.length+1≤1000000:=by rw [hfin.out] at hlen;simp only at hlen;omega
   clear q4 g4;go_wp2_with (at_builtin;refine wpList_append_own _ rfl _ _ 54 rfl w.heap.size 119 i0 (.agg (tierC ⟨0,0⟩).toArray) 2 16 Tryz.underlying54 hi hz0 hz1 hz2 rfl (by decide) _ _ _ rfl (o4.alloc _) ⟨w4.heap.size,0,none⟩ 1 1 (tierC ⟨0,rt.1⟩) rfl rfl (news_at w4 (tierC ⟨0,rt.1⟩) _) (by simp [tierC,Value.oneCell']) (by unfold maxLen;omega) (by omega) (by simp;omega) ?_)
   intro v5 w5 hown hgrow _;have nk:=fun (k:Nat) e=>(o4.lt k e).1;have G5:=hid (grown_own (grown_trans G4.out (grown_alloc w4 _ _)) hgrow nk);have Q5:Rd w5 b tb cap ts rt.2:=(Q4.out.on ((Below.refl _ _).alloc (Nat.le_refl _) _)).other hgrow (fun k e=>by have:=nk k e;omega);have cS:=need_any b tb cap ts rt.2 ⟨#[125]⟩ (by decide) w5 Q5;rw [show (⟨#[125]⟩:ByteArray).data.toList=sShut from rfl] at cS;have O5:=hid hown;clear hown hgrow nk Q5 o4;go_wp2_with fail
   refine cS.mono ?_;rintro e w6 ⟨rfl,q6,g6⟩;have O6:=hid (own_call O5.out g6 hb);have G6:=hid (grown_trans G5.out g6);have Q6:=hid q6;clear q6 g6;go_wp2;go_ret;refine ⟨_,rfl,?_,Q6.out,G6.out⟩;rw [hfin.out];simp only [List.length_append,List.length_singleton,List.flatMap_append,List.flatMap_cons,List.flatMap_nil,List.append_nil];exact O6.out
  ·have e2:tke ts σ wUpto=(true,σ.next):=by unfold tke;rw [ho];rfl
   rw [e2] at cT;have HE:=hid (on_err ho);have HON:=hid (hst.out.1.ok.next (onW_k ho));obtain ⟨a,ha⟩:∃a,a=numS ts σ.next 0 1000000:=⟨_,rfl⟩;obtain ⟨v1,hv⟩:∃v1,v1=rateS ts a.2:=⟨_,rfl⟩;have e3:tierS ts σ.next=(⟨a.1,v1.1⟩,v1.2):=by rw [hv,ha];rfl
   have hfin:Hid (ti=tiersS ts ts.length v1.2 (acc++[⟨a.1,v1.1⟩])):=hid (by
    rw [hst.out.2.2.2.1];have o:=hst.out.1.ok;have o1:=o.next (onW_k ho);have l1:=tierS_le ts σ.next;obtain ⟨n,hn⟩:∃n,ts.length=n+1:=⟨ts.length-1,by have:=o.lt;omega⟩;have o2:=o1.tierS;rw [e3] at l1 o2;have key:=tiers_fuel ts n (n+1) v1.2 (acc++[⟨a.1,v1.1⟩]) o2 (by have:σ.next.i=σ.i+1:=rfl;rw [this] at l1;simp only at l1;omega) (by omega);rw [hn,←key];show tiersS ts (n+1) σ acc=_
    rw [tiersS,if_pos ho,e3])
   have hle:=hid (show σ.i+1≤v1.2.i by
    have l1:=tierS_le ts σ.next;rw [e3] at l1
    exact l1)
   have HA:=hid ha;have HV:=hid hv;have hac:acc.length+1≤1000000:=by have:=hst.out.2.2.2.2;have:=hst.out.1.ok.lt;have:=hst.out.1.cnt;omega
   clear e2 ho ha hv e3;go_wp2_with fail
   refine cT.mono ?_;rintro e w2 ⟨rfl,q2,g2⟩;have G2:=hid (grown_trans hst.out.2.1 g2);have O2:=hid (own_call hst.out.2.2.1 g2 hb);have cN:=whole_any b tb cap ts σ.next 1000000 w2 q2;rw [←HA.out] at cN;clear q2 g2;go_wp2_with fail
   refine cN.mono ?_;rintro e w3 ⟨rfl,q3,g3⟩;have G3:=hid (grown_trans G2.out g3);have O3:=hid (own_call O2.out g3 hb);have cR:=rate_any b tb cap ts a.2 w3 q3;rw [←HV.out] at cR;clear q3 g3;go_wp2_with fail
   refine cR.mono ?_;rintro e w4 ⟨rfl,q4,g4⟩;have G4:=hid (grown_trans G3.out g4);have o4:=own_call O3.out g4 hb;have Q4:=hid q4;have hbs:w.heap.size≤w4.heap.size:=G4.out.size;clear q4 g4;go_wp2_with (at_builtin;refine wpList_append_own _ rfl _ _ 54 rfl w.heap.size 119 i0 (.agg (tierC ⟨0,0⟩).toArray) 2 16 Tryz.underlying54 hi hz0 hz1 hz2 rfl (by decide) _ _ _ rfl (o4.alloc _) ⟨w4.heap.size,0,none⟩ 1 1 (tierC ⟨a.1,v1.1⟩) rfl rfl (news_at w4 (tierC ⟨a.1,v1.1⟩) _) (by simp [tierC,Value.oneCell']) (by unfold maxLen;omega) (by omega) (by simp;omega) ?_)
   intro v5 w5 hown hgrow _;have nk:=fun (k:Nat) e=>(o4.lt k e).1;have G5:=hid (grown_own (grown_trans G4.out (grown_alloc w4 _ _)) hgrow nk);have Q5:Rd w5 b tb cap ts v1.2:=(Q4.out.on ((Below.refl _ _).alloc (Nat.le_refl _) _)).other hgrow (fun k e=>by have:=nk k e;omega);have O5:=hid hown;have HQ5:=hid Q5;clear hown hgrow nk Q5 o4;go_wp2;go_roundw
   case rel=>exact ⟨_,v1.2,acc++[⟨a.1,v1.1⟩],rfl,hid ⟨HQ5.out,G5.out,by
    simp only [List.length_append,List.length_singleton,List.flatMap_append,List.flatMap_cons,List.flatMap_nil,List.append_nil]
    exact O5.out,hfin.out,by have h1:=hst.out.2.2.2.2;have h2:=hle.out;simp only [List.length_append,List.length_singleton];omega⟩⟩
   case measure=>
    rw [leftOf_rd HQ5.out,leftOf_rd hst.out.1];exact left_less HON.out HE.out HQ5.out.ok hle.out
end Pa
end Go.Proofs.YtofbobdhkbmbgaaGreatDoor
