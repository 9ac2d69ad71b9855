/- What package parse does: charges. -/
import Derived.Test.YtofbobdhkbmbgaaGreatDoorJPaA
set_option maxRecDepth 100000
set_option maxHeartbeats 8000000
namespace Go.Proofs.YtofbobdhkbmbgaaGreatDoor
namespace Pa
open Go.RowKit Go.Sort P Tl Mm Md
theorem slice_form {w:World} {base:Nat} {e:TypeId} {size n:Nat} {v:Value} {xs:List Value} (h:w.ownsRow base e size v n xs):∃a cap,v=.slice a n cap:=by
 rcases h.2 with ⟨h1,h2⟩|⟨g,cap,cur,h1,_⟩
 ·exact ⟨none,0,by rw [h1,h2]⟩
 ·exact ⟨_,cap,h1⟩
theorem charge_as (ts:List Tok) (s:St) {m wn al bl kd tt md ad sx} (hm:m=tkn ts s 1) (hwn:wn=winS ts m.2) (hal:al=optS ts (wnt ts wn.2 sOpen) wAllowance 0) (hbl:bl=optS ts al.2 wBlock 1) (hkd:kd=kindS ts bl.2) (htt:tt=tiersAll ts kd.2)
  (hmd:md=modeS ts (wnt ts tt.2 wRound)) (had:ad=adjsS ts ts.length (wnt ts md.2 sSemi) []) (hsx:sx=wnt ts ad.2 sShut):chargeS ts s 0 0=(⟨⟨m.1.toArray⟩,wn.1,al.1,bl.1,kd.1,tt.1,md.1,ad.1,0,0⟩,sx):=by
 subst hsx had hmd htt hkd hbl hal hwn hm;rfl
def ChQ (w:World) (b tb cap:Nat) (ts:List Tok) (s:St) (c:Charge) (x:Ending) (w':World):Prop:=
 ∃ta tc aa ac,x=.returned (.agg (chargeC c ta tc aa ac).toArray)∧Rd w' b tb cap ts s∧w.grownBy w' (some b)∧
  w'.ownsRow w.heap.size 119 2 (.slice ta c.tiers.length tc) c.tiers.length (c.tiers.flatMap tierC)∧
  w'.ownsRow w.heap.size 121 3 (.slice aa c.adjusts.length ac) c.adjusts.length (c.adjusts.flatMap adjC)∧
  ∀k,(Value.slice ta c.tiers.length tc).ownBlock=some k→(Value.slice aa c.adjusts.length ac).ownBlock≠some k
theorem charge_any (b tb cap:Nat) (ts:List Tok) (s:St) (w:World) (h:Rd w b tb cap ts s) :
  Calls Tryz.prog 151 #[.pointer (some ⟨b,0,none⟩)] w (ChQ w b tb cap ts (chargeS ts s 0 0).2 (chargeS ts s 0 0).1):=by
 obtain ⟨m,hm⟩:∃m,m=tkn ts s 1:=⟨_,rfl⟩;obtain ⟨wn,hwn⟩:∃wn,wn=winS ts m.2:=⟨_,rfl⟩;obtain ⟨s1,hs1⟩:∃s1,s1=wnt ts wn.2 sOpen:=⟨_,rfl⟩;obtain ⟨al,hal⟩:∃al,al=optS ts s1 wAllowance 0:=⟨_,rfl⟩;obtain ⟨bl,hbl⟩:∃bl,bl=optS ts al.2 wBlock 1:=⟨_,rfl⟩;obtain ⟨kd,hkd⟩:∃kd,kd=kindS ts bl.2:=⟨_,rfl⟩;obtain ⟨tt,htt⟩:∃tt,tt=tiersAll ts kd.2:=⟨_,rfl⟩;obtain ⟨s2,hs2⟩:∃s2,s2=wnt ts tt.2 wRound:=⟨_,rfl⟩;obtain ⟨md,hmd⟩:∃md,md=modeS ts s2:=⟨_,rfl⟩;obtain ⟨s3,hs3⟩:∃s3,s3=wnt ts md.2 sSemi:=⟨_,rfl⟩;obtain ⟨ad,had⟩:∃ad,ad=adjsS ts ts.length s3 []:=⟨_,rfl⟩;obtain ⟨s4,hs4⟩:∃s4,s4=wnt ts ad.2 sShut:=⟨_,rfl⟩;obtain ⟨mt,hmt⟩:∃mt:ByteArray,mt=⟨m.1.toArray⟩:=⟨_,rfl⟩;obtain ⟨x,hx⟩:∃x,x=wn.1:=⟨_,rfl⟩;have e:=charge_as ts s (al:=al) (md:=md) (ad:=ad) hm hwn (by rw [←hs1];exact hal) hbl hkd htt (by rw [←hs2];exact hmd) (by rw [←hs3];exact had) hs4;rw [←hmt,←hx] at e;rw [e];have HM:=hid hm;have HWN:=hid hwn;have HS1:=hid hs1;have HAL:=hid hal;have HBL:=hid hbl;have HKD:=hid hkd;have HTT:=hid htt;have HS2:=hid hs2;have HMD:=hid hmd;have HS3:=hid hs3;have HAD:=hid had;have HS4:=hid hs4;have HMT:=hid hmt;have HX:=hid hx;clear e hm hwn hs1 hal hbl hkd htt hs2 hmd hs3 had hs4 hmt hx;obtain ⟨kr,hkr⟩:∃kr,kr=w.heap.size:=⟨_,rfl⟩;obtain ⟨kc,hkc⟩:∃kc,kc=w.heap.size+1:=⟨_,rfl⟩;obtain ⟨zs,hzs⟩:∃zs:List Value,zs=[.string ⟨#[]⟩,.bool false,.int .i64 0,.int .i64 0,.int .i64 0,.int .i64 0,.int .i64 0,.int .i64 0,.int .i64 0,.int .i64 0,.int .i64 0,.slice none 0 0,.int .i64 0,.slice none 0 0,.int .i64 0,.int .i64 0]:=⟨_,rfl⟩;obtain ⟨w0,hw0⟩:∃w0,w0=w.alloc (.cells #[.string ⟨#[]⟩,.bool false,.int .i64 0,.int .i64 0,.int .i64 0,.int .i64 0,.int .i64 0,.int .i64 0,.int .i64 0,.int .i64 0,.int .i64 0,.slice none 0 0,.int .i64 0,.slice none 0 0,.int .i64 0,.int .i64 0] 57):=⟨_,rfl⟩;obtain ⟨w1,hw1⟩:∃w1,w1=w0.alloc (.cells #[.string ⟨#[]⟩,.bool false,.int .i64 0,.int .i64 0,.int .i64 0,.int .i64 0,.int .i64 0,.int .i64 0,.int .i64 0,.int .i64 1,.int .i64 0,.slice none 0 0,.int .i64 0,.slice none 0 0,.int .i64 0,.int .i64 0] 57):=⟨_,rfl⟩;have M1:Hid (Mk w w1 b tb cap ts kr kc zs [.string ⟨#[]⟩,.bool false,.int .i64 0,.int .i64 0,.int .i64 0,.int .i64 0,.int .i64 0,.int .i64 0,.int .i64 0,.int .i64 1,.int .i64 0,.slice none 0 0,.int .i64 0,.slice none 0 0,.int .i64 0,.int .i64 0] s):=hid (by rw [hw1,hw0,hkr,hkc,hzs];exact Mk.new h 57 [.string ⟨#[]⟩,.bool false,.int .i64 0,.int .i64 0,.int .i64 0,.int .i64 0,.int .i64 0,.int .i64 0,.int .i64 0,.int .i64 0,.int .i64 0,.slice none 0 0,.int .i64 0,.slice none 0 0,.int .i64 0,.int .i64 0] [.string ⟨#[]⟩,.bool false,.int .i64 0,.int .i64 0,.int .i64 0,.int .i64 0,.int .i64 0,.int .i64 0,.int .i64 0,.int .i64 1,.int .i64 0,.slice none 0 0,.int .i64 0,.slice none 0 0,.int .i64 0,.int .i64 0]);have HKR:=hid hkr;have HKC:=hid hkc;have HZS:=hid hzs;have HW0:=hid hw0;have HW1:=hid hw1;clear hkr hkc hzs hw0 hw1 h;go_enter Tryz.func151,Tryz.ntmps151
 have c:=name_any b tb cap ts s w1 M1.out.rd;rw [←HM.out,←HMT.out] at c;go_wp2_with fail
 rw [←HW0.out,←HW1.out,←HKC.out,←HKR.out];refine c.mono ?_;rintro e w2 ⟨rfl,q,g⟩;have C:=M1.out.call q g;have d0:=C.box.cell 0 _ rfl;have f0:=C.box.free 0;have lk:=C.box.lt;obtain ⟨w3,hw3⟩:∃w3,w3=(w2.setCell ⟨kc,0,none⟩ (.string mt)):=⟨_,rfl⟩;have M3:Hid (Mk w w3 b tb cap ts kr kc zs [.string mt,.bool false,.int .i64 0,.int .i64 0,.int .i64 0,.int .i64 0,.int .i64 0,.int .i64 0,.int .i64 0,.int .i64 1,.int .i64 0,.slice none 0 0,.int .i64 0,.slice none 0 0,.int .i64 0,.int .i64 0] m.2):=hid (by rw [hw3];exact (C.put 0 _));have HW3:=hid hw3;clear c q g C hw3;have c:=window_any b tb cap ts m.2 w3 M3.out.rd;rw [←HWN.out,←HX.out,winV] at c;go_wp2_with fail
 rw [←HW3.out];clear d0 f0 lk;refine c.mono ?_;rintro e w4 ⟨rfl,q,g⟩;have C:=M3.out.call q g;have d0:=C.box.cell 1 _ rfl;have f0:=C.box.free 1;have d1:=C.box.cell 2 _ rfl;have f1:=C.box.free 2;have d2:=C.box.cell 3 _ rfl;have f2:=C.box.free 3;have d3:=C.box.cell 4 _ rfl;have f3:=C.box.free 4;have d4:=C.box.cell 5 _ rfl;have f4:=C.box.free 5;have d5:=C.box.cell 6 _ rfl;have f5:=C.box.free 6;have d6:=C.box.cell 7 _ rfl;have f6:=C.box.free 7;have lk:=C.box.lt;obtain ⟨w5,hw5⟩:∃w5,w5=(((((((w4.setCell ⟨kc,1,none⟩ (.bool x.has)).setCell ⟨kc,2,none⟩ (.int .i64 x.a.y)).setCell ⟨kc,3,none⟩ (.int .i64 x.a.m)).setCell ⟨kc,4,none⟩ (.int .i64 x.a.d)).setCell ⟨kc,5,none⟩ (.int .i64 x.b.y)).setCell ⟨kc,6,none⟩ (.int .i64 x.b.m)).setCell ⟨kc,7,none⟩ (.int .i64 x.b.d)):=⟨_,rfl⟩;have M5:Hid (Mk w w5 b tb cap ts kr kc zs [.string mt,x.has,x.a.y,x.a.m,x.a.d,x.b.y,x.b.m,x.b.d,.int .i64 0,.int .i64 1,.int .i64 0,.slice none 0 0,.int .i64 0,.slice none 0 0,.int .i64 0,.int .i64 0] wn.2):=hid (by rw [hw5];exact (((((((C.put 1 _).put 2 _).put 3 _).put 4 _).put 5 _).put 6 _).put 7 _));have HW5:=hid hw5;clear c q g C hw5;have c:=need_any b tb cap ts wn.2 ⟨#[123]⟩ (by decide) w5 M5.out.rd;rw [show (⟨#[123]⟩:ByteArray).data.toList=sOpen from rfl,←HS1.out] at c;go_wp2_with fail
 rw [←HW5.out];clear d0 f0 d1 f1 d2 f2 d3 f3 d4 f4 d5 f5 d6 f6 lk;refine c.mono ?_;rintro e w6 ⟨rfl,q,g⟩;have M6:=hid (M5.out.call q g);clear c q g M5;have c:=next_any b tb cap ts s1 ⟨#[97,108,108,111,119,97,110,99,101]⟩ (by decide) w6 M6.out.rd;rw [show (⟨#[97,108,108,111,119,97,110,99,101]⟩:ByteArray).data.toList=wAllowance from rfl] at c;go_wp2_with fail
 refine c.mono ?_;rintro e w7 ⟨rfl,q,g⟩;have M7:=hid (M6.out.call q g);clear c q g M6;obtain ⟨T,hT⟩:∃T,T=tke ts s1 wAllowance:=⟨_,rfl⟩;rw [←hT] at M7 ⊢;have HT:=hid hT;clear hT
 go_upto_if 14 with fail
 go_cut [] (fun wx=>Hid (Mk w wx b tb cap ts kr kc zs [.string mt,x.has,x.a.y,x.a.m,x.a.d,x.b.y,x.b.m,x.b.d,.int .i64 al.1,.int .i64 1,.int .i64 0,.slice none 0 0,.int .i64 0,.slice none 0 0,.int .i64 0,.int .i64 0] al.2))
 case first=>
  cases ho:onW ts s1 wAllowance
  ·have e:al=(0,s1):=by rw [HAL.out];unfold optS;rw [ho];rfl
   have e2:T=(false,s1):=by rw [HT.out];unfold tke;rw [ho];rfl
   rw [e2] at M7 ⊢;clear e2 HT ho;go_wp2;go_meet;rw [e];exact M7
  ·have e:al=((numS ts s1.next 0 1000000).1,wnt ts (numS ts s1.next 0 1000000).2 sSemi):=by rw [HAL.out];unfold optS;rw [ho];rfl
   have e2:T=(true,s1.next):=by rw [HT.out];unfold tke;rw [ho];rfl
   rw [e2] at M7 ⊢;obtain ⟨nn,hnn⟩:∃nn,nn=numS ts s1.next 0 1000000:=⟨_,rfl⟩;rw [←hnn] at e;have HE:=hid e;have HNN:=hid hnn;clear e e2 HT ho hnn;have c:=whole_any b tb cap ts s1.next 1000000 w7 M7.out.rd;rw [←HNN.out] at c;go_wp2_with fail
   refine c.mono ?_;rintro e w8 ⟨rfl,q,g⟩;have C:=M7.out.call q g;have d0:=C.box.cell 8 _ rfl;have f0:=C.box.free 8;have lk:=C.box.lt;obtain ⟨w9,hw9⟩:∃w9,w9=(w8.setCell ⟨kc,8,none⟩ (.int .i64 nn.1)):=⟨_,rfl⟩;have M9:Hid (Mk w w9 b tb cap ts kr kc zs [.string mt,x.has,x.a.y,x.a.m,x.a.d,x.b.y,x.b.m,x.b.d,.int .i64 nn.1,.int .i64 1,.int .i64 0,.slice none 0 0,.int .i64 0,.slice none 0 0,.int .i64 0,.int .i64 0] nn.2):=hid (by rw [hw9];exact (C.put 8 _));have HW9:=hid hw9;clear c q g C hw9;have c:=need_any b tb cap ts nn.2 ⟨#[59]⟩ (by decide) w9 M9.out.rd;rw [show (⟨#[59]⟩:ByteArray).data.toList=sSemi from rfl] at c;go_wp2_with fail
   rw [←HW9.out];clear d0 f0 lk;refine c.mono ?_;rintro e w10 ⟨rfl,q,g⟩;have M10:=hid (M9.out.call q g);clear c q g M9;go_wp2;go_meet;rw [HE.out];exact M10
 case rest=>
  obtain ⟨w11,hw⟩:∃w11,w11=wc:=⟨_,rfl⟩;rw [←hw] at hcut ⊢;have M11:=hcut;clear hw hcut;have c:=next_any b tb cap ts al.2 ⟨#[98,108,111,99,107]⟩ (by decide) w11 M11.out.rd;rw [show (⟨#[98,108,111,99,107]⟩:ByteArray).data.toList=wBlock from rfl] at c;go_wp2_with fail
  refine c.mono ?_;rintro e w12 ⟨rfl,q,g⟩;have M12:=hid (M11.out.call q g);clear c q g M11;obtain ⟨T,hT⟩:∃T,T=tke ts al.2 wBlock:=⟨_,rfl⟩;rw [←hT] at M12 ⊢;have HT:=hid hT;clear hT
  go_upto_if 21 with fail
  go_cut [] (fun wx=>Hid (Mk w wx b tb cap ts kr kc zs [.string mt,x.has,x.a.y,x.a.m,x.a.d,x.b.y,x.b.m,x.b.d,.int .i64 al.1,.int .i64 bl.1,.int .i64 0,.slice none 0 0,.int .i64 0,.slice none 0 0,.int .i64 0,.int .i64 0] bl.2))
  case first=>
   cases ho:onW ts al.2 wBlock
   ·have e:bl=(1,al.2):=by rw [HBL.out];unfold optS;rw [ho];rfl
    have e2:T=(false,al.2):=by rw [HT.out];unfold tke;rw [ho];rfl
    rw [e2] at M12 ⊢;clear e2 HT ho;go_wp2;go_meet;rw [e];exact M12
   ·have e:bl=((numS ts al.2.next 0 1000000).1,wnt ts (numS ts al.2.next 0 1000000).2 sSemi):=by rw [HBL.out];unfold optS;rw [ho];rfl
    have e2:T=(true,al.2.next):=by rw [HT.out];unfold tke;rw [ho];rfl
    rw [e2] at M12 ⊢;obtain ⟨nn,hnn⟩:∃nn,nn=numS ts al.2.next 0 1000000:=⟨_,rfl⟩;rw [←hnn] at e;have HE:=hid e;have HNN:=hid hnn;clear e e2 HT ho hnn;have c:=whole_any b tb cap ts al.2.next 1000000 w12 M12.out.rd;rw [←HNN.out] at c;go_wp2_with fail
    refine c.mono ?_;rintro e w13 ⟨rfl,q,g⟩;have C:=M12.out.call q g;have d0:=C.box.cell 9 _ rfl;have f0:=C.box.free 9;have lk:=C.box.lt;obtain ⟨w14,hw14⟩:∃w14,w14=(w13.setCell ⟨kc,9,none⟩ (.int .i64 nn.1)):=⟨_,rfl⟩;have M14:Hid (Mk w w14 b tb cap ts kr kc zs [.string mt,x.has,x.a.y,x.a.m,x.a.d,x.b.y,x.b.m,x.b.d,.int .i64 al.1,.int .i64 nn.1,.int .i64 0,.slice none 0 0,.int .i64 0,.slice none 0 0,.int .i64 0,.int .i64 0] nn.2):=hid (by rw [hw14];exact (C.put 9 _));have HW14:=hid hw14;clear c q g C hw14;have c:=need_any b tb cap ts nn.2 ⟨#[59]⟩ (by decide) w14 M14.out.rd;rw [show (⟨#[59]⟩:ByteArray).data.toList=sSemi from rfl] at c;go_wp2_with fail
    rw [←HW14.out];clear d0 f0 lk;refine c.mono ?_;rintro e w15 ⟨rfl,q,g⟩;have M15:=hid (M14.out.call q g);clear c q g M14;go_wp2;go_meet;rw [HE.out];exact M15
  case rest=>
   obtain ⟨w16,hw⟩:∃w16,w16=wc:=⟨_,rfl⟩;rw [←hw] at hcut ⊢;have M16:=hcut;clear hw hcut;have c:=kind_any b tb cap ts bl.2 w16 M16.out.rd;rw [←HKD.out] at c;go_wp2_with fail
   refine c.mono ?_;rintro e w17 ⟨rfl,q,g⟩;have C:=M16.out.call q g;have d0:=C.box.cell 10 _ rfl;have f0:=C.box.free 10;have lk:=C.box.lt;obtain ⟨w18,hw18⟩:∃w18,w18=(w17.setCell ⟨kc,10,none⟩ (.int .i64 kd.1)):=⟨_,rfl⟩;have M18:Hid (Mk w w18 b tb cap ts kr kc zs [.string mt,x.has,x.a.y,x.a.m,x.a.d,x.b.y,x.b.m,x.b.d,.int .i64 al.1,.int .i64 bl.1,.int .i64 kd.1,.slice none 0 0,.int .i64 0,.slice none 0 0,.int .i64 0,.int .i64 0] kd.2):=hid (by rw [hw18];exact (C.put 10 _));have HW18:=hid hw18;clear c q g C hw18;have c:=tiers_any b tb cap ts kd.2 w18 M18.out.rd;rw [←HTT.out] at c;go_wp2_with fail
   rw [←HW18.out];clear d0 f0 lk;refine c.mono ?_;rintro e w19 ⟨v,rfl,hown,q,g⟩;obtain ⟨ta,tc,rfl⟩:=slice_form hown;have C:=M18.out.call q g;have hcb:kc<kc+1:=Nat.lt_succ_self kc;have hbb:b<kc+1:=by have:=C.lb;have:=C.lc;omega
   have hO:=hown.mono (show kc+1≤w18.heap.size from M18.out.box.lt);have d0:=C.box.cell 11 _ rfl;have f0:=C.box.free 11;have lk:=C.box.lt;obtain ⟨w20,hw20⟩:∃w20,w20=w19.setCell ⟨kc,11,none⟩ (.slice ta tt.1.length tc):=⟨_,rfl⟩;have M20:Hid (Mk w w20 b tb cap ts kr kc zs [.string mt,x.has,x.a.y,x.a.m,x.a.d,x.b.y,x.b.m,x.b.d,.int .i64 al.1,.int .i64 bl.1,.int .i64 kd.1,.slice ta tt.1.length tc,.int .i64 0,.slice none 0 0,.int .i64 0,.int .i64 0] tt.2):=hid (by rw [hw20];exact C.put 11 _);have OT:=hid (ownsRow_setCell_below hO (a:=⟨kc,11,none⟩) hcb (.slice ta tt.1.length tc));rw [←hw20] at OT;have HW20:=hid hw20;clear c q g C hw20 hO hown M18;have c:=need_any b tb cap ts tt.2 ⟨#[114,111,117,110,100]⟩ (by decide) w20 M20.out.rd;rw [show (⟨#[114,111,117,110,100]⟩:ByteArray).data.toList=wRound from rfl,←HS2.out] at c;go_wp2_with fail
   rw [←HW20.out];clear d0 f0 lk;refine c.mono ?_;rintro e w21 ⟨rfl,q,g⟩;have M21:=hid (M20.out.call q g);have hO:=own_call OT.out g hbb;replace OT:=hid hO;clear hO;clear c q g M20;have c:=mode_any b tb cap ts s2 w21 M21.out.rd;rw [←HMD.out] at c;go_wp2_with fail
   refine c.mono ?_;rintro e w22 ⟨rfl,q,g⟩;have C:=M21.out.call q g;have OT:=hid (own_call OT.out g hbb);have d0:=C.box.cell 12 _ rfl;have f0:=C.box.free 12;have lk:=C.box.lt;obtain ⟨w23,hw23⟩:∃w23,w23=(w22.setCell ⟨kc,12,none⟩ (.int .i64 md.1)):=⟨_,rfl⟩;have M23:Hid (Mk w w23 b tb cap ts kr kc zs [.string mt,x.has,x.a.y,x.a.m,x.a.d,x.b.y,x.b.m,x.b.d,.int .i64 al.1,.int .i64 bl.1,.int .i64 kd.1,.slice ta tt.1.length tc,.int .i64 md.1,.slice none 0 0,.int .i64 0,.int .i64 0] md.2):=hid (by rw [hw23];exact (C.put 12 _));have hO:=(ownsRow_setCell_below OT.out (a:=⟨kc,12,none⟩) hcb (.int .i64 md.1));rw [←hw23] at hO;replace OT:=hid hO;clear hO;have HW23:=hid hw23;clear c q g C hw23;have c:=need_any b tb cap ts md.2 ⟨#[59]⟩ (by decide) w23 M23.out.rd;rw [show (⟨#[59]⟩:ByteArray).data.toList=sSemi from rfl,←HS3.out] at c;go_wp2_with fail
   rw [←HW23.out];clear d0 f0 lk;refine c.mono ?_;rintro e w24 ⟨rfl,q,g⟩;have M24:=hid (M23.out.call q g);have hO:=own_call OT.out g hbb;replace OT:=hid hO;clear hO;clear c q g M23;have c:=adjusts_any b tb cap ts s3 w24 M24.out.rd;rw [←HAD.out] at c;go_wp2_with fail
   refine c.mono ?_;rintro e w25 ⟨v,rfl,hown,q,g⟩;obtain ⟨aa,ac,rfl⟩:=slice_form hown;have AP:=hid (fun (k:Nat) (h1:(Value.slice ta tt.1.length tc).ownBlock=some k) (h2:(Value.slice aa ad.1.length ac).ownBlock=some k)=>Nat.lt_irrefl _ (Nat.lt_of_lt_of_le (OT.out.lt k h1).2 (hown.lt k h2).1));have C:=M24.out.call q g;have hO:=hown.mono (show kc+1≤w24.heap.size from M24.out.box.lt);have hO2:=own_call OT.out g hbb;have d0:=C.box.cell 13 _ rfl;have f0:=C.box.free 13;have lk:=C.box.lt;obtain ⟨w26,hw26⟩:∃w26,w26=w25.setCell ⟨kc,13,none⟩ (.slice aa ad.1.length ac):=⟨_,rfl⟩;have M26:Hid (Mk w w26 b tb cap ts kr kc zs [.string mt,x.has,x.a.y,x.a.m,x.a.d,x.b.y,x.b.m,x.b.d,.int .i64 al.1,.int .i64 bl.1,.int .i64 kd.1,.slice ta tt.1.length tc,.int .i64 md.1,.slice aa ad.1.length ac,.int .i64 0,.int .i64 0] ad.2):=hid (by rw [hw26];exact C.put 13 _);have OA:=hid (ownsRow_setCell_below hO (a:=⟨kc,13,none⟩) hcb (.slice aa ad.1.length ac));replace OT:=hid (ownsRow_setCell_below hO2 (a:=⟨kc,13,none⟩) hcb (.slice aa ad.1.length ac));rw [←hw26] at OA OT;have HW26:=hid hw26;clear c q g C hw26 hO hO2 hown M24;have c:=need_any b tb cap ts ad.2 ⟨#[125]⟩ (by decide) w26 M26.out.rd;rw [show (⟨#[125]⟩:ByteArray).data.toList=sShut from rfl,←HS4.out] at c;go_wp2_with fail
   rw [←HW26.out];clear d0 f0 lk;refine c.mono ?_;rintro e w27 ⟨rfl,q,g⟩;have M27:=hid (M26.out.call q g);have hO:=own_call OT.out g hbb;replace OT:=hid hO;clear hO;have hO:=own_call OA.out g hbb;replace OA:=hid hO;clear hO;clear c q g M26;have rx:Hid (w27.rangeAt kc 0 [.string mt,x.has,x.a.y,x.a.m,x.a.d,x.b.y,x.b.m,x.b.d,.int .i64 al.1,.int .i64 bl.1,.int .i64 kd.1,.slice ta tt.1.length tc,.int .i64 md.1,.slice aa ad.1.length ac,.int .i64 0,.int .i64 0]):=hid (range_of M27.out.box.cell);have rz:Hid (w27.there kr 0 16):=hid (there_of M27.out.res.cell M27.out.res.free (n:=16) (by rw [HZS.out];rfl))
   go_wp2_with (first
    | (with_reducible refine wpList_load_mid (op:=Oper.mk (some 45) (Op.load 57 (Operand.tmp 3)) _ _ _ _) ?_ 57 (.tmp 3) ?_ kc 0 ?_ [.string mt,x.has,x.a.y,x.a.m,x.a.d,x.b.y,x.b.m,x.b.d,.int .i64 al.1,.int .i64 bl.1,.int .i64 kd.1,.slice ta tt.1.length tc,.int .i64 md.1,.slice aa ad.1.length ac,.int .i64 0,.int .i64 0] _ rx.out Tryz.underlying57 ?_ ?_ ?_;rfl;rfl;go_simp;rfl;kernel_rfl)
    | (with_reducible refine wpList_store_mid (op:=Oper.mk none (Op.store 57 (Operand.tmp 2) (Operand.tmp 45)) _ _ _ _) ?_ 57 (.tmp 2) (.tmp 45) ?_ kr 0 #[.string mt,x.has,x.a.y,x.a.m,x.a.d,x.b.y,x.b.m,x.b.d,.int .i64 al.1,.int .i64 bl.1,.int .i64 kd.1,.slice ta tt.1.length tc,.int .i64 md.1,.slice aa ad.1.length ac,.int .i64 0,.int .i64 0] ?_ ?_ ?_ ?_ ?_ ?_;rfl;rfl;go_simp;go_simp;(simpa using rz.out);kernel_rfl;(simp [Value.oneCell']))
    | fail)
   have rr:(w27.setCells kr 0 [.string mt,x.has,x.a.y,x.a.m,x.a.d,x.b.y,x.b.m,x.b.d,.int .i64 al.1,.int .i64 bl.1,.int .i64 kd.1,.slice ta tt.1.length tc,.int .i64 md.1,.slice aa ad.1.length ac,.int .i64 0,.int .i64 0]).rangeAt kr 0 [.string mt,x.has,x.a.y,x.a.m,x.a.d,x.b.y,x.b.m,x.b.d,.int .i64 al.1,.int .i64 bl.1,.int .i64 kd.1,.slice ta tt.1.length tc,.int .i64 md.1,.slice aa ad.1.length ac,.int .i64 0,.int .i64 0]:=World.rangeAt_setCells_same _ _ _ _ rz.out;have FF:=Mk.puts [.string mt,x.has,x.a.y,x.a.m,x.a.d,x.b.y,x.b.m,x.b.d,.int .i64 al.1,.int .i64 bl.1,.int .i64 kd.1,.slice ta tt.1.length tc,.int .i64 md.1,.slice aa ad.1.length ac,.int .i64 0,.int .i64 0] 0 ⟨M27.out.rd,M27.out.gr⟩ M27.out.lb M27.out.lr;refine bodyPost_ret (v:=.agg #[.string mt,x.has,x.a.y,x.a.m,x.a.d,x.b.y,x.b.m,x.b.d,.int .i64 al.1,.int .i64 bl.1,.int .i64 kd.1,.slice ta tt.1.length tc,.int .i64 md.1,.slice aa ad.1.length ac,.int .i64 0,.int .i64 0]) ?_ rfl ?_
   ·exact results_mid rfl _ _ kr [.string mt,x.has,x.a.y,x.a.m,x.a.d,x.b.y,x.b.m,x.b.d,.int .i64 al.1,.int .i64 bl.1,.int .i64 kd.1,.slice ta tt.1.length tc,.int .i64 md.1,.slice aa ad.1.length ac,.int .i64 0,.int .i64 0] _ rfl rr Tryz.underlying57 rfl (by kernel_rfl)
   have hkb:kr<kc+1:=by have:=HKR.out;have:=HKC.out;omega
   have hwb:w.heap.size≤kc+1:=by have:=HKC.out;omega
   exact ⟨ta,tc,aa,ac,rfl,FF.1,FF.2,(owns_setCells_below hkb _ _ _ OT.out).mono hwb,(owns_setCells_below hkb _ _ _ OA.out).mono hwb,fun k h1 h2=>AP.out k h1 h2⟩
structure Pq (w0 W:World) (b tb cap:Nat) (ts:List Tok) (kr kp base:Nat) (s:St) (p:Plan) (ma:Option Addr) (mc:Nat) (fa:Option Addr) (fc:Nat) (ca:Option Addr) (cc:Nat) (hs:List Hd):Prop where
 rd:Rd W b tb cap ts s
 box:Bx W kp (planC p ma mc fa fc ca cc)
 res:Bx W kr zeroP
 owns:Owns W base (rowOf p ma mc fa fc ca cc hs)
 hl:hs.length=p.charges.length
 gr:w0.grownBy W (some b)
 lb:b<w0.heap.size
 nr:w0.heap.size≤kr
 np:w0.heap.size≤kp
 lr:kr<base
 lp:kp<base
 rp:kr≠kp
 bsz:base≤W.heap.size
section
variable {w0 W W':World} {b tb cap:Nat} {ts:List Tok} {kr kp base:Nat} {s s':St} {p p':Plan} {ma:Option Addr} {mc:Nat} {fa:Option Addr} {fc:Nat} {ca:Option Addr} {cc:Nat} {hs:List Hd}
theorem Pq.bb (h:Pq w0 W b tb cap ts kr kp base s p ma mc fa fc ca cc hs):b<base:=by have:=h.lb;have:=h.nr;have:=h.lr;omega
theorem Pq.call (h:Pq w0 W b tb cap ts kr kp base s p ma mc fa fc ca cc hs) (q:Rd W' b tb cap ts s') (g:W.grownBy W' (some b)):Pq w0 W' b tb cap ts kr kp base s' p ma mc fa fc ca cc hs:=
 ⟨q,h.box.grown g (fun e=>by have:=Option.some.inj e;have:=h.lb;have:=h.np;omega),h.res.grown g (fun e=>by have:=Option.some.inj e;have:=h.lb;have:=h.nr;omega),⟨fun t r ht=>own_call (h.owns.own t r ht) g h.bb,h.owns.apart⟩,h.hl,
  grown_trans h.gr g,h.lb,h.nr,h.np,h.lr,h.lp,h.rp,Nat.le_trans h.bsz g.size⟩
theorem Pq.on (h:Pq w0 W b tb cap ts kr kp base s p ma mc fa fc ca cc hs) (g:Below W.heap.size W W'):Pq w0 W' b tb cap ts kr kp base s p ma mc fa fc ca cc hs:=h.call (h.rd.on g) (grown_below g)
theorem Pq.aside (h:Pq w0 W b tb cap ts kr kp base s p ma mc fa fc ca cc hs) {k:Nat} (hk:w0.heap.size≤k) (h1:kr≠k) (h2:kp≠k) (hr:∀σ r,rowOf p ma mc fa fc ca cc hs σ=some r→r.v.ownBlock≠some k) (o:Nat) (u:Value) :
  Pq w0 (W.setCell ⟨k,o,none⟩ u) b tb cap ts kr kp base s p ma mc fa fc ca cc hs:=
 ⟨h.rd.far' h.lb hk _ _,h.box.other (p:=⟨k,o,none⟩) h2 u,h.res.other (p:=⟨k,o,none⟩) h1 u,⟨fun t r ht=>ownsRow_setCell_other (h.owns.own t r ht) (a:=⟨k,o,none⟩) (hr t r ht) u,h.owns.apart⟩,h.hl,grown_put h.gr hk _ _,h.lb,h.nr,h.np,h.lr,h.lp,h.rp,by simpa using h.bsz⟩
theorem Pq.ne {r:R} {σ:Slot} (h:Pq w0 W b tb cap ts kr kp base s p ma mc fa fc ca cc hs) (hσ:rowOf p ma mc fa fc ca cc hs σ=some r) {k:Nat} (hk:k<base):some k≠r.v.ownBlock:=fun e=>by
 have:=((h.owns.own σ r hσ).lt k e.symm).1;omega
theorem Pq.turn (h:Pq w0 W b tb cap ts kr kp base s p ma mc fa fc ca cc hs) {σ:Slot} {r r':R} {H:Nat} {ma':Option Addr} {mc':Nat} {fa':Option Addr} {fc':Nat} {ca':Option Addr} {cc':Nat} {hs':List Hd} {ρ:Slot→Option R} (hρ:Owns W base ρ)
  (hσ0:rowOf p ma mc fa fc ca cc hs σ=some r) (hσ:ρ σ=some r) (hσ':rowOf p' ma' mc' fa' fc' ca' cc' hs' σ=some r') (he:∀t,t≠σ→rowOf p' ma' mc' fa' fc' ca' cc' hs' t=ρ t) (hg:W.grownBy W' r.v.ownBlock)
  (ho:W'.ownsRow base r'.e r'.size r'.v r'.n r'.xs) (hat:r'.v.ownBlock=r.v.ownBlock∨r'.v.ownBlock=some H) (hH:W.heap.size≤H) (i:Nat) (u:Value) (e:planC p' ma' mc' fa' fc' ca' cc'=(planC p ma mc fa fc ca cc).set i u) (hl:hs'.length=p'.charges.length) :
  Pq w0 (W'.setCell ⟨kp,i,none⟩ u) b tb cap ts kr kp base s p' ma' mc' fa' fc' ca' cc' hs':=by
 have O:=Owns.turn hρ hσ hσ' he hg ho hat hH;have nk:∀k,k<base→some k≠r.v.ownBlock:=fun k hk=>h.ne hσ0 hk
 have hk:∀k,r.v.ownBlock=some k→w0.heap.size≤k:=fun k ek=>by
  have:=((h.owns.own σ r hσ0).lt k ek).1;have:=h.nr;have:=h.lr;omega
 refine ⟨(h.rd.other hg (fun k ek=>by have:=hk k ek;have:=h.lb;omega)).far' h.lb h.np i u,by rw [e];exact (h.box.grown hg (nk kp h.lp)).set i u,(h.res.grown hg (nk kr h.lr)).other (p:=⟨kp,i,none⟩) h.rp u,⟨fun t q ht=>ownsRow_setCell_below (O.own t q ht) (a:=⟨kp,i,none⟩) h.lp u,O.apart⟩,hl,
  grown_put (grown_own h.gr hg hk) h.np i u,h.lb,h.nr,h.np,h.lr,h.lp,h.rp,by have:=Nat.le_trans h.bsz hg.size;simpa using this⟩
theorem Pq.meter (h:Pq w0 W b tb cap ts kr kp base s p ma mc fa fc ca cc hs) {ma':Option Addr} {mc' H:Nat} {x:Meter} (hg:W.grownBy W' (Value.slice ma p.meters.length mc).ownBlock)
  (ho:W'.ownsRow base 49 5 (.slice ma' (p.meters.length+1) mc') (p.meters.length+1) (p.meters.flatMap meterC++meterC x))
  (hat:(Value.slice ma' (p.meters.length+1) mc').ownBlock=(Value.slice ma p.meters.length mc).ownBlock∨(Value.slice ma' (p.meters.length+1) mc').ownBlock=some H) (hH:W.heap.size≤H) :
  Pq w0 (W'.setCell ⟨kp,8,none⟩ (.slice ma' (p.meters.length+1) mc')) b tb cap ts kr kp base s { p with meters:=p.meters++[x] } ma' mc' fa fc ca cc hs:=by
 refine h.turn (σ:=.m) (r':=⟨49,5,ma',p.meters.length+1,mc',p.meters.flatMap meterC++meterC x⟩) h.owns rfl rfl ?_ (fun t ht=>by cases t<;>first|rfl|exact absurd rfl ht) hg ho hat hH 8 _ ?_ h.hl
 ·show some (R.mk _ _ _ _ _ _)=_
  rw [List.length_append,List.flatMap_append];simp
 ·unfold planC;simp only [List.length_append,List.length_singleton];rfl
theorem Pq.fee (h:Pq w0 W b tb cap ts kr kp base s p ma mc fa fc ca cc hs) {fa':Option Addr} {fc' H:Nat} {x:Fee} (hg:W.grownBy W' (Value.slice fa p.fees.length fc).ownBlock)
  (ho:W'.ownsRow base 53 10 (.slice fa' (p.fees.length+1) fc') (p.fees.length+1) (p.fees.flatMap feeC++feeC x))
  (hat:(Value.slice fa' (p.fees.length+1) fc').ownBlock=(Value.slice fa p.fees.length fc).ownBlock∨(Value.slice fa' (p.fees.length+1) fc').ownBlock=some H) (hH:W.heap.size≤H) :
  Pq w0 (W'.setCell ⟨kp,9,none⟩ (.slice fa' (p.fees.length+1) fc')) b tb cap ts kr kp base s { p with fees:=p.fees++[x] } ma mc fa' fc' ca cc hs:=by
 refine h.turn (σ:=.f) (r':=⟨53,10,fa',p.fees.length+1,fc',p.fees.flatMap feeC++feeC x⟩) h.owns rfl rfl ?_ (fun t ht=>by cases t<;>first|rfl|exact absurd rfl ht) hg ho hat hH 9 _ ?_ h.hl
 ·show some (R.mk _ _ _ _ _ _)=_
  rw [List.length_append,List.flatMap_append];simp
 ·unfold planC;simp only [List.length_append,List.length_singleton];rfl
theorem Pq.charge (h:Pq w0 W b tb cap ts kr kp base s p ma mc fa fc ca cc hs) {ca':Option Addr} {cc' H S:Nat} {x:Charge} {hd:Hd} (hS:base≤S)
  (old:∀t q k,rowOf p ma mc fa fc ca cc hs t=some q→q.v.ownBlock=some k→k<S)
  (ot:W.ownsRow S 119 2 (.slice hd.ta x.tiers.length hd.tc) x.tiers.length (x.tiers.flatMap tierC)) (oa:W.ownsRow S 121 3 (.slice hd.aa x.adjusts.length hd.ac) x.adjusts.length (x.adjusts.flatMap adjC))
  (ap:∀k,(Value.slice hd.ta x.tiers.length hd.tc).ownBlock=some k→(Value.slice hd.aa x.adjusts.length hd.ac).ownBlock≠some k)
  (hg:W.grownBy W' (Value.slice ca p.charges.length cc).ownBlock)
  (ho:W'.ownsRow base 57 16 (.slice ca' (p.charges.length+1) cc') (p.charges.length+1) ((p.charges.zip hs).flatMap zC++zC (x,hd)))
  (hat:(Value.slice ca' (p.charges.length+1) cc').ownBlock=(Value.slice ca p.charges.length cc).ownBlock∨(Value.slice ca' (p.charges.length+1) cc').ownBlock=some H) (hH:W.heap.size≤H) :
  Pq w0 (W'.setCell ⟨kp,10,none⟩ (.slice ca' (p.charges.length+1) cc')) b tb cap ts kr kp base s { p with charges:=p.charges++[x] } ma mc fa fc ca' cc' (hs++[hd]):=by
 have hz:(p.charges++[x]).zip (hs++[hd])=p.charges.zip hs++[(x,hd)]:=by rw [List.zip_append h.hl.symm];rfl
 have hzl:(p.charges.zip hs).length=p.charges.length:=by rw [List.length_zip,h.hl,Nat.min_self]
 -- the charge's two rows come first
 let ρ1:Slot→Option R:=fun t=>if t=.t p.charges.length then some ⟨119,2,hd.ta,x.tiers.length,hd.tc,x.tiers.flatMap tierC⟩ else rowOf p ma mc fa fc ca cc hs t;let ρ2:Slot→Option R:=fun t=>if t=.a p.charges.length then some ⟨121,3,hd.aa,x.adjusts.length,hd.ac,x.adjusts.flatMap adjC⟩ else ρ1 t
 have O1:Owns W base ρ1:=Owns.add h.owns (σ:=.t p.charges.length) (if_pos rfl) (fun t ht=>if_neg ht) ot hS (fun t q k _ hq hk e=>by
  have:=old t q k hq hk;have:=(ot.lt k e).1
  omega)
 have O2:Owns W base ρ2:=Owns.add O1 (σ:=.a p.charges.length) (if_pos rfl) (fun t ht=>if_neg ht) oa hS (fun t q k _ hq hk e=>by
  by_cases e1:t=.t p.charges.length
  ·subst e1;obtain rfl:=Option.some.inj ((if_pos rfl).symm.trans hq);exact ap k hk e
  ·have:=old t q k ((if_neg e1).symm.trans hq) hk;have:=(oa.lt k e).1
   omega)
 refine h.turn (σ:=.c) (r':=⟨57,16,ca',p.charges.length+1,cc',(p.charges.zip hs).flatMap zC++zC (x,hd)⟩) O2 rfl rfl ?_ (fun t ht=>?_) hg ho hat hH 10 _ ?_ ?_
 ·show some (R.mk _ _ _ _ _ _)=_
  rw [List.length_append,hz,List.flatMap_append];simp
 ·cases t with
  | m=>rfl
  | f=>rfl
  | c=>exact absurd rfl ht
  | t i=>
    show Option.map _ (((p.charges++[x]).zip (hs++[hd]))[i]?)=ρ2 (.t i)
    rw [hz,List.getElem?_append,hzl];show _=if (Slot.t i)=.t p.charges.length then _ else Option.map _ ((p.charges.zip hs)[i]?)
    by_cases e:i=p.charges.length
    ·subst e;rw [if_neg (show ¬ p.charges.length<p.charges.length by omega),if_pos rfl,Nat.sub_self];rfl
    ·rw [if_neg (show ¬ Slot.t i=Slot.t p.charges.length by simpa using e)];by_cases e2:i<p.charges.length
     ·rw [if_pos e2]
     ·rw [if_neg e2,List.getElem?_eq_none (by simp;omega),List.getElem?_eq_none (by omega)]
  | a i=>
    show Option.map _ (((p.charges++[x]).zip (hs++[hd]))[i]?)=if (Slot.a i)=.a p.charges.length then _ else ρ1 (.a i)
    rw [hz,List.getElem?_append,hzl];show _=if (Slot.a i)=.a p.charges.length then _ else Option.map _ ((p.charges.zip hs)[i]?)
    by_cases e:i=p.charges.length
    ·subst e;rw [if_neg (show ¬ p.charges.length<p.charges.length by omega),if_pos rfl,Nat.sub_self];rfl
    ·rw [if_neg (show ¬ Slot.a i=Slot.a p.charges.length by simpa using e)];by_cases e2:i<p.charges.length
     ·rw [if_pos e2]
     ·rw [if_neg e2,List.getElem?_eq_none (by simp;omega),List.getElem?_eq_none (by omega)]
 ·unfold planC;simp only [List.length_append,List.length_singleton];rfl
 ·rw [List.length_append,List.length_append,h.hl];rfl
end
end Pa
end Go.Proofs.YtofbobdhkbmbgaaGreatDoor
