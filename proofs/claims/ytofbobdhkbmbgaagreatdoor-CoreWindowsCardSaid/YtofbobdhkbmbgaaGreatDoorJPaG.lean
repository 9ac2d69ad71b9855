/- What package parse does: any item. -/
import Derived.Test.YtofbobdhkbmbgaaGreatDoorJPaE
import Derived.Test.YtofbobdhkbmbgaaGreatDoorJPaF
namespace Go.Proofs.YtofbobdhkbmbgaaGreatDoor
namespace Pa
open Go.RowKit Go.Sort P Tl Mm Md
theorem one_item (ts:List Tok) (s:St):oneS ts s itemWords=if onW ts s wMeter then (0,s.next) else if onW ts s wFee then (1,s.next) else if onW ts s wCharge then (2,s.next) else (-1,s):=rfl
theorem item_as0 {ts:List Tok} {s:St} (p:Plan) (h0:onW ts s wMeter=true):itemS ts s p=({ p with meters:=p.meters++[(meterS ts s.next (tk ts s).ln (tk ts s).cl).1] },(meterS ts s.next (tk ts s).ln (tk ts s).cl).2):=by
 unfold itemS;simp only;rw [one_item,h0];rfl
theorem item_as1 {ts:List Tok} {s:St} (p:Plan) (h0:onW ts s wMeter=false) (h1:onW ts s wFee=true):itemS ts s p=({ p with fees:=p.fees++[(feeS ts s.next (tk ts s).ln (tk ts s).cl).1] },(feeS ts s.next (tk ts s).ln (tk ts s).cl).2):=by
 unfold itemS;simp only;rw [one_item,h0,h1];rfl
theorem item_as2 {ts:List Tok} {s:St} (p:Plan) (h0:onW ts s wMeter=false) (h1:onW ts s wFee=false) (h2:onW ts s wCharge=true):itemS ts s p=({ p with charges:=p.charges++[(chargeS ts s.next (tk ts s).ln (tk ts s).cl).1] },(chargeS ts s.next (tk ts s).ln (tk ts s).cl).2):=by
 unfold itemS;simp only;rw [one_item,h0,h1,h2];rfl
theorem item_as3 {ts:List Tok} {s:St} (p:Plan) (h0:onW ts s wMeter=false) (h1:onW ts s wFee=false) (h2:onW ts s wCharge=false):itemS ts s p=(p,wrg ts s 4):=by
 unfold itemS;simp only;rw [one_item,h0,h1,h2];rfl
theorem item_none {w0:World} {b tb cap:Nat} {ts:List Tok} {kr kp base:Nat} {s:St} {p:Plan} {ma:Option Addr} {mc:Nat} {fa:Option Addr} {fc:Nat} {ca:Option Addr} {cc:Nat} {hs:List Hd} (w:World)
  (h:Pq w0 w b tb cap ts kr kp base s p ma mc fa fc ca cc hs) (h0:onW ts s wMeter=false) (h1:onW ts s wFee=false) (h2:onW ts s wCharge=false) :
  Calls Tryz.prog 106 #[.pointer (some ⟨b,0,none⟩),.pointer (some ⟨kp,0,none⟩)] w fun x w'=>x=.returned (.tuple #[])∧Pq w0 w' b tb cap ts kr kp base (wrg ts s 4) p ma mc fa fc ca cc hs:=by
 have hb:=h.rd.lt;have c0:=h.rd.c0;obtain ⟨a0,a1,a2,a3⟩:=h.rd.at;obtain ⟨T,hT⟩:∃T:ByteArray,T=⟨(vk ts s).t.toArray⟩:=⟨_,rfl⟩;obtain ⟨K,hK⟩:∃K:Int,K=((vk ts s).k:Int):=⟨_,rfl⟩;obtain ⟨L,hL⟩:∃L:Int,L=((vk ts s).ln:Int):=⟨_,rfl⟩;obtain ⟨C,hC⟩:∃C:Int,C=((vk ts s).cl:Int):=⟨_,rfl⟩;rw [←hT] at a1;rw [←hK] at a0;rw [←hL] at a2;rw [←hC] at a3;have hc:1≤ts.length-vw ts s:=by have:=vw_lt h.rd.ok;omega
 obtain ⟨wt,hwt,bt,Bt⟩:=loaded w [.int .i64 K,.string T,.int .i64 L,.int .i64 C] 154;have HWT:Hid (w.alloc (.cells #[.int .i64 K,.string T,.int .i64 L,.int .i64 C] 154)=wt):=hid hwt;have Pt:=hid (h.on bt);have E0:Hid (tke ts s wMeter=(false,s)):=hid (by unfold tke;rw [h0];rfl);have E1:Hid (tke ts s wFee=(false,s)):=hid (by unfold tke;rw [h1];rfl);have E2:Hid (tke ts s wCharge=(false,s)):=hid (by unfold tke;rw [h2];rfl);clear hT hK hL hC hwt bt Bt h h0 h1 h2;go_enter Tryz.func106,Tryz.ntmps106
 have c:=next_any b tb cap ts s ⟨#[109,101,116,101,114]⟩ (by decide) wt Pt.out.rd;rw [show (⟨#[109,101,116,101,114]⟩:ByteArray).data.toList=wMeter from rfl,E0.out] at c;go_wp2_with fail
 rw [HWT.out];clear c0 a0 a1 a2 a3 hc hb;refine c.mono ?_;rintro e wa ⟨rfl,q,g⟩;have Pa:=hid (Pt.out.call q g);clear c q g;have c:=next_any b tb cap ts s ⟨#[102,101,101]⟩ (by decide) wa Pa.out.rd;rw [show (⟨#[102,101,101]⟩:ByteArray).data.toList=wFee from rfl,E1.out] at c;go_wp2_with fail
 refine c.mono ?_;rintro e wb ⟨rfl,q,g⟩;have Pb:=hid (Pa.out.call q g);clear c q g;have c:=next_any b tb cap ts s ⟨#[99,104,97,114,103,101]⟩ (by decide) wb Pb.out.rd;rw [show (⟨#[99,104,97,114,103,101]⟩:ByteArray).data.toList=wCharge from rfl,E2.out] at c;go_wp2_with fail
 refine c.mono ?_;rintro e wc ⟨rfl,q,g⟩;have Pc:=hid (Pb.out.call q g);clear c q g;have c:=refuse_any b tb cap ts s 4 (by decide) wc Pc.out.rd;go_wp2_with fail
 refine c.mono ?_;rintro e wd ⟨rfl,q,g⟩;have Pd:=hid (Pc.out.call q g);clear c q g;go_wp2
 go_end0
 exact ⟨rfl,Pd.out⟩
theorem item_any {w0:World} {b tb cap:Nat} {ts:List Tok} {kr kp base:Nat} {s:St} {p:Plan} {ma:Option Addr} {mc:Nat} {fa:Option Addr} {fc:Nat} {ca:Option Addr} {cc:Nat} {hs:List Hd} (w:World)
  (h:Pq w0 w b tb cap ts kr kp base s p ma mc fa fc ca cc hs) (hgo:s.err=0) (n1:p.meters.length≤100000) (n2:p.fees.length≤100000) (n3:p.charges.length≤100000) :
  Calls Tryz.prog 106 #[.pointer (some ⟨b,0,none⟩),.pointer (some ⟨kp,0,none⟩)] w fun x w'=>x=.returned (.tuple #[])∧
   ∃ma' mc' fa' fc' ca' cc' hs',Pq w0 w' b tb cap ts kr kp base (itemS ts s p).2 (itemS ts s p).1 ma' mc' fa' fc' ca' cc' hs':=by
 cases h0:onW ts s wMeter
 ·cases h1:onW ts s wFee
  ·cases h2:onW ts s wCharge
   ·rw [item_as3 p h0 h1 h2];exact (item_none w h h0 h1 h2).mono fun e w' ⟨k1,k2⟩=>⟨k1,ma,mc,fa,fc,ca,cc,hs,k2⟩
   ·rw [item_as2 p h0 h1 h2];exact (item_charge w h hgo h0 h1 h2 n3).mono fun e w' ⟨k1,ca',cc',hs',k2⟩=>⟨k1,ma,mc,fa,fc,ca',cc',hs',k2⟩
  ·rw [item_as1 p h0 h1];exact (item_fee w h hgo h0 h1 n2).mono fun e w' ⟨k1,fa',fc',k2⟩=>⟨k1,ma,mc,fa',fc',ca,cc,hs,k2⟩
 ·rw [item_as0 p h0];exact (item_meter w h hgo h0 n1).mono fun e w' ⟨k1,ma',mc',k2⟩=>⟨k1,ma',mc',fa,fc,ca,cc,hs,k2⟩
theorem item_cnt {ts:List Tok} {s:St} {p:Plan} (h:p.meters.length+p.fees.length+p.charges.length≤s.i) (ho:goesOn ts s=true):(itemS ts s p).1.meters.length+(itemS ts s p).1.fees.length+(itemS ts s p).1.charges.length≤(itemS ts s p).2.i:=by
 rcases item_next ts s p ho with k|⟨k1,_⟩
 ·refine Nat.le_trans ?_ k;unfold itemS;simp only
  repeat' split
  all_goals simp only [List.length_append,List.length_singleton];omega
 ·rw [k1,wrg_i];exact h
theorem item_left {ts:List Tok} {s:St} (p:Plan) (h:Ok ts s) (ho:goesOn ts s=true):ts.length-vw ts (itemS ts s p).2<ts.length-vw ts s:=by
 have he:s.err=0∧(tk ts s).k≠0:=by
  unfold goesOn at ho;simpa using ho
 have h1:=(h.next he.2).lt;have h2:s.i+1<ts.length:=h1;have h3:=vw_lt (h.itemS p);rcases item_next ts s p ho with k|⟨k1,_⟩
 ·exact left_less (h.next he.2) he.1 (h.itemS p) k
 ·rw [k1,vw_ok he.1,vw_bad (wrg_err (by decide))];omega
end Pa
end Go.Proofs.YtofbobdhkbmbgaaGreatDoor
