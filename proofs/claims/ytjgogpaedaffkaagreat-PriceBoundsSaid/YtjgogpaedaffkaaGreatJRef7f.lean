/- What the document's answers for layer 7 (poundageref07) come to: charge. -/
import Derived.Test.YtjgogpaedaffkaaGreatJRef7e
import Derived.Deep.RegionLaw
set_option maxRecDepth 100000
set_option maxHeartbeats 8000000
namespace Go.Proofs.YtjgogpaedaffkaaGreat
namespace P
end P
namespace Tl
end Tl
namespace Mm
end Mm
namespace Md
end Md
namespace R7
open Go.RowKit Go.Sort P Tl Mm Md
def chg0 (line col:Int):Charge:=⟨⟨#[]⟩,⟨false,⟨0,0,0⟩,⟨0,0,0⟩⟩,0,1,0,[],0,[],line,col⟩
structure Fi (w0 W:World) (b tb cap:Nat) (ts:List Tok) (kr base:Nat) (s:St) (c:Charge) (ta:Option Addr) (tc:Nat) (aa:Option Addr) (ac:Nat):Prop where
 ps:Ps W b tb cap ts s
 tie:W.ownsRow base 54 2 (.slice ta c.tiers.length tc) c.tiers.length (c.tiers.flatMap tierC)
 adj:W.ownsRow base 115 3 (.slice aa c.adjusts.length ac) c.adjusts.length (c.adjusts.flatMap adjC)
 gr:w0.grownBy W (some b)
 lb:b<w0.heap.size
 lt:tb<w0.heap.size
 lr:w0.heap.size≤kr
 rb:kr<base
section
variable {w0 W:World} {b tb cap:Nat} {ts:List Tok} {kr kc base:Nat} {s:St} {c:Charge} {ta:Option Addr} {tc:Nat} {aa:Option Addr} {ac:Nat}
theorem Fi.of (h:Ch w0 W b tb cap ts kr kc base s c ta tc aa ac):Fi w0 W b tb cap ts kr base s c ta tc aa ac:=⟨h.ps,h.tie,h.adj,h.gr,h.lb,h.lt,h.lr,h.rb⟩
theorem Fi.put (h:Fi w0 W b tb cap ts kr base s c ta tc aa ac) (o:Nat) (u:Value):Fi w0 (W.setCell ⟨kr,o,none⟩ u) b tb cap ts kr base s c ta tc aa ac:=
 ⟨h.ps.far h.lb h.lt h.lr _ _,ownsRow_setCell_below h.tie (a:=⟨kr,o,none⟩) h.rb u,ownsRow_setCell_below h.adj (a:=⟨kr,o,none⟩) h.rb u,grown_put h.gr h.lr _ _,h.lb,h.lt,h.lr,h.rb⟩
theorem Fi.puts:∀(vs:List Value) (o:Nat) {W:World},Fi w0 W b tb cap ts kr base s c ta tc aa ac→Fi w0 (W.setCells kr o vs) b tb cap ts kr base s c ta tc aa ac
 | [],_,_,h=>h
 | v::r,o,_,h=>Fi.puts r (o+1) (h.put o v)
end
def ChQ (w:World) (b tb cap:Nat) (ts:List Tok) (s:St) (c:Charge) (x:Ending) (w':World):Prop:=
 ∃ta tc aa ac,x=.returned (.agg (chargeC c ta tc aa ac).toArray)∧Ps w' b tb cap ts s∧w.grownBy w' (some b)∧
  w'.ownsRow w.heap.size 54 2 (.slice ta c.tiers.length tc) c.tiers.length (c.tiers.flatMap tierC)∧
  w'.ownsRow w.heap.size 115 3 (.slice aa c.adjusts.length ac) c.adjusts.length (c.adjusts.flatMap adjC)∧
  ∀k,(Value.slice ta c.tiers.length tc).ownBlock=some k→(Value.slice aa c.adjusts.length ac).ownBlock≠some k
theorem charge_any (b tb cap:Nat) (ts:List Tok) (s:St) (line col:Int) (w:World) (h:Ps w b tb cap ts s) :
  Calls Tryz.prog 28 #[.pointer (some ⟨b,0,none⟩),.int .i64 line,.int .i64 col] w fun x w'=>∃ta tc aa ac,x=.returned (.agg (chargeC (chargeS ts s line col).1 ta tc aa ac).toArray)∧Ps w' b tb cap ts (chargeS ts s line col).2∧w.grownBy w' (some b)∧
   w'.ownsRow w.heap.size 54 2 (.slice ta (chargeS ts s line col).1.tiers.length tc) (chargeS ts s line col).1.tiers.length ((chargeS ts s line col).1.tiers.flatMap tierC)∧
   w'.ownsRow w.heap.size 115 3 (.slice aa (chargeS ts s line col).1.adjusts.length ac) (chargeS ts s line col).1.adjusts.length ((chargeS ts s line col).1.adjusts.flatMap adjC)∧
   ∀k,(Value.slice ta (chargeS ts s line col).1.tiers.length tc).ownBlock=some k→(Value.slice aa (chargeS ts s line col).1.adjusts.length ac).ownBlock≠some k:=by
 obtain ⟨m,hm⟩:∃m,m=tkn ts s 1:=⟨_,rfl⟩;obtain ⟨wn,hwn⟩:∃wn,wn=winS ts m.2:=⟨_,rfl⟩;obtain ⟨al,hal⟩:∃al,al=optS ts (wnt ts wn.2 sOpen) wAllowance 0:=⟨_,rfl⟩;obtain ⟨bl,hbl⟩:∃bl,bl=optS ts al.2 wBlock 1:=⟨_,rfl⟩;obtain ⟨kd,hkd⟩:∃kd,kd=kindS ts bl.2:=⟨_,rfl⟩;obtain ⟨ti,hti⟩:∃ti,ti=tiersS ts ts.length (wnt ts kd.2 sOpen) []:=⟨_,rfl⟩;obtain ⟨rt,hrt⟩:∃rt,rt=numS ts (wnt ts (wnt ts ti.2 wRest) wRate) 6 1000000000000:=⟨_,rfl⟩;obtain ⟨md,hmd⟩:∃md,md=modeS ts (wnt ts (wnt ts (wnt ts rt.2 sSemi) sShut) wRound):=⟨_,rfl⟩;obtain ⟨ad,had⟩:∃ad,ad=adjsS ts ts.length (wnt ts md.2 sSemi) []:=⟨_,rfl⟩
 have hR:chargeS ts s line col=(⟨⟨m.1.toArray⟩,wn.1,al.1,bl.1,kd.1,ti.1++[⟨0,rt.1⟩],md.1,ad.1,line,col⟩,wnt ts ad.2 sShut):=by
  rw [had,hmd,hrt,hti,hkd,hbl,hal,hwn,hm];rfl
 rw [hR];have HM:=hid hm;have HWN:=hid hwn;have HAL:=hid hal;have HBL:=hid hbl;have HKD:=hid hkd;have HTI:=hid hti;have HRT:=hid hrt;have HMD:=hid hmd;have HAD:=hid had;clear hR hm hwn hal hbl hkd hti hrt hmd had;obtain ⟨w1,hw1⟩:∃w1,w1=w.alloc (.cells zeroC.toArray 87):=⟨_,rfl⟩;obtain ⟨w2,hw2⟩:∃w2,w2=w1.alloc (.cells (chargeC (chg0 line col) none 0 none 0).toArray 87):=⟨_,rfl⟩;have s1:w1.heap.size=w.heap.size+1:=by rw [hw1];simp
 have s2:w2.heap.size=w.heap.size+1+1:=by rw [hw2];simp [s1]
 have b1:Below w.heap.size w w1:=by rw [hw1];exact (Below.refl _ _).alloc (Nat.le_refl _) _
 have b2:Below w1.heap.size w1 w2:=by rw [hw2];exact (Below.refl _ _).alloc (Nat.le_refl _) _
 have b12:Below w.heap.size w w2:=b1.trans (b2.mono b1.size)
 have xr:Bx w2 w.heap.size zeroC:=by
  have:Bx w1 w.heap.size zeroC:=by rw [hw1];exact Bx.new _ _ _
  exact this.on b2
 have xc:Bx w2 w1.heap.size (chargeC (chg0 line col) none 0 none 0):=by rw [hw2];exact Bx.new _ _ _
 obtain ⟨kr,hkr⟩:∃kr,kr=w.heap.size:=⟨_,rfl⟩;obtain ⟨kc,hkc⟩:∃kc,kc=w.heap.size+1:=⟨_,rfl⟩;rw [←hkr] at xr;rw [s1,←hkc] at xc;obtain ⟨base,hbase⟩:∃base,base=w2.heap.size:=⟨_,rfl⟩
 have C2:Ch w w2 b tb cap ts kr kc base s (chg0 line col) none 0 none 0:=
  ⟨h.on b12,xc,xr,World.ownsRow_nil _ _ _ _,World.ownsRow_nil _ _ _ _,(fun _ e=>by cases e),grown_below b12,h.lt,h.tl,by omega,by omega,by omega,by omega,by omega,by omega⟩
 have HW1:=hid hw1;have HW2:=hid hw2;have HC2:=hid C2;have HKR:=hid hkr;have HKC:=hid hkc;have HBS:=hid (show w.heap.size≤base by omega);have HLT:=hid h.ok;have hcnt:=h.cnt;clear C2 xr xc s2 b2 b12 hw2 hw1 h s1 b1 hkr hkc hbase;go_enter Tryz.func28,Tryz.ntmps28
 go_wp2_with fail
 have e1:w.alloc (.cells #[.string ⟨#[]⟩,.bool false,.int .i64 0,.int .i64 0,.int .i64 0,.int .i64 0,.int .i64 0,.int .i64 0,.int .i64 0,.int .i64 0,.int .i64 0,.slice none 0 0,.int .i64 0,.slice none 0 0,.int .i64 0,.int .i64 0] 87)=w1:=HW1.out.symm;have e2:w1.alloc (.cells #[.string ⟨#[]⟩,.bool false,.int .i64 0,.int .i64 0,.int .i64 0,.int .i64 0,.int .i64 0,.int .i64 0,.int .i64 0,.int .i64 1,.int .i64 0,.slice none 0 0,.int .i64 0,.slice none 0 0,.int .i64 line,.int .i64 col] 87)=w2:=HW2.out.symm;rw [e1,e2,←HKC.out,←HKR.out];clear e1 e2
 -- the meter
 refine (token_any b tb cap ts s 1 (by decide) w2 HC2.out.ps).mono ?_;rw [←HM.out];rintro e w3 ⟨rfl,q,g⟩;have C3:=HC2.out.call q g;obtain ⟨d0,f0⟩:=C3.cells 0 _ rfl;have HC3:=hid (C3.put (c':={ chg0 line col with meter:=⟨m.1.toArray⟩ }) 0 (.string ⟨m.1.toArray⟩) rfl rfl rfl);obtain ⟨mt,hmt⟩:∃mt:ByteArray,mt=⟨m.1.toArray⟩:=⟨_,rfl⟩;rw [←hmt] at HC3 ⊢;have HMT:=hid hmt;have lc3:=C3.box.lt;clear q g C3 hmt;go_wp2_with fail
 obtain ⟨w4,hw4⟩:∃w4,w4=w3.setCell ⟨kc,0,none⟩ (.string mt):=⟨_,rfl⟩;rw [←hw4] at HC3 ⊢;clear d0 f0 lc3 hw4
 -- the window
 refine (window_any b tb cap ts m.2 w4 HC3.out.ps).mono ?_;rw [←HWN.out];unfold winV;rintro e w5 ⟨rfl,q,g⟩;have C5:=HC3.out.call q g;have HC5:=hid (C5.win wn.1);obtain ⟨d1,f1⟩:=C5.cells 1 _ rfl;obtain ⟨d2,f2⟩:=C5.cells 2 _ rfl;obtain ⟨d3,f3⟩:=C5.cells 3 _ rfl;obtain ⟨d4,f4⟩:=C5.cells 4 _ rfl;obtain ⟨d5,f5⟩:=C5.cells 5 _ rfl;obtain ⟨d6,f6⟩:=C5.cells 6 _ rfl;obtain ⟨d7,f7⟩:=C5.cells 7 _ rfl;have lc5:=C5.box.lt;obtain ⟨x,hx⟩:∃x,x=wn.1:=⟨_,rfl⟩;rw [←hx] at HC5 ⊢;have HX:=hid hx;clear q g C5 hx;obtain ⟨w6,hw6⟩:∃w6,w6=((((((w5.setCell ⟨kc,1,none⟩ (.bool x.has)).setCell ⟨kc,2,none⟩ (.int .i64 x.a.y)).setCell ⟨kc,3,none⟩ (.int .i64 x.a.m)).setCell ⟨kc,4,none⟩ (.int .i64 x.a.d)).setCell ⟨kc,5,none⟩ (.int .i64 x.b.y)).setCell ⟨kc,6,none⟩ (.int .i64 x.b.m)).setCell ⟨kc,7,none⟩ (.int .i64 x.b.d):=⟨_,rfl⟩;have HC6:Hid (Ch w w6 b tb cap ts kr kc base wn.2 ⟨mt,x,0,1,0,[],0,[],line,col⟩ none 0 none 0):=hid (by rw [hw6];exact HC5.out);go_wp2_with fail
 rw [←hw6];clear hw6 lc5 HC5 d1 d2 d3 d4 d5 d6 d7 f1 f2 f3 f4 f5 f6 f7;refine (want_any b tb cap ts wn.2 ⟨#[123]⟩ w6 HC6.out.ps).mono ?_;rw [show (⟨#[123]⟩:ByteArray).data.toList=sOpen from rfl];rintro e w7 ⟨rfl,q,g⟩;have HC7:=hid (HC6.out.call q g);clear q g;go_wp2_with fail
 -- allowance
 refine (take_any b tb cap ts (wnt ts wn.2 sOpen) ⟨#[97,108,108,111,119,97,110,99,101]⟩ w7 HC7.out.ps).mono ?_;rw [show (⟨#[97,108,108,111,119,97,110,99,101]⟩:ByteArray).data.toList=wAllowance from rfl];rintro e w8a ⟨rfl,q,g⟩;have TAA:=hid (HC7.out.call q g);clear q g;obtain ⟨T,hT⟩:∃T,T=tke ts (wnt ts wn.2 sOpen) wAllowance:=⟨_,rfl⟩;rw [←hT] at TAA ⊢;have HT:=hid hT;clear hT
 go_upto_if 23 with fail
 go_cut [] (fun wx=>Hid (Ch w wx b tb cap ts kr kc base al.2 ⟨mt,x,al.1,1,0,[],0,[],line,col⟩ none 0 none 0))
 case first=>
  cases ho:onW ts (wnt ts wn.2 sOpen) wAllowance
  ·have e:al=(0,(wnt ts wn.2 sOpen)):=by rw [HAL.out];unfold optS;rw [ho];rfl
   have e2:T=(false,(wnt ts wn.2 sOpen)):=by rw [HT.out];unfold tke;rw [ho];rfl
   rw [e2] at TAA ⊢;clear e2 HT ho;go_wp2;go_meet;rw [e];exact TAA
  ·have e:al=((numS ts (wnt ts wn.2 sOpen).next 0 1000000).1,wnt ts (numS ts (wnt ts wn.2 sOpen).next 0 1000000).2 sSemi):=by rw [HAL.out];unfold optS;rw [ho];rfl
   have e2:T=(true,(wnt ts wn.2 sOpen).next):=by rw [HT.out];unfold tke;rw [ho];rfl
   rw [e2] at TAA ⊢;obtain ⟨nn,hnn⟩:∃nn,nn=numS ts (wnt ts wn.2 sOpen).next 0 1000000:=⟨_,rfl⟩;rw [←hnn] at e;have HE:=hid e;have HNN:=hid hnn;clear e e2 HT ho hnn;go_wp2_with fail
   refine (number_any b tb cap ts (wnt ts wn.2 sOpen).next 0 1000000 w8a TAA.out.ps).mono ?_;rw [←HNN.out];rintro e w8b ⟨rfl,q,g⟩;have CB:=TAA.out.call q g;obtain ⟨d,f⟩:=CB.cells 8 _ rfl;have HCB:=hid (CB.put (c':=⟨mt,x,nn.1,1,0,[],0,[],line,col⟩) 8 (.int .i64 nn.1) rfl rfl rfl);have lcb:=CB.box.lt;clear q g CB;go_wp2_with fail
   refine (want_any b tb cap ts nn.2 ⟨#[59]⟩ _ HCB.out.ps).mono ?_;rw [show (⟨#[59]⟩:ByteArray).data.toList=sSemi from rfl];rintro e w8c ⟨rfl,q,g⟩;have HCC:=hid (HCB.out.call q g);clear q g d f;go_wp2;go_meet;rw [HE.out];exact HCC
 case rest=>
  obtain ⟨w9,hw9⟩:∃w9,w9=wc:=⟨_,rfl⟩;rw [←hw9] at hcut ⊢;have HC9:=hcut;clear hw9 hcut;clear HC7 HC6;go_wp2_with fail
  -- block
  refine (take_any b tb cap ts al.2 ⟨#[98,108,111,99,107]⟩ w9 HC9.out.ps).mono ?_;rw [show (⟨#[98,108,111,99,107]⟩:ByteArray).data.toList=wBlock from rfl];rintro e w10a ⟨rfl,q,g⟩;have TBA:=hid (HC9.out.call q g);clear q g;obtain ⟨T,hT⟩:∃T,T=tke ts al.2 wBlock:=⟨_,rfl⟩;rw [←hT] at TBA ⊢;have HT:=hid hT;clear hT
  go_upto_if 30 with fail
  go_cut [] (fun wx=>Hid (Ch w wx b tb cap ts kr kc base bl.2 ⟨mt,x,al.1,bl.1,0,[],0,[],line,col⟩ none 0 none 0))
  case first=>
   cases ho:onW ts al.2 wBlock
   ·have e:bl=(1,al.2):=by rw [HBL.out];unfold optS;rw [ho];rfl
    have e2:T=(false,al.2):=by rw [HT.out];unfold tke;rw [ho];rfl
    rw [e2] at TBA ⊢;clear e2 HT ho;go_wp2;go_meet;rw [e];exact TBA
   ·have e:bl=((numS ts al.2.next 0 1000000).1,wnt ts (numS ts al.2.next 0 1000000).2 sSemi):=by rw [HBL.out];unfold optS;rw [ho];rfl
    have e2:T=(true,al.2.next):=by rw [HT.out];unfold tke;rw [ho];rfl
    rw [e2] at TBA ⊢;obtain ⟨nn,hnn⟩:∃nn,nn=numS ts al.2.next 0 1000000:=⟨_,rfl⟩;rw [←hnn] at e;have HE:=hid e;have HNN:=hid hnn;clear e e2 HT ho hnn;go_wp2_with fail
    refine (number_any b tb cap ts al.2.next 0 1000000 w10a TBA.out.ps).mono ?_;rw [←HNN.out];rintro e w10b ⟨rfl,q,g⟩;have CB:=TBA.out.call q g;obtain ⟨d,f⟩:=CB.cells 9 _ rfl;have HCB:=hid (CB.put (c':=⟨mt,x,al.1,nn.1,0,[],0,[],line,col⟩) 9 (.int .i64 nn.1) rfl rfl rfl);have lcb:=CB.box.lt;clear q g CB;go_wp2_with fail
    refine (want_any b tb cap ts nn.2 ⟨#[59]⟩ _ HCB.out.ps).mono ?_;rw [show (⟨#[59]⟩:ByteArray).data.toList=sSemi from rfl];rintro e w10c ⟨rfl,q,g⟩;have HCC:=hid (HCB.out.call q g);clear q g d f;go_wp2;go_meet;rw [HE.out];exact HCC
  case rest=>
   obtain ⟨w11,hw11⟩:∃w11,w11=wc:=⟨_,rfl⟩;rw [←hw11] at hcut ⊢;have HC11:=hcut;clear hw11 hcut;clear HC9
   -- the kind
   obtain ⟨w12,hw12⟩:∃w12,w12=w11.alloc (.cells (wordCellsOf kinds) 9):=⟨_,rfl⟩;have b12:Below w11.heap.size w11 w12:=by rw [hw12];exact (Below.refl _ _).alloc (Nat.le_refl _) _
   have l12:w11.heap.size<w12.heap.size:=by rw [hw12];simp
   have HC12:=hid (HC11.out.on b12);have hbb:=HC11.out.ps.lt;have cO:=one_any b tb cap ts bl.2 w11.heap.size 2 kinds w12 HC12.out.ps l12 (by omega) (by rw [hw12];exact words_new w11 kinds _) (by decide);obtain ⟨r,hr⟩:∃r,r=oneS ts bl.2 kinds:=⟨_,rfl⟩;rw [←hr,show kinds.length=2 from rfl] at cO;have hk:kd=(1+r.1,if 1+r.1=0 then wrg ts r.2 4 else r.2):=by rw [HKD.out];unfold kindS;rw [←hr]
   have HKK:=hid hk;have hr1:=one_range ts bl.2 kinds;rw [←hr] at hr1;obtain ⟨r0,hr2⟩:=hr1;have hr3:r.1≤100:=by have:kinds.length=2:=rfl;omega
   obtain ⟨R1,hR1⟩:∃R1,R1=r.1:=⟨_,rfl⟩;rw [←hR1] at cO r0 hr3;have HR1:=hid hR1;have hE:w11.alloc (.cells #[.string ⟨#[103,114,97,100,117,97,116,101,100]⟩,.string ⟨#[118,111,108,117,109,101]⟩] 9)=w12:=hw12.symm;clear hw12 hr hk hR1 hr2 hbb;go_wp2_with fail
   clear hE;refine cO.mono ?_;rintro e w13 ⟨rfl,q,g⟩;have C13:=HC12.out.call q g;obtain ⟨d,f⟩:=C13.cells 10 _ rfl;have HC13:=hid (C13.put (c':=⟨mt,x,al.1,bl.1,1+R1,[],0,[],line,col⟩) 10 (.int .i64 (1+R1)) rfl rfl rfl);have lc13:=C13.box.lt;clear q g C13 cO b12 l12
   go_upto_if 43 with fail
   go_cut [] (fun wx=>Hid (Ch w wx b tb cap ts kr kc base kd.2 ⟨mt,x,al.1,bl.1,kd.1,[],0,[],line,col⟩ none 0 none 0))
   case first=>
    by_cases hz:1+R1=0
    ·have z:(1+R1==0)=true:=by simpa using hz
     have HKE:Hid (kd=(1+R1,wrg ts r.2 4)):=hid (by rw [HKK.out,←HR1.out,if_pos hz]);clear hz;go_wp2_with (go_at_call 29;refine (wrong_any _ _ _ _ _ _ _ HC13.out.ps).mono ?_;rintro e w14 ⟨rfl,q,g⟩;have HC14:=hid (HC13.out.call q g);clear q g)
     go_meet;rw [HKE.out];exact HC14
    ·have z:(1+R1==0)=false:=by simpa using hz
     have HKE:Hid (kd=(1+R1,r.2)):=hid (by rw [HKK.out,←HR1.out,if_neg hz]);clear hz;go_wp2;go_meet;rw [HKE.out];exact HC13
   case rest=>
    obtain ⟨w15,hw15⟩:∃w15,w15=wc:=⟨_,rfl⟩;rw [←hw15] at hcut ⊢;have HC15:=hcut;clear hw15 hcut;clear HC13 HC12 HC11 d f lc13;go_wp2_with fail
    refine (want_any b tb cap ts kd.2 ⟨#[123]⟩ w15 HC15.out.ps).mono ?_;rw [show (⟨#[123]⟩:ByteArray).data.toList=sOpen from rfl];rintro e w16 ⟨rfl,q,g⟩;have HC16:=hid (HC15.out.call q g);clear q g;go_upto_block 0 with fail
    go_cut [] (fun wx=>∃(ta:Option Addr) (tc:Nat),Hid (Ch w wx b tb cap ts kr kc base ti.2 ⟨mt,x,al.1,bl.1,kd.1,ti.1,0,[],line,col⟩ ta tc none 0))
    case first=>
     go_wp2_with fail
     go_loopw [] (fun wr=>∃(σ:St) (acc:List Tier) (ta:Option Addr) (tc:Nat),Hid (Ch w wr b tb cap ts kr kc base σ ⟨mt,x,al.1,bl.1,kd.1,acc,0,[],line,col⟩ ta tc none 0∧ti=tiersS ts ts.length σ acc∧acc.length≤σ.i)) (fun wr=>ts.length-iOf wr b)
     case atStart=>exact ⟨_,[],none,0,hid ⟨HC16.out,HTI.out,Nat.zero_le _⟩⟩
     case round=>
      obtain ⟨σ,acc,ta,tc,hst⟩:=hrel;have cT:=take_any b tb cap ts σ ⟨#[117,112,116,111]⟩ wr hst.out.1.ps;rw [show (⟨#[117,112,116,111]⟩:ByteArray).data.toList=wUpto from rfl] at cT;cases ho:onW ts σ wUpto
      ·have e2:tke ts σ wUpto=(false,σ):=by unfold tke;rw [ho];rfl
       have hfin:Hid (ti=(acc,σ)):=hid (by
        rw [hst.out.2.1];obtain ⟨n,hn⟩:∃n,ts.length=n+1:=⟨ts.length-1,by have:=hst.out.1.ps.ok.lt;omega⟩
        rw [hn];unfold tiersS;rw [ho];rfl)
       rw [e2] at cT;clear e2 ho;go_wp2_with (go_at_call 53;refine cT.mono ?_;rintro e w17 ⟨rfl,q,g⟩;have HC17:=hid (hst.out.1.call q g);clear q g)
       go_meet;rw [hfin.out];exact ⟨ta,tc,HC17⟩
      ·have e2:tke ts σ wUpto=(true,σ.next):=by unfold tke;rw [ho];rfl
       rw [e2] at cT;obtain ⟨a,ha⟩:∃a,a=numS ts σ.next 0 1000000:=⟨_,rfl⟩;obtain ⟨v,hv⟩:∃v,v=numS ts (wnt ts a.2 wRate) 6 1000000000000:=⟨_,rfl⟩
       have hfin:Hid (ti=tiersS ts ts.length (wnt ts v.2 sSemi) (acc++[⟨a.1,v.1⟩])):=hid (by
        rw [hst.out.2.1];have o:=hst.out.1.ps.ok;have o1:=o.next (onW_k ho);have l1:=tierS_le ts σ.next;obtain ⟨n,hn⟩:∃n,ts.length=n+1:=⟨ts.length-1,by have:=o.lt;omega⟩;have e3:tierS ts σ.next=(⟨a.1,v.1⟩,wnt ts v.2 sSemi):=by rw [hv,ha];rfl
        have o2:=o1.tierS;rw [e3] at l1 o2;have key:=tiers_fuel ts n (n+1) (wnt ts v.2 sSemi) (acc++[⟨a.1,v.1⟩]) o2 (by have:σ.next.i=σ.i+1:=rfl;rw [this] at l1;simp only at l1;omega) (by omega);rw [hn,←key];show tiersS ts (n+1) σ acc=_
        rw [tiersS,if_pos ho,e3])
       have hle:=hid (show σ.i+1≤(wnt ts v.2 sSemi).i by
        have l1:=tierS_le ts σ.next;have e3:tierS ts σ.next=(⟨a.1,v.1⟩,wnt ts v.2 sSemi):=by rw [hv,ha];rfl
        rw [e3] at l1
        exact l1)
       have HA:=hid ha;have HV:=hid hv;clear e2 ho ha hv;go_wp2_with fail
       refine cT.mono ?_;rintro e w17 ⟨rfl,q,g⟩;have HC17:=hid (hst.out.1.call q g);clear q g cT;go_wp2_with fail
       refine (number_any b tb cap ts σ.next 0 1000000 w17 HC17.out.ps).mono ?_;rw [←HA.out];rintro e w18 ⟨rfl,q,g⟩;have HC18:=hid (HC17.out.call q g);clear q g;go_wp2_with fail
       refine (want_any b tb cap ts a.2 ⟨#[114,97,116,101]⟩ w18 HC18.out.ps).mono ?_;rw [show (⟨#[114,97,116,101]⟩:ByteArray).data.toList=wRate from rfl];rintro e w19 ⟨rfl,q,g⟩;have C19:=HC18.out.call q g;have x11:=(C19.cells 11 _ rfl).1;have lk:=C19.box.lt;have HC19:=hid C19;have hacc:acc.length≤100000:=by have:=hst.out.2.2;have:=hst.out.1.ps.ok.lt;omega
       obtain ⟨ii,hi,hz0,hz1,hz2⟩:=info_parts info_tier7;clear q g C19;go_upto_region 18 with fail
       go_region_law
        (first
        | (rw [if_pos (by first|rfl|kernel_rfl)]
           go_simp
           go_at_call 26
           refine (number_any b tb cap ts (wnt ts a.2 wRate) 6 1000000000000 _ (HC19.out.on ((Below.refl _ _).drew)).ps).mono ?_;rw [←HV.out];rintro e w20 ⟨rfl,q,g⟩;have C20:=(HC19.out.on ((Below.refl _ _).drew)).call q g;have y11:=(C20.cells 11 _ rfl).1;have lk20:=C20.box.lt;have HC20:=hid C20
           clear q g C20)
        | (refine step_tier ⟨a.1,v.1⟩ _ rfl rfl _ _ rfl _ _ _ rfl HC20.out.tie rfl (show acc.length+1≤1000000 by omega) HC20.out.bsz ?_
           intro gg cap7 w21 hown hgrow;have z11:=box_grown hgrow lk20 (nob HC20.out) y11;have f11:=(World.frozen?_of_block (w:=w20) (a:=⟨kc,11,none⟩) (hgrow.block kc lk20 (nob HC20.out))).trans (HC20.out.box.free 11);have lk21:=Nat.lt_of_lt_of_le lk20 hgrow.size;have HC21:=hid (HC20.out.tier (x:=⟨a.1,v.1⟩) rfl hgrow hown)
           clear hown hgrow))
       all_goals
        clear x11 lk y11 lk20 z11 f11;have lk21:=HC21.out.box.lt;go_wp2_with fail
        refine (want_any b tb cap ts v.2 ⟨#[59]⟩ _ HC21.out.ps).mono ?_;rw [show (⟨#[59]⟩:ByteArray).data.toList=sSemi from rfl];rintro e w22 ⟨rfl,q,g⟩;have HC22:=hid (HC21.out.call q g);clear q g;go_wp2;go_roundw
        case rel=>exact ⟨_,acc++[⟨a.1,v.1⟩],_,_,hid ⟨HC22.out,hfin.out,by have h1:=hst.out.2.2;have h2:=hle.out;simp only [List.length_append,List.length_singleton];omega⟩⟩
        case measure=>
         rw [iOf_ps HC22.out.ps,iOf_ps hst.out.1.ps];have h1:=hle.out;have h2:=HC22.out.ps.ok.lt;omega
    case rest=>
     obtain ⟨ta,tc,hcut⟩:=hcut;obtain ⟨w23,hw23⟩:∃w23,w23=wc:=⟨_,rfl⟩;rw [←hw23] at hcut ⊢;have HC23:=hcut;clear hw23 hcut;clear HC16 HC15;have hti:ti.1.length≤ts.length:=by have:=tiers_len ts ts.length (wnt ts kd.2 sOpen) [] HC23.out.ps.ok.toks HTI.out;simpa using this
     go_wp2_with fail
     refine (want_any b tb cap ts ti.2 ⟨#[114,101,115,116]⟩ w23 HC23.out.ps).mono ?_;rw [show (⟨#[114,101,115,116]⟩:ByteArray).data.toList=wRest from rfl];rintro e w24 ⟨rfl,q,g⟩;have HC24:=hid (HC23.out.call q g);clear q g;go_wp2_with fail
     refine (want_any b tb cap ts (wnt ts ti.2 wRest) ⟨#[114,97,116,101]⟩ w24 HC24.out.ps).mono ?_;rw [show (⟨#[114,97,116,101]⟩:ByteArray).data.toList=wRate from rfl];rintro e w25 ⟨rfl,q,g⟩;have C25:=HC24.out.call q g;have x11:=(C25.cells 11 _ rfl).1;have lk:=C25.box.lt;have HC25:=hid C25;clear q g C25;go_upto_region 22 with fail
     go_cut [] (fun wx=>∃(ta:Option Addr) (tc:Nat),Hid (Ch w wx b tb cap ts kr kc base rt.2 ⟨mt,x,al.1,bl.1,kd.1,ti.1++[⟨0,rt.1⟩],0,[],line,col⟩ ta tc none 0))
     case first=>
      go_region_law
       (first
       | (rw [if_pos (by first|rfl|kernel_rfl)]
          go_simp
          go_at_call 26
          refine (number_any b tb cap ts (wnt ts (wnt ts ti.2 wRest) wRate) 6 1000000000000 _ (HC25.out.on ((Below.refl _ _).drew)).ps).mono ?_;rw [←HRT.out];rintro e w26 ⟨rfl,q,g⟩;have C26:=(HC25.out.on ((Below.refl _ _).drew)).call q g;have y11:=(C26.cells 11 _ rfl).1;have lk26:=C26.box.lt;have HC26:=hid C26
          clear q g C26)
       | (refine step_tier ⟨0,rt.1⟩ _ rfl rfl _ _ rfl _ _ _ rfl HC26.out.tie rfl (show ti.1.length+1≤1000000 by omega) HC26.out.bsz ?_
          intro gg cap7 w27 hown hgrow;have z11:=box_grown hgrow lk26 (nob HC26.out) y11;have f11:=(World.frozen?_of_block (w:=w26) (a:=⟨kc,11,none⟩) (hgrow.block kc lk26 (nob HC26.out))).trans (HC26.out.box.free 11);have lk27:=Nat.lt_of_lt_of_le lk26 hgrow.size;have HC27:=hid (HC26.out.tier (x:=⟨0,rt.1⟩) rfl hgrow hown)
          clear hown hgrow))
      all_goals
       go_wp2;go_meet;exact ⟨_,_,HC27⟩
     case rest=>
      obtain ⟨ta2,tc2,hcut⟩:=hcut;obtain ⟨w28,hw28⟩:∃w28,w28=wc:=⟨_,rfl⟩;rw [←hw28] at hcut ⊢;have HC28:=hcut;clear hw28 hcut;clear HC25 HC24 HC23 x11 lk;go_wp2_with fail
      refine (want_any b tb cap ts rt.2 ⟨#[59]⟩ w28 HC28.out.ps).mono ?_;rw [show (⟨#[59]⟩:ByteArray).data.toList=sSemi from rfl];rintro e w29 ⟨rfl,q,g⟩;have HC29:=hid (HC28.out.call q g);clear q g;go_wp2_with fail
      refine (want_any b tb cap ts (wnt ts rt.2 sSemi) ⟨#[125]⟩ w29 HC29.out.ps).mono ?_;rw [show (⟨#[125]⟩:ByteArray).data.toList=sShut from rfl];rintro e w30 ⟨rfl,q,g⟩;have HC30:=hid (HC29.out.call q g);clear q g;go_wp2_with fail
      refine (want_any b tb cap ts (wnt ts (wnt ts rt.2 sSemi) sShut) ⟨#[114,111,117,110,100]⟩ w30 HC30.out.ps).mono ?_;rw [show (⟨#[114,111,117,110,100]⟩:ByteArray).data.toList=wRound from rfl];rintro e w31 ⟨rfl,q,g⟩;have HC31:=hid (HC30.out.call q g);clear q g;go_wp2_with fail
      refine (mode_any b tb cap ts (wnt ts (wnt ts (wnt ts rt.2 sSemi) sShut) wRound) w31 HC31.out.ps).mono ?_;rw [←HMD.out];rintro e w32 ⟨rfl,q,g⟩;have C32:=HC31.out.call q g;obtain ⟨d12,f12⟩:=C32.cells 12 _ rfl;have HC32:=hid (C32.put (c':=⟨mt,x,al.1,bl.1,kd.1,ti.1++[⟨0,rt.1⟩],md.1,[],line,col⟩) 12 (.int .i64 md.1) rfl rfl rfl);have lk32:=C32.box.lt;clear q g C32;go_wp2_with fail
      refine (want_any b tb cap ts md.2 ⟨#[59]⟩ _ HC32.out.ps).mono ?_;rw [show (⟨#[59]⟩:ByteArray).data.toList=sSemi from rfl];rintro e w33 ⟨rfl,q,g⟩;have HC33:=hid (HC32.out.call q g);clear q g d12 f12 lk32;go_upto_block 2 with fail
      go_cut [] (fun wx=>∃(aa:Option Addr) (ac:Nat),Hid (Ch w wx b tb cap ts kr kc base ad.2 ⟨mt,x,al.1,bl.1,kd.1,ti.1++[⟨0,rt.1⟩],md.1,ad.1,line,col⟩ ta2 tc2 aa ac))
      case first=>
       go_wp2_with fail
       go_loopw [] (fun wr=>∃(σ:St) (acc:List Adj) (aa:Option Addr) (ac:Nat),Hid (Ch w wr b tb cap ts kr kc base σ ⟨mt,x,al.1,bl.1,kd.1,ti.1++[⟨0,rt.1⟩],md.1,acc,line,col⟩ ta2 tc2 aa ac∧ad=adjsS ts ts.length σ acc∧acc.length≤σ.i)) (fun wr=>ts.length-iOf wr b)
       case atStart=>exact ⟨_,[],none,0,hid ⟨HC33.out,HAD.out,Nat.zero_le _⟩⟩
       case round=>
        obtain ⟨σ,acc,aa,ac,hst⟩:=hrel;obtain ⟨w34,hw34⟩:∃w34,w34=wr.alloc (.cells (wordCellsOf adjWords) 9):=⟨_,rfl⟩;have b34:Below wr.heap.size wr w34:=by rw [hw34];exact (Below.refl _ _).alloc (Nat.le_refl _) _
        have l34:wr.heap.size<w34.heap.size:=by rw [hw34];simp
        have HC34:=hid (hst.out.1.on b34);have hbb:=hst.out.1.ps.lt;have cO:=one_any b tb cap ts σ wr.heap.size 4 adjWords w34 HC34.out.ps l34 (by omega) (by rw [hw34];exact words_new wr adjWords _) (by decide);obtain ⟨r,hr⟩:∃r,r=oneS ts σ adjWords:=⟨_,rfl⟩;rw [←hr,show adjWords.length=4 from rfl] at cO;have hr1:=one_range ts σ adjWords;rw [←hr] at hr1;obtain ⟨r0,hr2⟩:=hr1;have hr3:r.1≤100:=by have:adjWords.length=4:=rfl;omega
        obtain ⟨R1,hR1⟩:∃R1,R1=r.1:=⟨_,rfl⟩;rw [←hR1] at cO r0 hr3;have hE:wr.alloc (.cells #[.string ⟨#[112,101,114,99,101,110,116]⟩,.string ⟨#[99,97,112]⟩,.string ⟨#[109,105,110,105,109,117,109]⟩,.string ⟨#[97,100,100]⟩] 9)=w34:=hw34.symm;have HR:=hid hr;have HR1:=hid hR1;clear hw34 hr hR1 hr2 hbb;by_cases hz:1+R1=0
        ·have z:(1+R1==0)=true:=by simpa using hz
         have hfin:Hid (ad=(acc,r.2)):=hid (by
          rw [hst.out.2.1];obtain ⟨n,hn⟩:∃n,ts.length=n+1:=⟨ts.length-1,by have:=hst.out.1.ps.ok.lt;omega⟩
          rw [hn];unfold adjsS;simp only;rw [←HR.out,←HR1.out,if_pos hz])
         clear hz;go_wp2_with fail
         clear hE;refine cO.mono ?_;rintro e w35 ⟨rfl,q,g⟩;have HC35:=hid (HC34.out.call q g);clear q g;go_wp2;go_meet;rw [hfin.out];exact ⟨aa,ac,HC35⟩
        ·have z:(1+R1==0)=false:=by simpa using hz
         obtain ⟨A,hA⟩:∃A,A=adjS ts r.2 (1+R1):=⟨_,rfl⟩;have hA':adjS ts r.2 (1+r.1)=A:=by rw [hA,HR1.out]
         have hfin:Hid (ad=adjsS ts ts.length A.2 (acc++[A.1])∧σ.i+1≤A.2.i):=hid (by
          have o:=hst.out.1.ps.ok;have o1:=o.oneS adjWords;rw [←HR.out] at o1;have o2:=o1.adjS (1+r.1);rw [hA'] at o2
          have e1:r.2.i=σ.i+1:=by
           have:=oneAt_yes ts σ adjWords 0 (Int.le_refl _) (by show 0≤(oneS ts σ adjWords).1;rw [←HR.out,←HR1.out];omega);rw [HR.out];exact this
          have l2:=adjS_le ts r.2 (1+r.1);rw [hA'] at l2;obtain ⟨n,hn⟩:∃n,ts.length=n+1:=⟨ts.length-1,by have:=o.lt;omega⟩;have key:=adjs_fuel ts n (n+1) A.2 (acc++[A.1]) o2 (by omega) (by omega);refine ⟨?_,by omega⟩;rw [hst.out.2.1,hn,←key];show adjsS ts (n+1) σ acc=_
          rw [adjsS];try simp only
          rw [←HR.out,←HR1.out,if_neg hz,←hA])
         have HA:=hid hA;have hacc:acc.length≤100000:=by have:=hst.out.2.2;have:=hst.out.1.ps.ok.lt;omega
         clear hz hA hA';go_wp2_with fail
         clear hE;refine cO.mono ?_;rintro e w35 ⟨rfl,q,g⟩;have C35:=HC34.out.call q g;obtain ⟨ka,hka⟩:∃ka,ka=w35.heap.size:=⟨_,rfl⟩;obtain ⟨w36,hw36⟩:∃w36,w36=w35.alloc (.cells #[.int .i64 (1+R1),.int .i64 0,.int .i64 0] 115):=⟨_,rfl⟩;have b36:Below w35.heap.size w35 w36:=by rw [hw36];exact (Below.refl _ _).alloc (Nat.le_refl _) _
         have B36:Bx w36 ka [.int .i64 (1+R1),.int .i64 0,.int .i64 0]:=by rw [hw36,hka];exact Bx.new _ _ _
         have HC36:=hid (C35.on b36);have n1:w.heap.size≤ka:=by have:=C35.gr.size;omega
         have n2:kr≠ka:=by have:=C35.res.lt;omega
         have n3:kc≠ka:=by have:=C35.box.lt;omega
         have n4:b≠ka:=by have:=C35.ps.lt;omega
         have n5:=hid (show (Value.slice ta2 (ti.1++[(⟨0,rt.1⟩:Tier)]).length tc2).ownBlock≠some ka from fun e=>by have:=(C35.tie.lt ka e).2;omega);have n6:=hid (show (Value.slice aa acc.length ac).ownBlock≠some ka from fun e=>by have:=(C35.adj.lt ka e).2;omega);have HW36:=hid hw36;have HKA:=hid hka;have lka:=B36.lt;have x1:=B36.cell 1 _ rfl;have y1:=B36.free 1;have HB36:=hid B36;have n4':some ka≠some b:=fun e=>n4 (Option.some.inj e).symm;clear q g C35 b36 hw36 hka B36 cO l34 b34
         go_upto_if 97 with fail
         rw [←HW36.out,←HKA.out];go_cut [] (fun wx=>∃σ':St,Hid (A.2=wnt ts σ' sSemi∧Ch w wx b tb cap ts kr kc base σ' ⟨mt,x,al.1,bl.1,kd.1,ti.1++[⟨0,rt.1⟩],md.1,acc,line,col⟩ ta2 tc2 aa ac∧Bx wx ka (adjC A.1)))
         case first=>
          by_cases hk:1+R1=1
          ·have zk:(1+R1==1)=true:=by simpa using hk
           obtain ⟨n,hn⟩:∃n,n=numS ts r.2 3 100000000:=⟨_,rfl⟩;obtain ⟨m,hm⟩:∃m,m=modeS ts n.2:=⟨_,rfl⟩;have hAe:Hid (A=(⟨1+R1,n.1,m.1⟩,wnt ts m.2 sSemi)):=hid (by rw [HA.out];unfold adjS;rw [if_pos hk,hm,hn]);have HN:=hid hn;have HM':=hid hm;clear hk hn hm;go_wp2_with fail
           refine (number_any b tb cap ts r.2 3 100000000 w36 HC36.out.ps).mono ?_;rw [←HN.out];rintro e w37 ⟨rfl,q,g⟩;have C37:=HC36.out.call q g;have B37:=HB36.out.grown g n4';clear x1 y1 lka;have x1:=B37.cell 1 _ rfl;have y1:=B37.free 1;have lka:=B37.lt;have HC37:=hid (C37.aside n1 n2 n3 n5.out n6.out 1 (.int .i64 n.1));have HB37:=hid (B37.set 1 (.int .i64 n.1));clear q g C37 B37;go_wp2_with fail
           refine (mode_any b tb cap ts n.2 _ HC37.out.ps).mono ?_;rw [←HM'.out];rintro e w38 ⟨rfl,q,g⟩;have C38:=HC37.out.call q g;have B38:=HB37.out.grown g n4';clear x1 y1 lka;have x2:=B38.cell 2 _ rfl;have y2:=B38.free 2;have lka:=B38.lt;have HC38:=hid (C38.aside n1 n2 n3 n5.out n6.out 2 (.int .i64 m.1));have HB38:=hid (B38.set 2 (.int .i64 m.1));clear q g C38 B38;go_wp2;go_meet;exact ⟨m.2,hid ⟨by rw [hAe.out],HC38.out,by rw [hAe.out];exact HB38.out⟩⟩
          ·have zk:(1+R1==1)=false:=by simpa using hk
           obtain ⟨n,hn⟩:∃n,n=numS ts r.2 0 1000000000000:=⟨_,rfl⟩;have hAe:Hid (A=(⟨1+R1,n.1,0⟩,wnt ts n.2 sSemi)):=hid (by rw [HA.out];unfold adjS;rw [if_neg hk,hn]);have HN:=hid hn;clear hk hn;go_wp2_with fail
           refine (number_any b tb cap ts r.2 0 1000000000000 w36 HC36.out.ps).mono ?_;rw [←HN.out];rintro e w37 ⟨rfl,q,g⟩;have C37:=HC36.out.call q g;have B37:=HB36.out.grown g n4';clear x1 y1 lka;have x1:=B37.cell 1 _ rfl;have y1:=B37.free 1;have lka:=B37.lt;have HC37:=hid (C37.aside n1 n2 n3 n5.out n6.out 1 (.int .i64 n.1));have HB37:=hid (B37.set 1 (.int .i64 n.1));clear q g C37 B37;go_wp2;go_meet;exact ⟨n.2,hid ⟨by rw [hAe.out],HC37.out,by rw [hAe.out];exact HB37.out⟩⟩
         case rest=>
          obtain ⟨σ',hcut⟩:=hcut;obtain ⟨w39,hw39⟩:∃w39,w39=wc:=⟨_,rfl⟩;rw [←hw39] at hcut ⊢;have H39:=hcut;clear hw39 hcut;clear x1 y1 lka HW36 HC36 HB36;go_wp2_with fail
          refine (want_any b tb cap ts σ' ⟨#[59]⟩ w39 H39.out.2.1.ps).mono ?_;rw [show (⟨#[59]⟩:ByteArray).data.toList=sSemi from rfl,←H39.out.1];rintro e w40 ⟨rfl,q,g⟩;have C40:=H39.out.2.1.call q g;have B40:=H39.out.2.2.grown g n4';obtain ⟨x13,y13⟩:=C40.cells 13 _ rfl;have lk40:=C40.box.lt;have lka:=B40.lt;have a0:=B40.cell 0 _ rfl;have a1:=B40.cell 1 _ rfl;have a2:=B40.cell 2 _ rfl;have HC40:=hid C40;have HB40:=hid B40;clear q g C40 B40;have hb40:=HC40.out.bsz;have HAO:=hid (HC40.out.adj.alloc (.cells (adjC A.1).toArray 115));obtain ⟨i0,hi,hz0,hz1,hz2⟩:=info_parts info_adj7;go_wp2_with (at_builtin;refine wpList_append_own_at _ rfl _ _ 56 rfl base 115 i0 (.agg (adjC ⟨0,0,0⟩).toArray) 3 24 Tryz.underlying56 hi hz0 hz1 hz2 rfl (by decide) _ _ _ rfl HAO.out ⟨w40.heap.size,0,none⟩ 1 1 (adjC A.1) rfl rfl (news_at w40 (adjC A.1) _) (by simp [adjC,Value.oneCell']) (by unfold maxLen;omega) (by omega) (by simp;omega) ?_)
          intro v' w41 hown hgrow _ hat;obtain ⟨aa',ac',rfl⟩:=slice_form hown;have hgrow':=grown_unalloc hgrow;have z13:=box_grown hgrow' lk40 (nob_a HC40.out) x13;have f13:=(World.frozen?_of_block (w:=w40) (a:=⟨kc,13,none⟩) (hgrow'.block kc lk40 (nob_a HC40.out))).trans (HC40.out.box.free 13);have lk41:=Nat.lt_of_lt_of_le lk40 hgrow'.size;have HC41:=hid (HC40.out.more (x:=A.1) hgrow' hown hat (by simp));clear hown hgrow hgrow' hat x13 y13 a0 a1 a2 lka lk40 hi hz0 hz1 hz2;go_wp2;go_roundw
          case rel=>exact ⟨_,acc++[A.1],_,_,hid ⟨HC41.out,hfin.out.1,by have h1:=hst.out.2.2;have h2:=hfin.out.2;simp only [List.length_append,List.length_singleton];omega⟩⟩
          case measure=>
           rw [iOf_ps HC41.out.ps,iOf_ps hst.out.1.ps];have h1:=hfin.out.2;have h2:=HC41.out.ps.ok.lt;omega
      case rest=>
       obtain ⟨aa,ac,hcut⟩:=hcut;obtain ⟨w50,hw50⟩:∃w50,w50=wc:=⟨_,rfl⟩;rw [←hw50] at hcut ⊢;have H50:=hcut;clear hw50 hcut;clear HC33;go_wp2_with fail
       refine (want_any b tb cap ts ad.2 ⟨#[125]⟩ w50 H50.out.ps).mono ?_;rw [show (⟨#[125]⟩:ByteArray).data.toList=sShut from rfl];rintro e w51 ⟨rfl,q,g⟩;have C51:=H50.out.call q g;have rx:Hid (w51.rangeAt kc 0 [.string mt,x.has,x.a.y,x.a.m,x.a.d,x.b.y,x.b.m,x.b.d,.int .i64 al.1,.int .i64 bl.1,.int .i64 kd.1,.slice ta2 (ti.1++[(⟨0,rt.1⟩:Tier)]).length tc2,.int .i64 md.1,.slice aa ad.1.length ac,.int .i64 line,.int .i64 col]):=hid (range_of C51.box.cell);have rz:Hid (w51.there kr 0 16):=hid (there_of C51.res.cell C51.res.free (n:=16) rfl);have HC51:=hid C51;clear q g C51;go_upto_region 38 with fail
       go_wp2_with (first
        | (with_reducible refine wpList_load_mid (op:=Oper.mk (some 117) (Op.load 87 (Operand.tmp 7)) _ _ _ _) ?_ 87 (.tmp 7) ?_ kc 0 ?_ [.string mt,x.has,x.a.y,x.a.m,x.a.d,x.b.y,x.b.m,x.b.d,.int .i64 al.1,.int .i64 bl.1,.int .i64 kd.1,.slice ta2 (ti.1++[(⟨0,rt.1⟩:Tier)]).length tc2,.int .i64 md.1,.slice aa ad.1.length ac,.int .i64 line,.int .i64 col] _ rx.out Tryz.underlying87 ?_ ?_ ?_;rfl;rfl;go_simp;rfl;kernel_rfl)
        | (with_reducible refine wpList_store_mid (op:=Oper.mk none (Op.store 87 (Operand.tmp 6) (Operand.tmp 117)) _ _ _ _) ?_ 87 (.tmp 6) (.tmp 117) ?_ kr 0 #[.string mt,x.has,x.a.y,x.a.m,x.a.d,x.b.y,x.b.m,x.b.d,.int .i64 al.1,.int .i64 bl.1,.int .i64 kd.1,.slice ta2 (ti.1++[(⟨0,rt.1⟩:Tier)]).length tc2,.int .i64 md.1,.slice aa ad.1.length ac,.int .i64 line,.int .i64 col] ?_ ?_ ?_ ?_ ?_ ?_;rfl;rfl;go_simp;go_simp;(simpa using rz.out);kernel_rfl;(simp [Value.oneCell']))
        | fail)
       have rr:(w51.setCells kr 0 [.string mt,x.has,x.a.y,x.a.m,x.a.d,x.b.y,x.b.m,x.b.d,.int .i64 al.1,.int .i64 bl.1,.int .i64 kd.1,.slice ta2 (ti.1++[(⟨0,rt.1⟩:Tier)]).length tc2,.int .i64 md.1,.slice aa ad.1.length ac,.int .i64 line,.int .i64 col]).rangeAt kr 0 [.string mt,x.has,x.a.y,x.a.m,x.a.d,x.b.y,x.b.m,x.b.d,.int .i64 al.1,.int .i64 bl.1,.int .i64 kd.1,.slice ta2 (ti.1++[(⟨0,rt.1⟩:Tier)]).length tc2,.int .i64 md.1,.slice aa ad.1.length ac,.int .i64 line,.int .i64 col]:=World.rangeAt_setCells_same _ _ _ _ rz.out;have FF:=(Fi.of HC51.out).puts [.string mt,x.has,x.a.y,x.a.m,x.a.d,x.b.y,x.b.m,x.b.d,.int .i64 al.1,.int .i64 bl.1,.int .i64 kd.1,.slice ta2 (ti.1++[(⟨0,rt.1⟩:Tier)]).length tc2,.int .i64 md.1,.slice aa ad.1.length ac,.int .i64 line,.int .i64 col] 0;show bodyPost _ _ (ChQ w b tb cap ts (wnt ts ad.2 sShut) ⟨⟨m.1.toArray⟩,wn.1,al.1,bl.1,kd.1,ti.1++[⟨0,rt.1⟩],md.1,ad.1,line,col⟩) _ _ _
       refine bodyPost_ret (v:=.agg #[.string mt,x.has,x.a.y,x.a.m,x.a.d,x.b.y,x.b.m,x.b.d,.int .i64 al.1,.int .i64 bl.1,.int .i64 kd.1,.slice ta2 (ti.1++[(⟨0,rt.1⟩:Tier)]).length tc2,.int .i64 md.1,.slice aa ad.1.length ac,.int .i64 line,.int .i64 col]) ?_ rfl ?_
       ·exact results_mid rfl _ _ kr [.string mt,x.has,x.a.y,x.a.m,x.a.d,x.b.y,x.b.m,x.b.d,.int .i64 al.1,.int .i64 bl.1,.int .i64 kd.1,.slice ta2 (ti.1++[(⟨0,rt.1⟩:Tier)]).length tc2,.int .i64 md.1,.slice aa ad.1.length ac,.int .i64 line,.int .i64 col] _ rfl rr Tryz.underlying87 rfl (by kernel_rfl)
       exact ⟨ta2,tc2,aa,ac,by rw [HMT.out,HX.out];rfl,FF.ps,FF.gr,FF.tie.mono HBS.out,FF.adj.mono HBS.out,HC51.out.apart⟩
end R7
end Go.Proofs.YtjgogpaedaffkaaGreat
