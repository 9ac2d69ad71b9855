/- The laws of layer 10: CoreWindows. -/
import Derived.Test.YtofbobdhkbmbgaaGreatDoorJL10r
import Derived.MakeChecks
import Derived.Stop.LaidErr
import Derived.HandedShaped
import Derived.Lay
set_option maxRecDepth 100000
set_option maxHeartbeats 16000000
namespace Go.Proofs.YtofbobdhkbmbgaaGreatDoor
namespace L10
open Go.RowKit Go.Sort P Mm Md R6 Co Te
theorem small_fill {p:Plan} (h:Small p):Small (fillP p):=by
 refine ⟨h.meters,?_,?_,fun c hc=>?_⟩
 ·show (p.fees.map _).length≤20000
  rw [List.length_map];exact h.fees
 ·show (p.charges.map _).length≤20000
  rw [List.length_map];exact h.charges
 ·obtain ⟨x,hx,rfl⟩:=List.mem_map.1 hc;exact h.parts x hx
theorem info_feeL:(Tryz.prog.info? 53).map (fun i=>(i.zero,i.size,i.bytes))=some (some (.agg (feeC ⟨0,⟨false,⟨0,0,0⟩,⟨0,0,0⟩⟩,0,0⟩).toArray),10,80):=by kernel_rfl
theorem info_chargeL:(Tryz.prog.info? 57).map (fun i=>(i.zero,i.size,i.bytes))=some (some (.agg (chargeC ⟨⟨#[]⟩,⟨false,⟨0,0,0⟩,⟨0,0,0⟩⟩,0,0,0,[],0,[],0,0⟩ none 0 none 0).toArray),16,168):=by kernel_rfl
theorem fill_has {p:Plan} {w:Win} (h:w.has=true):fillW p w=w:=by unfold fillW;rw [if_pos h]
theorem fill_not {p:Plan} {w:Win} (h:w.has=false):fillW p w=⟨true,p.a,p.b⟩:=by unfold fillW;rw [if_neg (by rw [h];decide)]
def wl (x:Win):List Value:=[x.has,x.a.y,x.a.m,x.a.d,x.b.y,x.b.m,x.b.d]
theorem fee_lie {w:World} {cs:List Value} {f:Fee} (h:tFee.lies w cs f):cs=[.int .i64 f.amount]++wl f.win++[.int .i64 f.line,.int .i64 f.col]∧(I64 f.amount∧winOk f.win∧I64 f.line∧I64 f.col):=h
theorem fee_fill {w:World} {p:Plan} {f:Fee} (hp:dayOk p.a∧dayOk p.b) (h:f.win.has=false) (k:I64 f.amount∧winOk f.win∧I64 f.line∧I64 f.col):tFee.lies w ([.int .i64 f.amount]++[.bool true,.int .i64 p.a.y,.int .i64 p.a.m,.int .i64 p.a.d,.int .i64 p.b.y,.int .i64 p.b.m,.int .i64 p.b.d]++[.int .i64 f.line,.int .i64 f.col]) (fillF p f):=by
 have e:(fillF p f).win=⟨true,p.a,p.b⟩:=fill_not h;refine ⟨?_,k.1,?_,k.2.2⟩
 ·show _=feeC (fillF p f)
  unfold feeC;rw [e];rfl
 ·rw [e];exact hp
theorem charge_lie {w:World} {cs:List Value} {c:Charge} (h:tCharge.lies w cs c):∃B,cs=[.string c.meter]++wl c.win++B∧∀p:Plan,dayOk p.a∧dayOk p.b→c.win.has=false→tCharge.lies w ([.string c.meter]++[.bool true,.int .i64 p.a.y,.int .i64 p.a.m,.int .i64 p.a.d,.int .i64 p.b.y,.int .i64 p.b.m,.int .i64 p.b.d]++B) (fillC p c):=by
 obtain ⟨ta,tc,aa,ac,k⟩:=h;refine ⟨[c.allowance,c.block,c.kind,.slice ta c.tiers.length tc,c.mode,.slice aa c.adjusts.length ac,c.line,c.col],k.cells,fun p hp hh=>⟨ta,tc,aa,ac,?_⟩⟩;have e:(fillC p c).win=⟨true,p.a,p.b⟩:=fill_not hh;refine ⟨?_,?_,?_,?_,?_,?_⟩
 ·unfold chargeC;rw [e];rfl
 all_goals first|exact k.tiers|exact k.adjusts|exact k.meter|exact k.nums|(rw [e];exact hp)
theorem windows_walk (s:ByteArray) (w:World) (k10:K10 w):Calls Tryz.prog 7 #[.string s] w fun e w'=>e=.returned (.bool true)∧Below w.heap.size w w':=by
 have cA:=hid (alive_any w k10.ky);have KK:=hid k10;have cR:=hid (fun (W:World) (b:Below w.heap.size w W)=>read_any s W (k10.ky.later b));obtain ⟨c,hc⟩:∃c,c=readC s.data.toList:=⟨_,rfl⟩;obtain ⟨x,hx⟩:∃x,x=(readF s.data.toList).1:=⟨_,rfl⟩;obtain ⟨y,hy⟩:∃x,x=(readF s.data.toList).2.1:=⟨_,rfl⟩;obtain ⟨z,hz⟩:∃x,x=(readF s.data.toList).2.2:=⟨_,rfl⟩;rw [←hc,←hx,←hy,←hz] at cR;unfold corC at cR;obtain ⟨p,hp⟩:∃p,p=(parsed s.data.toList).1:=⟨_,rfl⟩;obtain ⟨x7,hx7⟩:∃x,x=(parsed s.data.toList).2.1:=⟨_,rfl⟩;obtain ⟨y7,hy7⟩:∃x,x=(parsed s.data.toList).2.2.1:=⟨_,rfl⟩;obtain ⟨z7,hz7⟩:∃x,x=(parsed s.data.toList).2.2.2:=⟨_,rfl⟩;obtain ⟨T,hT⟩:∃T:ByteArray,T=⟨(planT (fillP p)).toArray⟩:=⟨_,rfl⟩;have hTl:T.data.toList=planT (fillP p):=by rw [hT]
 have hTs:T.size=T.data.toList.length:=by simp
 obtain ⟨c',hc'⟩:∃c,c=readC T.data.toList:=⟨_,rfl⟩;obtain ⟨x',hx'⟩:∃x,x=(readF T.data.toList).1:=⟨_,rfl⟩;obtain ⟨y',hy'⟩:∃x,x=(readF T.data.toList).2.1:=⟨_,rfl⟩;obtain ⟨z',hz'⟩:∃x,x=(readF T.data.toList).2.2:=⟨_,rfl⟩;have cT:=hid (fun (W:World) (b:Below w.heap.size w W)=>read_any T W (k10.ky.later b));rw [←hc',←hx',←hy',←hz'] at cT;unfold corC at cT
 have OK:=hid (show x=0→y=0∧z=0∧Sh (fillP p)∧R10.Fit10 c∧R10.Fit10 c'∧(p.meters.length≤4∧p.fees.length≤8∧p.charges.length≤8)∧(T.size≤8192→x'=0∧y'=0∧z'=0∧R10.rowN c=R10.rowN c'∧R10.rowT c=R10.rowT c') from fun h=>by
  obtain ⟨e,hw,hf,hr⟩:=read_ok (l:=s.data.toList) (by rw [←hx];exact h);have gp:=parsed_gd e;rw [hf] at hy hz;rw [hr] at hc;refine ⟨hy,hz,by rw [hp];exact gd_sh (gd_fill gp) (small_fill (parsed_small _)),by rw [hc];exact fit_core hw,by rw [hc'];exact fit_read _,by rw [hp];exact ⟨meters_few hw,fees_few hw,charges_few hw⟩,fun hl=>?_⟩;rw [←hp] at gp hw hc;obtain ⟨a,b⟩:=read_text (gd_fill gp) (wrong_fill hw) hTl (by omega);rw [a] at hx' hy' hz';rw [b,core_fill,←hc] at hc'
  refine ⟨hx',hy',hz',by rw [hc'],by rw [hc']⟩)
 have c7:=hid (fun (W:World)=>ref7t s W hp hx7 hy7 hz7);have HT:=hid hT;clear hc hx hy hz hp hx7 hy7 hz7 hT hTl hTs hc' hx' hy' hz' k10;go_enter Tryz.func7,Tryz.ntmps7
 go_wp2_with fail
 refine cA.out.mono ?_;rintro e w0 ⟨rfl,b0⟩;have B0:=hid b0;clear cA b0;by_cases hs:(8192:Int)<(s.size:Int)
 ·go_wp2;go_ret;exact ⟨rfl,B0.out⟩
 have cR0:=hid (cR.out w0 B0.out);clear cR;go_wp2_with fail
 refine cR0.out.mono ?_;rintro e w1 ⟨m2,c2,s2,d2,p2,e2,rfl,hl,b1⟩;have B1:=hid (bel_on B0.out b1);clear cR0 b1 B0;obtain ⟨wx,hwx⟩:∃W,W=w1.alloc (.cells ([.string ⟨#[]⟩,.int .i64 0,.int .i64 0,.slice none 0 0,.slice none 0 0,.slice none 0 0]:List Value).toArray 27):=⟨_,rfl⟩;obtain ⟨wy,hwy⟩:∃W,W=wx.alloc (.cells #[.int .i64 0,.int .i64 0,.int .i64 0] 30):=⟨_,rfl⟩;obtain ⟨k1,hk1⟩:∃k,k=w1.heap.size:=⟨_,rfl⟩;obtain ⟨k2,hk2⟩:∃k,k=k1+1:=⟨_,rfl⟩;have s2':wx.heap.size=k2:=by rw [hwx,hk2,hk1];simp
 have b2:Below w1.heap.size w1 wx:=by rw [hwx];exact bel_alloc _ _
 have b3:Below wx.heap.size wx wy:=by rw [hwy];exact bel_alloc _ _
 have X1:Box wy k1 [.string ⟨#[]⟩,.int .i64 0,.int .i64 0,.slice none 0 0,.slice none 0 0,.slice none 0 0]:=by
  have:=Box.new w1 [.string ⟨#[]⟩,.int .i64 0,.int .i64 0,.slice none 0 0,.slice none 0 0,.slice none 0 0] 27;rw [←hwx,←hk1] at this;exact this.on b3
 have X2:Box wy k2 [.int .i64 0,.int .i64 0,.int .i64 0]:=by
  have:=Box.new wx [.int .i64 0,.int .i64 0,.int .i64 0] 30;rw [←hwy,s2'] at this;exact this
 have n12:k1≠k2:=by omega
 have U1:Box (wy.setCells k1 0 [c.cur,c.a,c.b,.slice m2 c.meters.length c2,.slice s2 c.sums.length d2,.slice p2 c.parts.length e2]) k1 [c.cur,c.a,c.b,.slice m2 c.meters.length c2,.slice s2 c.sums.length d2,.slice p2 c.parts.length e2]:=Box.sets (W:=wy) [c.cur,c.a,c.b,.slice m2 c.meters.length c2,.slice s2 c.sums.length d2,.slice p2 c.parts.length e2] 0 X1;have U2:Box (wy.setCells k1 0 [c.cur,c.a,c.b,.slice m2 c.meters.length c2,.slice s2 c.sums.length d2,.slice p2 c.parts.length e2]) k2 [.int .i64 0,.int .i64 0,.int .i64 0]:=Box.others (W:=wy) (Ne.symm n12) [c.cur,c.a,c.b,.slice m2 c.meters.length c2,.slice s2 c.sums.length d2,.slice p2 c.parts.length e2] 0 X2;obtain ⟨w4,hwb⟩:∃W,W=(wy.setCells k1 0 [c.cur,c.a,c.b,.slice m2 c.meters.length c2,.slice s2 c.sums.length d2,.slice p2 c.parts.length e2]).setCells k2 0 [.int .i64 x,.int .i64 y,.int .i64 z]:=⟨_,rfl⟩;have V2a:=hid (show Box w4 k1 [c.cur,c.a,c.b,.slice m2 c.meters.length c2,.slice s2 c.sums.length d2,.slice p2 c.parts.length e2] by rw [hwb];exact Box.others (W:=wy) n12 [.int .i64 x,.int .i64 y,.int .i64 z] 0 U1);have V2b:=hid (show Box w4 k2 [.int .i64 x,.int .i64 y,.int .i64 z] by rw [hwb];exact Box.sets (W:=wy) [.int .i64 x,.int .i64 y,.int .i64 z] 0 U2)
 have b14:Below w1.heap.size w1 w4:=by
  rw [hwb];exact below_setCells (by omega) _ _ _ (below_setCells (by omega) _ _ _ (bel_on b2 b3))
 have L2:=hid (hl.on b14);have B2:=hid b14;have HW3:=hid (show wy=(w1.alloc (.cells #[.string ⟨#[]⟩,.int .i64 0,.int .i64 0,.slice none 0 0,.slice none 0 0,.slice none 0 0] 27)).alloc (.cells #[.int .i64 0,.int .i64 0,.int .i64 0] 30) by rw [hwy,hwx]);have HK2:=hid (show k2=w1.heap.size+1 by omega);have HK1:=hid hk1;have HW4:=hid hwb;have RS1:=hid (show ((w1.alloc (.cells #[.string ⟨#[]⟩,.int .i64 0,.int .i64 0,.slice none 0 0,.slice none 0 0,.slice none 0 0] 27)).alloc (.cells #[.int .i64 0,.int .i64 0,.int .i64 0] 30)).there w1.heap.size 0 6 by rw [←HW3.out,←hk1];exact Te.box_there X1 rfl);have RS2:=hid (show (((w1.alloc (.cells #[.string ⟨#[]⟩,.int .i64 0,.int .i64 0,.slice none 0 0,.slice none 0 0,.slice none 0 0] 27)).alloc (.cells #[.int .i64 0,.int .i64 0,.int .i64 0] 30)).setCells w1.heap.size 0 [c.cur,c.a,c.b,.slice m2 c.meters.length c2,.slice s2 c.sums.length d2,.slice p2 c.parts.length e2]).there (w1.heap.size+1) 0 3 by rw [←HW3.out,←HK2.out,←hk1];exact Te.box_there U2 rfl);clear hwx hwy hk1 hk2 s2' b2 b3 X1 X2 n12 U1 U2 hwb b14 hl
 go_upto_region 6 with (first
  | (with_reducible refine wpList_store_mid (op:=Oper.mk none (Op.store 27 (Operand.tmp 3) (Operand.tmp 23)) _ _ _ _) ?_ 27 (.tmp 3) (.tmp 23) ?_ w1.heap.size 0 #[c.cur,c.a,c.b,.slice m2 c.meters.length c2,.slice s2 c.sums.length d2,.slice p2 c.parts.length e2] ?_ ?_ ?_ ?_ ?_ ?_;rfl;rfl;go_simp;go_simp;(simpa using RS1.out);kernel_rfl;(simp [Value.oneCell']))
  | (with_reducible refine wpList_store_mid (op:=Oper.mk none (Op.store 30 (Operand.tmp 4) (Operand.tmp 24)) _ _ _ _) ?_ 30 (.tmp 4) (.tmp 24) ?_ (w1.heap.size+1) 0 #[.int .i64 x,.int .i64 y,.int .i64 z] ?_ ?_ ?_ ?_ ?_ ?_;rfl;rfl;go_simp;go_simp;(simpa using RS2.out);kernel_rfl;(simp [Value.oneCell']))
  | fail)
 rw [←HW3.out,←HK2.out,←HK1.out,←HW4.out];try dsimp only [Act.put]
 clear HW3 HK2 HK1 HW4 RS1 RS2;have B4:=hid (bel_on B1.out B2.out);clear B1 B2;have a0:=V2b.out.cell 0 _ rfl;have a1:=V2b.out.cell 1 _ rfl;have a2:=V2b.out.cell 2 _ rfl;by_cases hx:x=0
 rotate_left
 ·have gx:(x==0)=false:=by simpa using hx
  clear OK;go_wp2;go_ret;exact ⟨rfl,B4.out⟩
 obtain ⟨rfl,rfl,sp,f1,f2,ml,O8⟩:=OK.out hx;subst hx;have SP:=hid sp;have F1:=hid f1;have F2:=hid f2;obtain ⟨l1,l2,l3⟩:=ml;have HO:=hid O8;clear OK sp f1 f2 O8;go_upto_region 8 with fail
 clear a0 a1 a2;have c7':=hid (c7.out w4);clear c7;go_wp2_with fail
 refine c7'.out.mono ?_;rintro e w5 ⟨ma,mc,fa,fc,ca,cc,rfl,lp,b5⟩;obtain ⟨wA,hwA⟩:∃W,W=w5.alloc (.cells #[p.name,p.cur,p.a.y,p.a.m,p.a.d,p.b.y,p.b.m,p.b.d,.slice ma p.meters.length mc,.slice fa p.fees.length fc,.slice ca p.charges.length cc,p.line,p.col] 41):=⟨_,rfl⟩;have bA:Below w5.heap.size w5 wA:=by rw [hwA];exact bel_alloc _ _
 obtain ⟨kA,hkA⟩:∃k,k=w5.heap.size:=⟨_,rfl⟩;have XA:=hid (show Box wA kA [p.name,p.cur,p.a.y,p.a.m,p.a.d,p.b.y,p.b.m,p.b.d,.slice ma p.meters.length mc,.slice fa p.fees.length fc,.slice ca p.charges.length cc,p.line,p.col] by rw [hwA,hkA];exact Box.new _ _ _);have LP:=hid (fun (W:World) (b:Below w5.heap.size w5 W)=>lp.on b);have FT:=hid (fits_of lp);have B45:=hid b5;have B5A:=hid bA;have HWA:=hid hwA;have HKA:=hid hkA;clear b5 bA lp hwA hkA c7';go_upto_region 9 with (first|(with_reducible refine wpList_store_new (op:=Oper.mk none (Op.store 41 (Operand.tmp 5) (Operand.tmp 31)) _ _ _ _) ?_ 41 (.tmp 5) (.tmp 31) ?_ w5 #[.string ⟨#[]⟩,.string ⟨#[]⟩,.int .i64 0,.int .i64 0,.int .i64 0,.int .i64 0,.int .i64 0,.int .i64 0,.slice none 0 0,.slice none 0 0,.slice none 0 0,.int .i64 0,.int .i64 0] #[p.name,p.cur,p.a.y,p.a.m,p.a.d,p.b.y,p.b.m,p.b.d,.slice ma p.meters.length mc,.slice fa p.fees.length fc,.slice ca p.charges.length cc,p.line,p.col] ?_ ?_ ?_ ?_ ?_ ?_;rfl;rfl;go_simp;go_simp;kernel_rfl;rfl;(simp [Value.oneCell']))|fail)
 rw [←HWA.out,←HKA.out];have lkA:w5.heap.size≤kA∧kA<wA.heap.size:=⟨Nat.le_of_eq HKA.out.symm,XA.out.lt⟩;clear HWA HKA;have m2':=XA.out.cell 2 _ rfl;have m3':=XA.out.cell 3 _ rfl;have m4':=XA.out.cell 4 _ rfl;have m5':=XA.out.cell 5 _ rfl;have m6':=XA.out.cell 6 _ rfl;have m7':=XA.out.cell 7 _ rfl;obtain ⟨wW,hwW⟩:∃W,W=wA.alloc (.cells #[.bool true,p.a.y,p.a.m,p.a.d,p.b.y,p.b.m,p.b.d] 51):=⟨_,rfl⟩;obtain ⟨kW,hkW⟩:∃k,k=wA.heap.size:=⟨_,rfl⟩;have XW:=hid (show Box wW kW [.bool true,p.a.y,p.a.m,p.a.d,p.b.y,p.b.m,p.b.d] by rw [hwW,hkW];exact Box.new _ _ _);have bW:Below wA.heap.size wA wW:=by rw [hwW];exact bel_alloc _ _
 have XB:=hid (XA.out.on bW);have B5W:=hid (bel_on B5A.out bW);have LK:=hid (show w5.heap.size≤kA∧kA<kW∧kW<wW.heap.size∧w5.heap.size≤wW.heap.size from ⟨lkA.1,by rw [hkW];exact lkA.2,XW.out.lt,B5W.out.size⟩);have HWW:=hid hwW;have HKW:=hid hkW;clear hwW hkW bW lkA XA B5A;go_upto_region 10 with (first|(with_reducible refine wpList_store_new (op:=Oper.mk none (Op.store 51 (Operand.tmp 9) (Operand.tmp 39)) _ _ _ _) ?_ 51 (.tmp 9) (.tmp 39) ?_ wA #[.bool false,.int .i64 0,.int .i64 0,.int .i64 0,.int .i64 0,.int .i64 0,.int .i64 0] #[.bool true,p.a.y,p.a.m,p.a.d,p.b.y,p.b.m,p.b.d] ?_ ?_ ?_ ?_ ?_ ?_;rfl;rfl;go_simp;go_simp;kernel_rfl;rfl;(simp [Value.oneCell']))|fail)
 rw [←HWW.out,←HKW.out];clear HWW HKW m2' m3' m4' m5' m6' m7';obtain ⟨cssF,hcF,hlF,h0F,hnF⟩:=chunks_at (LP.out w5 (Below.refl _ _)).fees;have own0:=World.ownsRow_lit (base:=wW.heap.size) (e:=53) (size:=10) wW #[] 0 (Nat.le_refl _) (by decide) rfl;have bE:=bel_alloc wW (.cells #[] 53);have OWN0:=hid own0;have HL:=hid hlF;have H0:=hid h0F;have HN:=hid (hnF _ (bel_on B5W.out bE));have ON:=hid (hcF.ones one_fee);have CF:=hid hcF;have BE:=hid bE.size;have LKK:=hid LK.out;clear own0 hcF hlF h0F hnF bE;have m9:=((XB.out.on (bel_alloc wW (.cells #[] 53))).cell 9 _ rfl);have lk9:=(XB.out.on (bel_alloc wW (.cells #[] 53))).lt;go_upto_region 11 with (first|(at_builtin;refine wpList_join _ rfl rfl _ _ 38 53 (.agg (feeC ⟨0,⟨false,⟨0,0,0⟩,⟨0,0,0⟩⟩,0,0⟩).toArray) 10 80 rfl Tryz.underlying38 info_feeL rfl (by decide) _ 0 [] rfl OWN0.out fa p.fees.length fc cssF.flatten rfl HL.out H0.out HN.out ON.out (by omega) (by decide) p.fees.length (by omega) BE.out ?_;intro ao1 cap1 wJ hown hgrow;have HO:=hid hown;have HG:=hid hgrow;have XJ:=hid ((XB.out.on (bel_alloc wW (.cells #[] 53))).grown hgrow (by intro e;have e2:kA=wW.heap.size:=Option.some.inj e;have:=LK.out;omega));clear hown hgrow;have m9:=XJ.out.cell 9 _ rfl;have f9:=XJ.out.free 9;have lk9:=XJ.out.lt)|fail)
 clear m9 lk9;have HJ:=hid (show wJ.ownsRow wW.heap.size 53 10 (.slice ao1 p.fees.length cap1) p.fees.length cssF.flatten from HO.out);obtain ⟨wG,hwG⟩:∃W,W=wJ.setCell ⟨kA,9,none⟩ (.slice ao1 p.fees.length cap1):=⟨_,rfl⟩
 have nA:(Value.slice ao1 p.fees.length cap1).ownBlock≠some kA:=fun e=>by
  have:=(HJ.out.lt _ e).1;have:=LKK.out;omega
 have XG:=hid (show Box wG kA [p.name,p.cur,p.a.y,p.a.m,p.a.d,p.b.y,p.b.m,p.b.d,.slice ma p.meters.length mc,.slice ao1 p.fees.length cap1,.slice ca p.charges.length cc,p.line,p.col] by rw [hwG];exact XJ.out.set 9 _)
 have XWG:=hid (show Box wG kW [.bool true,p.a.y,p.a.m,p.a.d,p.b.y,p.b.m,p.b.d] by
  rw [hwG]
  exact ((XW.out.on (bel_alloc wW (.cells #[] 53))).grown HG.out (by intro e;have e2:kW=wW.heap.size:=Option.some.inj e;have:=LKK.out;omega)).other (show kW≠kA by have:=LKK.out;omega) _)
 have OG:Hid (∃css,Ch tFee w5 css (Mm.part (fillF p) p.fees 0)∧wG.ownsRow wW.heap.size 53 tFee.n (.slice ao1 p.fees.length cap1) p.fees.length css.flatten):=hid ⟨cssF,by rw [Mm.part_zero];exact CF.out,by rw [hwG];exact ownsRow_setCell_other HJ.out nA _⟩
 have B5G:=hid (show Below w5.heap.size w5 wG by
  rw [hwG]
  exact ((B5W.out.alloc B5W.out.size _).grown HG.out (B5W.out.alloc B5W.out.size _).size (fun k hk=>by have:wW.heap.size=k:=Option.some.inj hk;have:=LKK.out;omega)).setCell LKK.out.1 _)
 have GG:=hid (World.grownBy.refl wG (Value.slice ao1 p.fees.length cap1).ownBlock);have BLW:=hid (Nat.le_refl wW.heap.size);have hSZ:=hid (show wW.heap.size≤wG.heap.size by rw [hwG];have:=HG.out.size;have:=BE.out;simp at *;omega);rw [←hwG];clear nA hwG HO HG XJ OWN0 HL H0 HN ON BE LK f9;have mX:=XG.out.cell 9 _ rfl;have lX:=XG.out.lt;go_wp2;clear mX lX;go_loopw [48] (fun i wr=>∃i':Nat,i=.int .i64 (i':Int)∧i'≤p.fees.length∧Hid (∃css,Ch tFee w5 css (Mm.part (fillF p) p.fees i')∧wr.ownsRow wW.heap.size 53 tFee.n (.slice ao1 p.fees.length cap1) p.fees.length css.flatten)∧Hid (wG.grownBy wr (Value.slice ao1 p.fees.length cap1).ownBlock)) (fun i _=>p.fees.length-(intOf i).toNat)
 case atStart=>exact ⟨0,rfl,Nat.zero_le _,OG,GG⟩
 case round=>
  clear OG GG;obtain ⟨i',rfl,hi,hO,hG⟩:=hrel;by_cases hlt:i'<p.fees.length
  ·obtain ⟨css,hc,ho⟩:=hO.out;obtain ⟨g,cap',e,_,lg⟩:=ho.form (by omega);simp only [Value.slice.injEq,true_and] at e;obtain ⟨e1,e2⟩:=e;subst e1 e2;obtain ⟨f,tf⟩:∃f,p.fees[i']?=some f:=⟨_,List.getElem?_eq_getElem hlt⟩;have pf:=Mm.part_at (F:=fillF p) tf;obtain ⟨cs,hcs⟩:∃cs,css[i']?=some cs:=⟨_,List.getElem?_eq_getElem (by rw [hc.len,Mm.part_len];exact hlt)⟩;obtain ⟨ec,ok⟩:=fee_lie (hc.lies i' cs f hcs pf)
   have c0:wr.cell? ⟨g,i'*10+1,none⟩=some (.bool f.win.has):=by
    rw [ho.cellAt _ (show i'*10+1<p.fees.length*10 by omega)];exact fl_get css hc.sizes i' cs 1 _ hcs (by rw [ec];rfl)
   have ng:kA≠g∧kW≠g:=by
    have:=(ho.lt g rfl).1;have:=LKK.out;have:=BLW.out;omega
   have XR:=XG.out.grown hG.out (fun e=>ng.1 (Option.some.inj e));have XV:=XWG.out.grown hG.out (fun e=>ng.2 (Option.some.inj e));have mX:=XR.cell 9 _ rfl;have lX:=XR.lt;have TF:=hid tf;have HC:=hid hc;have HOO:=hid ho;rcases Bool.eq_false_or_eq_true f.win.has with hh|hh
   ·rw [hh] at c0;have HH:=hid hh;clear hO hc ho lg tf pf hcs ec ok XR XV hh;go_wp2;go_roundw
    case rel=>exact ⟨i'+1,by simp,by omega,hid ⟨css,by rw [←Mm.part_same TF.out (by unfold fillF;rw [fill_has HH.out])];exact HC.out,HOO.out⟩,hG⟩
    case measure=>simp [intOf];omega
   ·have HS:=hid (ch_store (A:=[f.amount]) (M:=wl f.win) (B:=[f.line,f.col]) (vs:=[.bool true,p.a.y,p.a.m,p.a.d,p.b.y,p.b.m,p.b.d]) hc ho (by rw [hcs,ec]) rfl (fee_fill FT.out.days hh ok));rw [hh] at c0;have TH:=hid (show wr.there g (i'*10+1) 7 from Md.there_own ho (show i'*10+1+7≤p.fees.length*10 by omega));have RW:=hid (range_of XV.cell);clear hO hc ho lg tf pf hcs ec ok XR XV hh;go_wp2_with (first|(with_reducible refine wpList_load_mid (op:=Oper.mk (some 62) (Op.load 51 (Operand.tmp 9)) _ _ _ _) ?_ 51 (.tmp 9) ?_ kW 0 ?_ [.bool true,p.a.y,p.a.m,p.a.d,p.b.y,p.b.m,p.b.d] _ RW.out Tryz.underlying51 ?_ ?_ ?_;rfl;rfl;go_simp;rfl;kernel_rfl)|(with_reducible refine wpList_store_mid (op:=Oper.mk none (Op.store 51 (Operand.tmp 64) (Operand.tmp 62)) _ _ _ _) ?_ 51 (.tmp 64) (.tmp 62) ?_ g (i'*10+1) #[.bool true,p.a.y,p.a.m,p.a.d,p.b.y,p.b.m,p.b.d] ?_ ?_ ?_ ?_ ?_ ?_;rfl;rfl;go_simp;go_simp;(simpa using TH.out);kernel_rfl;(simp [Value.oneCell']))|fail)
    go_roundw
    case rel=>exact ⟨i'+1,by simp,by omega,hid ⟨_,by rw [←Mm.part_set TF.out];exact HS.out.1,HS.out.2.1⟩,hid (hG.out.trans HS.out.2.2)⟩
    case measure=>simp [intOf];omega
  ·obtain rfl:i'=p.fees.length:=by omega
   obtain ⟨cssG,hcG,hoG⟩:=hO.out;rw [Mm.part_all] at hcG;obtain ⟨wq,hwq⟩:∃W,W=wr:=⟨_,rfl⟩;rw [←hwq] at hoG hG ⊢
   have nAf:some kA≠(Value.slice ao1 p.fees.length cap1).ownBlock:=fun e=>by
    have:=(hoG.lt _ e.symm).1;have:=LKK.out;omega
   have nWf:some kW≠(Value.slice ao1 p.fees.length cap1).ownBlock:=fun e=>by
    have:=(hoG.lt _ e.symm).1;have:=LKK.out;omega
   have XB:=hid (XG.out.grown hG.out nAf);have XW2:=hid (XWG.out.grown hG.out nWf);have B5Q:=hid (B5G.out.grown hG.out B5G.out.size (fun k hk=>by have:=(hoG.lt _ hk).1;have:=LKK.out;omega));have BLQ:=hid (show wW.heap.size≤wq.heap.size∧kA<wq.heap.size∧kW<wq.heap.size from ⟨by have:=XB.out.lt;have:=hG.out.size;have:=XWG.out.lt;have:=LKK.out;have:=hSZ.out;omega,XB.out.lt,XW2.out.lt⟩);have HCG:=hid hcG;have HOG:=hid hoG;have NAF:=hid nAf;clear hwq hO hG nAf nWf hcG hoG hlt hi XG XWG B5G;obtain ⟨cssC,hcC,hlC,h0C,hnC⟩:=chunks_at (LP.out w5 (Below.refl _ _)).charges;have own0:=World.ownsRow_lit (base:=wq.heap.size) (e:=57) (size:=16) wq #[] 0 (Nat.le_refl _) (by decide) rfl;have bE:=bel_alloc wq (.cells #[] 57);have OWN0:=hid own0;have HL:=hid hlC;have H0:=hid h0C;have HN:=hid (hnC _ (bel_on B5Q.out bE));have ON:=hid (hcC.ones one_charge);have CC:=hid hcC;have BE:=hid bE.size;clear own0 hcC hlC h0C hnC bE;have m9:=((XB.out.on (bel_alloc wq (.cells #[] 57))).cell 10 _ rfl);have lk9:=(XB.out.on (bel_alloc wq (.cells #[] 57))).lt;go_upto_region 18 with (first|(at_builtin;refine wpList_join _ rfl rfl _ _ 39 57 (.agg (chargeC ⟨⟨#[]⟩,⟨false,⟨0,0,0⟩,⟨0,0,0⟩⟩,0,0,0,[],0,[],0,0⟩ none 0 none 0).toArray) 16 168 rfl Tryz.underlying39 info_chargeL rfl (by decide) _ 0 [] rfl OWN0.out ca p.charges.length cc cssC.flatten rfl HL.out H0.out HN.out ON.out (by omega) (by decide) p.charges.length (by omega) BE.out ?_;intro ao2 cap2 wK hown hgrow;have HO:=hid hown;have HG:=hid hgrow;have XK:=hid ((XB.out.on (bel_alloc wq (.cells #[] 57))).grown hgrow (by intro e;have e2:kA=wq.heap.size:=Option.some.inj e;have:=BLQ.out;omega));clear hown hgrow;have m9:=XK.out.cell 10 _ rfl;have f9:=XK.out.free 10;have lk9:=XK.out.lt)|fail)
   clear m9 lk9;have HJ2:=hid (show wK.ownsRow wq.heap.size 57 16 (.slice ao2 p.charges.length cap2) p.charges.length cssC.flatten from HO.out);obtain ⟨wH,hwH⟩:∃W,W=wK.setCell ⟨kA,10,none⟩ (.slice ao2 p.charges.length cap2):=⟨_,rfl⟩
   have nA:(Value.slice ao2 p.charges.length cap2).ownBlock≠some kA:=fun e=>by
    have:=(HJ2.out.lt _ e).1;have:=BLQ.out;omega
   have XH:=hid (show Box wH kA [p.name,p.cur,p.a.y,p.a.m,p.a.d,p.b.y,p.b.m,p.b.d,.slice ma p.meters.length mc,.slice ao1 p.fees.length cap1,.slice ao2 p.charges.length cap2,p.line,p.col] by rw [hwH];exact XK.out.set 10 _)
   have XWH:=hid (show Box wH kW [.bool true,p.a.y,p.a.m,p.a.d,p.b.y,p.b.m,p.b.d] by
    rw [hwH]
    exact ((XW2.out.on (bel_alloc wq (.cells #[] 57))).grown HG.out (by intro e;have e2:kW=wq.heap.size:=Option.some.inj e;have:=BLQ.out;omega)).other (show kW≠kA by have:=LKK.out;omega) _)
   have OH:Hid (∃css,Ch tCharge w5 css (Mm.part (fillC p) p.charges 0)∧wH.ownsRow wq.heap.size 57 tCharge.n (.slice ao2 p.charges.length cap2) p.charges.length css.flatten):=hid ⟨cssC,by rw [Mm.part_zero];exact CC.out,by rw [hwH];exact ownsRow_setCell_other HJ2.out nA _⟩
   have FH:=hid (show wH.ownsRow wW.heap.size 53 tFee.n (.slice ao1 p.fees.length cap1) p.fees.length cssG.flatten by
    rw [hwH];refine ownsRow_setCell_other ((HOG.out.alloc (.cells #[] 57)).kept HG.out ?_) (fun e=>NAF.out e.symm) _;cases e:(Value.slice ao1 p.fees.length cap1).ownBlock with
    | none=>exact .inl rfl
    | some k=>exact .inr (fun e2=>by have e3:k=wq.heap.size:=Option.some.inj e2;have:=(HOG.out.lt _ e).2;omega))
   have B5H:=hid (show Below w5.heap.size w5 wH by
    rw [hwH]
    exact ((B5Q.out.alloc B5Q.out.size _).grown HG.out (B5Q.out.alloc B5Q.out.size _).size (fun k hk=>by have:wq.heap.size=k:=Option.some.inj hk;have:=LKK.out;have:=BLQ.out;omega)).setCell LKK.out.1 _)
   have GH:=hid (World.grownBy.refl wH (Value.slice ao2 p.charges.length cap2).ownBlock);have NFC:=hid (show ∀k,(Value.slice ao1 p.fees.length cap1).ownBlock=some k→k<wq.heap.size from fun k hk=>(HOG.out.lt _ hk).2);rw [←hwH];clear nA hwH HO HG XK OWN0 HL H0 HN ON BE f9 XB XW2 HOG NAF CC HJ2;have mX:=XH.out.cell 10 _ rfl;have lX:=XH.out.lt;go_wp2;clear mX lX;go_loopw [74] (fun i wr=>∃i':Nat,i=.int .i64 (i':Int)∧i'≤p.charges.length∧Hid (∃css,Ch tCharge w5 css (Mm.part (fillC p) p.charges i')∧wr.ownsRow wq.heap.size 57 tCharge.n (.slice ao2 p.charges.length cap2) p.charges.length css.flatten)∧Hid (wH.grownBy wr (Value.slice ao2 p.charges.length cap2).ownBlock)) (fun i _=>p.charges.length-(intOf i).toNat)
   case atStart=>exact ⟨0,rfl,Nat.zero_le _,OH,GH⟩
   case round=>
    clear OH GH;obtain ⟨i',rfl,hi,hO,hG⟩:=hrel;by_cases hlt:i'<p.charges.length
    ·obtain ⟨css,hc,ho⟩:=hO.out;obtain ⟨g,cap',e,_,lg⟩:=ho.form (by omega);simp only [Value.slice.injEq,true_and] at e;obtain ⟨e1,e2⟩:=e;subst e1 e2;obtain ⟨f,tf⟩:∃f,p.charges[i']?=some f:=⟨_,List.getElem?_eq_getElem hlt⟩;have pf:=Mm.part_at (F:=fillC p) tf;obtain ⟨cs,hcs⟩:∃cs,css[i']?=some cs:=⟨_,List.getElem?_eq_getElem (by rw [hc.len,Mm.part_len];exact hlt)⟩;obtain ⟨B0,ec,ok⟩:=charge_lie (hc.lies i' cs f hcs pf)
     have c0:wr.cell? ⟨g,i'*16+1,none⟩=some (.bool f.win.has):=by
      rw [ho.cellAt _ (show i'*16+1<p.charges.length*16 by omega)];exact fl_get css hc.sizes i' cs 1 _ hcs (by rw [ec];rfl)
     have ng:kA≠g∧kW≠g:=by
      have:=(ho.lt g rfl).1;have:=LKK.out;have:=BLQ.out;omega
     have XR:=XH.out.grown hG.out (fun e=>ng.1 (Option.some.inj e));have XV:=XWH.out.grown hG.out (fun e=>ng.2 (Option.some.inj e));have mX:=XR.cell 10 _ rfl;have lX:=XR.lt;have TF:=hid tf;have HC:=hid hc;have HOO:=hid ho;rcases Bool.eq_false_or_eq_true f.win.has with hh|hh
     ·rw [hh] at c0;have HH:=hid hh;clear hO hc ho lg tf pf hcs ec ok XR XV hh;go_wp2;go_roundw
      case rel=>exact ⟨i'+1,by simp,by omega,hid ⟨css,by rw [←Mm.part_same TF.out (by unfold fillC;rw [fill_has HH.out])];exact HC.out,HOO.out⟩,hG⟩
      case measure=>simp [intOf];omega
     ·have HS:=hid (ch_store (A:=[f.meter]) (M:=wl f.win) (B:=B0) (vs:=[.bool true,p.a.y,p.a.m,p.a.d,p.b.y,p.b.m,p.b.d]) hc ho (by rw [hcs,ec]) rfl (ok p FT.out.days hh));rw [hh] at c0;have TH:=hid (show wr.there g (i'*16+1) 7 from Md.there_own ho (show i'*16+1+7≤p.charges.length*16 by omega));have RW:=hid (range_of XV.cell);clear hO hc ho lg tf pf hcs ec ok XR XV hh;go_wp2_with (first|(with_reducible refine wpList_load_mid (op:=Oper.mk (some 88) (Op.load 51 (Operand.tmp 9)) _ _ _ _) ?_ 51 (.tmp 9) ?_ kW 0 ?_ [.bool true,p.a.y,p.a.m,p.a.d,p.b.y,p.b.m,p.b.d] _ RW.out Tryz.underlying51 ?_ ?_ ?_;rfl;rfl;go_simp;rfl;kernel_rfl)|(with_reducible refine wpList_store_mid (op:=Oper.mk none (Op.store 51 (Operand.tmp 90) (Operand.tmp 88)) _ _ _ _) ?_ 51 (.tmp 90) (.tmp 88) ?_ g (i'*16+1) #[.bool true,p.a.y,p.a.m,p.a.d,p.b.y,p.b.m,p.b.d] ?_ ?_ ?_ ?_ ?_ ?_;rfl;rfl;go_simp;go_simp;(simpa using TH.out);kernel_rfl;(simp [Value.oneCell']))|fail)
      go_roundw
      case rel=>exact ⟨i'+1,by simp,by omega,hid ⟨_,by rw [←Mm.part_set TF.out];exact HS.out.1,HS.out.2.1⟩,hid (hG.out.trans HS.out.2.2)⟩
      case measure=>simp [intOf];omega
    ·obtain rfl:i'=p.charges.length:=by omega
     obtain ⟨cssE,hcE,hoE⟩:=hO.out;rw [Mm.part_all] at hcE;obtain ⟨wE,hwE⟩:∃W,W=wr:=⟨_,rfl⟩;rw [←hwE] at hoE hG ⊢
     have nAc:some kA≠(Value.slice ao2 p.charges.length cap2).ownBlock:=fun e=>by
      have:=(hoE.lt _ e.symm).1;have:=BLQ.out;omega
     have XE:=hid (XH.out.grown hG.out nAc);have B5E:=hid (B5H.out.grown hG.out B5H.out.size (fun k hk=>by have:=(hoE.lt _ hk).1;have:=LKK.out;have:=BLQ.out;omega))
     have FE:=FH.out.kept hG.out (by
      cases e:(Value.slice ao1 p.fees.length cap1).ownBlock with
      | none=>exact .inl rfl
      | some k=>exact .inr (fun e2=>by have:=NFC.out k e;have:=(hoE.lt _ e2.symm).1;omega))
     have el1:(fillP p).fees.length=p.fees.length:=List.length_map _;have el2:(fillP p).charges.length=p.charges.length:=List.length_map _;have r1:Row tFee wE ao1 p.fees.length cap1 (fillP p).fees:=own_row FE el1.symm (HCG.out.on B5E.out);have r2:Row tCharge wE ao2 p.charges.length cap2 (fillP p).charges:=own_row hoE el2.symm (hcE.on B5E.out);have L0:=LP.out wE B5E.out;have lq:PlanLies wE (planC (fillP p) ma mc ao1 cap1 ao2 cap2) (fillP p) ma mc ao1 cap1 ao2 cap2:=⟨rfl,L0.meters,by rw [el1];exact r1,by rw [el2];exact r2,L0.name,L0.days,L0.place⟩;have cP:=ref8t (fillP p) ma mc ao1 cap1 ao2 cap2 wE lq SP.out (KK.out.kz.later (bel_on B4.out (bel_on B45.out B5E.out)));rw [el1,el2,←HT.out] at cP;have CP:=hid (show Calls Tryz.prog 17 #[.agg #[p.name,p.cur,p.a.y,p.a.m,p.a.d,p.b.y,p.b.m,p.b.d,.slice ma p.meters.length mc,.slice ao1 p.fees.length cap1,.slice ao2 p.charges.length cap2,p.line,p.col]] wE fun e w'=>e=.returned (.string T)∧Below wE.heap.size wE w' from cP);have RP:=hid (range_of XE.out.cell);have B4E:=hid (bel_on B45.out B5E.out);clear hwE hO hG nAc hcE hoE FE el1 el2 r1 r2 L0 lq cP hlt hi XH XWH FH B5H HCG NFC LP FT;go_wp2_with (first|(with_reducible refine wpList_load_mid (op:=Oper.mk (some 92) (Op.load 41 (Operand.tmp 5)) _ _ _ _) ?_ 41 (.tmp 5) ?_ kA 0 ?_ [p.name,p.cur,p.a.y,p.a.m,p.a.d,p.b.y,p.b.m,p.b.d,.slice ma p.meters.length mc,.slice ao1 p.fees.length cap1,.slice ao2 p.charges.length cap2,p.line,p.col] _ RP.out Tryz.underlying41 ?_ ?_ ?_;rfl;rfl;go_simp;rfl;kernel_rfl)|fail)
     refine CP.out.mono ?_;rintro e w6 ⟨rfl,b6⟩;have B46:=hid (bel_on B4E.out b6);clear CP RP b6 B4E XE B5E HT SP B45;have cR0:=hid (cT.out w6 (bel_on B4.out B46.out));clear cT;go_wp2_with fail
     refine cR0.out.mono ?_;rintro e w7 ⟨m3,c3,s3,d3,p3,e3,rfl,hl,b7⟩;have B47:=hid (bel_on B46.out b7);clear cR0 b7 B46;obtain ⟨wx,hwx⟩:∃W,W=w7.alloc (.cells ([.string ⟨#[]⟩,.int .i64 0,.int .i64 0,.slice none 0 0,.slice none 0 0,.slice none 0 0]:List Value).toArray 27):=⟨_,rfl⟩;obtain ⟨wy,hwy⟩:∃W,W=wx.alloc (.cells #[.int .i64 0,.int .i64 0,.int .i64 0] 30):=⟨_,rfl⟩;obtain ⟨k3,hk1⟩:∃k,k=w7.heap.size:=⟨_,rfl⟩;obtain ⟨k4,hk2⟩:∃k,k=k3+1:=⟨_,rfl⟩;have s2':wx.heap.size=k4:=by rw [hwx,hk2,hk1];simp
     have b2:Below w7.heap.size w7 wx:=by rw [hwx];exact bel_alloc _ _
     have b3:Below wx.heap.size wx wy:=by rw [hwy];exact bel_alloc _ _
     have X1:Box wy k3 [.string ⟨#[]⟩,.int .i64 0,.int .i64 0,.slice none 0 0,.slice none 0 0,.slice none 0 0]:=by
      have:=Box.new w7 [.string ⟨#[]⟩,.int .i64 0,.int .i64 0,.slice none 0 0,.slice none 0 0,.slice none 0 0] 27;rw [←hwx,←hk1] at this;exact this.on b3
     have X2:Box wy k4 [.int .i64 0,.int .i64 0,.int .i64 0]:=by
      have:=Box.new wx [.int .i64 0,.int .i64 0,.int .i64 0] 30;rw [←hwy,s2'] at this;exact this
     have n12:k3≠k4:=by omega
     have U1:Box (wy.setCells k3 0 [c'.cur,c'.a,c'.b,.slice m3 c'.meters.length c3,.slice s3 c'.sums.length d3,.slice p3 c'.parts.length e3]) k3 [c'.cur,c'.a,c'.b,.slice m3 c'.meters.length c3,.slice s3 c'.sums.length d3,.slice p3 c'.parts.length e3]:=Box.sets (W:=wy) [c'.cur,c'.a,c'.b,.slice m3 c'.meters.length c3,.slice s3 c'.sums.length d3,.slice p3 c'.parts.length e3] 0 X1;have U2:Box (wy.setCells k3 0 [c'.cur,c'.a,c'.b,.slice m3 c'.meters.length c3,.slice s3 c'.sums.length d3,.slice p3 c'.parts.length e3]) k4 [.int .i64 0,.int .i64 0,.int .i64 0]:=Box.others (W:=wy) (Ne.symm n12) [c'.cur,c'.a,c'.b,.slice m3 c'.meters.length c3,.slice s3 c'.sums.length d3,.slice p3 c'.parts.length e3] 0 X2;obtain ⟨w8,hwb⟩:∃W,W=(wy.setCells k3 0 [c'.cur,c'.a,c'.b,.slice m3 c'.meters.length c3,.slice s3 c'.sums.length d3,.slice p3 c'.parts.length e3]).setCells k4 0 [.int .i64 x',.int .i64 y',.int .i64 z']:=⟨_,rfl⟩;have V3a:=hid (show Box w8 k3 [c'.cur,c'.a,c'.b,.slice m3 c'.meters.length c3,.slice s3 c'.sums.length d3,.slice p3 c'.parts.length e3] by rw [hwb];exact Box.others (W:=wy) n12 [.int .i64 x',.int .i64 y',.int .i64 z'] 0 U1);have V3b:=hid (show Box w8 k4 [.int .i64 x',.int .i64 y',.int .i64 z'] by rw [hwb];exact Box.sets (W:=wy) [.int .i64 x',.int .i64 y',.int .i64 z'] 0 U2)
     have b14:Below w7.heap.size w7 w8:=by
      rw [hwb];exact below_setCells (by omega) _ _ _ (below_setCells (by omega) _ _ _ (bel_on b2 b3))
     have L3:=hid (hl.on b14);have B3:=hid b14;have HW3:=hid (show wy=(w7.alloc (.cells #[.string ⟨#[]⟩,.int .i64 0,.int .i64 0,.slice none 0 0,.slice none 0 0,.slice none 0 0] 27)).alloc (.cells #[.int .i64 0,.int .i64 0,.int .i64 0] 30) by rw [hwy,hwx]);have HK2:=hid (show k4=w7.heap.size+1 by omega);have HK1:=hid hk1;have HW4:=hid hwb;have RS1:=hid (show ((w7.alloc (.cells #[.string ⟨#[]⟩,.int .i64 0,.int .i64 0,.slice none 0 0,.slice none 0 0,.slice none 0 0] 27)).alloc (.cells #[.int .i64 0,.int .i64 0,.int .i64 0] 30)).there w7.heap.size 0 6 by rw [←HW3.out,←hk1];exact Te.box_there X1 rfl);have RS2:=hid (show (((w7.alloc (.cells #[.string ⟨#[]⟩,.int .i64 0,.int .i64 0,.slice none 0 0,.slice none 0 0,.slice none 0 0] 27)).alloc (.cells #[.int .i64 0,.int .i64 0,.int .i64 0] 30)).setCells w7.heap.size 0 [c'.cur,c'.a,c'.b,.slice m3 c'.meters.length c3,.slice s3 c'.sums.length d3,.slice p3 c'.parts.length e3]).there (w7.heap.size+1) 0 3 by rw [←HW3.out,←HK2.out,←hk1];exact Te.box_there U2 rfl);clear hwx hwy hk1 hk2 s2' b2 b3 X1 X2 n12 U1 U2 hwb b14 hl
     go_upto_region 26 with (first
      | (with_reducible refine wpList_store_mid (op:=Oper.mk none (Op.store 27 (Operand.tmp 13) (Operand.tmp 97)) _ _ _ _) ?_ 27 (.tmp 13) (.tmp 97) ?_ w7.heap.size 0 #[c'.cur,c'.a,c'.b,.slice m3 c'.meters.length c3,.slice s3 c'.sums.length d3,.slice p3 c'.parts.length e3] ?_ ?_ ?_ ?_ ?_ ?_;rfl;rfl;go_simp;go_simp;(simpa using RS1.out);kernel_rfl;(simp [Value.oneCell']))
      | (with_reducible refine wpList_store_mid (op:=Oper.mk none (Op.store 30 (Operand.tmp 14) (Operand.tmp 98)) _ _ _ _) ?_ 30 (.tmp 14) (.tmp 98) ?_ (w7.heap.size+1) 0 #[.int .i64 x',.int .i64 y',.int .i64 z'] ?_ ?_ ?_ ?_ ?_ ?_;rfl;rfl;go_simp;go_simp;(simpa using RS2.out);kernel_rfl;(simp [Value.oneCell']))
      | fail)
     rw [←HW3.out,←HK2.out,←HK1.out,←HW4.out];try dsimp only [Act.put]
     clear HW3 HK2 HK1 HW4 RS1 RS2;have B48:=hid (bel_on B47.out B3.out);clear B47 B3;by_cases hz:(8192:Int)<(T.size:Int)
     ·have BF:=hid (bel_on B4.out B48.out);have gz:decide ((8192:Int)<(T.size:Int))=true:=decide_eq_true hz;have hz2:8192<T.size:=by omega
      have gz2:decide (8192<T.size)=true:=decide_eq_true hz2;clear HO;go_wp2;go_ret;exact ⟨rfl,BF.out⟩
     obtain ⟨rfl,rfl,rfl,eN,eT⟩:=HO.out (by omega);have gz:decide ((8192:Int)<(T.size:Int))=false:=decide_eq_false hz;have hz2:¬ 8192<T.size:=by omega
     have gz2:decide (8192<T.size)=false:=decide_eq_false hz2;have a0:=V3b.out.cell 0 _ rfl;have a1:=V3b.out.cell 1 _ rfl;have a2:=V3b.out.cell 2 _ rfl;have RC:=hid (range_of (V2a.out.on B48.out).cell);have RD:=hid (range_of V3a.out.cell);have cS:=hid (R10.same_any c c' m2 c2 s2 d2 p2 e2 m3 c3 s3 d3 p3 e3 w8 (L2.out.on B48.out) L3.out F1.out F2.out eN eT);clear HO eN eT;go_wp2_with (first|((with_reducible refine R9.wpList_load_midg (op:=Oper.mk (some 107) (Op.load 27 (Operand.tmp 3)) _ _ _ _) ?_ 27 (.tmp 3) ?_ k1 0 ?_ [c.cur,c.a,c.b,.slice m2 c.meters.length c2,.slice s2 c.sums.length d2,.slice p2 c.parts.length e2] _ RC.out Tryz.underlying27 ?_ ?_ ?_);(first|(exact R9.wantg rfl (by kernel_rfl) rfl));rfl;go_simp;rfl;kernel_rfl)|((with_reducible refine R9.wpList_load_midg (op:=Oper.mk (some 108) (Op.load 27 (Operand.tmp 13)) _ _ _ _) ?_ 27 (.tmp 13) ?_ k3 0 ?_ [c'.cur,c'.a,c'.b,.slice m3 c'.meters.length c3,.slice s3 c'.sums.length d3,.slice p3 c'.parts.length e3] _ RD.out Tryz.underlying27 ?_ ?_ ?_);(first|(exact R9.wantg rfl (by kernel_rfl) rfl));rfl;go_simp;rfl;kernel_rfl)|fail)
     refine cS.out.mono ?_;rintro e wz ⟨rfl,bz⟩;have BF:=hid (bel_on B4.out (bel_on B48.out bz));clear cS RC RD bz a0 a1 a2;go_wp2;go_ret;exact ⟨rfl,BF.out⟩
end L10
namespace Ld
open Go.RowKit
theorem own:ownKnob Tryz.prog.godebug=none:=by kernel_rfl
theorem cells_of_strs {H:Type} {enc:TypeId×Value→H} {P:Program} {w:World} {base:Nat} {sp:Nat→Bool} {held:Bool} {fuel:Nat} {t e:TypeId} {n:Nat} {cs:List Value} {zs:List (List UInt8)} {p:List MemPlace}
  (ht:P.underlying t=some (.array n e)) (he:P.underlying e=some .string) (hce:P.cellsOf e=1) (hct:P.cellsOf t=n)
  (h:DataW.trod enc P w base sp held fuel t cs=some (.agg (zs.map fun z=>.lit (.string z)),p)):cs=zs.map fun z=>Value.string ⟨z.toArray⟩:=by
 cases fuel with
 | zero=>simp [DataW.trod] at h
 | succ fuel=>
   simp only [DataW.trod,ht,hce,hct,Nat.mul_one] at h;split at h
   ·rename_i hl
    obtain ⟨xs,hm,hx⟩:=Option.map_eq_some_iff.1 h
    have hxs:xs.map (·.1)=zs.map fun z=>(DataW.lit (.string z):DataW H):=by
     have:=congrArg Prod.fst hx;simpa using this
    have hxl:xs.length=n:=by simpa using Lib.mapM_length hm
    have hzl:zs.length=n:=by
     have:=congrArg List.length hxs;simp at this;omega
    apply List.ext_getElem?
    intro i;by_cases hi:i<n
    ·obtain ⟨b,hb,hf⟩:=Lib.mapM_at hm i i (by simp [hi]);obtain ⟨z,hc,rfl,_⟩:=DataW.trod_string he hf
     have h1:cs[i]?=some (.string z):=by
      have:=congrArg (·[0]?) hc;simpa [List.getElem?_take,List.getElem?_drop] using this
     have h2:(xs.map (·.1))[i]?=some (DataW.lit (.string z.data.toList):DataW H):=by simp [hb]
     rw [hxs] at h2;simp only [List.getElem?_map,Option.map_eq_some_iff,DataW.lit.injEq,Lit.string.injEq] at h2;obtain ⟨z',hz',hzz⟩:=h2;subst hzz;simp [h1,hz']
    ·rw [List.getElem?_eq_none (by omega),List.getElem?_eq_none (by simp;omega)]
   ·cases h
theorem md_of {W : World} {rest : List (String × DataW Unit)} (h : laidMet Tryz.prog (("poundage/parse.modes", .agg (P.modes.map fun z => .lit (.string z))) :: rest) W) : Pa.Md W := by
 obtain ⟨ps,⟨g',t',cs,fuel,p,q,hg',ht',hvar,hd,_,_⟩,_⟩:=h
 have hg : Tryz.prog.globalNamed "poundage/parse.modes" = some 1 := by kernel_rfl
 obtain rfl:=Option.some.inj (hg.symm.trans hg');obtain rfl:=Option.some.inj ((show (Tryz.prog.globals[1]?).map (·.type)=some 237 by kernel_rfl).symm.trans ht');have hca:cs=(P.modes.map fun z=>Value.string ⟨z.toArray⟩).toArray:=by rw [←cells_of_strs (e:=9) (n:=4) (by kernel_rfl) (by kernel_rfl) (by kernel_rfl) (by kernel_rfl) hd]
 rw [hca] at hvar;intro j l hj;have:=World.var?_cell hg hvar j;rw [this];simp [hj]
theorem returns {H:Type} {enc:TypeId×Value→H} {os:Os} {f:FuncId} {fn:Func} {s:ChangeSpec} {conds:List PathCond} {apart fresh handsOn again:Bool} {X:World→Array Value→Prop}
  (hX:∀(w w':World) (args:Array Value),w.heap=w'.heap→X w args→X w' args)
  (started:os.Started) (noInit:Tryz.checked.prog.inits.idxOf? f=none) (hfn:Tryz.checked.prog.funcs[f]?=some fn)
  (witness:∃(w:World) (tape:Tape) (i:Input),w.os=os∧(w.forCall tape i).Shaped Tryz.checked.prog∧i.vars=[]∧Input.okWide Tryz.checked.prog (w.forCall tape i) .any w.heap.size f i∧
   ((s.pre enc Tryz.checked.prog fn conds apart (w.forCall tape i).memory i.args∧X (w.forCall tape i).memory i.args)∧sizedMet enc Tryz.checked.prog fn (OpenSpec.ofChange s) apart (w.forCall tape i).memory i.args)∧({} : Assume).holds Tryz.checked.prog (lone (Frame.enter Tryz.checked.prog f i.args .normal) [] (w.forCall tape i)))
  (contract:∀(W:World) (base:Nat) (args:Array Value) (ds gs:List (DataW H)) (before:List MemPlace),
   (∀(j:Nat) t v,fn.params[j]?=some t→args[j]?=some v→Value.okWide Tryz.checked.prog W .any base t v)→
   DataW.Whole enc Tryz.checked.prog fn.params.toList s.vars apart W args.toList ds gs before→
   (DataW.weightsEach Tryz.checked.prog (fn.params.toList++s.plain.varTypes Tryz.checked.prog) (ds++gs)).all (·≤reachBytes)=true→X W args→W.ShapedOpen Tryz.checked.prog→
   Calls Tryz.checked.prog f args W fun e W'=>∃v,e=.returned v∧s.post enc Tryz.checked.prog fn apart fresh handsOn again W args v W') :
  ReturnsInHanded {} Tryz.checked os f .any (fun w args=>(s.pre enc Tryz.checked.prog fn conds apart w args∧X w args)∧sizedMet enc Tryz.checked.prog fn (OpenSpec.ofChange s) apart w args) (s.post enc Tryz.checked.prog fn apart fresh handsOn again):=by
 refine returnsInHanded_of_calls own started noInit witness ?_;intro w tape i _ hsh _ hok hpre _;obtain ⟨_,_,_,fn',hfn',_,_,_,_,hval⟩:=hok;obtain rfl:fn'=fn:=Option.some.inj (hfn'.symm.trans hfn);obtain ⟨⟨⟨ds,gs,before,hw,_⟩,hx⟩,hz⟩:=hpre;have hw':=DataW.Whole.of_heap (w':=w.forCall tape i) (by rfl) hw;refine (contract (w.forCall tape i) w.heap.size i.args ds gs before hval hw' (hz.weights hw) (hX _ _ _ (by rfl) hx) hsh).mono fun e W' ⟨v,he,hp⟩=>?_;subst he;exact ChangeSpec.post_blind hp
theorem pow_at {W : World} {rest : List (String × DataW Unit)} (h : laidMet Tryz.prog (("internal/strconv.uint64pow10", Lib.tabData .u64 Lib.pow10Tab) :: rest) W) : Dt.Tab W :=
 Lib.tabIs_of_head (g:=0) (t:=234) (e:=187) (n:=20) (by kernel_rfl) (by kernel_rfl) (by kernel_rfl) (by kernel_rfl) (by kernel_rfl) (by kernel_rfl) h
theorem k10_of {W : World} {a b c d : String × DataW Unit} (hc : c = ("internal/strconv.uint64pow10", Lib.tabData .u64 Lib.pow10Tab)) (hd : d = ("poundage/parse.modes", .agg (P.modes.map fun z => .lit (.string z)))) (hp : ([a, b, c, d].all fun x => x.2.handleName?.isNone) = true)
  (h:laidMetH Tryz.prog [a,b,c,d] W) (hs:W.ShapedOpen Tryz.prog):L10.K10 W:=by
 rw [MakeChecks.laidMetH_plain _ _ _ hp] at h;subst hc hd;exact ⟨⟨Dc.mx_of hs,md_of h.tail.tail.tail⟩,pow_at h.tail.tail⟩
end Ld
end Go.Proofs.YtofbobdhkbmbgaaGreatDoor
