/- What package parse does: Parse, of every text. -/
import Derived.Test.YtofbobdhkbmbgaaGreatDoorJPaH
import Derived.Test.YtofbobdhkbmbgaaGreatDoorJLex4
set_option maxRecDepth 100000
set_option maxHeartbeats 8000000
namespace Go.Proofs.YtofbobdhkbmbgaaGreatDoor
namespace Pa
open Go.RowKit Go.Sort P Tl Mm Md L05
def PaQ (w:World) (r:Plan×Int×Int×Int) (x:Ending) (w':World):Prop:=
 ∃ma mc fa fc ca cc hs,x=.returned (.tuple #[.agg (planC r.1 ma mc fa fc ca cc).toArray,.agg #[.int .i64 r.2.1,.int .i64 r.2.2.1,.int .i64 r.2.2.2]])∧hs.length=r.1.charges.length∧Owns w' w.heap.size (rowOf r.1 ma mc fa fc ca cc hs)∧Below w.heap.size w w'
theorem results_two {P:Program} {fn:Func} {p q:Tmp} {ty ty2:TypeId} (h:fn.results = #[.cell p ty,.cell q ty2]) (tmps:Array Value) (w:World) (k k2:Nat) (cs cs2:List Value) (d d2:TypeDesc)
  (hp:tmps.getD p undef=.pointer (some ⟨k,0,none⟩)) (hc:w.rangeAt k 0 cs) (hu:P.underlying ty=some d) (hd:d.isRow=true) (hi:(P.info? ty).map (·.size)=some cs.length)
  (hp2:tmps.getD q undef=.pointer (some ⟨k2,0,none⟩)) (hc2:w.rangeAt k2 0 cs2) (hu2:P.underlying ty2=some d2) (hd2:d2.isRow=true) (hi2:(P.info? ty2).map (·.size)=some cs2.length) :
  (results fn tmps).run P w=.ok (.tuple #[.agg cs.toArray,.agg cs2.toArray]) w:=by
 have hp':tmps[p]?.getD undef=.pointer (some ⟨k,0,none⟩):=by simpa using hp
 have hp2':tmps[q]?.getD undef=.pointer (some ⟨k2,0,none⟩):=by simpa using hp2
 simp [results,h,hp',hp2',asAddr,run_loadVar_mid w k 0 ty cs d hc hu hd hi,run_loadVar_mid w k2 0 ty2 cs2 d2 hc2 hu2 hd2 hi2]
theorem quiet_store' {P:Program} {o:Oper} {a:Act} {C:World→Prop} {K:Act→Prop} (hd:o.dst=none) (ty:TypeId) (x y:Operand) (ho:o.op=.store ty x y) (b i:Nat) (cells:Array Value) (hx:a.eval x=.pointer (some ⟨b,i,none⟩)) (hy:a.eval y=.agg cells)
  (hC:∀w,C w→w.rangeAt b i cells.toList∧w.there b i cells.size) (hi:(P.info? ty).map (·.size)=some cells.size) (h1:cells.all (·.oneCell')=true) (h:K a):o.quiet P a C K:=
 quiet_store ty x y ho b i cells hx hy hC hi h1 (by rw [hd];exact h)
theorem rd_new {W:World} {tb cap:Nat} {tz:List Tok} (t:TypeId) (lies:LieAt W tb 0 tz) (k:Ky W) (r1:tz.length≤cap) (r2:cap≤9223372036854775807) (hf:Fine tz) (hk:Knd tz) :
  Rd (W.alloc (.cells #[.slice (some ⟨tb,0,none⟩) tz.length cap,.int .i64 0,.int .i64 0,.int .i64 0] t)) W.heap.size tb cap tz st0:=by
 have B:=Bx.new W [.slice (some ⟨tb,0,none⟩) tz.length cap,.int .i64 0,.int .i64 0,.int .i64 0] t;have b:=(Below.refl W.heap.size W).alloc (Nat.le_refl _) (.cells #[.slice (some ⟨tb,0,none⟩) tz.length cap,.int .i64 0,.int .i64 0,.int .i64 0] t);have L:=lies.on b;refine ⟨B.lt,by rw [show vw tz st0=0 from rfl];exact B.cell 0 _ rfl,B.cell 1 _ rfl,B.cell 2 _ rfl,B.cell 3 _ rfl,B.free,lies.1,fun j x hj=>?_,by have:=hf.cnt;omega,⟨r1,r2⟩,fun x hx=>by have:=(hf.tok x hx).1;omega,hk,⟨hf.toks,hf.toks.pos⟩,fun _=>⟨rfl,rfl⟩,k.later b,k.lt⟩;have:=L.2 j x hj;rw [Nat.zero_add] at this;exact this
theorem bx_setCells {b k:Nat} {cs:List Value} (hne:k≠b):∀(vs:List Value) (o:Nat) (w:World),Bx w b cs→Bx (w.setCells k o vs) b cs
 | [],_,_,h=>h
 | v::r,o,_,h=>bx_setCells hne r (o+1) _ (h.other (p:=⟨k,o,none⟩) (fun e=>hne e.symm) v)
theorem size_setCells (k:Nat):∀(vs:List Value) (o:Nat) (w:World),(w.setCells k o vs).heap.size=w.heap.size
 | [],_,_=>rfl
 | _::r,o,w=>by rw [World.setCells,size_setCells k r (o+1)];simp
theorem lexed_zero {l:List UInt8} (h:(lexed l).2.1=0):(lexed l).2=(0,0,0):=by
 unfold lexed at h ⊢;split at h
 ·cases h
 ·rename_i hl
  rw [if_neg hl];cases hx:(lex l 1 1).2 with
  | none=>rfl
  | some x=>rw [hx] at h;cases h
theorem parse_bad (l:ByteArray) (w:World) (k:Ky w) (tz:List Tok) (e1 e2 e3:Nat) (hlx:lexed l.data.toList=(tz,e1,e2,e3)) (he:e1≠0) :
  Calls Tryz.prog 18 #[.string l] w (PaQ w (planZ,e1,e2,e3)):=by
 obtain ⟨kr,hkr⟩:∃kr,kr=w.heap.size:=⟨_,rfl⟩;obtain ⟨kf,hkf⟩:∃kf,kf=w.heap.size+1:=⟨_,rfl⟩;obtain ⟨w0,hw0⟩:∃w0,w0=w.alloc (.cells #[.string ⟨#[]⟩,.string ⟨#[]⟩,.int .i64 0,.int .i64 0,.int .i64 0,.int .i64 0,.int .i64 0,.int .i64 0,.slice none 0 0,.slice none 0 0,.slice none 0 0,.int .i64 0,.int .i64 0] 41):=⟨_,rfl⟩;obtain ⟨w1,hw1⟩:∃w1,w1=w0.alloc (.cells #[.int .i64 0,.int .i64 0,.int .i64 0] 30):=⟨_,rfl⟩;have b0:Below w.heap.size w w0:=by rw [hw0];exact (Below.refl _ _).alloc (Nat.le_refl _) _
 have b1:Below w0.heap.size w0 w1:=by rw [hw1];exact (Below.refl _ _).alloc (Nat.le_refl _) _
 have sz0:w0.heap.size=kf:=by rw [hw0,hkf];simp
 have R0:Bx w0 kr [.string ⟨#[]⟩,.string ⟨#[]⟩,.int .i64 0,.int .i64 0,.int .i64 0,.int .i64 0,.int .i64 0,.int .i64 0,.slice none 0 0,.slice none 0 0,.slice none 0 0,.int .i64 0,.int .i64 0]:=by rw [hw0,hkr];exact Bx.new _ _ _
 have F1:Bx w1 kf [.int .i64 0,.int .i64 0,.int .i64 0]:=by rw [hw1,←sz0];exact Bx.new _ _ _
 have R1:=R0.on b1;have b01:=bel_on' b0 b1;have cL:=Le.lex_walk l w1 (k.1.later b01);have HKR:=hid hkr;have HKF:=hid hkf;have HW0:=hid hw0;have HW1:=hid hw1;have SZ0:=hid sz0;have hrf:kr≠kf:=by omega
 have hfr:kf≠kr:=by omega
 have KW:=hid (k.later b01);rw [hlx] at cL;simp only [flt] at cL;obtain ⟨x1,hx1⟩:∃x1:Int,x1=(e1:Int):=⟨_,rfl⟩;obtain ⟨x2,hx2⟩:∃x2:Int,x2=(e2:Int):=⟨_,rfl⟩;obtain ⟨x3,hx3⟩:∃x3:Int,x3=(e3:Int):=⟨_,rfl⟩;rw [←hx1,←hx2,←hx3] at cL ⊢;have n1:(x1==0)=false:=by simp;omega
 clear hlx hw0 hw1 hkr hkf hx1 hx2 hx3 he b0 b1 sz0 R0 k;go_enter Tryz.func18,Tryz.ntmps18
 go_wp2_with fail
 rw [←HW0.out,←HW1.out,←HKF.out,←HKR.out];refine cL.mono ?_;rintro e w2 ⟨v,rfl,own2,b2⟩;obtain ⟨w3,hw3⟩:∃w3,w3=w2.alloc (.cells #[.int .i64 x1,.int .i64 x2,.int .i64 x3] 30):=⟨_,rfl⟩;have b3:Below w2.heap.size w2 w3:=by rw [hw3];exact (Below.refl _ _).alloc (Nat.le_refl _) _
 have E3:Bx w3 w2.heap.size [.int .i64 x1,.int .i64 x2,.int .i64 x3]:=by rw [hw3];exact Bx.new _ _ _
 obtain ⟨ke,hke⟩:∃ke,ke=w2.heap.size:=⟨_,rfl⟩;rw [←hke] at E3;have R3:=hid ((R1.on b2).on b3);have F3:=hid ((F1.on b2).on b3);have B3:=hid (bel_on' (bel_on' b01 b2) b3);have HW3:=hid hw3;have HKE:=hid hke;clear own2 cL b01 b2 b3 hw3 hke R1 F1;go_upto_region 2 with fail
 rw [←HW3.out,←HKE.out];have y0:=E3.cell 0 _ rfl;have y1:=E3.cell 1 _ rfl;have y2:=E3.cell 2 _ rfl;go_upto_region 3 with fail
 have k0:=cell_regrown y0;have k1:=cell_regrown y1;have k2:=cell_regrown y2
 have KZ:Hid (∀(d:Nat) (os:Array Obj),(grow (redrawn w3 d) os).rangeAt kr 0 [.string ⟨#[]⟩,.string ⟨#[]⟩,.int .i64 0,.int .i64 0,.int .i64 0,.int .i64 0,.int .i64 0,.int .i64 0,.slice none 0 0,.slice none 0 0,.slice none 0 0,.int .i64 0,.int .i64 0]∧(grow (redrawn w3 d) os).there kr 0 13):=hid fun d os=>by
  have B:=R3.out.on (below_regrown w3 d os);exact ⟨range_of B.cell,there_of B.cell B.free (n:=13) rfl⟩
 clear y0 y1 y2 n1;have RB:=R3;have FB:=F3;have BB:=B3;refine region_tail_below 3 (by kernel_rfl) (by kernel_rfl) ?_;simp only [List.take_succ_cons,List.take_zero,List.drop_succ_cons,List.drop_zero];repeat (go_big_quiet_step (fail))
 go_big_quiet_want
 refine quiet_store' rfl 41 (.tmp 2) (.tmp 16) rfl kr 0 #[.string ⟨#[]⟩,.string ⟨#[]⟩,.int .i64 0,.int .i64 0,.int .i64 0,.int .i64 0,.int .i64 0,.int .i64 0,.slice none 0 0,.slice none 0 0,.slice none 0 0,.int .i64 0,.int .i64 0] (by go_simp) (by go_simp) (fun W hW=>?_) (by kernel_rfl) (by simp [Value.oneCell']) ?_
 ·obtain ⟨⟨d,os⟩,rfl⟩:=hW;exact ⟨(KZ.out d os).1,by simpa using (KZ.out d os).2⟩
 go_big_quiet_on
 refine wpQuiet_nil ?_;intro _ hw';obtain ⟨⟨dq,osq⟩,hw''⟩:=hw';subst hw'';obtain ⟨wz,hwz⟩:∃wz,wz=grow (redrawn w3 dq) osq:=⟨_,rfl⟩;have bz:Below w3.heap.size w3 wz:=by rw [hwz];exact below_regrown w3 dq osq
 rw [←hwz];have RZ:=hid (RB.out.on bz);have FZ:=FB.out.on bz;have z0:=FZ.cell 0 _ rfl;have z1:=FZ.cell 1 _ rfl;have z2:=FZ.cell 2 _ rfl;have f0:=FZ.free 0;have f1:=FZ.free 1;have f2:=FZ.free 2;have lz:=FZ.lt;have HFZ:=hid FZ;have BZ:=hid (bel_on' BB.out bz);clear hwz k0 k1 k2 bz FZ;go_wp2;obtain ⟨wy,hwy⟩:∃wy,wy=((wz.setCell ⟨kf,0,none⟩ (.int .i64 x1)).setCell ⟨kf,1,none⟩ (.int .i64 x2)).setCell ⟨kf,2,none⟩ (.int .i64 x3):=⟨_,rfl⟩;have FY:Bx wy kf [.int .i64 x1,.int .i64 x2,.int .i64 x3]:=by rw [hwy];exact ((HFZ.out.set 0 _).set 1 _).set 2 _
 have RY:Bx wy kr [.string ⟨#[]⟩,.string ⟨#[]⟩,.int .i64 0,.int .i64 0,.int .i64 0,.int .i64 0,.int .i64 0,.int .i64 0,.slice none 0 0,.slice none 0 0,.slice none 0 0,.int .i64 0,.int .i64 0]:=by rw [hwy];exact ((RZ.out.other (p:=⟨kf,0,none⟩) hrf _).other (p:=⟨kf,1,none⟩) hrf _).other (p:=⟨kf,2,none⟩) hrf _
 have hkf:w.heap.size≤kf:=by have:=HKF.out;omega
 have BY:Below w.heap.size w wy:=by rw [hwy];exact ((BZ.out.setCell (p:=⟨kf,0,none⟩) hkf _).setCell (p:=⟨kf,1,none⟩) hkf _).setCell (p:=⟨kf,2,none⟩) hkf _
 rw [←hwy];refine bodyPost_ret (v:=.tuple #[.agg #[.string ⟨#[]⟩,.string ⟨#[]⟩,.int .i64 0,.int .i64 0,.int .i64 0,.int .i64 0,.int .i64 0,.int .i64 0,.slice none 0 0,.slice none 0 0,.slice none 0 0,.int .i64 0,.int .i64 0],.agg #[.int .i64 x1,.int .i64 x2,.int .i64 x3]]) ?_ rfl ?_
 ·exact results_two (p:=2) (q:=3) rfl _ _ kr kf [.string ⟨#[]⟩,.string ⟨#[]⟩,.int .i64 0,.int .i64 0,.int .i64 0,.int .i64 0,.int .i64 0,.int .i64 0,.slice none 0 0,.slice none 0 0,.slice none 0 0,.int .i64 0,.int .i64 0] [.int .i64 x1,.int .i64 x2,.int .i64 x3] _ _ rfl (range_of RY.cell) Tryz.underlying41 rfl (by kernel_rfl) rfl (range_of FY.cell) Tryz.underlying30 rfl (by kernel_rfl)
 exact ⟨none,0,none,0,none,0,[],rfl,rfl,owns_none _ _ _ _ _ _ _ _,BY⟩
theorem parse_good (l:ByteArray) (w:World) (k:Ky w) (tz:List Tok) (hlx:lexed l.data.toList=(tz,0,0,0)) (hf:Fine tz) (hkn:Knd tz) :
  Calls Tryz.prog 18 #[.string l] w (PaQ w (planS tz)):=by
 obtain ⟨kr,hkr⟩:∃kr,kr=w.heap.size:=⟨_,rfl⟩;obtain ⟨kf,hkf⟩:∃kf,kf=w.heap.size+1:=⟨_,rfl⟩;obtain ⟨w0,hw0⟩:∃w0,w0=w.alloc (.cells #[.string ⟨#[]⟩,.string ⟨#[]⟩,.int .i64 0,.int .i64 0,.int .i64 0,.int .i64 0,.int .i64 0,.int .i64 0,.slice none 0 0,.slice none 0 0,.slice none 0 0,.int .i64 0,.int .i64 0] 41):=⟨_,rfl⟩;obtain ⟨w1,hw1⟩:∃w1,w1=w0.alloc (.cells #[.int .i64 0,.int .i64 0,.int .i64 0] 30):=⟨_,rfl⟩;have b0:Below w.heap.size w w0:=by rw [hw0];exact (Below.refl _ _).alloc (Nat.le_refl _) _
 have b1:Below w0.heap.size w0 w1:=by rw [hw1];exact (Below.refl _ _).alloc (Nat.le_refl _) _
 have sz0:w0.heap.size=kf:=by rw [hw0,hkf];simp
 have R0:Bx w0 kr [.string ⟨#[]⟩,.string ⟨#[]⟩,.int .i64 0,.int .i64 0,.int .i64 0,.int .i64 0,.int .i64 0,.int .i64 0,.slice none 0 0,.slice none 0 0,.slice none 0 0,.int .i64 0,.int .i64 0]:=by rw [hw0,hkr];exact Bx.new _ _ _
 have F1:Bx w1 kf [.int .i64 0,.int .i64 0,.int .i64 0]:=by rw [hw1,←sz0];exact Bx.new _ _ _
 have R1:=R0.on b1;have b01:=bel_on' b0 b1;have cL:=Le.lex_walk l w1 (k.1.later b01);have HKR:=hid hkr;have HKF:=hid hkf;have HW0:=hid hw0;have HW1:=hid hw1;have SZ0:=hid sz0;have hrf:kr≠kf:=by omega
 have hfr:kf≠kr:=by omega
 have KW:=hid (k.later b01);rw [hlx] at cL;simp only [flt] at cL;obtain ⟨R,hR⟩:∃R,R=itemsS tz tz.length (headS tz st0).2 (headS tz st0).1:=⟨_,rfl⟩;have hPS:planS tz=if R.2.err=0 then (R.1,0,0,0) else (planZ,R.2.err,R.2.ln,R.2.cl):=by rw [hR];rfl
 obtain ⟨PS,hps⟩:∃PS,PS=planS tz:=⟨_,rfl⟩;rw [←hps] at hPS ⊢;have HPS:=hid hPS;have HR:=hid hR;have HF:=hid hf;have HN:=hid hkn;clear hlx hw0 hw1 hkr hkf b0 b1 sz0 R0 k hR hPS hps hf hkn;go_enter Tryz.func18,Tryz.ntmps18
 go_wp2_with fail
 rw [←HW0.out,←HW1.out,←HKF.out,←HKR.out];refine cL.mono ?_;rintro e w2 ⟨v,rfl,⟨ao,cap,rfl,room1,room2,lies⟩,b2⟩;obtain ⟨tb,rfl,LL⟩:=lies (fun e=>by have:=HF.out.toks.pos;rw [e] at this;exact Nat.lt_irrefl _ this);obtain ⟨w3,hw3⟩:∃w3,w3=w2.alloc (.cells #[.int .i64 0,.int .i64 0,.int .i64 0] 30):=⟨_,rfl⟩;have b3:Below w2.heap.size w2 w3:=by rw [hw3];exact (Below.refl _ _).alloc (Nat.le_refl _) _
 have E3:Bx w3 w2.heap.size [.int .i64 0,.int .i64 0,.int .i64 0]:=by rw [hw3];exact Bx.new _ _ _
 obtain ⟨ke,hke⟩:∃ke,ke=w2.heap.size:=⟨_,rfl⟩;rw [←hke] at E3;obtain ⟨w4,hw4⟩:∃w4,w4=w3.alloc (.cells #[.slice (some ⟨tb,0,none⟩) tz.length cap,.int .i64 0,.int .i64 0,.int .i64 0] 110):=⟨_,rfl⟩;have b4:Below w3.heap.size w3 w4:=by rw [hw4];exact (Below.refl _ _).alloc (Nat.le_refl _) _
 obtain ⟨b,hb⟩:∃b,b=w3.heap.size:=⟨_,rfl⟩;have D4:Rd w4 b tb cap tz st0:=by rw [hw4,hb];exact rd_new _ (LL.on b3) ((KW.out.later b2).later b3) room1 room2 HF.out HN.out
 have R4:=hid (((R1.on b2).on b3).on b4);have F4:=hid (((F1.on b2).on b3).on b4);have B4:=hid (bel_on' (bel_on' (bel_on' b01 b2) b3) b4);have nbr:some kr≠some b:=fun e=>by have:=Option.some.inj e;have:=(R1.on b2).lt;have:=b3.size;omega
 have nbf:some kf≠some b:=fun e=>by have:=Option.some.inj e;have:=(F1.on b2).lt;have:=b3.size;omega
 have hbw:w.heap.size≤b:=by have:=b01.size;have:=b2.size;have:=b3.size;omega
 have eb:Hid (w2.heap.size+1=b):=hid (by rw [hb,hw3];simp);have y0:=E3.cell 0 _ rfl;have y1:=E3.cell 1 _ rfl;have y2:=E3.cell 2 _ rfl;have HW3:=hid hw3;have HW4:=hid hw4;have HKE:=hid hke;have HBB:=hid hb;have cP:=plan_any b tb cap tz w4 D4;rw [←HR.out] at cP;clear cL b01 b2 b3 b4 hw3 hw4 hke hb R1 F1 lies LL D4 room1 room2;go_upto_region 2 with fail
 rw [←HW3.out,←HKE.out];go_upto_region 5 with fail
 rw [show w3.alloc (.cells #[.slice (some ⟨tb,0,none⟩) tz.length cap,.int .i64 0,.int .i64 0,.int .i64 0] 110)=w4 from HW4.out.symm,←HBB.out];clear y0 y1 y2 E3;go_wp2_with fail
 refine cP.mono ?_;rintro e w5 ⟨ma,mc,fa,fc,ca,cc,hs,rfl,hl,ow,q,g⟩;obtain ⟨p,hp⟩:∃p,p=R.1:=⟨_,rfl⟩;obtain ⟨σ,hσ⟩:∃σ,σ=R.2:=⟨_,rfl⟩;rw [←hp] at hl ow ⊢;rw [←hσ] at q;have HP:=hid hp;have HS:=hid hσ;obtain ⟨w6,hw6⟩:∃w6,w6=w5.alloc (.cells #[p.name,p.cur,p.a.y,p.a.m,p.a.d,p.b.y,p.b.m,p.b.d,.slice ma p.meters.length mc,.slice fa p.fees.length fc,.slice ca p.charges.length cc,p.line,p.col] 41):=⟨_,rfl⟩;have b6:Below w5.heap.size w5 w6:=by rw [hw6];exact (Below.refl _ _).alloc (Nat.le_refl _) _
 have X6:Bx w6 w5.heap.size [p.name,p.cur,p.a.y,p.a.m,p.a.d,p.b.y,p.b.m,p.b.d,.slice ma p.meters.length mc,.slice fa p.fees.length fc,.slice ca p.charges.length cc,p.line,p.col]:=by rw [hw6];exact Bx.new _ _ _
 obtain ⟨kp,hkp⟩:∃kp,kp=w5.heap.size:=⟨_,rfl⟩;rw [←hkp] at X6;have B5:Below w.heap.size w w5:=B4.out.grown g B4.out.size (fun k e=>by have:=Option.some.inj e;omega);have RB:=hid ((R4.out.grown g nbr).on b6);have FB:=hid ((F4.out.grown g nbf).on b6);have BB:=hid (bel_on' B5 b6);have Q6:=hid (q.on b6);have OW:=hid (Owns.on ow b6);have HL:=hid hl;have HW6:=hid hw6;have HKP:=hid hkp;have HX:=hid X6;clear cP ow q g b6 X6 B5 hw6 hkp hl nbr nbf hbw hp hσ;unfold planC
 go_upto_region 6 with (first
  | (with_reducible refine wpList_store_new (op:=Oper.mk none (Op.store 41 (Operand.tmp 7) (Operand.tmp 20)) _ _ _ _) ?_ 41 (.tmp 7) (.tmp 20) ?_ w5 #[.string ⟨#[]⟩,.string ⟨#[]⟩,.int .i64 0,.int .i64 0,.int .i64 0,.int .i64 0,.int .i64 0,.int .i64 0,.slice none 0 0,.slice none 0 0,.slice none 0 0,.int .i64 0,.int .i64 0] #[p.name,p.cur,p.a.y,p.a.m,p.a.d,p.b.y,p.b.m,p.b.d,.slice ma p.meters.length mc,.slice fa p.fees.length fc,.slice ca p.charges.length cc,p.line,p.col] ?_ ?_ ?_ ?_ ?_ ?_;rfl;rfl;go_simp;go_simp;kernel_rfl;rfl;(simp [Value.oneCell']))
  | fail)
 rw [←HW6.out,←HKP.out];have c1:=Q6.out.c1;have c2:=Q6.out.c2;have c3:=Q6.out.c3;by_cases h0:σ.err=0
 ·rw [h0] at c1;rw [(Q6.out.z h0).1] at c2;rw [(Q6.out.z h0).2] at c3;have PE:Hid (PS=(p,0,0,0)):=hid (by rw [HPS.out,←HS.out,if_pos h0,HP.out]);have rx:Hid (w6.rangeAt kp 0 [p.name,p.cur,p.a.y,p.a.m,p.a.d,p.b.y,p.b.m,p.b.d,.slice ma p.meters.length mc,.slice fa p.fees.length fc,.slice ca p.charges.length cc,p.line,p.col]):=hid (range_of HX.out.cell);have rz:Hid (w6.there kr 0 13):=hid (there_of RB.out.cell RB.out.free (n:=13) rfl);have hkr:w.heap.size≤kr:=by have:=HKR.out;omega
  have hkrb:kr<w4.heap.size:=R4.out.lt;have FZ:Hid (Bx (w6.setCells kr 0 [p.name,p.cur,p.a.y,p.a.m,p.a.d,p.b.y,p.b.m,p.b.d,.slice ma p.meters.length mc,.slice fa p.fees.length fc,.slice ca p.charges.length cc,p.line,p.col]) kf [.int .i64 0,.int .i64 0,.int .i64 0]):=hid (bx_setCells hrf _ _ _ FB.out);clear h0;go_upto_region 8 with fail
  have z0:=FZ.out.cell 0 _ rfl;have z1:=FZ.out.cell 1 _ rfl;have z2:=FZ.out.cell 2 _ rfl;have f0:=FZ.out.free 0;have f1:=FZ.out.free 1;have f2:=FZ.out.free 2;have lz:=FZ.out.lt;clear c1 c2 c3
  go_wp2_with (first
   | (with_reducible refine wpList_load_mid (op:=Oper.mk (some 28) (Op.load 41 (Operand.tmp 7)) _ _ _ _) ?_ 41 (.tmp 7) ?_ kp 0 ?_ [p.name,p.cur,p.a.y,p.a.m,p.a.d,p.b.y,p.b.m,p.b.d,.slice ma p.meters.length mc,.slice fa p.fees.length fc,.slice ca p.charges.length cc,p.line,p.col] _ rx.out Tryz.underlying41 ?_ ?_ ?_;rfl;rfl;go_simp;rfl;kernel_rfl)
   | (with_reducible refine wpList_store_mid (op:=Oper.mk none (Op.store 41 (Operand.tmp 2) (Operand.tmp 28)) _ _ _ _) ?_ 41 (.tmp 2) (.tmp 28) ?_ kr 0 #[p.name,p.cur,p.a.y,p.a.m,p.a.d,p.b.y,p.b.m,p.b.d,.slice ma p.meters.length mc,.slice fa p.fees.length fc,.slice ca p.charges.length cc,p.line,p.col] ?_ ?_ ?_ ?_ ?_ ?_;rfl;rfl;go_simp;go_simp;(simpa using rz.out);kernel_rfl;(simp [Value.oneCell']))
   | fail)
  have rr:(w6.setCells kr 0 [p.name,p.cur,p.a.y,p.a.m,p.a.d,p.b.y,p.b.m,p.b.d,.slice ma p.meters.length mc,.slice fa p.fees.length fc,.slice ca p.charges.length cc,p.line,p.col]).rangeAt kr 0 [p.name,p.cur,p.a.y,p.a.m,p.a.d,p.b.y,p.b.m,p.b.d,.slice ma p.meters.length mc,.slice fa p.fees.length fc,.slice ca p.charges.length cc,p.line,p.col]:=World.rangeAt_setCells_same _ _ _ _ rz.out;have lkr:kr<(w6.setCells kr 0 [p.name,p.cur,p.a.y,p.a.m,p.a.d,p.b.y,p.b.m,p.b.d,.slice ma p.meters.length mc,.slice fa p.fees.length fc,.slice ca p.charges.length cc,p.line,p.col]).heap.size:=Nat.lt_of_lt_of_le RB.out.lt (Nat.le_of_eq (size_setCells kr _ 0 w6).symm);obtain ⟨w7,hw7⟩:∃w7,w7=w6.setCells kr 0 [p.name,p.cur,p.a.y,p.a.m,p.a.d,p.b.y,p.b.m,p.b.d,.slice ma p.meters.length mc,.slice fa p.fees.length fc,.slice ca p.charges.length cc,p.line,p.col]:=⟨_,rfl⟩;rw [←hw7] at rr lkr FZ ⊢;have hkrb:kr<w4.heap.size:=R4.out.lt;have hkfb:kf<w4.heap.size:=F4.out.lt;have hkf:w.heap.size≤kf:=by have:=HKF.out;omega
  have O7:∀s r,rowOf p ma mc fa fc ca cc hs s=some r→w7.ownsRow w4.heap.size r.e r.size r.v r.n r.xs:=fun s r hs=>by rw [hw7];exact owns_setCells_below hkrb _ _ _ (OW.out.own s r hs)
  have B7:Below w.heap.size w w7:=by rw [hw7];exact below_setCells hkr _ _ _ BB.out
  obtain ⟨wy,hwy⟩:∃wy,wy=((w7.setCell ⟨kf,0,none⟩ (.int .i64 0)).setCell ⟨kf,1,none⟩ (.int .i64 0)).setCell ⟨kf,2,none⟩ (.int .i64 0):=⟨_,rfl⟩;have FY:Bx wy kf [.int .i64 0,.int .i64 0,.int .i64 0]:=by rw [hwy];exact ((FZ.out.set 0 _).set 1 _).set 2 _
  have RY:wy.rangeAt kr 0 [p.name,p.cur,p.a.y,p.a.m,p.a.d,p.b.y,p.b.m,p.b.d,.slice ma p.meters.length mc,.slice fa p.fees.length fc,.slice ca p.charges.length cc,p.line,p.col]:=fun j u hj=>by
   rw [hwy,World.cell?_setCell_other (h:=fun e=>hrf (congrArg Addr.block e).symm),World.cell?_setCell_other (h:=fun e=>hrf (congrArg Addr.block e).symm),World.cell?_setCell_other (h:=fun e=>hrf (congrArg Addr.block e).symm)];exact rr j u hj
  rw [←hwy];refine bodyPost_ret (v:=.tuple #[.agg #[p.name,p.cur,p.a.y,p.a.m,p.a.d,p.b.y,p.b.m,p.b.d,.slice ma p.meters.length mc,.slice fa p.fees.length fc,.slice ca p.charges.length cc,p.line,p.col],.agg #[.int .i64 0,.int .i64 0,.int .i64 0]]) ?_ rfl ?_
  ·exact results_two (p:=2) (q:=3) rfl _ _ kr kf [p.name,p.cur,p.a.y,p.a.m,p.a.d,p.b.y,p.b.m,p.b.d,.slice ma p.meters.length mc,.slice fa p.fees.length fc,.slice ca p.charges.length cc,p.line,p.col] [.int .i64 0,.int .i64 0,.int .i64 0] _ _ rfl RY Tryz.underlying41 rfl (by kernel_rfl) rfl (range_of FY.cell) Tryz.underlying30 rfl (by kernel_rfl)
  rw [PE.out];refine ⟨ma,mc,fa,fc,ca,cc,hs,rfl,HL.out,⟨fun s r hs=>?_,OW.out.apart⟩,?_⟩
  ·rw [hwy];exact (ownsRow_setCell_below (ownsRow_setCell_below (ownsRow_setCell_below (O7 s r hs) (a:=⟨kf,0,none⟩) hkfb _) (a:=⟨kf,1,none⟩) hkfb _) (a:=⟨kf,2,none⟩) hkfb _).mono B4.out.size
  ·rw [hwy];exact ((B7.setCell (p:=⟨kf,0,none⟩) hkf _).setCell (p:=⟨kf,1,none⟩) hkf _).setCell (p:=⟨kf,2,none⟩) hkf _
 ·have n1:(σ.err==0)=false:=by simpa using h0
  have PE:Hid (PS=(planZ,σ.err,σ.ln,σ.cl)):=hid (by rw [HPS.out,←HS.out,if_neg h0]);clear h0;go_upto_region 7 with fail
  have k0:=cell_regrown c1;have k1:=cell_regrown c2;have k2:=cell_regrown c3
  have KZ:Hid (∀(d:Nat) (os:Array Obj),(grow (redrawn w6 d) os).rangeAt kr 0 [.string ⟨#[]⟩,.string ⟨#[]⟩,.int .i64 0,.int .i64 0,.int .i64 0,.int .i64 0,.int .i64 0,.int .i64 0,.slice none 0 0,.slice none 0 0,.slice none 0 0,.int .i64 0,.int .i64 0]∧(grow (redrawn w6 d) os).there kr 0 13):=hid fun d os=>by
   have B:=RB.out.on (below_regrown w6 d os);exact ⟨range_of B.cell,there_of B.cell B.free (n:=13) rfl⟩
  clear c1 c2 c3 n1;refine region_tail_below 4 (by kernel_rfl) (by kernel_rfl) ?_;simp only [List.take_succ_cons,List.take_zero,List.drop_succ_cons,List.drop_zero];repeat (go_big_quiet_step (fail))
  go_big_quiet_want
  refine quiet_store' rfl 41 (.tmp 2) (.tmp 25) rfl kr 0 #[.string ⟨#[]⟩,.string ⟨#[]⟩,.int .i64 0,.int .i64 0,.int .i64 0,.int .i64 0,.int .i64 0,.int .i64 0,.slice none 0 0,.slice none 0 0,.slice none 0 0,.int .i64 0,.int .i64 0] (by go_simp) (by go_simp) (fun W hW=>?_) (by kernel_rfl) (by simp [Value.oneCell']) ?_
  ·obtain ⟨⟨d,os⟩,rfl⟩:=hW;exact ⟨(KZ.out d os).1,by simpa using (KZ.out d os).2⟩
  go_big_quiet_on
  refine wpQuiet_nil ?_;intro _ hw';obtain ⟨⟨dq,osq⟩,hw''⟩:=hw';subst hw'';obtain ⟨wz,hwz⟩:∃wz,wz=grow (redrawn w6 dq) osq:=⟨_,rfl⟩;have bz:Below w6.heap.size w6 wz:=by rw [hwz];exact below_regrown w6 dq osq
  rw [←hwz];have RZ:=hid (RB.out.on bz);have FZ:=FB.out.on bz;have z0:=FZ.cell 0 _ rfl;have z1:=FZ.cell 1 _ rfl;have z2:=FZ.cell 2 _ rfl;have f0:=FZ.free 0;have f1:=FZ.free 1;have f2:=FZ.free 2;have lz:=FZ.lt;have HFZ:=hid FZ;have BZ:=hid (bel_on' BB.out bz);clear hwz k0 k1 k2 bz FZ;go_wp2;obtain ⟨wy,hwy⟩:∃wy,wy=((wz.setCell ⟨kf,0,none⟩ (.int .i64 σ.err)).setCell ⟨kf,1,none⟩ (.int .i64 σ.ln)).setCell ⟨kf,2,none⟩ (.int .i64 σ.cl):=⟨_,rfl⟩;have FY:Bx wy kf [.int .i64 σ.err,.int .i64 σ.ln,.int .i64 σ.cl]:=by rw [hwy];exact ((HFZ.out.set 0 _).set 1 _).set 2 _
  have RY:Bx wy kr [.string ⟨#[]⟩,.string ⟨#[]⟩,.int .i64 0,.int .i64 0,.int .i64 0,.int .i64 0,.int .i64 0,.int .i64 0,.slice none 0 0,.slice none 0 0,.slice none 0 0,.int .i64 0,.int .i64 0]:=by rw [hwy];exact ((RZ.out.other (p:=⟨kf,0,none⟩) hrf _).other (p:=⟨kf,1,none⟩) hrf _).other (p:=⟨kf,2,none⟩) hrf _
  have hkf:w.heap.size≤kf:=by have:=HKF.out;omega
  have BY:Below w.heap.size w wy:=by rw [hwy];exact ((BZ.out.setCell (p:=⟨kf,0,none⟩) hkf _).setCell (p:=⟨kf,1,none⟩) hkf _).setCell (p:=⟨kf,2,none⟩) hkf _
  rw [←hwy];refine bodyPost_ret (v:=.tuple #[.agg #[.string ⟨#[]⟩,.string ⟨#[]⟩,.int .i64 0,.int .i64 0,.int .i64 0,.int .i64 0,.int .i64 0,.int .i64 0,.slice none 0 0,.slice none 0 0,.slice none 0 0,.int .i64 0,.int .i64 0],.agg #[.int .i64 σ.err,.int .i64 σ.ln,.int .i64 σ.cl]]) ?_ rfl ?_
  ·exact results_two (p:=2) (q:=3) rfl _ _ kr kf [.string ⟨#[]⟩,.string ⟨#[]⟩,.int .i64 0,.int .i64 0,.int .i64 0,.int .i64 0,.int .i64 0,.int .i64 0,.slice none 0 0,.slice none 0 0,.slice none 0 0,.int .i64 0,.int .i64 0] [.int .i64 σ.err,.int .i64 σ.ln,.int .i64 σ.cl] _ _ rfl (range_of RY.cell) Tryz.underlying41 rfl (by kernel_rfl) rfl (range_of FY.cell) Tryz.underlying30 rfl (by kernel_rfl)
  rw [PE.out];exact ⟨none,0,none,0,none,0,[],rfl,rfl,owns_none _ _ _ _ _ _ _ _,BY⟩
theorem parse_any (l:ByteArray) (w:World) (k:Ky w):Calls Tryz.prog 18 #[.string l] w (PaQ w (parsed l.data.toList)):=by
 by_cases h:(lexed l.data.toList).2.1=0
 ·have e:parsed l.data.toList=planS (lexed l.data.toList).1:=by unfold parsed;simp only;rw [if_pos h]
  rw [e];exact parse_good l w k _ (by rw [←lexed_zero h]) (lexed_fine h) (lexed_knd _)
 ·have e:parsed l.data.toList=(planZ,((lexed l.data.toList).2.1:Int),((lexed l.data.toList).2.2.1:Int),((lexed l.data.toList).2.2.2:Int)):=by unfold parsed;simp only;rw [if_neg h]
  rw [e];exact parse_bad l w k _ _ _ _ rfl h
end Pa
end Go.Proofs.YtofbobdhkbmbgaaGreatDoor
