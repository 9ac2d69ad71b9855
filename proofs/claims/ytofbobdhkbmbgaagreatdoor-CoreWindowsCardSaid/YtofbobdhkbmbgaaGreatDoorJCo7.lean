/- Package core, walked: what Make answers of a plan with which nothing is wrong. -/
import Derived.Test.YtofbobdhkbmbgaaGreatDoorJTr14
set_option maxRecDepth 100000
set_option maxHeartbeats 64000000
namespace Go.Proofs.YtofbobdhkbmbgaaGreatDoor
namespace Te
open Go.RowKit Go.Sort P Mm R6 Tl L06
theorem names_own (p:Plan) (ma:Option Addr) (mc:Nat) (fa:Option Addr) (fc:Nat) (ca:Option Addr) (cc:Nat) (w:World) (hl:p.meters.length≤1000) (hp:PlanLies w (planC p ma mc fa fc ca cc) p ma mc fa fc ca cc) :
  Calls Tryz.prog 34 #[.agg (planC p ma mc fa fc ca cc).toArray] w fun e w'=>∃ao cap l,e=.returned (.slice ao l.length cap)∧w'.ownsRow w.heap.size 9 1 (.slice ao l.length cap) l.length (l.flatMap strC)∧l.Perm (p.meters.map fun m=>m.name)∧Rising l∧Below w.heap.size w w':=by
 obtain ⟨xs,hxs⟩:∃xs,xs=p.meters:=⟨_,rfl⟩;obtain ⟨n,hn⟩:∃n,n=xs.length:=⟨_,rfl⟩;obtain ⟨w0,hw0⟩:∃w0,w0=w.alloc (.cells (planC p ma mc fa fc ca cc).toArray 41):=⟨_,rfl⟩;have b0:Below w.heap.size w w0:=by rw [hw0];exact bel_alloc ..
 have s0:w.heap.size<w0.heap.size:=by rw [hw0];simp
 have K:Hid (∀W,Below w0.heap.size w0 W→W.cell? ⟨w.heap.size,8,none⟩=some (.slice ma n mc)):=hid fun W hb=>by
  rw [hb.cell s0,hw0,hn,hxs];exact cell1 rfl
 have hx:=hp.meters.on b0;rw [←hxs,←hn] at hx;rw [←hxs,←hn] at hl;rw [←hxs];have HX:=hid hx;have HN:=hid hn;have HW0:=hid hw0;have HB0:=hid b0;have HXS:=hid hxs;clear hx hn hw0 b0 hxs hp;obtain ⟨ti,hi,hz0,hz1,hz2⟩:=info_parts info_str;unfold planC at HW0 ⊢;go_enter Tryz.func34,Tryz.ntmps34
 go_upto_region 1 with fail
 rw [←HW0.out];have k8:=K.out w0 (Below.refl _ _);go_wp2_with (at_make;refine wpList_make_full _ rfl _ _ 66 rfl w0.heap.size 9 ti (.string ⟨#[]⟩) 1 Tryz.underlying66 hi hz0 hz1 _ _ _ _ n rfl rfl rfl rfl ?b2 ?b3 ?b4 ?_)
 case b2=>rw [hz2];omega
 case b3=>unfold maxLen;omega
 case b4=>exact Nat.le_refl _
 intro w1 hown hgrow;have hb1:Below w0.heap.size w0 w1:=(Below.refl _ w0).grown hgrow (Nat.le_refl _) (by intro k hk;cases hk);obtain ⟨g,hg⟩:∃g,g=w0.heap.size:=⟨_,rfl⟩;have HO:Hid (∃Z,w1.ownsRow g 9 1 (.slice (some ⟨g,0,none⟩) n n) n (((xs.take 0).map fun m=>m.name).flatMap strC++Z)):=hid ⟨_,by rw [hg];simpa using hown⟩;rw [←hg];have HG:=hid hg;have HB1:=hid hb1;have k8':=K.out w1 hb1;have l1:w.heap.size<w1.heap.size:=Nat.lt_of_lt_of_le s0 hb1.size;clear hown hgrow hg hb1 hi hz0 hz1 hz2 k8;go_wp2;clear k8' l1;go_loopw [13] (fun i wr=>∃i':Int,i=.int .i64 i'∧0≤i'∧i'≤n∧Hid (∃Z,wr.ownsRow g 9 1 (.slice (some ⟨g,0,none⟩) n n) n (((xs.take i'.toNat).map fun m=>m.name).flatMap strC++Z))∧Hid (Below w0.heap.size w0 wr)) (fun i _=>((n:Int)-intOf i).toNat)
 case atStart=>exact ⟨0,rfl,by omega,by omega,HO,HB1⟩
 case round=>
  obtain ⟨i',rfl,i0,i1,ho,hb⟩:=hrel;clear HO HB1;by_cases hlt:i'<n
  ·obtain ⟨x,tx⟩:∃x,xs[i'.toNat]?=some x:=⟨_,List.getElem?_eq_getElem (by have:=HN.out;omega)⟩;obtain ⟨bx,ox,e,lbx,x0,x1,x2,x3,x4,_⟩:=meter_at (HX.out.on hb.out) tx;subst e;have TX:=hid tx;have LN:Hid (((xs.take i'.toNat).map fun m=>m.name).length=i'.toNat):=hid (by have:=HN.out;simp;omega);obtain ⟨Z,ho⟩:=ho.out;have th:=there_push (C:=strC) (size:=1) ho (by rw [LN.out];omega);rw [LN.out,Nat.mul_one] at th;obtain ⟨hc,hf⟩:=th 0 (by omega);obtain ⟨u,hu⟩:=Option.isSome_iff_exists.1 hc;rw [Nat.add_zero] at hu hf;have lg:g<wr.heap.size:=(ho.lt g rfl).2;have HOO:=hid ho;clear tx ho th hc;go_wp2
   have key:∃Z,((wr.setCell ⟨g,i'.toNat,none⟩ (.string x.name)).alloc (.cells #[x.name,x.unit,x.max,x.line,x.col] 49)).ownsRow g 9 1 (.slice (some ⟨g,0,none⟩) n n) n (((xs.take (i'+1).toNat).map fun m=>m.name).flatMap strC++Z):=by
    obtain ⟨Z',k1,_⟩:=own_push (C:=strC) (size:=1) (fun _=>rfl) HOO.out (by rw [LN.out];omega) x.name;rw [LN.out,Nat.mul_one] at k1;refine ⟨Z',World.ownsRow.alloc ?_ _⟩;rw [show (i'+1).toNat=i'.toNat+1 by omega,List.take_add_one,TX.out,List.map_append];exact k1
   have KEY:=hid key;have HB2:Hid (Below w0.heap.size w0 ((wr.setCell ⟨g,i'.toNat,none⟩ (.string x.name)).alloc (.cells #[x.name,x.unit,x.max,x.line,x.col] 49))):=hid ((hb.out.setCell (p:=⟨g,i'.toNat,none⟩) (by rw [HG.out];exact Nat.le_refl _) _).alloc (by rw [World.size_setCell];exact hb.out.size) _);clear key;go_roundw
   case rel=>exact ⟨i'+1,rfl,by omega,by omega,KEY,HB2⟩
   case measure=>simp [intOf];omega
  ·obtain rfl:i'=n:=by omega
   obtain ⟨Z,ho⟩:=ho.out;have hn:=HN.out;have hf:=own_full (C:=strC) (size:=1) (fun _=>rfl) ho (by rw [List.length_map,List.length_take];omega);rw [List.take_of_length_le (by omega)] at hf;have hll:(xs.map fun m=>m.name).length=n:=by rw [List.length_map];omega
   have cS:=sort_any g n (xs.map fun m=>m.name) g wr (by rw [hll];exact hf) (by omega);rw [hll] at cS;clear ho hf hn hll;go_wp2_with fail
   refine cS.mono ?_;rintro e w3 ⟨l',rfl,hl',hpm,hri,how,hgr⟩;have R3:=hid (show w3.ownsRow w.heap.size 9 1 (.slice (some ⟨g,0,none⟩) l'.length n) l'.length (l'.flatMap strC) by rw [hl'];exact how.mono (by rw [HG.out];exact HB0.out.size));have B3:=hid (hb.out.grown hgr hb.out.size (by intro k hk;rw [HG.out] at hk;cases hk;exact Nat.le_refl _));have HP:=hid hpm;have HR:=hid hri;have HL:=hid hl';clear cS how hgr hpm hri hl';go_wp2;go_ret;refine ⟨_,_,l',by rw [HL.out];rfl,R3.out,HP.out,HR.out,bel_on HB0.out B3.out⟩
end Te
namespace Co
open Go.RowKit Go.Sort P Mm Md R6 R9 Cc
theorem gd_no {p:Plan} (h:Gd p):Gd (noPl p):=by
 refine ⟨h.name,h.days,fun m hm=>?_,fun f hf=>?_,fun c hc=>?_⟩
 ·obtain ⟨x,hx,rfl⟩:=List.mem_map.1 hm;exact h.meters x hx
 ·obtain ⟨x,hx,rfl⟩:=List.mem_map.1 hf;exact h.fees x hx
 ·obtain ⟨x,hx,rfl⟩:=List.mem_map.1 hc;have:=h.charges x hx;exact ⟨this.meter,this.win,this.allow,this.block,this.kind,this.tiers,this.mode,this.adjs⟩
theorem grow_up {w7 wr wb:World} {k:Nat} {r:Option Nat} (g1:w7.grownBy wr (some k)) (g2:wr.grownBy wb r) (hr:∀j,r=some j→w7.heap.size≤j):w7.grownBy wb (some k):=
 ⟨g2.os.trans g1.os,g2.tape.trans g1.tape,g2.output.trans g1.output,Nat.le_trans g1.size g2.size,fun j hj hne=>(g2.block j (Nat.lt_of_lt_of_le hj g1.size) (fun e=>by have:=hr j e.symm;omega)).trans (g1.block j hj hne)⟩
theorem grow_put {w7 wb:World} {k:Nat} (g:w7.grownBy wb (some k)) (o:Nat) (u:Value):w7.grownBy (wb.setCell ⟨k,o,none⟩ u) (some k):=
 ⟨g.os,g.tape,g.output,by simpa using g.size,fun j hj hne=>(Below.heap_setCell _ _ _ _ (by intro e;exact hne (by rw [e]))).trans (g.block j hj hne)⟩
theorem few_of {p:Plan} (h:(wrongOf p).1=0):p.meters.length≤4∧p.fees.length≤8∧p.charges.length≤8:=by
 obtain ⟨_,h1,h2,h3,_⟩:=wrongOf_zero.1 h;rw [firstE_none] at h1 h2 h3;refine ⟨?_,?_,?_⟩
 ·rcases Nat.lt_or_ge 4 p.meters.length with g|g
  ·have:=h1 4 _ (List.getElem?_eq_getElem g);unfold meterE at this;rw [if_pos (by omega)] at this;cases this
  ·exact g
 ·rcases Nat.lt_or_ge 8 p.fees.length with g|g
  ·have:=h2 8 _ (List.getElem?_eq_getElem g);unfold feeE at this;rw [if_pos (by omega)] at this;cases this
  ·exact g
 ·rcases Nat.lt_or_ge 8 p.charges.length with g|g
  ·have:=h3 8 _ (List.getElem?_eq_getElem g);unfold chE at this;rw [if_pos (by omega)] at this;cases this
  ·exact g
theorem meter_in {w:World} {b o len cap:Nat} {xs:List Meter} (h:Row tMeter w (some ⟨b,o,none⟩) len cap xs) {j:Nat} {m:Meter} (hj:xs[j]?=some m) :
  w.cell? ⟨b,o+j*5,none⟩=some (.string m.name)∧w.cell? ⟨b,o+j*5+1,none⟩=some (.string m.unit)∧w.cell? ⟨b,o+j*5+2,none⟩=some (.int .i64 m.max)∧w.cell? ⟨b,o+j*5+3,none⟩=some (.int .i64 m.line)∧w.cell? ⟨b,o+j*5+4,none⟩=some (.int .i64 m.col):=by
 obtain ⟨b',o',e,_,x0,x1,x2,x3,x4,_⟩:=meter_at h hj;simp only [Option.some.injEq,Addr.mk.injEq,and_true] at e;obtain ⟨rfl,rfl⟩:=e;exact ⟨x0,x1,x2,x3,x4⟩
theorem charge_own {W:World} {base:Nat} {p:Plan} {ma:Option Addr} {mc:Nat} {fa:Option Addr} {fc:Nat} {ca:Option Addr} {cc:Nat} {hs:List Hd} (ok:Fits p)
  (h:∀s r,rowOf p ma mc fa fc ca cc hs s=some r→W.ownsRow base r.e r.size r.v r.n r.xs) {j:Nat} {c:Charge} {d:Hd} (hj:p.charges[j]?=some c) (hd:hs[j]?=some d) :
  ∃g,ca=some ⟨g,0,none⟩∧g<W.heap.size∧W.rangeAt g (j*16) (chargeC c d.ta d.tc d.aa d.ac)∧Row tTier W d.ta c.tiers.length d.tc c.tiers∧Row tAdj W d.aa c.adjusts.length d.ac c.adjusts:=by
 have hc:=h .c _ rfl;have hzj:=zip_get hj hd;have hjl:=(List.getElem?_eq_some_iff.1 hj).1;obtain ⟨o1,o2,o3,o4,o5⟩:=ok.charges c (List.mem_of_getElem? hj);have ht:=h (.t j) ⟨_,2,d.ta,c.tiers.length,d.tc,c.tiers.flatMap tierC⟩ (by show Option.map _ ((p.charges.zip hs)[j]?)=_;rw [hzj];rfl);have ha:=h (.a j) ⟨_,3,d.aa,c.adjusts.length,d.ac,c.adjusts.flatMap adjC⟩ (by show Option.map _ ((p.charges.zip hs)[j]?)=_;rw [hzj];rfl);rcases hc.2 with ⟨h1,h2⟩|⟨g,cap,cur,h1,_,h3,h4,h5,_,_⟩
 ·replace h2:p.charges.length=0:=h2;omega
 ·simp only [R.v,Value.slice.injEq] at h1;obtain ⟨rfl,_,rfl⟩:=h1
  have hg:g<W.heap.size:=by
   rcases Nat.lt_or_ge g W.heap.size with k|k
   ·exact k
   ·rw [Array.getElem?_eq_none k] at h3;cases h3
  refine ⟨g,rfl,hg,fun i u hi=>?_,row_of_own ht o4,row_of_own ha o5⟩;have hil:i<16:=(List.getElem?_eq_some_iff.1 hi).1;have hlt:j*16+i<p.charges.length*16:=by omega
  rw [World.ownsRow.cellAt hc (j*16+i) hlt];exact flat_get (cells:=zC) zC_len _ j (c,d) i u hzj hi
theorem part_ix {p:Plan} (h:(wrongOf p).1=0) {j:Nat} {c:Charge} (hj:p.charges[j]?=some c):∃i,meterIx p.meters c.meter=some i:=by
 obtain ⟨_,_,_,h3,_⟩:=wrongOf_zero.1 h;rw [firstE_none] at h3;have:=h3 j c hj;unfold chE at this;cases hx:meterIx p.meters c.meter with
 | some i=>exact ⟨i,rfl⟩
 | none=>
   rw [hx] at this;split at this
   ·cases this
   ·rw [if_pos (.inl rfl)] at this;cases this
theorem dn_i64 {d:Day} (h:DayOk d):I64 (dn d):=by
 have:=num_bound h;unfold I64 dn;omega
theorem win_i64 {p:Plan} (h:Gd p) {x:Win} (hx:WinOk x):I64 (winA p x)∧I64 (winB p x):=by
 unfold winA winB;rcases hx with ⟨g,ha,hb⟩|g
 ·rw [g];exact ⟨dn_i64 ha,dn_i64 hb⟩
 ·rw [g];exact ⟨dn_i64 h.days.1,dn_i64 h.days.2⟩
theorem part_lies {W:World} {q:Plan} (h:Gd q) (h0:(wrongOf q).1=0) {j:Nat} {c:Charge} {d:Hd} (hj:q.charges[j]?=some c) (h1:Row tTier W d.ta c.tiers.length d.tc c.tiers) (h2:Row tAdj W d.aa c.adjusts.length d.ac c.adjusts) :
  PrtLies W (prtC (partOf q c) d.ta d.tc d.aa d.ac) (partOf q c) d.ta d.tc d.aa d.ac:=by
 have g:=h.charges c (List.mem_of_getElem? hj);obtain ⟨i0,hi0⟩:=ix_srt (part_ix h0 hj);have l0:=ix_lt hi0;rw [srt_len] at l0;have f:=(few_of h0).1;obtain ⟨w1,w2⟩:=win_i64 h g.win;have k1:=g.allow;have k2:=g.block;have k3:=g.kind;have k4:=g.mode;refine ⟨rfl,h1,h2,?_,w1,w2,?_,?_,?_,?_⟩
 ·show I64 (((meterIx (srt q.meters) c.meter).getD 0:Nat):Int)
  rw [hi0];show I64 (i0:Int)
  unfold I64;omega
 ·show I64 c.allowance
  unfold NumOk at k1;unfold I64;omega
 ·show I64 c.block
  unfold NumOk at k2;unfold I64;omega
 ·show I64 c.kind
  unfold I64;omega
 ·show I64 c.mode
  unfold NumOk at k4;unfold I64;omega
theorem str_at {w7 W:World} {b k:Nat} {ao:Option Addr} {n cap:Nat} {l:List ByteArray} {e:TypeId} (o:w7.ownsRow b e 1 (.slice ao n cap) n (l.flatMap Te.strC)) (hn:n=l.length) (g:w7.grownBy W (some k)) (hk:k<b) {j:Nat} {s:ByteArray} (hj:l[j]?=some s) :
  ∃nb,ao=some ⟨nb,0,none⟩∧nb<W.heap.size∧W.cell? ⟨nb,j,none⟩=some (.string s):=by
 have hjl:=(List.getElem?_eq_some_iff.1 hj).1;rcases o.2 with ⟨h1,h2⟩|⟨gb,cap',cur,h1,hb,h3,h4,h5,_,_⟩
 ·omega
 ·simp only [Value.slice.injEq] at h1;obtain ⟨rfl,_,rfl⟩:=h1
  have hg:gb<w7.heap.size:=by
   rcases Nat.lt_or_ge gb w7.heap.size with k|k
   ·exact k
   ·rw [Array.getElem?_eq_none k] at h3;cases h3
  refine ⟨gb,rfl,Nat.lt_of_lt_of_le hg g.size,?_⟩;have hbb:b≤gb:=(o.lt gb rfl).1;rw [World.cell?_of_block (w:=w7) (g.block gb hg (by intro e;have:=Option.some.inj e;omega)),o.cellAt j (by omega)];have:=flat_get (cells:=Te.strC) (n:=1) (fun _=>rfl) l j s 0 (.string s) hj rfl;simpa using this
theorem make_good (p:Plan) (ma:Option Addr) (mc:Nat) (fa:Option Addr) (fc:Nat) (ca:Option Addr) (cc:Nat) (w:World) (hp:PlanLies w (planC p ma mc fa fc ca cc) p ma mc fa fc ca cc) (h:Pl9 p) (hn:(wrongOf p).1=0) :
  Calls Tryz.prog 13 #[.agg #[p.name,p.cur,p.a.y,p.a.m,p.a.d,p.b.y,p.b.m,p.b.d,.slice ma p.meters.length mc,.slice fa p.fees.length fc,.slice ca p.charges.length cc,p.line,p.col]] w fun e w'=>∃ma' mc' sa sc pa pc,e=.returned (.tuple #[.agg (corC (coreOf p) ma' mc' sa sc pa pc).toArray,.agg #[.int .i64 0,.int .i64 0,.int .i64 0]])∧(∀W',Far w.heap.size w' W'→CorLies W' (corC (coreOf p) ma' mc' sa sc pa pc) (coreOf p) ma' mc' sa sc pa pc)∧Below w.heap.size w w':=by
 obtain ⟨w0,hw0⟩:∃W,W=w.alloc (.cells #[p.name,p.cur,p.a.y,p.a.m,p.a.d,p.b.y,p.b.m,p.b.d,.slice ma p.meters.length mc,.slice fa p.fees.length fc,.slice ca p.charges.length cc,p.line,p.col] 41):=⟨_,rfl⟩;obtain ⟨w1,hw1⟩:∃W,W=w0.alloc (.cells ([.string ⟨#[]⟩,.int .i64 0,.int .i64 0,.slice none 0 0,.slice none 0 0,.slice none 0 0]:List Value).toArray 27):=⟨_,rfl⟩;obtain ⟨w2,hw2⟩:∃W,W=w1.alloc (.cells #[.int .i64 0,.int .i64 0,.int .i64 0] 30):=⟨_,rfl⟩;obtain ⟨k1,hk1⟩:∃k,k=w.heap.size:=⟨_,rfl⟩;obtain ⟨k2,hk2⟩:∃k,k=k1+1:=⟨_,rfl⟩;obtain ⟨k3,hk3⟩:∃k,k=k2+1:=⟨_,rfl⟩;have s0:w0.heap.size=k2:=by rw [hw0,hk2,hk1];simp
 have s1:w1.heap.size=k3:=by rw [hw1,hk3,←s0];simp
 have s2:w2.heap.size=k3+1:=by rw [hw2,←s1];simp
 have b0:Below w.heap.size w w0:=by rw [hw0];exact bel_alloc _ _
 have b1:Below w0.heap.size w0 w1:=by rw [hw1];exact bel_alloc _ _
 have b2:Below w1.heap.size w1 w2:=by rw [hw2];exact bel_alloc _ _
 have X1:Box w2 k1 [p.name,p.cur,p.a.y,p.a.m,p.a.d,p.b.y,p.b.m,p.b.d,.slice ma p.meters.length mc,.slice fa p.fees.length fc,.slice ca p.charges.length cc,p.line,p.col]:=by
  have:=Box.new w [p.name,p.cur,p.a.y,p.a.m,p.a.d,p.b.y,p.b.m,p.b.d,.slice ma p.meters.length mc,.slice fa p.fees.length fc,.slice ca p.charges.length cc,p.line,p.col] 41;rw [←hw0,←hk1] at this;exact (this.on b1).on b2
 have X2:Box w2 k2 [.string ⟨#[]⟩,.int .i64 0,.int .i64 0,.slice none 0 0,.slice none 0 0,.slice none 0 0]:=by
  have:=Box.new w0 [.string ⟨#[]⟩,.int .i64 0,.int .i64 0,.slice none 0 0,.slice none 0 0,.slice none 0 0] 27;rw [←hw1,s0] at this;exact this.on b2
 have X3:Box w2 k3 [.int .i64 0,.int .i64 0,.int .i64 0]:=by
  have:=Box.new w1 [.int .i64 0,.int .i64 0,.int .i64 0] 30;rw [←hw2,s1] at this;exact this
 have b02:Below w.heap.size w w2:=bel_on (bel_on b0 b1) b2;have HW:=hid (show w2=((w.alloc (.cells #[p.name,p.cur,p.a.y,p.a.m,p.a.d,p.b.y,p.b.m,p.b.d,.slice ma p.meters.length mc,.slice fa p.fees.length fc,.slice ca p.charges.length cc,p.line,p.col] 41)).alloc (.cells #[.string ⟨#[]⟩,.int .i64 0,.int .i64 0,.slice none 0 0,.slice none 0 0,.slice none 0 0] 27)).alloc (.cells #[.int .i64 0,.int .i64 0,.int .i64 0] 30) by rw [hw2,hw1,hw0]);have HK3:=hid (show k3=w.heap.size+1+1 by omega);have HK2:=hid (show k2=w.heap.size+1 by omega);have HK1:=hid hk1;have HB:=hid (show w.heap.size≤k1∧w.heap.size≤k2∧w.heap.size≤k3∧k1≠k2∧k1≠k3∧k2≠k3∧k1<w2.heap.size∧k2<w2.heap.size∧k3<w2.heap.size by omega);have X:=hid (fun (W:World) (b:Below w2.heap.size w2 W)=>(⟨X1.on b,X2.on b,X3.on b,bel_on b02 b⟩:Box W k1 [p.name,p.cur,p.a.y,p.a.m,p.a.d,p.b.y,p.b.m,p.b.d,.slice ma p.meters.length mc,.slice fa p.fees.length fc,.slice ca p.charges.length cc,p.line,p.col]∧Box W k2 [.string ⟨#[]⟩,.int .i64 0,.int .i64 0,.slice none 0 0,.slice none 0 0,.slice none 0 0]∧Box W k3 [.int .i64 0,.int .i64 0,.int .i64 0]∧Below w.heap.size w W));have cP:=hid (Cc.plan_any p ma mc fa fc ca cc w2 (hp.on b02) h);rw [wrong_nought hn] at cP;simp only at cP;have hmid:L06.Mid p:=⟨by have:=h.cnt.1;omega,by have:=h.cnt.2.1;omega,by have:=h.cnt.2.2;omega,h.parts⟩;have cT:=hid (fun (W:World) (b:Below w2.heap.size w2 W)=>Te.plain_any p ma mc fa fc ca cc W hmid (hp.on (bel_on b02 b)));unfold planC at cT;have FT:=hid (L06.fits_no (fits_of hp));obtain ⟨q,hq⟩:∃q,q=noPl p:=⟨_,rfl⟩;rw [←hq] at cT FT;have GQ:=hid (show Gd q by rw [hq];exact gd_no h.gd);have AQ:=hid (show Apart q.meters by rw [hq];exact apart_nM.2 (apart_of hn));have EQ:=hid (show coreOf p=⟨q.cur,dn q.a,dn q.b,srt q.meters,q.fees.map (sumOf q),q.charges.map (partOf q)⟩ by rw [hq,←core_noPl p];rfl);have NQ:=hid (show q.meters.map nM=q.meters by rw [hq];exact nM_nM p.meters)
 have CNT:=hid (show q.meters.length≤20000∧q.fees.length≤20000∧q.charges.length≤20000 by
  rw [hq];show (p.meters.map nM).length≤20000∧(p.fees.map nF).length≤20000∧(p.charges.map nC).length≤20000
  rw [List.length_map,List.length_map,List.length_map]
  exact h.cnt)
 have WQ:=hid (show (wrongOf q).1=0 by rw [hq,wrong_noPl];exact hn);have RP:=hid (range_of X1.cell);clear hw0 hw1 hw2 hk1 hk2 hk3 s0 s1 s2 b0 b1 b2 b02 X1 X2 X3 hp h hn hmid hq;go_enter Tryz.func13,Tryz.ntmps13
 go_upto_region 1 with fail
 rw [←HW.out,←HK3.out,←HK2.out,←HK1.out];clear HW HK3 HK2 HK1;go_wp2_with (first|(with_reducible refine wpList_load_mid (op:=Oper.mk (some 12) (Op.load 41 (Operand.tmp 1)) _ _ _ _) ?_ 41 (.tmp 1) ?_ k1 0 ?_ [p.name,p.cur,p.a.y,p.a.m,p.a.d,p.b.y,p.b.m,p.b.d,.slice ma p.meters.length mc,.slice fa p.fees.length fc,.slice ca p.charges.length cc,p.line,p.col] _ RP.out Tryz.underlying41 ?_ ?_ ?_;rfl;rfl;go_simp;rfl;kernel_rfl)|fail)
 refine cP.out.mono ?_;rintro e w3 ⟨rfl,b3⟩;obtain ⟨w4,hw4⟩:∃W,W=w3.alloc (.cells #[.int .i64 0,.int .i64 0,.int .i64 0] 30):=⟨_,rfl⟩;obtain ⟨k4,hk4⟩:∃k,k=w3.heap.size:=⟨_,rfl⟩;have b4:Below w3.heap.size w3 w4:=by rw [hw4];exact bel_alloc _ _
 have X4:Box w4 k4 [.int .i64 0,.int .i64 0,.int .i64 0]:=by rw [hw4,hk4];exact Box.new _ _ _
 have a0:=X4.cell 0 _ rfl;have a1:=X4.cell 1 _ rfl;have a2:=X4.cell 2 _ rfl;have B24:=hid (bel_on b3 b4);have HW4:=hid hw4;have HK4:=hid hk4;clear hw4 hk4 b3 b4 X4 cP RP;go_upto_region 2 with fail
 rw [←HW4.out,←HK4.out];clear HW4 HK4;have RP:=hid (range_of (X.out _ B24.out).1.cell);go_upto_region 4 with fail
 clear a0 a1 a2;go_wp2_with (first|(with_reducible refine wpList_load_mid (op:=Oper.mk (some 19) (Op.load 41 (Operand.tmp 1)) _ _ _ _) ?_ 41 (.tmp 1) ?_ k1 0 ?_ [p.name,p.cur,p.a.y,p.a.m,p.a.d,p.b.y,p.b.m,p.b.d,.slice ma p.meters.length mc,.slice fa p.fees.length fc,.slice ca p.charges.length cc,p.line,p.col] _ RP.out Tryz.underlying41 ?_ ?_ ?_;rfl;rfl;go_simp;rfl;kernel_rfl)|fail)
 refine (cT.out w4 B24.out).mono ?_;rintro e w5 ⟨mb,mbc,fb,fbc,cb,cbc,hs,rfl,hl,ow,b5⟩;have L1:k1<w4.heap.size:=Nat.lt_of_lt_of_le HB.out.2.2.2.2.2.2.1 B24.out.size;obtain ⟨w6,hw6⟩:∃W,W=w5.setCells k1 0 [q.name,q.cur,q.a.y,q.a.m,q.a.d,q.b.y,q.b.m,q.b.d,.slice mb q.meters.length mbc,.slice fb q.fees.length fbc,.slice cb q.charges.length cbc,q.line,q.col]:=⟨_,rfl⟩;have Y:=X.out w5 (bel_on B24.out b5);have RT:=hid (Te.box_there Y.1 (n:=13) rfl)
 have X6:=hid (show Box w6 k1 [q.name,q.cur,q.a.y,q.a.m,q.a.d,q.b.y,q.b.m,q.b.d,.slice mb q.meters.length mbc,.slice fb q.fees.length fbc,.slice cb q.charges.length cbc,q.line,q.col]∧Box w6 k2 [.string ⟨#[]⟩,.int .i64 0,.int .i64 0,.slice none 0 0,.slice none 0 0,.slice none 0 0]∧Box w6 k3 [.int .i64 0,.int .i64 0,.int .i64 0] by
  rw [hw6]
  exact ⟨Box.sets (W:=w5) [q.name,q.cur,q.a.y,q.a.m,q.a.d,q.b.y,q.b.m,q.b.d,.slice mb q.meters.length mbc,.slice fb q.fees.length fbc,.slice cb q.charges.length cbc,q.line,q.col] 0 Y.1,Box.others (W:=w5) (Ne.symm HB.out.2.2.2.1) [q.name,q.cur,q.a.y,q.a.m,q.a.d,q.b.y,q.b.m,q.b.d,.slice mb q.meters.length mbc,.slice fb q.fees.length fbc,.slice cb q.charges.length cbc,q.line,q.col] 0 Y.2.1,Box.others (W:=w5) (Ne.symm HB.out.2.2.2.2.1) [q.name,q.cur,q.a.y,q.a.m,q.a.d,q.b.y,q.b.m,q.b.d,.slice mb q.meters.length mbc,.slice fb q.fees.length fbc,.slice cb q.charges.length cbc,q.line,q.col] 0 Y.2.2.1⟩)
 have LQ:=hid (show PlanLies w6 (planC q mb mbc fb fbc cb cbc) q mb mbc fb fbc cb cbc from lies_of hl FT.out (fun s r hr=>by rw [hw6];exact owns_setCells_below L1 _ _ _ (ow.own s r hr)));have OW6:=hid (fun (W:World) (b:Below w6.heap.size w6 W) (s:Slot) (r:R) (hr:rowOf q mb mbc fb fbc cb cbc hs s=some r)=>owns_on (show w6.ownsRow w4.heap.size r.e r.size r.v r.n r.xs by rw [hw6];exact owns_setCells_below L1 _ _ _ (ow.own s r hr)) b);have L23:=hid (show k2<w4.heap.size∧k3<w4.heap.size by have:=HB.out;have:=B24.out.size;omega);have HLS:=hid hl;have B6:=hid (show Below w.heap.size w w6 by rw [hw6];exact below_setCells HB.out.1 _ _ _ Y.2.2.2);have S6:=hid (show k1<w6.heap.size∧k2<w6.heap.size∧k3<w6.heap.size from ⟨X6.out.1.lt,X6.out.2.1.lt,X6.out.2.2.lt⟩);have HW6:=hid hw6;clear hw6 Y ow b5 L1 X cT RP B24 hl
 go_upto_region 5 with (first
  | (with_reducible refine wpList_store_mid (op:=Oper.mk none (Op.store 41 (Operand.tmp 1) (Operand.tmp 20)) _ _ _ _) ?_ 41 (.tmp 1) (.tmp 20) ?_ k1 0 #[q.name,q.cur,q.a.y,q.a.m,q.a.d,q.b.y,q.b.m,q.b.d,.slice mb q.meters.length mbc,.slice fb q.fees.length fbc,.slice cb q.charges.length cbc,q.line,q.col] ?_ ?_ ?_ ?_ ?_ ?_;rfl;rfl;go_simp;go_simp;(simpa using RT.out);kernel_rfl;(simp [Value.oneCell']))
  | fail)
 rw [←HW6.out];clear HW6 RT;try dsimp only [Act.put]
 obtain ⟨A,hA⟩:∃A,A=dn q.a:=⟨_,rfl⟩;obtain ⟨B,hB⟩:∃B,B=dn q.b:=⟨_,rfl⟩;have cA:=hid (fun W=>number_any q.a GQ.out.days.1 W);have cB:=hid (fun W=>number_any q.b GQ.out.days.2 W);rw [←hA] at cA;rw [←hB] at cB;have HA:=hid hA;have HBB:=hid hB;clear hA hB;have KS:Hid (∀W,Below w6.heap.size w6 W→W.cell? ⟨k1,1,none⟩=some (.string q.cur)∧W.cell? ⟨k1,2,none⟩=some (.int .i64 q.a.y)∧W.cell? ⟨k1,3,none⟩=some (.int .i64 q.a.m)∧W.cell? ⟨k1,4,none⟩=some (.int .i64 q.a.d)∧W.cell? ⟨k1,5,none⟩=some (.int .i64 q.b.y)∧W.cell? ⟨k1,6,none⟩=some (.int .i64 q.b.m)∧W.cell? ⟨k1,7,none⟩=some (.int .i64 q.b.d)∧Below w6.heap.size w6 W):=hid fun W bw=>⟨(X6.out.1.on bw).cell 1 _ rfl,(X6.out.1.on bw).cell 2 _ rfl,(X6.out.1.on bw).cell 3 _ rfl,(X6.out.1.on bw).cell 4 _ rfl,(X6.out.1.on bw).cell 5 _ rfl,(X6.out.1.on bw).cell 6 _ rfl,(X6.out.1.on bw).cell 7 _ rfl,bw⟩;go_cut [5] (fun v W=>∃k5,v=.pointer (some ⟨k5,0,none⟩)∧Hid (Mk w6 W k5 (k5+1) q.cur A B [] [] [] none 0 none 0 none 0))
 case first=>
  refine wp_region_held_drew (S:=(fun w'=>w'.cell? ⟨k1,1,none⟩=some (.string q.cur)∧w'.cell? ⟨k1,2,none⟩=some (.int .i64 q.a.y)∧w'.cell? ⟨k1,3,none⟩=some (.int .i64 q.a.m)∧w'.cell? ⟨k1,4,none⟩=some (.int .i64 q.a.d)∧w'.cell? ⟨k1,5,none⟩=some (.int .i64 q.b.y)∧w'.cell? ⟨k1,6,none⟩=some (.int .i64 q.b.m)∧w'.cell? ⟨k1,7,none⟩=some (.int .i64 q.b.d)∧Below w6.heap.size w6 w')) (by kernel_rfl) ?_ (fun hHeld=>?_)
  ·exact KS.out _ (Below.drew (Below.refl _ _))
  have B0:=Below.drew (Below.refl w6.heap.size w6)
  iterate 6
   first|refine Hu.ph (v:=?_) 0 ?_ ?_|refine Hu.ph (v:=?_) 1 ?_ ?_|refine Hu.ph (v:=?_) 2 ?_ ?_|refine Hu.ph (v:=?_) 3 ?_ ?_|refine Hu.ph (v:=?_) 5 ?_ ?_|refine Hu.ph (v:=?_) 6 ?_ ?_
   rotate_left
   ·intro w hSw
    (try dsimp only at hSw)
    go_simp;all_goals (try with_reducible rfl)
   try simp only [Act.put,List.setIfInBounds_toArray,List.set_cons_zero,List.set_cons_succ]
  refine wpAnyH_ready (rs:=[4,9]) (by kernel_rfl) (by simp) ?_;refine AllReadyH.cons (o:=(Oper.mk (some 25) (Op.call _) _ _ _ _)) rfl (fun K hK=>?_) ?_
  ·go_simp
   go_at_call 33
   refine (cA.out _).mono ?_;rintro e wn1 ⟨rfl,bn1⟩;have B1:=bel_on B0 bn1;refine hK.out _ _ ?_ (fun hHeld=>?_)
   ·exact KS.out _ B1
   clear hK K;try simp only [Act.put,List.setIfInBounds_toArray,List.set_cons_zero,List.set_cons_succ]
   refine wpAnyH_ready (rs:=[7,9]) (by kernel_rfl) (by simp) ?_;refine AllReadyH.cons (o:=(Oper.mk (some 28) (Op.call _) _ _ _ _)) rfl (fun K hK=>?_) ?_
   ·go_simp
    go_at_call 33
    refine (cB.out _).mono ?_;rintro e wn2 ⟨rfl,bn2⟩;have B2:=bel_on B1 bn2;refine hK.out _ _ ?_ (fun hHeld=>?_)
    ·exact KS.out _ B2
    clear hK K;try simp only [Act.put,List.setIfInBounds_toArray,List.set_cons_zero,List.set_cons_succ]
    refine Hu.ph (v:=?_) 8 ?_ ?_;rotate_left
    ·intro w hSw
     (try dsimp only at hSw)
     go_simp;all_goals (try with_reducible rfl)
    try simp only [Act.put,List.setIfInBounds_toArray,List.set_cons_zero,List.set_cons_succ]
    refine wpAnyH_ready (rs:=[9]) (by kernel_rfl) (by simp) ?_;refine AllReadyH.cons (o:=(Oper.mk (some 5) (Op.alloc 27) _ _ _ _)) rfl (fun K hK=>?_) ?_
    ·go_simp;have B3:=Below.alloc B2 B2.size (.cells #[.string ⟨#[]⟩,.int .i64 0,.int .i64 0,.slice none 0 0,.slice none 0 0,.slice none 0 0] 27);have G3:=B2.size;have X3:=Box.new wn2 [.string ⟨#[]⟩,.int .i64 0,.int .i64 0,.slice none 0 0,.slice none 0 0,.slice none 0 0] 27;refine hK.out _ _ ?_ (fun hHeld=>?_)
     ·exact KS.out _ B3
     clear hK K;try simp only [Act.put,List.setIfInBounds_toArray,List.set_cons_zero,List.set_cons_succ]
     refine wpAnyH_ready (rs:=[10]) (by kernel_rfl) (by simp) ?_;refine AllReadyH.cons (o:=(Oper.mk none (Op.store 27 (Operand.tmp 5) (Operand.tmp 29)) _ _ _ _)) rfl (fun K hK=>?_) AllReadyH.nil;rw [if_pos (by rfl)];refine wp_store_mid 27 (.tmp 5) (.tmp 29) rfl _ 0 #[q.cur,.int .i64 A,.int .i64 B,.slice none 0 0,.slice none 0 0,.slice none 0 0] rfl rfl (Te.box_there X3 rfl) (by kernel_rfl) (by simp [Value.oneCell']) ?_;have BZ:=below_setCells G3 [q.cur,.int .i64 A,.int .i64 B,.slice none 0 0,.slice none 0 0,.slice none 0 0] 0 _ B3;refine hK.out _ _ ?_ (fun hHeld=>?_)
     ·exact KS.out _ BZ
     clear hK K;refine wpAnyH_done (by kernel_rfl) ?_ _;dsimp only [Act.put];go_wp2;go_meet;exact ⟨_,rfl,hid (Mk.first G3 (Nat.lt_succ_self _) (Box.sets (W:=w6) [q.cur,.int .i64 A,.int .i64 B,.slice none 0 0,.slice none 0 0,.slice none 0 0] 0 X3).lt (Box.sets (W:=w6) [q.cur,.int .i64 A,.int .i64 B,.slice none 0 0,.slice none 0 0,.slice none 0 0] 0 X3) BZ)⟩
    exact AllReadyH.nil
   refine AllReadyH.cons (o:=(Oper.mk (some 5) (Op.alloc 27) _ _ _ _)) rfl (fun K hK=>?_) ?_
   ·go_simp;have B4:=Below.alloc B1 B1.size (.cells #[.string ⟨#[]⟩,.int .i64 0,.int .i64 0,.slice none 0 0,.slice none 0 0,.slice none 0 0] 27);have G4:=B1.size;have X4:=Box.new wn1 [.string ⟨#[]⟩,.int .i64 0,.int .i64 0,.slice none 0 0,.slice none 0 0,.slice none 0 0] 27;refine hK.out _ _ ?_ (fun hHeld=>?_)
    ·exact KS.out _ B4
    clear hK K;try simp only [Act.put,List.setIfInBounds_toArray,List.set_cons_zero,List.set_cons_succ]
    refine wpAnyH_ready (rs:=[7]) (by kernel_rfl) (by simp) ?_;refine AllReadyH.cons (o:=(Oper.mk (some 28) (Op.call _) _ _ _ _)) rfl (fun K hK=>?_) ?_
    ·go_simp
     go_at_call 33
     refine (cB.out _).mono ?_;rintro e wn5 ⟨rfl,bn5⟩;have B5:=bel_on B4 bn5;have X5:=X4.on bn5;refine hK.out _ _ ?_ (fun hHeld=>?_)
     ·exact KS.out _ B5
     clear hK K;try simp only [Act.put,List.setIfInBounds_toArray,List.set_cons_zero,List.set_cons_succ]
     refine Hu.ph (v:=?_) 8 ?_ ?_;rotate_left
     ·intro w hSw
      (try dsimp only at hSw)
      go_simp;all_goals (try with_reducible rfl)
     try simp only [Act.put,List.setIfInBounds_toArray,List.set_cons_zero,List.set_cons_succ]
     refine wpAnyH_ready (rs:=[10]) (by kernel_rfl) (by simp) ?_;refine AllReadyH.cons (o:=(Oper.mk none (Op.store 27 (Operand.tmp 5) (Operand.tmp 29)) _ _ _ _)) rfl (fun K hK=>?_) AllReadyH.nil;rw [if_pos (by rfl)];refine wp_store_mid 27 (.tmp 5) (.tmp 29) rfl _ 0 #[q.cur,.int .i64 A,.int .i64 B,.slice none 0 0,.slice none 0 0,.slice none 0 0] rfl rfl (Te.box_there X5 rfl) (by kernel_rfl) (by simp [Value.oneCell']) ?_;have BZ:=below_setCells G4 [q.cur,.int .i64 A,.int .i64 B,.slice none 0 0,.slice none 0 0,.slice none 0 0] 0 _ B5;refine hK.out _ _ ?_ (fun hHeld=>?_)
     ·exact KS.out _ BZ
     clear hK K;refine wpAnyH_done (by kernel_rfl) ?_ _;dsimp only [Act.put];go_wp2;go_meet;exact ⟨_,rfl,hid (Mk.first G4 (Nat.lt_succ_self _) (Box.sets (W:=w6) [q.cur,.int .i64 A,.int .i64 B,.slice none 0 0,.slice none 0 0,.slice none 0 0] 0 X5).lt (Box.sets (W:=w6) [q.cur,.int .i64 A,.int .i64 B,.slice none 0 0,.slice none 0 0,.slice none 0 0] 0 X5) BZ)⟩
    exact AllReadyH.nil
   exact AllReadyH.nil
  refine AllReadyH.cons (o:=(Oper.mk (some 5) (Op.alloc 27) _ _ _ _)) rfl (fun K hK=>?_) ?_
  ·go_simp;have B6:=Below.alloc B0 B0.size (.cells #[.string ⟨#[]⟩,.int .i64 0,.int .i64 0,.slice none 0 0,.slice none 0 0,.slice none 0 0] 27);have G6:=B0.size;have X6:=Box.new w6.drew [.string ⟨#[]⟩,.int .i64 0,.int .i64 0,.slice none 0 0,.slice none 0 0,.slice none 0 0] 27;refine hK.out _ _ ?_ (fun hHeld=>?_)
   ·exact KS.out _ B6
   clear hK K;try simp only [Act.put,List.setIfInBounds_toArray,List.set_cons_zero,List.set_cons_succ]
   refine wpAnyH_ready (rs:=[4]) (by kernel_rfl) (by simp) ?_;refine AllReadyH.cons (o:=(Oper.mk (some 25) (Op.call _) _ _ _ _)) rfl (fun K hK=>?_) ?_
   ·go_simp
    go_at_call 33
    refine (cA.out _).mono ?_;rintro e wn7 ⟨rfl,bn7⟩;have B7:=bel_on B6 bn7;have X7:=X6.on bn7;refine hK.out _ _ ?_ (fun hHeld=>?_)
    ·exact KS.out _ B7
    clear hK K;try simp only [Act.put,List.setIfInBounds_toArray,List.set_cons_zero,List.set_cons_succ]
    refine wpAnyH_ready (rs:=[7]) (by kernel_rfl) (by simp) ?_;refine AllReadyH.cons (o:=(Oper.mk (some 28) (Op.call _) _ _ _ _)) rfl (fun K hK=>?_) ?_
    ·go_simp
     go_at_call 33
     refine (cB.out _).mono ?_;rintro e wn8 ⟨rfl,bn8⟩;have B8:=bel_on B7 bn8;have X8:=X7.on bn8;refine hK.out _ _ ?_ (fun hHeld=>?_)
     ·exact KS.out _ B8
     clear hK K;try simp only [Act.put,List.setIfInBounds_toArray,List.set_cons_zero,List.set_cons_succ]
     refine Hu.ph (v:=?_) 8 ?_ ?_;rotate_left
     ·intro w hSw
      (try dsimp only at hSw)
      go_simp;all_goals (try with_reducible rfl)
     try simp only [Act.put,List.setIfInBounds_toArray,List.set_cons_zero,List.set_cons_succ]
     refine wpAnyH_ready (rs:=[10]) (by kernel_rfl) (by simp) ?_;refine AllReadyH.cons (o:=(Oper.mk none (Op.store 27 (Operand.tmp 5) (Operand.tmp 29)) _ _ _ _)) rfl (fun K hK=>?_) AllReadyH.nil;rw [if_pos (by rfl)];refine wp_store_mid 27 (.tmp 5) (.tmp 29) rfl _ 0 #[q.cur,.int .i64 A,.int .i64 B,.slice none 0 0,.slice none 0 0,.slice none 0 0] rfl rfl (Te.box_there X8 rfl) (by kernel_rfl) (by simp [Value.oneCell']) ?_;have BZ:=below_setCells G6 [q.cur,.int .i64 A,.int .i64 B,.slice none 0 0,.slice none 0 0,.slice none 0 0] 0 _ B8;refine hK.out _ _ ?_ (fun hHeld=>?_)
     ·exact KS.out _ BZ
     clear hK K;refine wpAnyH_done (by kernel_rfl) ?_ _;dsimp only [Act.put];go_wp2;go_meet;exact ⟨_,rfl,hid (Mk.first G6 (Nat.lt_succ_self _) (Box.sets (W:=w6) [q.cur,.int .i64 A,.int .i64 B,.slice none 0 0,.slice none 0 0,.slice none 0 0] 0 X8).lt (Box.sets (W:=w6) [q.cur,.int .i64 A,.int .i64 B,.slice none 0 0,.slice none 0 0,.slice none 0 0] 0 X8) BZ)⟩
    exact AllReadyH.nil
   exact AllReadyH.nil
  exact AllReadyH.nil
 case rest=>
  obtain ⟨k5,rfl,hm⟩:=hcut;obtain ⟨wc',hwc⟩:∃W,W=wc:=⟨_,rfl⟩;rw [←hwc] at hm ⊢;clear hwc KS cA cB;have FEW:=hid (few_of WQ.out);have lf:q.fees.length≤8:=FEW.out.2.1;have lc:q.charges.length≤8:=FEW.out.2.2;have RP:=hid (range_of (X6.out.1.on hm.out.bel).cell);have cN:=hid (Te.names_own q mb mbc fb fbc cb cbc wc' (by have:=FEW.out.1;omega) (LQ.out.on hm.out.bel));unfold planC at cN;go_wp2_with (first|(with_reducible refine wpList_load_mid (op:=Oper.mk (some 30) (Op.load 41 (Operand.tmp 1)) _ _ _ _) ?_ 41 (.tmp 1) ?_ k1 0 ?_ [q.name,q.cur,q.a.y,q.a.m,q.a.d,q.b.y,q.b.m,q.b.d,.slice mb q.meters.length mbc,.slice fb q.fees.length fbc,.slice cb q.charges.length cbc,q.line,q.col] _ RP.out Tryz.underlying41 ?_ ?_ ?_;rfl;rfl;go_simp;rfl;kernel_rfl)|fail)
  refine cN.out.mono ?_;rintro e w7 ⟨ao,cap,l,rfl,on,hpm,hri,b7⟩;have hk5:=hid hm.out.box.lt;have M7:=hid ((hm.out.on b7).up (base':=w7.heap.size) (hm.out.on b7).box.lt (Nat.le_refl _));have ON:=hid on;obtain ⟨MS,hMS⟩:∃MS,MS=srt q.meters:=⟨_,rfl⟩;have LL:=hid (show l.length=q.meters.length by have:=hpm.length_eq;rwa [List.length_map] at this);have lq:l.length≤4:=by rw [LL.out];exact FEW.out.1
  have LMS:=hid (show MS.length=l.length by rw [hMS,srt_len,LL.out])
  have NA:=hid (fun (i:Nat) (nm:ByteArray) (hi:l[i]?=some nm)=>(show ∃j x,q.meters[j]?=some x∧meterIx q.meters nm=some j∧MS[i]?=some x by
   have:=name_at (ms:=q.meters) (by rw [NQ.out];exact AQ.out) (by rw [NQ.out];exact hpm) hri hi;rw [NQ.out] at this;rw [hMS]
   exact this))
  have HMS:=hid hMS;clear on hpm hri b7 hm RP cN hMS;go_wp2;go_loopw [33] (fun i W=>∃(i':Nat) (T:List Meter) (ma2:Option Addr) (mc2:Nat),i=.int .i64 (i':Int)∧i'≤l.length∧Hid (T=MS.take i')∧Hid (Mk w6 W k5 w7.heap.size q.cur A B T [] [] ma2 mc2 none 0 none 0)∧Hid (w7.grownBy W (some k5))) (fun i _=>l.length-(intOf i).toNat)
  case atStart=>exact ⟨0,[],none,0,rfl,Nat.zero_le _,hid rfl,M7,hid (R7.grown_refl _ _)⟩
  case round=>
   obtain ⟨i',T,ma2,mc2,rfl,hi,hT,hM,hG⟩:=hrel;clear M7;by_cases hlt:i'<l.length
   ·obtain ⟨nm,hnm⟩:∃s,l[i']?=some s:=⟨_,List.getElem?_eq_getElem hlt⟩;obtain ⟨j,x,hj,hix,hsx⟩:=NA.out i' nm hnm;obtain ⟨nb,eao,lnb,cnb⟩:=str_at ON.out rfl hG.out hk5.out hnm;subst eao;obtain ⟨bx,ox,ex,lbx,_⟩:=meter_at LQ.out.meters hj;subst ex;have hjl:j<q.meters.length:=(List.getElem?_eq_some_iff.1 hj).1;have HLN:=hid (show T.length+1≤1000000 by rw [hT.out,List.length_take];have:=LL.out;have:=FEW.out.1;omega);have HTX:=hid (show T++[x]=MS.take (i'+1) by rw [List.take_add_one,hsx,hT.out];rfl);have cM:=hid (fun W (b:Below w6.heap.size w6 W)=>Te.meter_any q nm (some ⟨bx,ox,none⟩) mbc fb fbc cb cbc W (LQ.out.on b));rw [findM_ix hix] at cM;unfold planC at cM
    have KS:Hid (∀W,wr.grownBy W (Value.slice ma2 T.length mc2).ownBlock→W.rangeAt k1 0 [q.name,q.cur,q.a.y,q.a.m,q.a.d,q.b.y,q.b.m,q.b.d,.slice (some ⟨bx,ox,none⟩) q.meters.length mbc,.slice fb q.fees.length fbc,.slice cb q.charges.length cbc,q.line,q.col]∧W.cell? ⟨k5,3,none⟩=some (.slice ma2 T.length mc2)∧W.frozen? ⟨k5,3,none⟩=false∧W.cell? ⟨k1,8,none⟩=some (.slice (some ⟨bx,ox,none⟩) q.meters.length mbc)∧W.cell? ⟨bx,ox+j*5,none⟩=some (.string x.name)∧W.cell? ⟨bx,ox+j*5+1,none⟩=some (.string x.unit)∧W.cell? ⟨bx,ox+j*5+2,none⟩=some (.int .i64 x.max)∧W.cell? ⟨bx,ox+j*5+3,none⟩=some (.int .i64 x.line)∧W.cell? ⟨bx,ox+j*5+4,none⟩=some (.int .i64 x.col)):=hid fun W g=>by
     have BW:Below w6.heap.size w6 W:=hM.out.bel.grown g hM.out.bel.size (fun j ej=>by have:=((hM.out.owns.own .m _ rfl).lt j ej).1;have:=hM.out.lt;have:=hM.out.le;omega);have BX:=hM.out.box.grown g (hM.out.ne (σ:=.m) rfl (Nat.le_refl _));obtain ⟨y0,y1,y2,y3,y4⟩:=meter_in (LQ.out.on BW).meters hj;exact ⟨range_of (X6.out.1.on BW).cell,BX.cell 3 _ rfl,BX.free 3,(X6.out.1.on BW).cell 8 _ rfl,y0,y1,y2,y3,y4⟩
    clear hj hix hsx hnm lbx;go_upto_region 9 with fail
    clear cnb lnb;have G0:wr.grownBy wr.drew (Value.slice ma2 T.length mc2).ownBlock:=R7.grown_below (Below.drew (Below.refl _ _));refine Hu.wp_region_until (S:=(fun w'=>w'.rangeAt k1 0 [q.name,q.cur,q.a.y,q.a.m,q.a.d,q.b.y,q.b.m,q.b.d,.slice (some ⟨bx,ox,none⟩) q.meters.length mbc,.slice fb q.fees.length fbc,.slice cb q.charges.length cbc,q.line,q.col]∧w'.cell? ⟨k5,3,none⟩=some (.slice ma2 T.length mc2)∧w'.frozen? ⟨k5,3,none⟩=false∧w'.cell? ⟨k1,8,none⟩=some (.slice (some ⟨bx,ox,none⟩) q.meters.length mbc)∧w'.cell? ⟨bx,ox+j*5,none⟩=some (.string x.name)∧w'.cell? ⟨bx,ox+j*5+1,none⟩=some (.string x.unit)∧w'.cell? ⟨bx,ox+j*5+2,none⟩=some (.int .i64 x.max)∧w'.cell? ⟨bx,ox+j*5+3,none⟩=some (.int .i64 x.line)∧w'.cell? ⟨bx,ox+j*5+4,none⟩=some (.int .i64 x.col))) 12 (by kernel_rfl) ?_ (fun hHeld=>?_)
    ·exact KS.out _ G0
    iterate 4
     first|refine Hu.pk (v:=?_) 0 ?_ ?_|refine Hu.pk (v:=?_) 1 ?_ ?_|refine Hu.pk (v:=?_) 2 ?_ ?_|refine Hu.pk (v:=?_) 3 ?_ ?_
     rotate_left
     ·intro w hSw
      (try dsimp only at hSw)
      go_simp;all_goals (try with_reducible rfl)
     try simp only [Act.put,List.setIfInBounds_toArray,List.set_cons_zero,List.set_cons_succ]
    refine Hu.wpAnyU_take (i:=4) (oi:=(Oper.mk (some 41) (Op.load 41 (Operand.tmp 1)) _ _ _ _)) (v:=_) rfl (by kernel_rfl) (by kernel_rfl) (by kernel_rfl) (by kernel_rfl) (fun _ _ _ h=>h) (yieldsIf_load_mid (by rfl) _ _ rfl k1 0 rfl [q.name,q.cur,q.a.y,q.a.m,q.a.d,q.b.y,q.b.m,q.b.d,.slice (some ⟨bx,ox,none⟩) q.meters.length mbc,.slice fb q.fees.length fbc,.slice cb q.charges.length cbc,q.line,q.col] _ (fun w hSw=>hSw.1) Tryz.underlying41 rfl (by kernel_rfl)) (by assumption) ?_;try simp only [Act.put,List.setIfInBounds_toArray,List.set_cons_zero,List.set_cons_succ]
    refine Hu.pk (v:=?_) 5 ?_ ?_;rotate_left
    ·intro w hSw
     (try dsimp only at hSw)
     go_simp;all_goals (try with_reducible rfl)
    try simp only [Act.put,List.setIfInBounds_toArray,List.set_cons_zero,List.set_cons_succ]
    refine Hu.wpAnyU_ready (rs:=[6]) (by kernel_rfl) (by simp) ?_;refine Hu.AllReadyU.cons (o:=(Oper.mk (some 43) (Op.call _) _ _ _ _)) rfl (fun K hK=>?_) Hu.AllReadyU.nil;go_simp
    go_at_call 35
    refine (cM.out _ (Below.drew hM.out.bel)).mono ?_;rintro e wa ⟨rfl,ba⟩;have BA:=hid (bel_on (Below.drew (Below.refl wr.heap.size wr)) ba);have G1:wr.grownBy wa (Value.slice ma2 T.length mc2).ownBlock:=R7.grown_below BA.out;refine hK.out _ _ ?_ (fun hHeld=>?_)
    ·exact KS.out _ G1
    clear hK K;try simp only [Act.put,List.setIfInBounds_toArray,List.set_cons_zero,List.set_cons_succ]
    iterate 2
     first|refine Hu.pk (v:=?_) 7 ?_ ?_|refine Hu.pk (v:=?_) 8 ?_ ?_
     rotate_left
     ·intro w hSw
      (try dsimp only at hSw)
      go_simp;all_goals (try with_reducible rfl)
     try simp only [Act.put,List.setIfInBounds_toArray,List.set_cons_zero,List.set_cons_succ]
    refine Hu.wpAnyU_ready (rs:=[9]) (by kernel_rfl) (by simp) ?_;refine Hu.AllReadyU.cons (o:=(Oper.mk (some 46) (Op.buildSlice _ _ _) _ _ _ _)) rfl (fun K hK=>?_) Hu.AllReadyU.nil;go_simp;have G2:wr.grownBy (wa.alloc (.cells #[x.name,x.unit,x.max,x.line,x.col] 49)) (Value.slice ma2 T.length mc2).ownBlock:=R7.grown_trans G1 (R7.grown_below (bel_alloc _ _));refine hK.out _ _ ?_ (fun hHeld=>?_)
    ·exact KS.out _ G2
    clear hK K;try simp only [Act.put,List.setIfInBounds_toArray,List.set_cons_zero,List.set_cons_succ]
    have MA:=hid (hM.out.on BA.out);refine Hu.wpAnyU_ready (rs:=[10]) (by kernel_rfl) (by simp) ?_;refine Hu.AllReadyU.cons (o:=(Oper.mk (some 47) (Op.call _) _ _ _ _)) rfl (fun K hK=>?_) Hu.AllReadyU.nil;refine R7.step_more7 (W:=wa) (base:=w7.heap.size) [x.name,x.unit,x.max,x.line,x.col] 47 rfl rfl (.tmp 38) (.tmp 46) 23 49 _ 5 56 rfl Tryz.underlying23 R7.info_meter7 rfl (by decide) (Value.slice ma2 T.length mc2) T.length _ rfl (MA.out.owns.own .m _ rfl) rfl (by simp [Value.oneCell']) rfl HLN.out (by decide) MA.out.bs ?_;intro gb cap2 wb how hgr hat;have G3:wr.grownBy wb (Value.slice ma2 T.length mc2).ownBlock:=R7.grown_trans G2 hgr;refine hK.out _ _ ?_ (fun hHeld=>?_)
    ·exact KS.out _ G3
    clear hK K;try simp only [Act.put,List.setIfInBounds_toArray,List.set_cons_zero,List.set_cons_succ]
    refine Hu.pk (v:=?_) 11 ?_ ?_;rotate_left
    ·intro w hSw
     (try dsimp only at hSw)
     go_simp;all_goals (try with_reducible rfl)
    try simp only [Act.put,List.setIfInBounds_toArray,List.set_cons_zero,List.set_cons_succ]
    have MB:=hid (Mk.meter (x:=x) (H:=wa.heap.size+1) MA.out (R7.grown_trans (R7.grown_below (bel_alloc _ _)) hgr) how (R7.own_at7 hat) (Nat.le_succ _));have HG2:=hid (grow_put (grow_up hG.out G3 (fun j ej=>((hM.out.owns.own .m _ rfl).lt j ej).1)) 3 (.slice (some ⟨gb,0,none⟩) (T.length+1) cap2));refine Hu.wpAnyU_ready (rs:=[12]) (by kernel_rfl) (by simp) ?_;refine Hu.AllReadyU.last (o:=(Oper.mk none (Op.store _ _ _) _ _ _ _)) rfl (by kernel_rfl) (fun K hK=>?_) Hu.AllReadyU.nil;go_simp;refine hK.out _ _ ?_;clear hK K;refine Hu.wpAnyU_done (by kernel_rfl) ?_ _;try dsimp only [Act.put]
    clear KS G0 G1 G2 G3 how hgr hat hHeld MA BA ba;go_wp2;go_roundw
    case rel=>exact ⟨i'+1,T++[x],some ⟨gb,0,none⟩,cap2,by simp,by omega,HTX,MB,HG2⟩
    case measure=>simp [intOf];omega
   ·obtain rfl:i'=l.length:=by omega
    have hTM:T=MS:=by rw [hT.out,←LMS.out,List.take_length]
    subst hTM;obtain ⟨w8,hw8⟩:∃W,W=wr:=⟨_,rfl⟩;rw [←hw8] at hM hG ⊢;have M8:=hM;have G8:=hG
    have OKM:=hid (show ∀m∈T,strOk m.name∧strOk m.unit∧I64 m.max∧I64 m.line∧I64 m.col by
     intro m hm;have e:=HMS.out;rw [e] at hm;have:=(srt_perm q.meters).mem_iff.1 hm;rw [NQ.out] at this
     exact FT.out.meters m this)
    have c9:=(X6.out.1.on hM.out.bel).cell 9 _ rfl;obtain ⟨MS,hms⟩:∃MS,MS=T:=⟨_,rfl⟩;rw [←hms] at M8 OKM HMS;clear hw8 hM hG hT hms NA LMS hi hlt;go_wp2;clear c9;go_loopw [53] (fun i W=>∃(i':Nat) (T:List Mm.Sm) (sa:Option Addr) (sc:Nat),i=.int .i64 (i':Int)∧i'≤q.fees.length∧Hid (T=(q.fees.take i').map (sumOf q))∧Hid (Mk w6 W k5 w7.heap.size q.cur A B MS T [] ma2 mc2 sa sc none 0)∧Hid (w7.grownBy W (some k5))) (fun i _=>q.fees.length-(intOf i).toNat)
    case atStart=>exact ⟨0,[],none,0,rfl,Nat.zero_le _,hid rfl,M8,G8⟩
    case round=>
     obtain ⟨i',T,sa,sc,rfl,hi,hT,hM,hG⟩:=hrel;clear M8 G8;by_cases hlt:i'<q.fees.length
     ·obtain ⟨x,hj⟩:∃s,q.fees[i']?=some s:=⟨_,List.getElem?_eq_getElem hlt⟩;have hwin:WinOk x.win:=(GQ.out.fees x (List.mem_of_getElem? hj)).2;obtain ⟨DA,hDA⟩:∃z,z=dayA ⟨q.cur,A,B,MS,T,[]⟩ x.win:=⟨_,rfl⟩;obtain ⟨DB,hDB⟩:∃z,z=dayB ⟨q.cur,A,B,MS,T,[]⟩ x.win:=⟨_,rfl⟩;have HLN:=hid (show T.length+1≤1000000 by rw [hT.out,List.length_map,List.length_take];have:=FEW.out.2.1;omega)
      have HTX:=hid (show T++[(⟨x.amount,DA,DB⟩:Mm.Sm)]=(q.fees.take (i'+1)).map (sumOf q) by
       rw [List.take_add_one,hj,List.map_append,←hT.out,hDA,hDB];unfold dayA dayB;simp only;rw [HA.out,HBB.out]
       rfl)
      have cS:=hid (fun W=>sum_any ⟨q.cur,A,B,MS,T,[]⟩ x ma2 mc2 sa sc none 0 W hwin);rw [←hDA,←hDB] at cS;simp only [List.length_nil] at cS;obtain ⟨bx,ox,ex,lbx,x0,x1,x2,x3,x4,x5,x6,x7,x8,x9,_⟩:=fee_at (LQ.out.on hM.out.bel).fees hj;subst ex;obtain ⟨wt,hwt⟩:∃W,W=wr.alloc (.cells #[x.amount,x.win.has,x.win.a.y,x.win.a.m,x.win.a.d,x.win.b.y,x.win.b.m,x.win.b.d,x.line,x.col] 53):=⟨_,rfl⟩;obtain ⟨kx,hkx⟩:∃k,k=wr.heap.size:=⟨_,rfl⟩;have bt:Below wr.heap.size wr wt:=by rw [hwt];exact bel_alloc _ _
      have XT:Box wt kx [x.amount,x.win.has,x.win.a.y,x.win.a.m,x.win.a.d,x.win.b.y,x.win.b.m,x.win.b.d,x.line,x.col]:=by rw [hwt,hkx];exact Box.new _ _ _
      have HWT:=hid hwt;have HKX:=hid hkx;have hM0:=hid (hM.out.on bt);have hG0:=hid (grow_up hG.out (R7.grown_below bt (row:=none)) (fun _ e=>by cases e));have NX:=hid (show some kx≠(Value.slice sa T.length sc).ownBlock from fun e=>by have:=((hM.out.owns.own .f _ rfl).lt kx e.symm).2;omega);clear hM hG;have hM:=hM0;have hG:=hG0;clear hM0 hG0
      have KS:Hid (∀W,wt.grownBy W (Value.slice sa T.length sc).ownBlock→W.rangeAt k5 0 [q.cur,.int .i64 A,.int .i64 B,.slice ma2 MS.length mc2,.slice sa T.length sc,.slice none 0 0]∧W.rangeAt kx 0 [x.amount,x.win.has,x.win.a.y,x.win.a.m,x.win.a.d,x.win.b.y,x.win.b.m,x.win.b.d,x.line,x.col]∧W.cell? ⟨k5,4,none⟩=some (.slice sa T.length sc)∧W.frozen? ⟨k5,4,none⟩=false):=hid fun W g=>by
       have BX:=hM.out.box.grown g (hM.out.ne (σ:=.f) rfl (Nat.le_refl _));have BY:=XT.grown g NX.out;exact ⟨range_of BX.cell,range_of BY.cell,BX.cell 4 _ rfl,BX.free 4⟩
      clear hj hwin hDA hDB hwt hkx bt XT;go_upto_region 14 with fail
      rw [←HWT.out,←HKX.out];clear HWT HKX lbx x0 x1 x2 x3 x4 x5 x6 x7 x8 x9;have G0:wt.grownBy wt.drew (Value.slice sa T.length sc).ownBlock:=R7.grown_below (Below.drew (Below.refl _ _));refine Hu.wp_region_until (S:=(fun w'=>w'.rangeAt k5 0 [q.cur,.int .i64 A,.int .i64 B,.slice ma2 MS.length mc2,.slice sa T.length sc,.slice none 0 0]∧w'.rangeAt kx 0 [x.amount,x.win.has,x.win.a.y,x.win.a.m,x.win.a.d,x.win.b.y,x.win.b.m,x.win.b.d,x.line,x.col]∧w'.cell? ⟨k5,4,none⟩=some (.slice sa T.length sc)∧w'.frozen? ⟨k5,4,none⟩=false)) 8 (by kernel_rfl) ?_ (fun hHeld=>?_)
      ·exact KS.out _ G0
      iterate 2
       first|refine Hu.pk (v:=?_) 0 ?_ ?_|refine Hu.pk (v:=?_) 1 ?_ ?_
       rotate_left
       ·intro w hSw
        (try dsimp only at hSw)
        go_simp;all_goals (try with_reducible rfl)
       try simp only [Act.put,List.setIfInBounds_toArray,List.set_cons_zero,List.set_cons_succ]
      refine Hu.wpAnyU_take (i:=2) (oi:=(Oper.mk (some 59) (Op.load 27 (Operand.tmp 5)) _ _ _ _)) (v:=_) rfl (by kernel_rfl) (by kernel_rfl) (by kernel_rfl) (by kernel_rfl) (fun _ _ _ h=>h) (yieldsIf_load_mid (by rfl) _ _ rfl k5 0 rfl [q.cur,.int .i64 A,.int .i64 B,.slice ma2 MS.length mc2,.slice sa T.length sc,.slice none 0 0] _ (fun w hSw=>hSw.1) Tryz.underlying27 rfl (by kernel_rfl)) (by assumption) ?_;try simp only [Act.put,List.setIfInBounds_toArray,List.set_cons_zero,List.set_cons_succ]
      refine Hu.wpAnyU_take (i:=3) (oi:=(Oper.mk (some 60) (Op.load 53 (Operand.tmp 9)) _ _ _ _)) (v:=_) rfl (by kernel_rfl) (by kernel_rfl) (by kernel_rfl) (by kernel_rfl) (fun _ _ _ h=>h) (yieldsIf_load_mid (by rfl) _ _ rfl kx 0 rfl [x.amount,x.win.has,x.win.a.y,x.win.a.m,x.win.a.d,x.win.b.y,x.win.b.m,x.win.b.d,x.line,x.col] _ (fun w hSw=>hSw.2.1) Tryz.underlying53 rfl (by kernel_rfl)) (by assumption) ?_;try simp only [Act.put,List.setIfInBounds_toArray,List.set_cons_zero,List.set_cons_succ]
      refine Hu.wpAnyU_ready (rs:=[4]) (by kernel_rfl) (by simp) ?_;refine Hu.AllReadyU.cons (o:=(Oper.mk (some 61) (Op.call _) _ _ _ _)) rfl (fun K hK=>?_) Hu.AllReadyU.nil;go_simp
      go_at_call 36
      refine (cS.out _).mono ?_;rintro e wa ⟨rfl,ba⟩;have BA:=hid (bel_on (Below.drew (Below.refl wt.heap.size wt)) ba);have G1:wt.grownBy wa (Value.slice sa T.length sc).ownBlock:=R7.grown_below BA.out;refine hK.out _ _ ?_ (fun hHeld=>?_)
      ·exact KS.out _ G1
      clear hK K;try simp only [Act.put,List.setIfInBounds_toArray,List.set_cons_zero,List.set_cons_succ]
      refine Hu.wpAnyU_ready (rs:=[5]) (by kernel_rfl) (by simp) ?_;refine Hu.AllReadyU.cons (o:=(Oper.mk (some 62) (Op.buildSlice _ _ _) _ _ _ _)) rfl (fun K hK=>?_) Hu.AllReadyU.nil;go_simp;have G2:wt.grownBy (wa.alloc (.cells #[x.amount,.int .i64 DA,.int .i64 DB] 91)) (Value.slice sa T.length sc).ownBlock:=R7.grown_trans G1 (R7.grown_below (bel_alloc _ _));refine hK.out _ _ ?_ (fun hHeld=>?_)
      ·exact KS.out _ G2
      clear hK K;try simp only [Act.put,List.setIfInBounds_toArray,List.set_cons_zero,List.set_cons_succ]
      have MA:=hid (hM.out.on BA.out);refine Hu.wpAnyU_ready (rs:=[6]) (by kernel_rfl) (by simp) ?_;refine Hu.AllReadyU.cons (o:=(Oper.mk (some 63) (Op.call _) _ _ _ _)) rfl (fun K hK=>?_) Hu.AllReadyU.nil;refine R7.step_more7 (W:=wa) (base:=w7.heap.size) [x.amount,.int .i64 DA,.int .i64 DB] 63 rfl rfl (.tmp 58) (.tmp 62) 24 91 _ 3 24 rfl Tryz.underlying24 info_sm rfl (by decide) (Value.slice sa T.length sc) T.length _ rfl (MA.out.owns.own .f _ rfl) rfl (by simp [Value.oneCell']) rfl HLN.out (by decide) MA.out.bs ?_;intro gb cap2 wb how hgr hat;have G3:wt.grownBy wb (Value.slice sa T.length sc).ownBlock:=R7.grown_trans G2 hgr;refine hK.out _ _ ?_ (fun hHeld=>?_)
      ·exact KS.out _ G3
      clear hK K;try simp only [Act.put,List.setIfInBounds_toArray,List.set_cons_zero,List.set_cons_succ]
      refine Hu.pk (v:=?_) 7 ?_ ?_;rotate_left
      ·intro w hSw
       (try dsimp only at hSw)
       go_simp;all_goals (try with_reducible rfl)
      try simp only [Act.put,List.setIfInBounds_toArray,List.set_cons_zero,List.set_cons_succ]
      have MB:=hid (Mk.sum (x:=⟨x.amount,DA,DB⟩) (H:=wa.heap.size+1) MA.out (R7.grown_trans (R7.grown_below (bel_alloc _ _)) hgr) how (R7.own_at7 hat) (Nat.le_succ _));have HG2:=hid (grow_put (grow_up hG.out G3 (fun j ej=>((hM.out.owns.own .f _ rfl).lt j ej).1)) 4 (.slice (some ⟨gb,0,none⟩) (T.length+1) cap2));refine Hu.wpAnyU_ready (rs:=[8]) (by kernel_rfl) (by simp) ?_;refine Hu.AllReadyU.last (o:=(Oper.mk none (Op.store _ _ _) _ _ _ _)) rfl (by kernel_rfl) (fun K hK=>?_) Hu.AllReadyU.nil;go_simp;refine hK.out _ _ ?_;clear hK K;refine Hu.wpAnyU_done (by kernel_rfl) ?_ _;try dsimp only [Act.put]
      clear KS G0 G1 G2 G3 how hgr hat hHeld MA BA ba;go_wp2;go_roundw
      case rel=>exact ⟨i'+1,T++[⟨x.amount,DA,DB⟩],some ⟨gb,0,none⟩,cap2,by simp,by omega,HTX,MB,HG2⟩
      case measure=>simp [intOf];omega
     ·obtain rfl:i'=q.fees.length:=by omega
      have hTS:=hT.out;rw [List.take_length] at hTS;obtain ⟨SS,hss⟩:∃SS,SS=T:=⟨_,rfl⟩;rw [←hss] at hTS hM;obtain ⟨w8,hw8⟩:∃W,W=wr:=⟨_,rfl⟩;rw [←hw8] at hM hG ⊢;have M8:=hM;have G8:=hG;have HSS:=hid hTS;have c10:=(X6.out.1.on hM.out.bel).cell 10 _ rfl;clear hw8 hM hG hT hss hTS hi hlt;go_wp2;clear c10;go_loopw [69] (fun i W=>∃(i':Nat) (T:List (Prt×Hd)) (pa:Option Addr) (pc:Nat),i=.int .i64 (i':Int)∧i'≤q.charges.length∧Hid (T=((q.charges.zip hs).take i').map (fun z=>(partOf q z.1,z.2)))∧Hid (Mk w6 W k5 w7.heap.size q.cur A B MS SS T ma2 mc2 sa sc pa pc)∧Hid (w7.grownBy W (some k5))) (fun i _=>q.charges.length-(intOf i).toNat)
      case atStart=>exact ⟨0,[],none,0,rfl,Nat.zero_le _,hid rfl,M8,G8⟩
      case round=>
       obtain ⟨i',T,pa,pc,rfl,hi,hT,hM,hG⟩:=hrel;clear M8 G8;by_cases hlt:i'<q.charges.length
       ·obtain ⟨x,hj⟩:∃s,q.charges[i']?=some s:=⟨_,List.getElem?_eq_getElem hlt⟩;obtain ⟨hd,hh⟩:∃s,hs[i']?=some s:=⟨_,List.getElem?_eq_getElem (by rw [HLS.out];exact hlt)⟩;have hwin:WinOk x.win:=(GQ.out.charges x (List.mem_of_getElem? hj)).win;obtain ⟨DA,hDA⟩:∃z,z=dayA ⟨q.cur,A,B,MS,SS,T.map Prod.fst⟩ x.win:=⟨_,rfl⟩;obtain ⟨DB,hDB⟩:∃z,z=dayB ⟨q.cur,A,B,MS,SS,T.map Prod.fst⟩ x.win:=⟨_,rfl⟩;obtain ⟨M,hM0⟩:∃z,z=mix MS x.meter:=⟨_,rfl⟩;have HLN:=hid (show T.length+1≤1000000 by rw [hT.out,List.length_map,List.length_take];have:=FEW.out.2.2;omega)
        have HTX:=hid (show T++[((⟨M,DA,DB,x.allowance,x.block,x.kind,x.tiers,x.mode,x.adjusts⟩,hd):Prt×Hd)]=((q.charges.zip hs).take (i'+1)).map (fun z=>(partOf q z.1,z.2)) by
         rw [List.take_add_one,zip_get hj hh,List.map_append,←hT.out,hDA,hDB,hM0];obtain ⟨i0,hi0⟩:=ix_srt (part_ix WQ.out hj);unfold dayA dayB;simp only;rw [HMS.out,mix_at hi0,HA.out,HBB.out];show _=T++[(partOf q x,hd)]
         unfold partOf;rw [hi0]
         rfl)
        obtain ⟨bx,ex,lbx,rx,_⟩:=charge_own FT.out (OW6.out wr hM.out.bel) hj hh;subst ex;unfold chargeC at rx;have RX:=hid rx;obtain ⟨wt,hwt⟩:∃W,W=wr.alloc (.cells #[x.meter,x.win.has,x.win.a.y,x.win.a.m,x.win.a.d,x.win.b.y,x.win.b.m,x.win.b.d,x.allowance,x.block,x.kind,.slice hd.ta x.tiers.length hd.tc,x.mode,.slice hd.aa x.adjusts.length hd.ac,x.line,x.col] 57):=⟨_,rfl⟩;obtain ⟨kx,hkx⟩:∃k,k=wr.heap.size:=⟨_,rfl⟩;have bt:Below wr.heap.size wr wt:=by rw [hwt];exact bel_alloc _ _
        have XT:Box wt kx [x.meter,x.win.has,x.win.a.y,x.win.a.m,x.win.a.d,x.win.b.y,x.win.b.m,x.win.b.d,x.allowance,x.block,x.kind,.slice hd.ta x.tiers.length hd.tc,x.mode,.slice hd.aa x.adjusts.length hd.ac,x.line,x.col]:=by rw [hwt,hkx];exact Box.new _ _ _
        have HWT:=hid hwt;have HKX:=hid hkx;have hMt:=hid (hM.out.on bt);have hGt:=hid (grow_up hG.out (R7.grown_below bt (row:=none)) (fun _ e=>by cases e));have NX:=hid (show some kx≠(Value.slice pa T.length pc).ownBlock from fun e=>by have:=((hM.out.owns.own .c _ rfl).lt kx e.symm).2;omega);clear hM hG;have hM:=hMt;have hG:=hGt;clear hMt hGt;have cS:=hid (fun W (b:Below wt.heap.size wt W)=>part_any ⟨q.cur,A,B,MS,SS,T.map Prod.fst⟩ x ma2 mc2 sa sc pa pc hd.ta hd.tc hd.aa hd.ac W hwin ((row_of_own (hM.out.owns.own .m _ rfl) OKM.out).on b));rw [←hDA,←hDB] at cS;simp only [List.length_map] at cS;rw [←hM0] at cS
        have KS:Hid (∀W,wt.grownBy W (Value.slice pa T.length pc).ownBlock→W.rangeAt k5 0 [q.cur,.int .i64 A,.int .i64 B,.slice ma2 MS.length mc2,.slice sa SS.length sc,.slice pa T.length pc]∧W.rangeAt kx 0 [x.meter,x.win.has,x.win.a.y,x.win.a.m,x.win.a.d,x.win.b.y,x.win.b.m,x.win.b.d,x.allowance,x.block,x.kind,.slice hd.ta x.tiers.length hd.tc,x.mode,.slice hd.aa x.adjusts.length hd.ac,x.line,x.col]∧W.cell? ⟨k5,5,none⟩=some (.slice pa T.length pc)∧W.frozen? ⟨k5,5,none⟩=false):=hid fun W g=>by
         have BX:=hM.out.box.grown g (hM.out.ne (σ:=.c) rfl (Nat.le_refl _));have BY:=XT.grown g NX.out;exact ⟨range_of BX.cell,range_of BY.cell,BX.cell 5 _ rfl,BX.free 5⟩
        clear hj hh hwin hDA hDB hM0 hwt hkx bt XT rx;go_upto_region 19 with (first|(with_reducible refine wpList_load_mid (op:=Oper.mk (some 72) (Op.load 57 (Operand.tmp 71)) _ _ _ _) ?_ 57 (.tmp 71) ?_ bx (i'*16) ?_ [x.meter,x.win.has,x.win.a.y,x.win.a.m,x.win.a.d,x.win.b.y,x.win.b.m,x.win.b.d,x.allowance,x.block,x.kind,.slice hd.ta x.tiers.length hd.tc,x.mode,.slice hd.aa x.adjusts.length hd.ac,x.line,x.col] _ RX.out Tryz.underlying57 ?_ ?_ ?_;rfl;rfl;go_simp;rfl;kernel_rfl)|(with_reducible refine wpList_store_new (op:=Oper.mk none (Op.store 57 (Operand.tmp 11) (Operand.tmp 72)) _ _ _ _) ?_ 57 (.tmp 11) (.tmp 72) ?_ wr _ #[x.meter,x.win.has,x.win.a.y,x.win.a.m,x.win.a.d,x.win.b.y,x.win.b.m,x.win.b.d,x.allowance,x.block,x.kind,.slice hd.ta x.tiers.length hd.tc,x.mode,.slice hd.aa x.adjusts.length hd.ac,x.line,x.col] ?_ ?_ ?_ ?_ ?_ ?_;rfl;rfl;go_simp;go_simp;kernel_rfl;rfl;(simp [Value.oneCell']))|fail)
        rw [←HWT.out,←HKX.out];clear HWT HKX lbx RX;try dsimp only [Act.put]
        have G0:wt.grownBy wt.drew (Value.slice pa T.length pc).ownBlock:=R7.grown_below (Below.drew (Below.refl _ _));refine Hu.wp_region_until (S:=(fun w'=>w'.rangeAt k5 0 [q.cur,.int .i64 A,.int .i64 B,.slice ma2 MS.length mc2,.slice sa SS.length sc,.slice pa T.length pc]∧w'.rangeAt kx 0 [x.meter,x.win.has,x.win.a.y,x.win.a.m,x.win.a.d,x.win.b.y,x.win.b.m,x.win.b.d,x.allowance,x.block,x.kind,.slice hd.ta x.tiers.length hd.tc,x.mode,.slice hd.aa x.adjusts.length hd.ac,x.line,x.col]∧w'.cell? ⟨k5,5,none⟩=some (.slice pa T.length pc)∧w'.frozen? ⟨k5,5,none⟩=false)) 8 (by kernel_rfl) ?_ (fun hHeld=>?_)
        ·exact KS.out _ G0
        iterate 2
         first|refine Hu.pk (v:=?_) 0 ?_ ?_|refine Hu.pk (v:=?_) 1 ?_ ?_
         rotate_left
         ·intro w hSw
          (try dsimp only at hSw)
          go_simp;all_goals (try with_reducible rfl)
         try simp only [Act.put,List.setIfInBounds_toArray,List.set_cons_zero,List.set_cons_succ]
        refine Hu.wpAnyU_take (i:=2) (oi:=(Oper.mk (some 75) (Op.load 27 (Operand.tmp 5)) _ _ _ _)) (v:=_) rfl (by kernel_rfl) (by kernel_rfl) (by kernel_rfl) (by kernel_rfl) (fun _ _ _ h=>h) (yieldsIf_load_mid (by rfl) _ _ rfl k5 0 rfl [q.cur,.int .i64 A,.int .i64 B,.slice ma2 MS.length mc2,.slice sa SS.length sc,.slice pa T.length pc] _ (fun w hSw=>hSw.1) Tryz.underlying27 rfl (by kernel_rfl)) (by assumption) ?_;try simp only [Act.put,List.setIfInBounds_toArray,List.set_cons_zero,List.set_cons_succ]
        refine Hu.wpAnyU_take (i:=3) (oi:=(Oper.mk (some 76) (Op.load 57 (Operand.tmp 11)) _ _ _ _)) (v:=_) rfl (by kernel_rfl) (by kernel_rfl) (by kernel_rfl) (by kernel_rfl) (fun _ _ _ h=>h) (yieldsIf_load_mid (by rfl) _ _ rfl kx 0 rfl [x.meter,x.win.has,x.win.a.y,x.win.a.m,x.win.a.d,x.win.b.y,x.win.b.m,x.win.b.d,x.allowance,x.block,x.kind,.slice hd.ta x.tiers.length hd.tc,x.mode,.slice hd.aa x.adjusts.length hd.ac,x.line,x.col] _ (fun w hSw=>hSw.2.1) Tryz.underlying57 rfl (by kernel_rfl)) (by assumption) ?_;try simp only [Act.put,List.setIfInBounds_toArray,List.set_cons_zero,List.set_cons_succ]
        refine Hu.wpAnyU_ready (rs:=[4]) (by kernel_rfl) (by simp) ?_;refine Hu.AllReadyU.cons (o:=(Oper.mk (some 77) (Op.call _) _ _ _ _)) rfl (fun K hK=>?_) Hu.AllReadyU.nil;go_simp
        go_at_call 37
        refine (cS.out _ (Below.drew (Below.refl _ _))).mono ?_;rintro e wa ⟨rfl,ba⟩;have BA:=hid (bel_on (Below.drew (Below.refl wt.heap.size wt)) ba);have G1:wt.grownBy wa (Value.slice pa T.length pc).ownBlock:=R7.grown_below BA.out;refine hK.out _ _ ?_ (fun hHeld=>?_)
        ·exact KS.out _ G1
        clear hK K;try simp only [Act.put,List.setIfInBounds_toArray,List.set_cons_zero,List.set_cons_succ]
        refine Hu.wpAnyU_ready (rs:=[5]) (by kernel_rfl) (by simp) ?_;refine Hu.AllReadyU.cons (o:=(Oper.mk (some 78) (Op.buildSlice _ _ _) _ _ _ _)) rfl (fun K hK=>?_) Hu.AllReadyU.nil;go_simp;have G2:wt.grownBy (wa.alloc (.cells #[.int .i64 M,.int .i64 DA,.int .i64 DB,x.allowance,x.block,x.kind,.slice hd.ta x.tiers.length hd.tc,x.mode,.slice hd.aa x.adjusts.length hd.ac] 59)) (Value.slice pa T.length pc).ownBlock:=R7.grown_trans G1 (R7.grown_below (bel_alloc _ _));refine hK.out _ _ ?_ (fun hHeld=>?_)
        ·exact KS.out _ G2
        clear hK K;try simp only [Act.put,List.setIfInBounds_toArray,List.set_cons_zero,List.set_cons_succ]
        have MA:=hid (hM.out.on BA.out);refine Hu.wpAnyU_ready (rs:=[6]) (by kernel_rfl) (by simp) ?_;refine Hu.AllReadyU.cons (o:=(Oper.mk (some 79) (Op.call _) _ _ _ _)) rfl (fun K hK=>?_) Hu.AllReadyU.nil;refine R7.step_more7 (W:=wa) (base:=w7.heap.size) [.int .i64 M,.int .i64 DA,.int .i64 DB,x.allowance,x.block,x.kind,.slice hd.ta x.tiers.length hd.tc,x.mode,.slice hd.aa x.adjusts.length hd.ac] 79 rfl rfl (.tmp 74) (.tmp 78) 25 59 _ 9 104 rfl Tryz.underlying25 info_prt rfl (by decide) (Value.slice pa T.length pc) T.length _ rfl (MA.out.owns.own .c _ rfl) rfl (by simp [Value.oneCell']) rfl HLN.out (by decide) MA.out.bs ?_;intro gb cap2 wb how hgr hat;have G3:wt.grownBy wb (Value.slice pa T.length pc).ownBlock:=R7.grown_trans G2 hgr;refine hK.out _ _ ?_ (fun hHeld=>?_)
        ·exact KS.out _ G3
        clear hK K;try simp only [Act.put,List.setIfInBounds_toArray,List.set_cons_zero,List.set_cons_succ]
        refine Hu.pk (v:=?_) 7 ?_ ?_;rotate_left
        ·intro w hSw
         (try dsimp only at hSw)
         go_simp;all_goals (try with_reducible rfl)
        try simp only [Act.put,List.setIfInBounds_toArray,List.set_cons_zero,List.set_cons_succ]
        have MB:=hid (Mk.part (x:=((⟨M,DA,DB,x.allowance,x.block,x.kind,x.tiers,x.mode,x.adjusts⟩,hd):Prt×Hd)) (H:=wa.heap.size+1) MA.out (R7.grown_trans (R7.grown_below (bel_alloc _ _)) hgr) how (R7.own_at7 hat) (Nat.le_succ _));have HG2:=hid (grow_put (grow_up hG.out G3 (fun j ej=>((hM.out.owns.own .c _ rfl).lt j ej).1)) 5 (.slice (some ⟨gb,0,none⟩) (T.length+1) cap2));refine Hu.wpAnyU_ready (rs:=[8]) (by kernel_rfl) (by simp) ?_;refine Hu.AllReadyU.last (o:=(Oper.mk none (Op.store _ _ _) _ _ _ _)) rfl (by kernel_rfl) (fun K hK=>?_) Hu.AllReadyU.nil;go_simp;refine hK.out _ _ ?_;clear hK K;refine Hu.wpAnyU_done (by kernel_rfl) ?_ _;try dsimp only [Act.put]
        clear KS G0 G1 G2 G3 how hgr hat hHeld MA BA ba;go_wp2;go_roundw
        case rel=>exact ⟨i'+1,T++[((⟨M,DA,DB,x.allowance,x.block,x.kind,x.tiers,x.mode,x.adjusts⟩,hd):Prt×Hd)],some ⟨gb,0,none⟩,cap2,by simp,by omega,HTX,MB,HG2⟩
        case measure=>simp [intOf];omega
       ·obtain rfl:i'=q.charges.length:=by omega
        have hTP:=hT.out;rw [List.take_of_length_le (by rw [List.length_zip];omega)] at hTP;have HTP:=hid hTP
        have EC:=hid (show coreOf p=⟨q.cur,A,B,MS,SS,T.map Prod.fst⟩ by
         rw [EQ.out,HMS.out,HSS.out,HTP.out,HA.out,HBB.out,List.map_map];congr 1
         have:(q.charges.zip hs).map (Prod.fst ∘ fun z=>(partOf q z.1,z.2))=((q.charges.zip hs).map Prod.fst).map (partOf q):=by rw [List.map_map];rfl
         rw [this,List.map_fst_zip (by have:=HLS.out;omega)])
        obtain ⟨w9,hw9⟩:∃W,W=wr:=⟨_,rfl⟩;rw [←hw9] at hM ⊢;have M9:=hM;clear hw9 hM hG hT hTP hi hlt;have RC:=hid (range_of M9.out.box.cell);unfold mkC at RC;have Y2:=X6.out.2.1.on M9.out.bel;have Y3:=X6.out.2.2.on M9.out.bel;have RT2:=hid (Te.box_there Y2 (n:=6) rfl);have Z2:Box (w9.setCells k2 0 [q.cur,.int .i64 A,.int .i64 B,.slice ma2 MS.length mc2,.slice sa SS.length sc,.slice pa T.length pc]) k2 [q.cur,.int .i64 A,.int .i64 B,.slice ma2 MS.length mc2,.slice sa SS.length sc,.slice pa T.length pc]:=Box.sets (W:=w9) [q.cur,.int .i64 A,.int .i64 B,.slice ma2 MS.length mc2,.slice sa SS.length sc,.slice pa T.length pc] 0 Y2;have Z3:Box (w9.setCells k2 0 [q.cur,.int .i64 A,.int .i64 B,.slice ma2 MS.length mc2,.slice sa SS.length sc,.slice pa T.length pc]) k3 [.int .i64 0,.int .i64 0,.int .i64 0]:=Box.others (W:=w9) (Ne.symm HB.out.2.2.2.2.2.1) [q.cur,.int .i64 A,.int .i64 B,.slice ma2 MS.length mc2,.slice sa SS.length sc,.slice pa T.length pc] 0 Y3;have RT3:=hid (Te.box_there Z3 (n:=3) rfl);have R2:=hid (range_of (Box.others (W:=w9) HB.out.2.2.2.2.2.1 [.int .i64 0,.int .i64 0,.int .i64 0] 0 Z2).cell);have R3:=hid (range_of (Box.sets (W:=w9) [.int .i64 0,.int .i64 0,.int .i64 0] 0 Z3).cell);have LB:=hid (show k2<w7.heap.size∧k3<w7.heap.size by have:=M9.out.lt;have:=M9.out.le;have:=S6.out;omega);have OWN:=hid (fun s r (hr:rowsC MS SS T ma2 mc2 sa sc pa pc s=some r)=>owns_setCells_below LB.out.2 [.int .i64 0,.int .i64 0,.int .i64 0] 0 _ (owns_setCells_below LB.out.1 [q.cur,.int .i64 A,.int .i64 B,.slice ma2 MS.length mc2,.slice sa SS.length sc,.slice pa T.length pc] 0 _ (M9.out.owns.own s r hr)));have OWF:=hid (fun s r (hr:rowOf q mb mbc fb fbc cb cbc hs s=some r)=>owns_setCells_below L23.out.2 [.int .i64 0,.int .i64 0,.int .i64 0] 0 _ (owns_setCells_below L23.out.1 [q.cur,.int .i64 A,.int .i64 B,.slice ma2 MS.length mc2,.slice sa SS.length sc,.slice pa T.length pc] 0 _ (OW6.out w9 M9.out.bel s r hr)));have BF:=hid (below_setCells HB.out.2.2.1 [.int .i64 0,.int .i64 0,.int .i64 0] 0 _ (below_setCells HB.out.2.1 [q.cur,.int .i64 A,.int .i64 B,.slice ma2 MS.length mc2,.slice sa SS.length sc,.slice pa T.length pc] 0 _ (bel_on B6.out M9.out.bel)));clear Y2 Y3 Z2 Z3
        go_wp2_with (first
         | (with_reducible refine wpList_load_mid (op:=Oper.mk (some 82) (Op.load 27 (Operand.tmp 5)) _ _ _ _) ?_ 27 (.tmp 5) ?_ k5 0 ?_ [q.cur,.int .i64 A,.int .i64 B,.slice ma2 MS.length mc2,.slice sa SS.length sc,.slice pa T.length pc] _ RC.out Tryz.underlying27 ?_ ?_ ?_;rfl;rfl;go_simp;rfl;kernel_rfl)
         | (with_reducible refine wpList_store_mid (op:=Oper.mk none (Op.store 27 (Operand.tmp 2) (Operand.tmp 82)) _ _ _ _) ?_ 27 (.tmp 2) (.tmp 82) ?_ k2 0 #[q.cur,.int .i64 A,.int .i64 B,.slice ma2 MS.length mc2,.slice sa SS.length sc,.slice pa T.length pc] ?_ ?_ ?_ ?_ ?_ ?_;rfl;rfl;go_simp;go_simp;(simpa using RT2.out);kernel_rfl;(simp [Value.oneCell']))
         | (with_reducible refine wpList_store_mid (op:=Oper.mk none (Op.store 30 (Operand.tmp 3) (Operand.tmp 83)) _ _ _ _) ?_ 30 (.tmp 3) (.tmp 83) ?_ k3 0 #[.int .i64 0,.int .i64 0,.int .i64 0] ?_ ?_ ?_ ?_ ?_ ?_;rfl;rfl;go_simp;go_simp;(simpa using RT3.out);kernel_rfl;(simp [Value.oneCell']))
         | fail)
        refine bodyPost_ret (v:=.tuple #[.agg #[q.cur,.int .i64 A,.int .i64 B,.slice ma2 MS.length mc2,.slice sa SS.length sc,.slice pa T.length pc],.agg #[.int .i64 0,.int .i64 0,.int .i64 0]]) ?_ rfl ?_
        ·exact results_cc rfl _ _ k2 k3 [q.cur,.int .i64 A,.int .i64 B,.slice ma2 MS.length mc2,.slice sa SS.length sc,.slice pa T.length pc] [.int .i64 0,.int .i64 0,.int .i64 0] _ _ rfl rfl R2.out R3.out Tryz.underlying27 rfl (by kernel_rfl) Tryz.underlying30 rfl (by kernel_rfl)
        refine ⟨ma2,mc2,sa,sc,pa,pc,?_,?_,BF.out⟩
        ·rw [EC.out];unfold corC;simp only [List.length_map]
        ·intro W' hfar;have lw7:w.heap.size≤w7.heap.size:=by have:=HB.out;have:=LB.out;omega
         have lw4:w.heap.size≤w4.heap.size:=by have:=HB.out;have:=L23.out;omega
         have OWN:=fun s r hr=>owns_far (OWN.out s r hr) lw7 hfar;have OWF:=hid (fun s r hr=>owns_far (OWF.out s r hr) lw4 hfar);rw [EC.out];refine ⟨rfl,row_of_own (OWN .m _ rfl) OKM.out,row_of_own (OWN .f _ rfl) (fun s hs'=>?_),prt_row (OWN .c _ rfl) (fun z hz=>?_),FT.out.name.2,by rw [HA.out];exact dn_i64 GQ.out.days.1,by rw [HBB.out];exact dn_i64 GQ.out.days.2⟩
         ·rw [HSS.out] at hs';obtain ⟨f,hf,rfl⟩:=List.mem_map.1 hs';have g:=GQ.out.fees f hf;exact ⟨(FT.out.fees f hf).1,win_i64 GQ.out g.2⟩
         ·rw [HTP.out] at hz;obtain ⟨y,hy,rfl⟩:=List.mem_map.1 hz;obtain ⟨n,hn,e⟩:=List.getElem_of_mem hy;have ez:(q.charges.zip hs)[n]?=some (y.1,y.2):=by rw [List.getElem?_eq_getElem hn,e]
          rw [List.getElem?_zip_eq_some] at ez;obtain ⟨_,_,_,_,h1,h2⟩:=charge_own FT.out OWF.out ez.1 ez.2;exact part_lies GQ.out WQ.out ez.1 h1 h2
end Co
end Go.Proofs.YtofbobdhkbmbgaaGreatDoor
