/- The document's answers for layer 9 (poundageref09): Most. -/
import Derived.Test.YtofbobdhkbmbgaaGreatDoorJRef2d
set_option maxRecDepth 100000
set_option maxHeartbeats 16000000
namespace Go.Proofs.YtofbobdhkbmbgaaGreatDoor
namespace R9
open Go.RowKit Go.Sort P Mm Md R6 L06
theorem top_i64 {ts:List Tier} (h:∀t∈ts,0≤t.rate∧t.rate≤1000000000000) (i:Nat):0≤topRate (ts.take i)∧topRate (ts.take i)≤1000000000000:=by
 have:∀(l:List Tier) (r:Int),(∀t∈l,0≤t.rate∧t.rate≤1000000000000)→0≤r∧r≤1000000000000→0≤l.foldl (fun r t=>max r t.rate) r∧l.foldl (fun r t=>max r t.rate) r≤1000000000000:=by
  intro l;induction l with
  | nil=>intro r _ h;exact h
  | cons t q ih=>
    intro r h1 h2;have:=h1 t (List.mem_cons_self ..);exact ih _ (fun x hx=>h1 x (List.mem_cons_of_mem _ hx)) (by show 0≤max r t.rate∧max r t.rate≤_;omega)
 exact this _ 0 (fun t ht=>h t (List.mem_of_mem_take ht)) (by omega)
theorem rates_of {c:Charge} (g:ChOk c):∀t∈c.tiers,0≤t.rate∧t.rate≤1000000000000:=by
 obtain ⟨ts,r,e,h,hr⟩:=g.tiers;rw [e];intro t ht;rcases List.mem_append.1 ht with ht|ht
 ·exact (h t ht).rate
 ·obtain rfl:t=⟨0,r⟩:=by simpa using ht
  exact hr
theorem lim_t {n:Int} {b:Bool} (hb:b=true) (hn:n<maxBound):lim n b=some n:=by
 unfold lim;rw [if_pos ⟨hb,hn⟩]
theorem lim_f {n:Int} {b:Bool} (hb:b=false):lim n b=none:=by
 unfold lim;rw [if_neg (by rw [hb];simp)]
theorem lim_g {n:Int} {b:Bool} (hn:maxBound≤n):lim n b=none:=by
 unfold lim;rw [if_neg (fun h=>by have:=h.2;omega)]
theorem ret_m {o:Option Int} {n:Int} {k:Bool} (h:n=o.getD 0) (h2:k=o.isSome):(Ending.returned (.tuple #[.int .i64 n,.bool k]):Ending)=.returned (.tuple #[.int .i64 (o.getD 0),.bool o.isSome]):=by rw [h,h2]
theorem ret_n {o:Option Int} (h:o=none):(Ending.returned (.tuple #[.int .i64 0,.bool false]):Ending)=.returned (.tuple #[.int .i64 (o.getD 0),.bool o.isSome]):=by rw [h];rfl
theorem ret_v {o:Option Int} {n:Int} (h:o=some n):(Ending.returned (.tuple #[.int .i64 n,.bool true]):Ending)=.returned (.tuple #[.int .i64 (o.getD 0),.bool o.isSome]):=by rw [h];rfl
theorem max_if (a b:Int):(if a<b then b else a)=max a b:=by split<;>omega
theorem i64_mul (p c m:Int):I64 (mdn p c m):=by
 unfold mdn;split
 ·exact i64_cut _
 ·unfold I64;omega
theorem most_any (c:Charge) (ta:Option Addr) (tc:Nat) (aa:Option Addr) (ac:Nat) (mx:Int) (w:World) (hc:ChargeLies w (chargeC c ta tc aa ac) c ta tc aa ac) (g:ChOk c) (hb0:c.block≠0) (hx0:0≤mx) (hx1:mx≤2000) (ql:c.tiers.length≤100000∧c.adjusts.length≤100000) :
  Calls Tryz.prog 110 #[.agg #[c.meter,c.win.has,c.win.a.y,c.win.a.m,c.win.a.d,c.win.b.y,c.win.b.m,c.win.b.d,c.allowance,c.block,c.kind,.slice ta c.tiers.length tc,c.mode,.slice aa c.adjusts.length ac,c.line,c.col],.int .i64 mx] w fun e w'=>e=.returned (.tuple #[.int .i64 ((mostOf c mx).getD 0),.bool (mostOf c mx).isSome])∧Below w.heap.size w w':=by
 obtain ⟨w1,hw1⟩:∃W,W=w.alloc (.cells #[c.meter,c.win.has,c.win.a.y,c.win.a.m,c.win.a.d,c.win.b.y,c.win.b.m,c.win.b.d,c.allowance,c.block,c.kind,.slice ta c.tiers.length tc,c.mode,.slice aa c.adjusts.length ac,c.line,c.col] 57):=⟨_,rfl⟩;have b1:Below w.heap.size w w1:=by rw [hw1];exact bel_alloc _ _
 obtain ⟨k1,hk1⟩:∃k,k=w.heap.size:=⟨_,rfl⟩;have X1:Box w1 k1 [c.meter,c.win.has,c.win.a.y,c.win.a.m,c.win.a.d,c.win.b.y,c.win.b.m,c.win.b.d,c.allowance,c.block,c.kind,.slice ta c.tiers.length tc,c.mode,.slice aa c.adjusts.length ac,c.line,c.col]:=by rw [hw1,hk1];exact Box.new _ _ _
 obtain ⟨nT,hnT⟩:∃n,n=c.tiers.length:=⟨_,rfl⟩;obtain ⟨nA,hnA⟩:∃n,n=c.adjusts.length:=⟨_,rfl⟩;obtain ⟨al,hal⟩:∃al,al=c.allowance:=⟨_,rfl⟩;obtain ⟨bl,hbl⟩:∃bl,bl=c.block:=⟨_,rfl⟩
 have C:Hid (∀W,Below w1.heap.size w1 W→W.cell? ⟨k1,8,none⟩=some (.int .i64 al)∧W.cell? ⟨k1,9,none⟩=some (.int .i64 bl)∧W.cell? ⟨k1,11,none⟩=some (.slice ta nT tc)∧W.cell? ⟨k1,13,none⟩=some (.slice aa nA ac)):=
  hid fun W b=>by rw [hnT,hnA,hal,hbl];exact ⟨(X1.on b).cell 8 _ rfl,(X1.on b).cell 9 _ rfl,(X1.on b).cell 11 _ rfl,(X1.on b).cell 13 _ rfl⟩
 have L0:Hid (∀W,Below w1.heap.size w1 W→Row tTier W ta nT tc c.tiers∧Row tAdj W aa nA ac c.adjusts∧Below w.heap.size w W):=
  hid fun W b=>by rw [hnT,hnA];exact ⟨hc.tiers.on (bel_on b1 b),hc.adjusts.on (bel_on b1 b),bel_on b1 b⟩
 have a0:0≤al:=by rw [hal];exact g.allow.1
 have a1:al≤1000000:=by rw [hal];exact g.allow.2
 have l0:0<bl:=by have:=g.block.1;rw [hbl];omega
 have l1:bl≤1000000:=by rw [hbl];exact g.block.2
 have qT:nT≤100000:=by rw [hnT];exact ql.1
 have qA:nA≤100000:=by rw [hnA];exact ql.2
 have uT:nT≤tc:=by rw [hnT];exact hc.tiers.hcap
 have uA:nA≤ac:=by rw [hnA];exact hc.adjusts.hcap
 obtain ⟨M,hM⟩:∃M,M=mostOf c mx:=⟨_,rfl⟩;rw [←hM];have HM:Hid (M=(lim (mdn (topRate c.tiers*qty mx al bl) 1000000 1) (mdb (topRate c.tiers*qty mx al bl) 1000000 1)).bind fun n=>adjAll n c.adjusts):=hid (by rw [hM,hal,hbl];rfl);have HnT:=hid hnT;have HnA:=hid hnA;have GR:=hid (rates_of g);have GA:=hid g.adjs;have HW:=hid hw1;have HK:=hid hk1;clear hM hnT hnA hal hbl g hc b1 X1 hw1 hk1 hb0 ql;go_enter Tryz.func110,Tryz.ntmps110
 go_upto_region 1 with fail
 rw [←HW.out,←HK.out];clear HW HK;go_wp2;go_loopw [6] (fun q wr=>∃(k:Nat) (q':Int),q=.int .i64 q'∧0≤q'∧q'≤2000000∧Hid (q'=k*bl∧(k=0∨(k:Int)*bl-bl<mx-al))∧wr=w1) (fun q _=>(mx-al-intOf q).toNat)
 case atStart=>exact ⟨0,0,rfl,by omega,by omega,hid ⟨by simp,.inl rfl⟩,rfl⟩
 case round=>
  obtain ⟨k,q,rfl,q0,q1,hq,hwr⟩:=hrel;have hwr':=hwr.symm;clear hwr;subst hwr';obtain ⟨c8,c9,c11,c13⟩:=C.out w1 (Below.refl _ _);clear c13;by_cases hlt:q<mx-al
  ·have Hq:Hid (q+bl=((k+1:Nat):Int)*bl∧(k+1=0∨((k+1:Nat):Int)*bl-bl<mx-al)):=hid (by
    have e:((k+1:Nat):Int)*bl=(k:Int)*bl+bl:=by rw [Int.natCast_succ,Int.add_mul,Int.one_mul]
    have:=hq.out.1
    exact ⟨by omega,.inr (by omega)⟩)
   clear c11 hq;go_wp2;go_roundw
   case rel=>exact ⟨k+1,q+bl,rfl,by omega,by omega,Hq,trivial⟩
   case measure=>simp [intOf];omega
  ·have Q:Hid (qty mx al bl=q):=hid (by
    have:=hq.out
    rw [qty_count (k:=k) l0 (by omega) this.2,←this.1])
   rw [Q.out] at HM;have hle:mx-al≤q:=by omega
   clear hq hlt c9;go_wp2;clear c8 c11;go_loopw [7,27] (fun v i wx=>∃(i':Nat),v=.int .i64 (topRate (c.tiers.take i'))∧i=.int .i64 (i':Int)∧i'≤nT∧Hid (Below w1.heap.size w1 wx)) (fun _ i _=>nT-(intOf i).toNat)
   case atStart=>exact ⟨0,rfl,rfl,Nat.zero_le _,hid (Below.refl _ _)⟩
   case round=>
    obtain ⟨i',rfl,rfl,hi,hB⟩:=hrel;by_cases hlt:i'<nT
    ·obtain ⟨t,hti⟩:∃m,c.tiers[i']?=some m:=⟨_,List.getElem?_eq_getElem (by have:=HnT.out;omega)⟩;have ST:=hid (topRate_step hti);obtain ⟨b,o,e,lb,a0,a1,_⟩:=tier_at (L0.out _ hB.out).1 hti;have B2:=hid (bel_on hB.out (bel_alloc _ (.cells #[t.upto,t.rate] 119)));obtain ⟨tr,htr⟩:∃x,x=topRate (c.tiers.take i'):=⟨_,rfl⟩;rw [←htr] at ST ⊢;clear hti htr;subst e;go_wp2;go_roundw
     case rel=>exact ⟨i'+1,by first|rw [ST.out,max_if]|rw [ST.out],by simp,by omega,B2⟩
     case measure=>simp [intOf];omega
    ·obtain rfl:i'=nT:=by omega
     have ET:Hid (c.tiers.take i'=c.tiers):=hid (by rw [HnT.out,List.take_length]);obtain ⟨tr,htr⟩:∃x,x=topRate (c.tiers.take i'):=⟨_,rfl⟩;have tr0:=(top_i64 GR.out i').1;have tr1:=(top_i64 GR.out i').2;rw [←htr] at tr0 tr1 ⊢;rw [←ET.out,←htr] at HM;clear htr ET hlt hi;have cM:=fun W=>R2.muldiv_any tr q 1000000 1 W (by unfold I64;omega) (by unfold I64;omega) (by unfold I64;omega);obtain ⟨N,hN⟩:∃N,N=mdn (tr*q) 1000000 1:=⟨_,rfl⟩;obtain ⟨K,hK⟩:∃N,N=mdb (tr*q) 1000000 1:=⟨_,rfl⟩;have iN:I64 N:=by rw [hN];exact i64_mul _ _ _
     rw [←hN,←hK] at cM HM;clear hN hK;go_wp2_with fail
     refine (cM _).mono ?_;rintro e wx ⟨rfl,b3⟩;have B3:=hid (bel_on hB.out b3);clear b3 cM hB;by_cases hK:K=false
     ·subst hK;have E:Hid (M=none):=hid (by rw [HM.out,lim_f rfl];rfl);have BF:=hid (L0.out _ B3.out).2.2;clear iN;go_wp2;go_ret2;exact ⟨ret_n E.out,BF.out⟩
     obtain rfl:K=true:=by simpa using hK
     by_cases hg:1152921504606846976≤N
     ·have E:Hid (M=none):=hid (by rw [HM.out,lim_g hg];rfl);have BF:=hid (L0.out _ B3.out).2.2;clear iN;go_wp2;go_ret2;exact ⟨ret_n E.out,BF.out⟩
     have HA:Hid (M=adjAll N c.adjusts):=hid (by rw [HM.out,lim_t rfl (by unfold maxBound;omega)];rfl);have n0 : -9223372036854775808≤N:=iN.1;have n1:N<1152921504606846976:=by omega
     obtain ⟨c8,c9,c11,c13⟩:=C.out _ B3.out;clear c8 c9 c11 iN hg hK;go_wp2;clear c13;go_loopw [10,11,51] (fun n ok i wy=>∃(i':Nat) (n':Int),n=.int .i64 n'∧ok=.bool true∧i=.int .i64 (i':Int)∧i'≤nA∧-9223372036854775808≤n'∧n'<1152921504606846976∧Hid (M=adjAll n' (c.adjusts.drop i'))∧Hid (Below w1.heap.size w1 wy)) (fun _ _ i _=>nA-(intOf i).toNat)
     case atStart=>exact ⟨0,N,rfl,rfl,rfl,Nat.zero_le _,n0,n1,HA,B3⟩
     case round=>
      clear n0 n1 HA B3;obtain ⟨i',n',rfl,rfl,rfl,hi,n0,n1,hh,hB⟩:=hrel;by_cases hlt:i'<nA
      ·obtain ⟨a,hti⟩:∃m,c.adjusts[i']?=some m:=⟨_,List.getElem?_eq_getElem (by have:=HnA.out;omega)⟩;have ST:=hid (adjAll_step (n:=n') hti);have ga:=GA.out a (List.mem_of_getElem? hti);obtain ⟨b,o,e,lb,a0,a1,a2,_⟩:=adj_at (L0.out _ hB.out).2.1 hti;have HM2:Hid (M=(adjStep n' a).bind fun m=>adjAll m (c.adjusts.drop (i'+1))):=hid (by rw [hh.out,ST.out]);obtain ⟨kd,an,am⟩:=a;have B2:=hid (bel_on hB.out (bel_alloc _ (.cells #[.int .i64 kd,.int .i64 an,.int .i64 am] 121)));have g0:0≤an:=by rcases ga with h|h;exact h.2.1.1;exact h.2.1.1
       have g1:an≤1000000000000:=by rcases ga with h|h;have:=h.2.1.2;(show an≤_);(have:an≤100000000:=this);omega;exact h.2.1.2
       have g2:kd=1∨kd=2∨kd=3∨kd=4:=by rcases ga with h|h;exact .inl h.1;exact .inr h.1
       clear hti ga hh ST HM;subst e;rcases g2 with rfl|rfl|rfl|rfl
       ·have cM:=fun W=>R2.muldiv_any n' an 100000 1 W (by unfold I64;omega) (by unfold I64;omega) (by unfold I64;omega);obtain ⟨N2,hN⟩:∃N,N=mdn (n'*an) 100000 1:=⟨_,rfl⟩;obtain ⟨K,hK⟩:∃N,N=mdb (n'*an) 100000 1:=⟨_,rfl⟩;have iN:I64 N2:=by rw [hN];exact i64_mul _ _ _
        have SE:Hid (adjStep n' ⟨1,an,am⟩=lim N2 K):=hid (by rw [hN,hK];rfl);rw [←hN,←hK] at cM;clear hN hK;go_wp2_with fail
        refine (cM _).mono ?_;rintro e wz ⟨rfl,b3⟩;have B4:=hid (bel_on B2.out b3);clear b3 cM hB B2;have i0:=iN.1;clear iN;by_cases hK:K=false
        ·subst hK;have E:Hid (M=none):=hid (by rw [HM2.out,SE.out,lim_f rfl];rfl);have BF:=hid (L0.out _ B4.out).2.2;clear HM2;go_wp2;go_ret2;exact ⟨ret_n E.out,BF.out⟩
        obtain rfl:K=true:=by simpa using hK
        clear hK;by_cases hg:1152921504606846976≤N2
        ·have E:Hid (M=none):=hid (by rw [HM2.out,SE.out,lim_g hg];rfl);have BF:=hid (L0.out _ B4.out).2.2;clear HM2;go_wp2;go_ret2;exact ⟨ret_n E.out,BF.out⟩
        ·have E:Hid (M=adjAll (N2) (c.adjusts.drop (i'+1))):=hid (by rw [HM2.out,SE.out,lim_t rfl (by unfold maxBound;omega)];rfl);have v0 : -9223372036854775808≤N2:=by omega
         have v1:N2<1152921504606846976:=by omega
         clear HM2;go_wp2;go_roundw
         case rel=>exact ⟨i'+1,N2,rfl,rfl,by simp,by omega,v0,v1,E,B4⟩
         case measure=>simp [intOf];omega
       ·by_cases hg:an<n'
        ·have SE:Hid (adjStep n' ⟨2,an,am⟩=some an):=hid (by show lim (if an<n' then an else n') true=_;rw [if_pos hg,lim_t rfl (by unfold maxBound;omega)]);have E:Hid (M=adjAll (an) (c.adjusts.drop (i'+1))):=hid (by rw [HM2.out,SE.out];rfl);have v0 : -9223372036854775808≤an:=by omega
         have v1:an<1152921504606846976:=by omega
         clear HM2;go_wp2;go_roundw
         case rel=>exact ⟨i'+1,an,rfl,rfl,by simp,by omega,v0,v1,E,B2⟩
         case measure=>simp [intOf];omega
        ·have SE:Hid (adjStep n' ⟨2,an,am⟩=some n'):=hid (by show lim (if an<n' then an else n') true=_;rw [if_neg hg,lim_t rfl (by unfold maxBound;omega)]);have E:Hid (M=adjAll (n') (c.adjusts.drop (i'+1))):=hid (by rw [HM2.out,SE.out];rfl);have v0 : -9223372036854775808≤n':=by omega
         have v1:n'<1152921504606846976:=by omega
         clear HM2;go_wp2;go_roundw
         case rel=>exact ⟨i'+1,n',rfl,rfl,by simp,by omega,v0,v1,E,B2⟩
         case measure=>simp [intOf];omega
       ·by_cases hg:n'<an
        ·have SE:Hid (adjStep n' ⟨3,an,am⟩=some an):=hid (by show lim (if n'<an then an else n') true=_;rw [if_pos hg,lim_t rfl (by unfold maxBound;omega)]);have E:Hid (M=adjAll (an) (c.adjusts.drop (i'+1))):=hid (by rw [HM2.out,SE.out];rfl);have v0 : -9223372036854775808≤an:=by omega
         have v1:an<1152921504606846976:=by omega
         clear HM2;go_wp2;go_roundw
         case rel=>exact ⟨i'+1,an,rfl,rfl,by simp,by omega,v0,v1,E,B2⟩
         case measure=>simp [intOf];omega
        ·have SE:Hid (adjStep n' ⟨3,an,am⟩=some n'):=hid (by show lim (if n'<an then an else n') true=_;rw [if_neg hg,lim_t rfl (by unfold maxBound;omega)]);have E:Hid (M=adjAll (n') (c.adjusts.drop (i'+1))):=hid (by rw [HM2.out,SE.out];rfl);have v0 : -9223372036854775808≤n':=by omega
         have v1:n'<1152921504606846976:=by omega
         clear HM2;go_wp2;go_roundw
         case rel=>exact ⟨i'+1,n',rfl,rfl,by simp,by omega,v0,v1,E,B2⟩
         case measure=>simp [intOf];omega
       ·have cN:=fun W=>R1.of_any n' W (by unfold I64;omega);have cA:=fun W=>R1.of_any an W (by unfold I64;omega);have cS:=fun W=>R1.add_any n' an W (by unfold two127;omega) (by unfold two127;omega);have cI:=fun W=>R1.int_any (n'+an) W;rw [cut64_t (show I64 (n'+an) by unfold I64;omega),ok64_t (show I64 (n'+an) by unfold I64;omega)] at cI;have SE:Hid (adjStep n' ⟨4,an,am⟩=lim (n'+an) true):=hid (by show lim (cut64 (n'+an)) (ok64 (n'+an))=_;rw [cut64_t (show I64 (n'+an) by unfold I64;omega),ok64_t (show I64 (n'+an) by unfold I64;omega)]);obtain ⟨S,hS⟩:∃S,S=n'+an:=⟨_,rfl⟩;have s0 : -9223372036854775808≤S:=by omega
        rw [←hS] at cI cS SE;obtain ⟨V1,hV1⟩:∃V,V=R1.W n':=⟨_,rfl⟩;obtain ⟨V2,hV2⟩:∃V,V=R1.W an:=⟨_,rfl⟩;obtain ⟨V3,hV3⟩:∃V,V=R1.W S:=⟨_,rfl⟩;rw [←hV1] at cN cS;rw [←hV2] at cA cS;rw [←hV3] at cI cS;clear hV1 hV2 hV3;obtain ⟨wt,hwt⟩:∃W,W=wr.alloc (.cells #[.int .i64 4,.int .i64 an,.int .i64 am] 121):=⟨_,rfl⟩;have xt:Box wt wr.heap.size [.int .i64 4,.int .i64 an,.int .i64 am]:=by rw [hwt];exact Box.new _ _ _
        have BT:Hid (Below w1.heap.size w1 wt):=hid (by rw [hwt];exact B2.out);have HWT:=hid hwt;have t1:=cell_regrown (xt.cell 1 _ rfl);have qN:=fun d os=>Calls.regrown_of (cN (grow (redrawn wt d) os));have qA:=fun d os=>Calls.regrown_of (cA (grow (redrawn wt d) os));have qS:=fun d os=>Calls.regrown_of (cS (grow (redrawn wt d) os));have qI:=fun d os=>Calls.regrown_of (cI (grow (redrawn wt d) os));clear cN cA cS cI hwt xt hB B2 hS;go_upto_region 26 with fail
        rw [←HWT.out];clear HWT a0 a1 a2;refine wp_region_quiet_below (by kernel_rfl) (by kernel_rfl) ?_;repeat (go_big_quiet_step (first|(go_at_call_of 155 (Value.int IntKind.i64 n');exact qN _ _)|(go_at_call 155;exact qA _ _)|(go_at_call 154;exact qS _ _)|(go_at_call 153;exact qI _ _)))
        refine wpQuiet_nil ?_;intro wz hw';obtain ⟨⟨dq,osq⟩,hw''⟩:=hw';have B4:Hid (Below w1.heap.size w1 wz):=hid (by subst hw'';exact bel_on BT.out (below_regrown wt dq osq));clear hw'' qN qA qS qI t1 BT;by_cases hg:1152921504606846976≤S
        ·have E:Hid (M=none):=hid (by rw [HM2.out,SE.out,lim_g hg];rfl);have BF:=hid (L0.out _ B4.out).2.2;clear HM2;go_wp2;go_ret2;exact ⟨ret_n E.out,BF.out⟩
        ·have E:Hid (M=adjAll (S) (c.adjusts.drop (i'+1))):=hid (by rw [HM2.out,SE.out,lim_t rfl (by unfold maxBound;omega)];rfl);have v0 : -9223372036854775808≤S:=by omega
         have v1:S<1152921504606846976:=by omega
         clear HM2;go_wp2;go_roundw
         case rel=>exact ⟨i'+1,S,rfl,rfl,by simp,by omega,v0,v1,E,B4⟩
         case measure=>simp [intOf];omega
      ·obtain rfl:i'=nA:=by omega
       have E:Hid (M=some n'):=hid (by rw [hh.out,adjAll_end (by have:=HnA.out;omega)]);have BF:=hid (L0.out _ hB.out).2.2;clear hh HM;go_wp2;go_ret2;exact ⟨ret_v E.out,BF.out⟩
structure Chs (p:Plan):Prop where
 gd:Gd p
 cnt:p.meters.length≤20000∧p.fees.length≤20000∧p.charges.length≤20000
 parts:∀c∈p.charges,c.tiers.length≤100000∧c.adjusts.length≤100000
 named:∀c∈p.charges,∃i,meterIx p.meters c.meter=some i
 block:∀c∈p.charges,c.block≠0
theorem go_bind {ms:List Meter} {cs:List Charge} {i k:Nat} {c:Charge} {L:List Int} {x:Int} (h:cs[i]?=some c) (e:meterIx ms c.meter=some k) (hx:mostOf c (ms.getD k default).max=some x) :
  ((mosts ms (cs.drop i)).bind fun l=>sumUp 0 (L++l))=(mosts ms (cs.drop (i+1))).bind fun l=>sumUp 0 ((L++[x])++l):=by
 rw [mosts_some h e,hx];show (((mosts ms (cs.drop (i+1))).map (x::·)).bind fun l=>sumUp 0 (L++l))=_
 cases mosts ms (cs.drop (i+1)) with
 | none=>rfl
 | some l=>show sumUp 0 (L++x::l)=sumUp 0 ((L++[x])++l);rw [List.append_assoc];rfl
theorem go_none {ms:List Meter} {cs:List Charge} {i k:Nat} {c:Charge} {L:List Int} (h:cs[i]?=some c) (e:meterIx ms c.meter=some k) (hx:mostOf c (ms.getD k default).max=none) :
  ((mosts ms (cs.drop i)).bind fun l=>sumUp 0 (L++l))=none:=by
 rw [mosts_some h e,hx];rfl
def I60 (x:Int):Prop:=0≤x∧x≤9223372036854775807
theorem most_i60 {c:Charge} {mx x:Int} (g:ChOk c) (h:mostOf c mx=some x) (hb:x≤9223372036854775807):I60 x:=⟨mostOf_nn (fun a ha=>by rcases g.adjs a ha with k|k<;>exact k.2.1.1) g.block.1 h,hb⟩
theorem adjAll_lt:∀{l:List Adj} {n k:Int},n<maxBound→adjAll n l=some k→k<maxBound
 | [],n,k,hn,e=>by
   unfold adjAll at e;obtain rfl:=Option.some.inj e;exact hn
 | a::r,n,k,hn,e=>by
   unfold adjAll at e;obtain ⟨m,hm,e2⟩:=Option.bind_eq_some_iff.1 e;refine adjAll_lt ?_ e2;unfold adjStep at hm;split at hm
   ·exact (lim_some hm).2.2 ▸ (lim_some hm).2.1
   ·split at hm
    ·exact (lim_some hm).2.2 ▸ (lim_some hm).2.1
    ·split at hm
     ·exact (lim_some hm).2.2 ▸ (lim_some hm).2.1
     ·split at hm<;>exact (lim_some hm).2.2 ▸ (lim_some hm).2.1
theorem mostOf_lt {c:Charge} {mx k:Int} (h:mostOf c mx=some k):k<maxBound:=by
 unfold mostOf at h;obtain ⟨n,hn,e⟩:=Option.bind_eq_some_iff.1 h;exact adjAll_lt ((lim_some hn).2.2 ▸ (lim_some hn).2.1) e
theorem i60_app {L:List Int} {x:Int} (h:∀y∈L,I60 y) (hx:I60 x):∀y∈L++[x],I60 y:=by
 intro y hy;rcases List.mem_append.1 hy with hy|hy
 ·exact h y hy
 ·obtain rfl:y=x:=by simpa using hy
  exact hx
theorem bound_any (p:Plan) (ma:Option Addr) (mc:Nat) (fa:Option Addr) (fc:Nat) (ca:Option Addr) (cc:Nat) (w:World) (hp:PlanLies w (planC p ma mc fa fc ca cc) p ma mc fa fc ca cc) (h:Chs p) :
  Calls Tryz.prog 59 #[.agg #[p.name,p.cur,p.a.y,p.a.m,p.a.d,p.b.y,p.b.m,p.b.d,.slice ma p.meters.length mc,.slice fa p.fees.length fc,.slice ca p.charges.length cc,p.line,p.col]] w fun e w'=>e=.returned (.tuple #[.int .i64 ((boundOf p).getD 0),.bool (boundOf p).isSome])∧Below w.heap.size w w':=by
 obtain ⟨i0,hi,hz0,hz1,hz2⟩:=info_parts info_int;obtain ⟨w1,hw1⟩:∃W,W=w.alloc (.cells #[p.name,p.cur,p.a.y,p.a.m,p.a.d,p.b.y,p.b.m,p.b.d,.slice ma p.meters.length mc,.slice fa p.fees.length fc,.slice ca p.charges.length cc,p.line,p.col] 41):=⟨_,rfl⟩;have b1:Below w.heap.size w w1:=by rw [hw1];exact bel_alloc _ _
 obtain ⟨k1,hk1⟩:∃k,k=w.heap.size:=⟨_,rfl⟩;have X1:Box w1 k1 [p.name,p.cur,p.a.y,p.a.m,p.a.d,p.b.y,p.b.m,p.b.d,.slice ma p.meters.length mc,.slice fa p.fees.length fc,.slice ca p.charges.length cc,p.line,p.col]:=by rw [hw1,hk1];exact Box.new _ _ _
 obtain ⟨nM,hnM⟩:∃n,n=p.meters.length:=⟨_,rfl⟩;obtain ⟨nF,hnF⟩:∃n,n=p.fees.length:=⟨_,rfl⟩;obtain ⟨nC,hnC⟩:∃n,n=p.charges.length:=⟨_,rfl⟩;have C:Hid (∀W,Below w1.heap.size w1 W→Box W k1 [p.name,p.cur,p.a.y,p.a.m,p.a.d,p.b.y,p.b.m,p.b.d,.slice ma p.meters.length mc,.slice fa p.fees.length fc,.slice ca p.charges.length cc,p.line,p.col]):=hid fun W b=>X1.on b
 have C2:Hid (∀W,Below w1.heap.size w1 W→W.cell? ⟨k1,8,none⟩=some (.slice ma nM mc)∧W.cell? ⟨k1,9,none⟩=some (.slice fa nF fc)∧W.cell? ⟨k1,10,none⟩=some (.slice ca nC cc)):=hid fun W b=>by
  rw [hnM,hnF,hnC];exact ⟨(X1.on b).cell 8 _ rfl,(X1.on b).cell 9 _ rfl,(X1.on b).cell 10 _ rfl⟩
 have L0:Hid (∀W,Below w1.heap.size w1 W→PlanLies W (planC p ma mc fa fc ca cc) p ma mc fa fc ca cc∧Below w.heap.size w W):=
  hid fun W b=>⟨hp.on (bel_on b1 b),bel_on b1 b⟩
 have qM:nM≤20000:=by rw [hnM];exact h.cnt.1
 have qF:nF≤20000:=by rw [hnF];exact h.cnt.2.1
 have qC:nC≤20000:=by rw [hnC];exact h.cnt.2.2
 have uM:nM≤mc:=by rw [hnM];exact hp.meters.hcap
 have uF:nF≤fc:=by rw [hnF];exact hp.fees.hcap
 have uC:nC≤cc:=by rw [hnC];exact hp.charges.hcap
 obtain ⟨M,hM⟩:∃M,M=boundOf p:=⟨_,rfl⟩;rw [←hM];have HM:Hid (M=(mosts p.meters p.charges).bind fun l=>sumUp 0 (p.fees.map (·.amount)++l)):=hid hM;have cM:=hid (fun (W:World) (name:ByteArray) (bw:Below w1.heap.size w1 W)=>meter_any p name ma mc fa fc ca cc W (hp.on (bel_on b1 bw)));unfold planC at cM;have HnM:=hid hnM;have HnF:=hid hnF;have HnC:=hid hnC;have H:=hid h;have HW:=hid hw1;have HK:=hid hk1;clear hM hnM hnF hnC hp b1 X1 hw1 hk1 h;go_enter Tryz.func59,Tryz.ntmps59
 go_upto_region 1 with fail
 rw [←HW.out,←HK.out];clear HW HK;obtain ⟨c8,c9,c10⟩:=C2.out w1 (Below.refl _ _);clear c8 c10;go_wp2;clear c9;go_loopw [5,18] (fun v i wx=>∃(i':Nat) (L:List Int),i=.int .i64 (i':Int)∧i'≤nF∧Hid (L=(p.fees.take i').map (·.amount))∧Hid (wx.ownsRow w1.heap.size 3 1 v i' (ints L))∧Hid (Below w1.heap.size w1 wx)) (fun _ i _=>nF-(intOf i).toNat)
 case atStart=>exact ⟨0,[],rfl,Nat.zero_le _,hid rfl,hid ⟨rfl,.inl ⟨rfl,rfl⟩⟩,hid (Below.refl _ _)⟩
 case round=>
  obtain ⟨i',L,rfl,hi',hL,hO,hB⟩:=hrel;by_cases hlt:i'<nF
  ·obtain ⟨f,hti⟩:∃m,p.fees[i']?=some m:=⟨_,List.getElem?_eq_getElem (by have:=HnF.out;omega)⟩;obtain ⟨b,o,e,lb,a0,a1,a2,a3,a4,a5,a6,a7,a8,a9,_⟩:=fee_at (L0.out _ hB.out).1.fees hti;have ST:Hid (L++[f.amount]=(p.fees.take (i'+1)).map (·.amount)):=hid (by rw [hL.out,List.take_add_one,hti,List.map_append];rfl);have B2:=hid (bel_on hB.out (bel_alloc _ (.cells #[f.amount,f.win.has,f.win.a.y,f.win.a.m,f.win.a.d,f.win.b.y,f.win.b.m,f.win.b.d,f.line,f.col] 53)));have hsz:=hB.out.size;subst e;clear hti hL HM;go_wp2_with (at_builtin;refine wpList_append_own _ rfl _ _ 65 rfl w1.heap.size 3 i0 (.int .i64 0) 1 8 und_ints hi hz0 hz1 hz2 rfl (by decide) _ _ _ rfl ((hO.out.alloc _).alloc _) ⟨wr.heap.size+1,0,none⟩ 1 1 [f.amount] rfl rfl ?c1 ?c2 ?c3 ?c4 ?c5 ?_)
   case c1=>
    intro j u hj
    match j,hj with
    | 0,hj=>simp at hj;subst hj;simp [Addr.add]
   case c2=>simp [Value.oneCell']
   case c3=>unfold maxLen;omega
   case c4=>omega
   case c5=>simp;omega
   intro v' w2 hown hgrow _;go_wp2;go_roundw
   case rel=>exact ⟨i'+1,L++[f.amount],by simp,by omega,ST,hid (by rw [ints_app];exact hown),hid (((hB.out.alloc hB.out.size _).alloc (hB.out.alloc hB.out.size _).size _).grown hgrow (by simp;omega) (fun k hk=>(hO.out.lt k hk).1))⟩
   case measure=>simp [intOf];omega
  ·obtain rfl:i'=nF:=by omega
   have HM2:Hid (M=(mosts p.meters (p.charges.drop 0)).bind fun l=>sumUp 0 (L++l)):=hid (by
    rw [HM.out,hL.out,List.drop_zero,HnF.out,List.take_length])
   have HL:Hid (∀x∈L,I60 x):=hid (by
    rw [hL.out];intro x hx;obtain ⟨f,hf,rfl⟩:=List.mem_map.1 hx;have:=(H.out.gd.fees f (List.mem_of_mem_take hf)).1
    exact ⟨this.1,by have:=this.2;omega⟩)
   have hlen:Hid (L.length=i'):=hid (by have:=HnF.out;rw [hL.out,List.length_map,List.length_take];omega);obtain ⟨wq,hwq⟩:∃wq,wq=wr:=⟨_,rfl⟩;rw [←hwq] at hO hB ⊢;clear hwq hL hlt hi' HM;obtain ⟨c8,c9,c10⟩:=C2.out wq hB.out;clear c8 c9;go_wp2;clear c10;go_loopw [5,31] (fun v j wx=>∃(j' N:Nat) (L:List Int),j=.int .i64 (j':Int)∧j'≤nC∧N≤20000+j'∧Hid (L.length=N)∧Hid (∀x∈L,I60 x)∧Hid (M=(mosts p.meters (p.charges.drop j')).bind fun l=>sumUp 0 (L++l))∧Hid (wx.ownsRow w1.heap.size 3 1 v N (ints L))∧Hid (Below w1.heap.size w1 wx)) (fun _ j _=>nC-(intOf j).toNat)
   case atStart=>exact ⟨0,i',L,rfl,Nat.zero_le _,by omega,hlen,HL,HM2,hO,hB⟩
   case round=>
    clear HM2 HL hO hB hlen;obtain ⟨j',N,L,rfl,hj',hN,hlen,HL,HM,hO,hB⟩:=hrel;by_cases hlt:j'<nC
    ·obtain ⟨c,hti⟩:∃m,p.charges[j']?=some m:=⟨_,List.getElem?_eq_getElem (by have:=HnC.out;omega)⟩;have hmem:=List.mem_of_getElem? hti;obtain ⟨b,o,ta,tc,aa,ac,e,ax,lx0⟩:=charge_at (L0.out _ hB.out).1.charges hti;have r1:=hid (range_ch ax);unfold chargeC at r1;obtain ⟨wt,hwt⟩:∃W,W=wr.alloc (.cells #[c.meter,c.win.has,c.win.a.y,c.win.a.m,c.win.a.d,c.win.b.y,c.win.b.m,c.win.b.d,c.allowance,c.block,c.kind,.slice ta c.tiers.length tc,c.mode,.slice aa c.adjusts.length ac,c.line,c.col] 57):=⟨_,rfl⟩;have xt:Box wt wr.heap.size [c.meter,c.win.has,c.win.a.y,c.win.a.m,c.win.a.d,c.win.b.y,c.win.b.m,c.win.b.d,c.allowance,c.block,c.kind,.slice ta c.tiers.length tc,c.mode,.slice aa c.adjusts.length ac,c.line,c.col]:=by rw [hwt];exact Box.new _ _ _
     have bt:Below wr.heap.size wr wt:=by rw [hwt];exact bel_alloc _ _
     have BT:=hid (bel_on hB.out bt);obtain ⟨kx,hkx⟩:∃k,k=wr.heap.size:=⟨_,rfl⟩;rw [←hkx] at xt;have XT:=hid (fun (W:World) (bw:Below wt.heap.size wt W)=>(⟨xt.on bw,ch_on lx0 (bel_on bt bw)⟩:Box W kx _∧ChargeLies W _ c ta tc aa ac));have OT:=hid (hO.out.alloc (.cells #[c.meter,c.win.has,c.win.a.y,c.win.a.m,c.win.a.d,c.win.b.y,c.win.b.m,c.win.b.d,c.allowance,c.block,c.kind,.slice ta c.tiers.length tc,c.mode,.slice aa c.adjusts.length ac,c.line,c.col] 57));rw [←hwt] at OT;obtain ⟨k,hk⟩:=H.out.named c hmem
     have km:k<nM:=by
      unfold meterIx at hk;have:=(List.findIdx?_eq_some_iff_getElem.1 hk).1;have:=HnM.out;omega
     obtain ⟨m,htm⟩:∃m,p.meters[k]?=some m:=⟨_,List.getElem?_eq_getElem (by have:=HnM.out;omega)⟩;have gm:=H.out.gd.meters m (List.mem_of_getElem? htm);have gD:(p.meters.getD k default).max=m.max:=by rw [List.getD_eq_getElem?_getD,htm];rfl
     have MK:mix p.meters c.meter=(k:Int):=mix_some.2 hk;have cMk:=cM.out wt c.meter BT.out;rw [MK] at cMk;obtain ⟨O,hOO⟩:∃O,O=mostOf c m.max:=⟨_,rfl⟩;have HO1:Hid (O=none→M=none):=hid (fun e=>by rw [HM.out];exact go_none hti hk (by rw [gD,←hOO];exact e));have HO2:Hid (∀x,O=some x→M=(mosts p.meters (p.charges.drop (j'+1))).bind fun l=>sumUp 0 ((L++[x])++l)):=hid (fun x e=>by rw [HM.out];exact go_bind hti hk (by rw [gD,←hOO];exact e))
     have HO3:Hid (∀x,O=some x→I60 x):=hid (fun x e=>by
      have e2:mostOf c m.max=some x:=by rw [←hOO];exact e
      have:=mostOf_lt e2
      exact most_i60 (H.out.gd.charges c hmem) e2 (by unfold maxBound at this;omega))
     have cO:=hid (fun (W:World) (bw:Below wt.heap.size wt W)=>most_any c ta tc aa ac m.max W (XT.out W bw).2 (H.out.gd.charges c hmem) (H.out.block c hmem) gm.2.2.1 gm.2.2.2 (H.out.parts c hmem));rw [←hOO] at cO;obtain ⟨XV,hXV⟩:∃x,x=O.getD 0:=⟨_,rfl⟩;obtain ⟨XB,hXB⟩:∃x,x=O.isSome:=⟨_,rfl⟩;rw [←hXV,←hXB] at cO;have HXV:=hid hXV;have HXB:=hid hXB;have HTM:=hid htm;have HWT:=hid hwt;have HKX:=hid hkx;have RP:=hid (range_of (C.out wt BT.out).cell);have d0:=(XT.out wt (Below.refl _ _)).1.cell 0 _ rfl;clear hti hmem ax lx0 hwt xt bt hkx hO hk htm gm gD MK hOO hXV hXB HM;subst e
     go_upto_region 11 with (first
      | (with_reducible refine wpList_load_mid (op:=Oper.mk (some 34) (Op.load 57 (Operand.tmp 33)) _ _ _ _) ?_ 57 (.tmp 33) ?_ b (o+j'*16) ?_ [c.meter,c.win.has,c.win.a.y,c.win.a.m,c.win.a.d,c.win.b.y,c.win.b.m,c.win.b.d,c.allowance,c.block,c.kind,.slice ta c.tiers.length tc,c.mode,.slice aa c.adjusts.length ac,c.line,c.col] _ r1.out Tryz.underlying57 ?_ ?_ ?_;rfl;rfl;go_simp;rfl;kernel_rfl)
      | (with_reducible refine wpList_store_new (op:=Oper.mk none (Op.store 57 (Operand.tmp 9) (Operand.tmp 34)) _ _ _ _) ?_ 57 (.tmp 9) (.tmp 34) ?_ wr _ #[c.meter,c.win.has,c.win.a.y,c.win.a.m,c.win.a.d,c.win.b.y,c.win.b.m,c.win.b.d,c.allowance,c.block,c.kind,.slice ta c.tiers.length tc,c.mode,.slice aa c.adjusts.length ac,c.line,c.col] ?_ ?_ ?_ ?_ ?_ ?_;rfl;rfl;go_simp;go_simp;kernel_rfl;rfl;(simp [Value.oneCell']))
      | fail)
     rw [←HWT.out,←HKX.out];clear HWT HKX r1;go_wp2_with (first|(with_reducible refine wpList_load_mid (op:=Oper.mk (some 35) (Op.load 41 (Operand.tmp 1)) _ _ _ _) ?_ 41 (.tmp 1) ?_ k1 0 ?_ [p.name,p.cur,p.a.y,p.a.m,p.a.d,p.b.y,p.b.m,p.b.d,.slice ma p.meters.length mc,.slice fa p.fees.length fc,.slice (some ⟨b,o,none⟩) p.charges.length cc,p.line,p.col] _ RP.out Tryz.underlying41 ?_ ?_ ?_;rfl;rfl;go_simp;rfl;kernel_rfl)|fail)
     refine cMk.mono ?_;rintro e wu ⟨rfl,bu⟩;have BU:=hid (bel_on BT.out bu);have OU:=hid (owns_on OT.out bu);have Yc:=hid (XT.out wu bu).1;have XU:=hid (fun (W:World) (bw:Below wu.heap.size wu W)=>(bel_on bu bw:Below wt.heap.size wt W));clear bu cMk d0 RP OT BT;obtain ⟨b2,o2,e2,lb2,y0,y1,y2,y3,y4,_⟩:=meter_at (L0.out _ BU.out).1.meters HTM.out;obtain ⟨c8,c9,c10⟩:=C2.out wu BU.out;have k8:=cell_regrown c8;have ky:=cell_regrown y2;have f0:=cell_regrown (Yc.out.cell 0 _ rfl);have f1:=cell_regrown (Yc.out.cell 1 _ rfl);have f2:=cell_regrown (Yc.out.cell 2 _ rfl);have f3:=cell_regrown (Yc.out.cell 3 _ rfl);have f4:=cell_regrown (Yc.out.cell 4 _ rfl);have f5:=cell_regrown (Yc.out.cell 5 _ rfl);have f6:=cell_regrown (Yc.out.cell 6 _ rfl);have f7:=cell_regrown (Yc.out.cell 7 _ rfl);have f8:=cell_regrown (Yc.out.cell 8 _ rfl);have f9:=cell_regrown (Yc.out.cell 9 _ rfl);have f10:=cell_regrown (Yc.out.cell 10 _ rfl);have f11:=cell_regrown (Yc.out.cell 11 _ rfl);have f12:=cell_regrown (Yc.out.cell 12 _ rfl);have f13:=cell_regrown (Yc.out.cell 13 _ rfl);have f14:=cell_regrown (Yc.out.cell 14 _ rfl);have f15:=cell_regrown (Yc.out.cell 15 _ rfl);have qO:=fun d os=>Calls.regrown_of (cO.out (grow (redrawn wu d) os) (XU.out _ (below_regrown wu d os)));clear cO Yc XU c8 c9 c10 y0 y1 y2 y3 y4;subst e2;go_upto_region 13 with fail
     refine wp_region_quiet_below (by kernel_rfl) (by kernel_rfl) ?_;repeat (go_big_quiet_step (first|(go_at_call 110;exact qO _ _)))
     refine wpQuiet_nil ?_;intro wv hw';obtain ⟨⟨dq,osq⟩,hw''⟩:=hw';have BV:Hid (Below w1.heap.size w1 wv):=hid (by subst hw'';exact bel_on BU.out (below_regrown wu dq osq));have OV:=hid (owns_on OU.out (show Below wu.heap.size wu wv by subst hw'';exact below_regrown wu dq osq));clear hw'' qO k8 ky BU OU f0 f1 f2 f3 f4 f5 f6 f7 f8 f9 f10 f11 f12 f13 f14 f15;rcases Option.eq_none_or_eq_some O with hn|⟨x,hs⟩
     ·have E:=hid (HO1.out hn);have e1:XV=0:=by rw [HXV.out,hn];rfl
      have e2:XB=false:=by rw [HXB.out,hn];rfl
      have BF:=hid (L0.out _ BV.out).2;clear HO1 HO2 HO3 HXV HXB OV;subst e1;subst e2;go_wp2;go_ret2;exact ⟨ret_n E.out,BF.out⟩
     ·have E:=hid (HO2.out x hs);have e1:XV=x:=by rw [HXV.out,hs];rfl
      have e2:XB=true:=by rw [HXB.out,hs];rfl
      have HL2:=hid (i60_app HL.out (HO3.out x hs));have hlen2:Hid ((L++[x]).length=N+1):=hid (by rw [List.length_append,hlen.out];rfl);have hsz:=BV.out.size;clear HO1 HO2 HO3 HXV HXB HL hlen;subst e1;subst e2;go_wp2_with (at_builtin;refine wpList_append_own _ rfl _ _ 65 rfl w1.heap.size 3 i0 (.int .i64 0) 1 8 und_ints hi hz0 hz1 hz2 rfl (by decide) _ _ _ rfl (OV.out.alloc _) ⟨wv.heap.size,0,none⟩ 1 1 [.int .i64 XV] rfl rfl ?c1 ?c2 ?c3 ?c4 ?c5 ?_)
      case c1=>
       intro j u hj
       match j,hj with
       | 0,hj=>simp at hj;subst hj;simp [Addr.add]
      case c2=>simp [Value.oneCell']
      case c3=>unfold maxLen;omega
      case c4=>omega
      case c5=>simp;omega
      intro v' w2 hown hgrow _;go_wp2;go_roundw
      case rel=>exact ⟨j'+1,N+1,L++[XV],by simp,by omega,by omega,hlen2,HL2,E,hid (by rw [ints_app];exact hown),hid ((BV.out.alloc BV.out.size _).grown hgrow (by simp;omega) (fun k hk=>(OV.out.lt k hk).1))⟩
      case measure=>simp [intOf];omega
    ·obtain rfl:j'=nC:=by omega
     have E:Hid (M=sumUp 0 L):=hid (by
      rw [HM.out,mosts_end (by have:=HnC.out;omega)];show sumUp 0 (L++[])=_
      rw [List.append_nil])
     have hrow:=row_own (α:=Int) (n:=1) (cells:=fun x=>[.int .i64 x]) (ok:=I64) (hn:=fun _=>rfl) (xs:=L) (by have:=hO.out;rw [←hlen.out] at this;exact this) (fun x hx=>by have:=HL.out x hx;unfold I60 at this;unfold I64;omega);obtain ⟨ao,cap,hv,hrow⟩:=hrow;rw [hlen.out] at hv hrow;have HR:=hid hrow;have uN:=hrow.hcap;have uN2:=hrow.hmax;obtain ⟨wz,hwz⟩:∃wz,wz=wr:=⟨_,rfl⟩;rw [←hwz] at hB HR ⊢;clear hwz hO hrow HM hlt;subst hv;go_wp2;go_loopw [4,61] (fun n j wx=>∃(l':Nat) (n':Int),n=.int .i64 n'∧j=.int .i64 (l':Int)∧l'≤N∧0≤n'∧n'<1152921504606846976∧Hid (M=sumUp n' (L.drop l'))∧wx=wz) (fun _ j _=>N-(intOf j).toNat)
     case atStart=>exact ⟨0,0,rfl,rfl,Nat.zero_le _,by omega,by omega,E,rfl⟩
     case round=>
      clear E;obtain ⟨l',n',rfl,rfl,hl,n0,n1,E,hwr⟩:=hrel;have hwr':=hwr.symm;clear hwr;subst hwr';by_cases hlt:l'<N
      ·obtain ⟨x,hti⟩:∃x,L[l']?=some x:=⟨_,List.getElem?_eq_getElem (by have:=hlen.out;omega)⟩;have ST:=hid (sumUp_step (n:=n') hti);obtain ⟨x0,x1⟩:=HL.out x (List.mem_of_getElem? hti);obtain ⟨b3,o3,cs,e3,lb3,⟨h5,_⟩,h6⟩:=HR.out.at hti;subst h5;have z0:wz.cell? ⟨b3,o3+l',none⟩=some (.int .i64 x):=by simpa [leaf] using h6 0 _ rfl
       clear h6 hti;subst e3;have BF:=hid (L0.out _ hB.out).2;by_cases g1:1152921504606846976≤x
       ·have F:Hid (M=none):=hid (by rw [E.out,ST.out,if_pos (.inl (show maxBound≤x from g1))]);clear E ST;go_wp2;go_ret2;exact ⟨ret_n F.out,BF.out⟩
       by_cases g2:1152921504606846976≤n'+x
       ·have F:Hid (M=none):=hid (by rw [E.out,ST.out,if_pos (.inr (show maxBound≤n'+x from g2))]);clear E ST;go_wp2;go_ret2;exact ⟨ret_n F.out,BF.out⟩
       have F:Hid (M=sumUp (n'+x) (L.drop (l'+1))):=hid (by rw [E.out,ST.out,if_neg (by rintro (h|h);exact g1 h;exact g2 h)]);clear E ST;go_wp2;go_roundw
       case rel=>exact ⟨l'+1,n'+x,rfl,by simp,by omega,by omega,by omega,F,trivial⟩
       case measure=>simp [intOf];omega
      ·obtain rfl:l'=N:=by omega
       have F:Hid (M=some n'):=hid (by rw [E.out,sumUp_end (by have:=hlen.out;omega)]);have BF:=hid (L0.out _ hB.out).2;clear E;go_wp2;go_ret2;exact ⟨ret_v F.out,BF.out⟩
end R9
end Go.Proofs.YtofbobdhkbmbgaaGreatDoor
