/- The document's answers for layer 10 (poundageref10): Row, and Same of two cores that hold the same. -/
import Derived.Test.YtofbobdhkbmbgaaGreatDoorJOwn2
set_option maxRecDepth 100000
set_option maxHeartbeats 16000000
namespace Go.Proofs.YtofbobdhkbmbgaaGreatDoor
namespace R10
open Go.RowKit Go.Sort P Mm Md R6 Te Co
def ints (l:List Int):List Value:=l.map (Value.int .i64)
def txts (l:List ByteArray):List Value:=l.map Value.string
theorem ints_app (a b:List Int):ints (a++b)=ints a++ints b:=List.map_append
theorem txts_app (a b:List ByteArray):txts (a++b)=txts a++txts b:=List.map_append
def rwM (m:Meter):List Int:=[m.max,m.line,m.col]
def nmM (m:Meter):List ByteArray:=[m.name,m.unit]
def rwS (s:Mm.Sm):List Int:=[s.amt,s.a,s.b]
def rwPh (x:Prt):List Int:=[x.mt,x.a,x.b,x.allowance,x.block,x.kind,x.mode,x.tiers.length,x.adjusts.length]
def rwT (t:Tier):List Int:=[t.upto,t.rate]
def rwA (a:Adj):List Int:=[a.kind,a.num,a.mode]
def rwP (x:Prt):List Int:=rwPh x++x.tiers.flatMap rwT++x.adjusts.flatMap rwA
def rwH (c:Cor):List Int:=[c.a,c.b,c.meters.length,c.sums.length,c.parts.length]
def rowN (c:Cor):List Int:=rwH c++c.meters.flatMap rwM++c.sums.flatMap rwS++c.parts.flatMap rwP
def rowT (c:Cor):List ByteArray:=[c.cur]++c.meters.flatMap nmM
structure Fit10 (c:Cor):Prop where
 m:c.meters.length≤20000
 s:c.sums.length≤20000
 p:c.parts.length≤1000
 x:∀x∈c.parts,x.tiers.length≤1000∧x.adjusts.length≤1000
structure Rw (w1 W:World) (bx:List (Nat×List Value)) (v:Value) (n:Nat) (xs:List Value) (u:Value) (m:Nat) (ys:List Value):Prop where
 o1:W.ownsRow w1.heap.size 3 1 v n xs
 o2:W.ownsRow w1.heap.size 9 1 u m ys
 ne:∀k,v.ownBlock=some k→u.ownBlock≠some k
 bel:Below w1.heap.size w1 W
 boxes:∀k cs,(k,cs)∈bx→Box W k cs∧v.ownBlock≠some k∧u.ownBlock≠some k
section
variable {w1 W w':World} {bx:List (Nat×List Value)} {v v':Value} {n n':Nat} {xs xs':List Value} {u u':Value} {m m':Nat} {ys ys':List Value}
theorem Rw.box {k:Nat} {cs:List Value} (h:Rw w1 W ((k,cs)::bx) v n xs u m ys):Box W k cs:=(h.boxes k cs (.head _)).1
theorem Rw.drop {b:Nat×List Value} (h:Rw w1 W (b::bx) v n xs u m ys):Rw w1 W bx v n xs u m ys:=⟨h.o1,h.o2,h.ne,h.bel,fun k X hk=>h.boxes k X (.tail _ hk)⟩
theorem Rw.call (h:Rw w1 W bx v n xs u m ys) (b:Below W.heap.size W w'):Rw w1 w' bx v n xs u m ys:=
 ⟨owns_on h.o1 b,owns_on h.o2 b,h.ne,h.bel.trans (b.mono h.bel.size),fun k cs hk=>⟨(h.boxes k cs hk).1.on b,(h.boxes k cs hk).2⟩⟩
theorem Rw.start (cs:List Value) (t:TypeId) (h:Rw w1 W bx v n xs u m ys):Rw w1 (W.alloc (.cells cs.toArray t)) ((W.heap.size,cs)::bx) v n xs u m ys:=by
 have k:=h.call (bel_alloc W (.cells cs.toArray t));refine ⟨k.o1,k.o2,k.ne,k.bel,fun j X hj=>?_⟩;rcases List.mem_cons.1 hj with e|e
 ·obtain ⟨rfl,rfl⟩:=Prod.mk.inj e;exact ⟨Box.new W X t,fun e=>absurd (h.o1.lt _ e).2 (Nat.lt_irrefl _),fun e=>absurd (h.o2.lt _ e).2 (Nat.lt_irrefl _)⟩
 ·exact k.boxes j X e
theorem Rw.app1 {o:Obj} (h:Rw w1 W bx v n xs u m ys) (hown:w'.ownsRow w1.heap.size 3 1 v' n' xs') (hg:(W.alloc o).grownBy w' v.ownBlock) (hat:v'.ownBlock=v.ownBlock∨v'.ownBlock=some (W.alloc o).heap.size):Rw w1 w' bx v' n' xs' u m ys:=by
 have a:=h.call (bel_alloc W o);have nu:∀k,u.ownBlock=some k→some k≠v.ownBlock:=fun k hk e=>h.ne k e.symm hk;refine ⟨hown,?_,?_,a.bel.grown hg a.bel.size (fun j hj=>(a.o1.lt j hj).1),fun k cs hk=>?_⟩
 ·refine a.o2.kept hg ?_;cases e:u.ownBlock with
  | none=>exact .inl rfl
  | some k=>exact .inr (nu k e)
 ·intro k hk e;rcases hat with q|q
  ·exact h.ne k (by rw [←q];exact hk) e
  ·rw [hk] at q;have:=(a.o2.lt k e).2;have:=Option.some.inj q;omega
 ·obtain ⟨b1,b2,b3⟩:=a.boxes k cs hk;refine ⟨b1.grown hg (fun e=>b2 e.symm),?_,b3⟩;intro e;rcases hat with q|q
  ·exact b2 (by rw [←q];exact e)
  ·rw [e] at q;have:=b1.lt;have:=Option.some.inj q;omega
theorem Rw.app2 {o:Obj} (h:Rw w1 W bx v n xs u m ys) (hown:w'.ownsRow w1.heap.size 9 1 u' m' ys') (hg:(W.alloc o).grownBy w' u.ownBlock) (hat:u'.ownBlock=u.ownBlock∨u'.ownBlock=some (W.alloc o).heap.size):Rw w1 w' bx v n xs u' m' ys':=by
 have a:=h.call (bel_alloc W o);have nu:∀k,v.ownBlock=some k→some k≠u.ownBlock:=fun k hk e=>h.ne k hk e.symm;refine ⟨?_,hown,?_,a.bel.grown hg a.bel.size (fun j hj=>(a.o2.lt j hj).1),fun k cs hk=>?_⟩
 ·refine a.o1.kept hg ?_;cases e:v.ownBlock with
  | none=>exact .inl rfl
  | some k=>exact .inr (nu k e)
 ·intro k hk e;rcases hat with q|q
  ·exact h.ne k hk (by rw [←q];exact e)
  ·rw [e] at q;have:=(a.o1.lt k hk).2;have:=Option.some.inj q;omega
 ·obtain ⟨b1,b2,b3⟩:=a.boxes k cs hk;refine ⟨b1.grown hg (fun e=>b3 e.symm),b2,?_⟩;intro e;rcases hat with q|q
  ·exact b3 (by rw [←q];exact e)
  ·rw [e] at q;have:=b1.lt;have:=Option.some.inj q;omega
end
theorem info_i64:(Tryz.prog.info? 3).map (fun i=>(i.zero,i.size,i.bytes))=some (some (.int .i64 0),1,8):=by kernel_rfl
theorem und_i64s:Tryz.prog.underlying 65=some (.slice 3):=by kernel_rfl
theorem bcell {w w':World} {b o:Nat} {u:Value} (h:Below w.heap.size w w') (lt:b<w.heap.size) (c:w.cell? ⟨b,o,none⟩=some u):w'.cell? ⟨b,o,none⟩=some u:=by rw [h.cell lt];exact c
theorem row_any (c:Cor) (ma:Option Addr) (mc:Nat) (sa:Option Addr) (sc:Nat) (pa:Option Addr) (pc:Nat) (w:World) (hc:CorLies w (corC c ma mc sa sc pa pc) c ma mc sa sc pa pc) (hf:Fit10 c) :
  Calls Tryz.prog 21 #[.agg #[c.cur,c.a,c.b,.slice ma c.meters.length mc,.slice sa c.sums.length sc,.slice pa c.parts.length pc]] w fun e w'=>∃v u,e=.returned (.tuple #[v,u])∧w'.ownsRow w.heap.size 3 1 v (rowN c).length (ints (rowN c))∧w'.ownsRow w.heap.size 9 1 u (rowT c).length (txts (rowT c))∧Below w.heap.size w w':=by
 obtain ⟨iI,jI,zI,sI,bI⟩:=info_parts info_i64;obtain ⟨iS,jS,zS,sS,bS⟩:=info_parts info_str;obtain ⟨w1,hw1⟩:∃W,W=w.alloc (.cells #[c.cur,c.a,c.b,.slice ma c.meters.length mc,.slice sa c.sums.length sc,.slice pa c.parts.length pc] 27):=⟨_,rfl⟩;obtain ⟨k1,hk1⟩:∃k,k=w.heap.size:=⟨_,rfl⟩;have b1:Below w.heap.size w w1:=by rw [hw1];exact bel_alloc _ _
 have X1:Box w1 k1 [c.cur,c.a,c.b,.slice ma c.meters.length mc,.slice sa c.sums.length sc,.slice pa c.parts.length pc]:=by rw [hw1,hk1];exact Box.new _ _ _
 have X:=hid (fun (W:World) (b:Below w1.heap.size w1 W)=>(⟨X1.on b,bel_on b1 b⟩:Box W k1 [c.cur,c.a,c.b,.slice ma c.meters.length mc,.slice sa c.sums.length sc,.slice pa c.parts.length pc]∧Below w.heap.size w W));have HC:=hid (hc.on b1);have HF:=hid hf;have f1:=hf.m;have f2:=hf.s;have f3:=hf.p;have g1:=hc.meters.hcap;have g2:=hc.meters.hmax;have g3:=hc.sums.hcap;have g4:=hc.sums.hmax;have g5:=hc.parts.hcap;have g6:=hc.parts.hmax;have HW:=hid hw1;have HK:=hid hk1;have HZ:=hid (show w.heap.size≤w1.heap.size from b1.size)
 have R0:Hid (Rw w1 ((w1.alloc (.cells #[c.a,c.b,.int .i64 c.meters.length,.int .i64 c.sums.length,.int .i64 c.parts.length] 3)).alloc (.cells #[c.cur] 9)) [] (.slice (some ⟨w1.heap.size,0,none⟩) 5 5) 5 (ints (rwH c)) (.slice (some ⟨w1.heap.size+1,0,none⟩) 1 1) 1 (txts [c.cur])):=hid (by
  have o1:=World.ownsRow_lit (base:=w1.heap.size) (e:=3) (size:=1) w1 #[c.a,c.b,.int .i64 c.meters.length,.int .i64 c.sums.length,.int .i64 c.parts.length] 5 (Nat.le_refl _) (by decide) rfl;have bA:=bel_alloc w1 (.cells #[c.a,c.b,.int .i64 c.meters.length,.int .i64 c.sums.length,.int .i64 c.parts.length] 3);have o2:=World.ownsRow_lit (base:=w1.heap.size) (e:=9) (size:=1) (w1.alloc (.cells #[c.a,c.b,.int .i64 c.meters.length,.int .i64 c.sums.length,.int .i64 c.parts.length] 3)) #[c.cur] 1 bA.size (by decide) rfl;rw [World.size_alloc] at o2;refine ⟨o1.alloc _,o2,fun k h e=>?_,bel_on bA (bel_alloc _ _),fun _ _ h=>by cases h⟩;have e1:w1.heap.size=k:=by simpa [Value.ownBlock] using h
  have e2:w1.heap.size+1=k:=by simpa [Value.ownBlock] using e
  omega)
 have d0:=X1.cell 0 _ rfl;have d1:=X1.cell 1 _ rfl;have d2:=X1.cell 2 _ rfl;have d3:=X1.cell 3 _ rfl;have d4:=X1.cell 4 _ rfl;have d5:=X1.cell 5 _ rfl;clear hw1 hk1 X1 b1 hc hf;go_enter Tryz.func21,Tryz.ntmps21
 go_upto_region 1 with fail
 rw [←HW.out,←HK.out];clear HW HK;have s1:=(R0.out.bel.size:w1.heap.size≤_);have l1:k1<w1.heap.size:=(X.out w1 (Below.refl _ _)).1.lt;go_wp2;clear d0 d1 d2 d3 d4 d5 s1;go_loopw [4,5,36] (fun v u i wr=>∃(i' N M:Nat) (L:List Int) (K:List ByteArray),i=.int .i64 (i':Int)∧i'≤c.meters.length∧N=5+3*i'∧M=1+2*i'∧Hid (L=rwH c++(c.meters.take i').flatMap rwM)∧Hid (K=[c.cur]++(c.meters.take i').flatMap nmM)∧Hid (Rw w1 wr [] v N (ints L) u M (txts K))) (fun _ _ i _=>c.meters.length-(intOf i).toNat)
 case atStart=>exact ⟨0,5,1,rwH c,[c.cur],rfl,Nat.zero_le _,rfl,rfl,hid (by simp),hid (by simp),R0⟩
 case round=>
  clear R0;obtain ⟨i',N,M,L,K,rfl,hi,hN,hM,hL,hK,hR⟩:=hrel;by_cases hlt:i'<c.meters.length
  ·obtain ⟨x,tx⟩:∃x,c.meters[i']?=some x:=⟨_,List.getElem?_eq_getElem hlt⟩;have TX:=hid tx;obtain ⟨bx,ox,e,lbx,x0,x1,x2,x3,x4,_⟩:=meter_at (HC.out.on hR.out.bel).meters tx;subst e;have hNN:N≤70000:=by omega
   have hMM:M≤70000:=by omega
   have HN:=hid hN;have HM:=hid hM;clear tx hN hM;obtain ⟨w2,hw2⟩:∃W,W=wr.alloc (.cells #[x.name,x.unit,x.max,x.line,x.col] 49):=⟨_,rfl⟩;obtain ⟨k2,hk2⟩:∃k,k=wr.heap.size:=⟨_,rfl⟩;have R2:=hid (hR.out.start [x.name,x.unit,x.max,x.line,x.col] 49);rw [←hw2,←hk2] at R2;have HW:=hid hw2;have HK:=hid hk2;clear hw2 hk2;have c0:=R2.out.box.cell 0 _ rfl;have c1:=R2.out.box.cell 1 _ rfl;have c2:=R2.out.box.cell 2 _ rfl;have c3:=R2.out.box.cell 3 _ rfl;have c4:=R2.out.box.cell 4 _ rfl;clear hR;go_upto_region 6 with fail
   rw [←HW.out,←HK.out];clear HW HK x0 x1 x2 x3 x4 lbx;go_wp2_with (first|(at_builtin;refine wpList_append_own_at _ rfl _ _ 65 rfl w1.heap.size 3 iI (.int .i64 0) 1 8 und_i64s jI zI sI bI rfl (by decide) _ _ _ rfl (R2.out.o1.alloc _) ⟨w2.heap.size,0,none⟩ 3 3 [x.max,x.line,x.col] rfl rfl (news_new w2 [x.max,x.line,x.col] _) (by simp [Value.oneCell']) (by unfold maxLen;omega) (by omega) (R2.out.call (bel_alloc _ _)).bel.size ?_;intro v' w3 hown hgrow _ hat;have R3:=hid (R2.out.app1 hown hgrow hat);clear hown hgrow hat;have c0:=R3.out.box.cell 0 _ rfl;have c1:=R3.out.box.cell 1 _ rfl)|(at_builtin;refine wpList_append_own_at _ rfl _ _ 66 rfl w1.heap.size 9 iS (.string ⟨#[]⟩) 1 16 und_strs jS zS sS bS rfl (by decide) _ _ _ rfl (R3.out.o2.alloc _) ⟨w3.heap.size,0,none⟩ 2 2 [x.name,x.unit] rfl rfl (news_new w3 [x.name,x.unit] _) (by simp [Value.oneCell']) (by unfold maxLen;omega) (by omega) (R3.out.call (bel_alloc _ _)).bel.size ?_;intro u' w4 hown hgrow _ hat;have R4:=hid (R3.out.app2 hown hgrow hat);clear hown hgrow hat)|fail)
   go_roundw
   case rel=>exact ⟨i'+1,N+3,M+2,L++rwM x,K++nmM x,by simp,by omega,by have:=HN.out;omega,by have:=HM.out;omega,hid (by rw [flat_take TX.out,←List.append_assoc,←hL.out]),hid (by rw [flat_take TX.out,←List.append_assoc,←hK.out]),hid (by rw [ints_app,txts_app];exact R4.out.drop)⟩
   case measure=>simp [intOf];omega
  ·obtain rfl:i'=c.meters.length:=by omega
   have hL1:Hid (L=rwH c++c.meters.flatMap rwM):=hid (by rw [hL.out,flat_whole]);have hK1:Hid (K=rowT c):=hid (by rw [hK.out,flat_whole];rfl);have N1:N≤60005:=by omega
   have M1:M≤60005:=by omega
   have d4:=(X.out wr hR.out.bel).1.cell 4 _ rfl;have l4:k1<wr.heap.size:=(X.out wr hR.out.bel).1.lt;obtain ⟨wq,hwq⟩:∃W,W=wr:=⟨_,rfl⟩;rw [←hwq] at hR d4 l4 ⊢;have RQ:=hR;clear hwq hR hL hK hlt hi hN hM;go_wp2;clear d4 l4;go_loopw [4,60] (fun v i wr=>∃(i' N2:Nat) (L2:List Int),i=.int .i64 (i':Int)∧i'≤c.sums.length∧N2=N+3*i'∧Hid (L2=L++(c.sums.take i').flatMap rwS)∧Hid (Rw w1 wr [] v N2 (ints L2) u5 M (txts K))) (fun _ i _=>c.sums.length-(intOf i).toNat)
   case atStart=>exact ⟨0,N,L,rfl,Nat.zero_le _,rfl,hid (by simp),RQ⟩
   case round=>
    clear RQ;obtain ⟨i',N2,L2,rfl,hi,hN,hL,hR⟩:=hrel;by_cases hlt:i'<c.sums.length
    ·obtain ⟨x,tx⟩:∃x,c.sums[i']?=some x:=⟨_,List.getElem?_eq_getElem hlt⟩;have TX:=hid tx;obtain ⟨bx,ox,e,lbx,x0,x1,x2,_⟩:=sum_at (HC.out.on hR.out.bel).sums tx;subst e;have hNN:N2≤130000:=by omega
     have HN:=hid hN;clear tx hN;obtain ⟨w2,hw2⟩:∃W,W=wr.alloc (.cells #[x.amt,x.a,x.b] 91):=⟨_,rfl⟩;obtain ⟨k2,hk2⟩:∃k,k=wr.heap.size:=⟨_,rfl⟩;have R2:=hid (hR.out.start [x.amt,x.a,x.b] 91);rw [←hw2,←hk2] at R2;have HW:=hid hw2;have HK:=hid hk2;clear hw2 hk2;have c0:=R2.out.box.cell 0 _ rfl;have c1:=R2.out.box.cell 1 _ rfl;have c2:=R2.out.box.cell 2 _ rfl;clear hR;go_upto_region 12 with fail
     rw [←HW.out,←HK.out];clear HW HK x0 x1 x2 lbx;go_wp2_with (first|(at_builtin;refine wpList_append_own_at _ rfl _ _ 65 rfl w1.heap.size 3 iI (.int .i64 0) 1 8 und_i64s jI zI sI bI rfl (by decide) _ _ _ rfl (R2.out.o1.alloc _) ⟨w2.heap.size,0,none⟩ 3 3 [x.amt,x.a,x.b] rfl rfl (news_new w2 [x.amt,x.a,x.b] _) (by simp [Value.oneCell']) (by unfold maxLen;omega) (by omega) (R2.out.call (bel_alloc _ _)).bel.size ?_;intro v' w3 hown hgrow _ hat;have R3:=hid (R2.out.app1 hown hgrow hat);clear hown hgrow hat)|fail)
     go_roundw
     case rel=>exact ⟨i'+1,N2+3,L2++rwS x,by simp,by omega,by have:=HN.out;omega,hid (by rw [flat_take TX.out,←List.append_assoc,←hL.out]),hid (by rw [ints_app];exact R3.out.drop)⟩
     case measure=>simp [intOf];omega
    ·obtain rfl:i'=c.sums.length:=by omega
     have hL2:Hid (L2=rwH c++c.meters.flatMap rwM++c.sums.flatMap rwS):=hid (by rw [hL.out,flat_whole,hL1.out]);have N3:N2≤120005:=by omega
     have d5:=(X.out wr hR.out.bel).1.cell 5 _ rfl;have l5:k1<wr.heap.size:=(X.out wr hR.out.bel).1.lt;obtain ⟨wq,hwq⟩:∃W,W=wr:=⟨_,rfl⟩;rw [←hwq] at hR d5 l5 ⊢;have RQ:=hR;clear hwq hR hL hlt hi hN N1 hL1;go_wp2;clear d5 l5;go_loopw [4,77] (fun v i wr=>∃(i' N4:Nat) (L4:List Int),i=.int .i64 (i':Int)∧i'≤c.parts.length∧N4≤120005+6000*i'∧Hid (L4=L2++(c.parts.take i').flatMap rwP)∧Hid (Rw w1 wr [] v N4 (ints L4) u5 M (txts K))) (fun _ i _=>c.parts.length-(intOf i).toNat)
     case atStart=>exact ⟨0,N2,L2,rfl,Nat.zero_le _,by omega,hid (by simp),RQ⟩
     case round=>
      clear RQ;obtain ⟨i',N4,L4,rfl,hi,hN,hL,hR⟩:=hrel;by_cases hlt:i'<c.parts.length
      ·obtain ⟨x,tx⟩:∃x,c.parts[i']?=some x:=⟨_,List.getElem?_eq_getElem hlt⟩;have TX:=hid tx;obtain ⟨bx,ox,ta,tc,aa,ac,e,lbx,x0,x1,x2,x3,x4,x5,x6,x7,x8,hp⟩:=prt_at HC.out.parts tx;subst e;replace x0:=bcell hR.out.bel lbx x0;replace x1:=bcell hR.out.bel lbx x1;replace x2:=bcell hR.out.bel lbx x2;replace x3:=bcell hR.out.bel lbx x3;replace x4:=bcell hR.out.bel lbx x4;replace x5:=bcell hR.out.bel lbx x5;replace x6:=bcell hR.out.bel lbx x6;replace x7:=bcell hR.out.bel lbx x7;replace x8:=bcell hR.out.bel lbx x8;replace lbx:=Nat.lt_of_lt_of_le lbx hR.out.bel.size;have HT:=hid hp.tiers;have HA:=hid hp.adjusts;have q1:=(HF.out.x x (List.mem_of_getElem? tx)).1;have q2:=(HF.out.x x (List.mem_of_getElem? tx)).2;have v1:=hp.tiers.hcap;have v2:=hp.tiers.hmax;have v3:=hp.adjusts.hcap;have v4:=hp.adjusts.hmax;have hNN:N4≤7000000:=by omega
       clear tx hp;obtain ⟨w2,hw2⟩:∃W,W=wr.alloc (.cells #[x.mt,x.a,x.b,x.allowance,x.block,x.kind,.slice ta x.tiers.length tc,x.mode,.slice aa x.adjusts.length ac] 59):=⟨_,rfl⟩;obtain ⟨k2,hk2⟩:∃k,k=wr.heap.size:=⟨_,rfl⟩;have R2:=hid (hR.out.start [x.mt,x.a,x.b,x.allowance,x.block,x.kind,.slice ta x.tiers.length tc,x.mode,.slice aa x.adjusts.length ac] 59);rw [←hw2,←hk2] at R2;have HW:=hid hw2;have HK:=hid hk2;clear hw2 hk2;have c0:=R2.out.box.cell 0 _ rfl;have c1:=R2.out.box.cell 1 _ rfl;have c2:=R2.out.box.cell 2 _ rfl;have c3:=R2.out.box.cell 3 _ rfl;have c4:=R2.out.box.cell 4 _ rfl;have c5:=R2.out.box.cell 5 _ rfl;have c6:=R2.out.box.cell 6 _ rfl;have c7:=R2.out.box.cell 7 _ rfl;have c8:=R2.out.box.cell 8 _ rfl;clear hR;go_upto_region 17 with fail
       rw [←HW.out,←HK.out];clear HW HK x0 x1 x2 x3 x4 x5 x6 x7 x8 lbx;go_upto_region 18 with (first|(at_builtin;refine wpList_append_own_at _ rfl _ _ 65 rfl w1.heap.size 3 iI (.int .i64 0) 1 8 und_i64s jI zI sI bI rfl (by decide) _ _ _ rfl (R2.out.o1.alloc _) ⟨w2.heap.size,0,none⟩ 9 9 [x.mt,x.a,x.b,x.allowance,x.block,x.kind,x.mode,.int .i64 x.tiers.length,.int .i64 x.adjusts.length] rfl rfl (news_new w2 [x.mt,x.a,x.b,x.allowance,x.block,x.kind,x.mode,.int .i64 x.tiers.length,.int .i64 x.adjusts.length] _) (by simp [Value.oneCell']) (by unfold maxLen;omega) (by omega) (R2.out.call (bel_alloc _ _)).bel.size ?_;intro v' w3 hown hgrow _ hat;have R3:=hid (R2.out.app1 hown hgrow hat);clear hown hgrow hat;have c6:=R3.out.box.cell 6 _ rfl)|fail)
       obtain ⟨V3,hV3⟩:∃V,V=v':=⟨_,rfl⟩;rw [←hV3] at R3 ⊢;clear hV3;have hR3:Hid (Rw w1 w3 [(k2,[x.mt,x.a,x.b,x.allowance,x.block,x.kind,.slice ta x.tiers.length tc,x.mode,.slice aa x.adjusts.length ac])] V3 (N4+9) (ints (L4++rwPh x)) u5 M (txts K)):=hid (by rw [ints_app];exact R3.out);have lk:=hR3.out.box.lt;clear R3 c0 c1 c2 c3 c4 c5 c7 c8;go_wp2;clear c6 lk;go_loopw [4,107] (fun v i wr=>∃(j' N5:Nat) (L5:List Int),i=.int .i64 (j':Int)∧j'≤x.tiers.length∧N5=N4+9+2*j'∧Hid (L5=L4++rwPh x++(x.tiers.take j').flatMap rwT)∧Hid (Rw w1 wr [(k2,[x.mt,x.a,x.b,x.allowance,x.block,x.kind,.slice ta x.tiers.length tc,x.mode,.slice aa x.adjusts.length ac])] v N5 (ints L5) u5 M (txts K))) (fun _ i _=>x.tiers.length-(intOf i).toNat)
       case atStart=>exact ⟨0,N4+9,L4++rwPh x,rfl,Nat.zero_le _,rfl,hid (by simp),hR3⟩
       case round=>
        clear hR3;obtain ⟨j',N5,L5,rfl,hj,hN5,hL5,hR⟩:=hrel;by_cases hlt2:j'<x.tiers.length
        ·obtain ⟨t,tt⟩:∃t,x.tiers[j']?=some t:=⟨_,List.getElem?_eq_getElem hlt2⟩;have TT:=hid tt;obtain ⟨bt,ot,e,lbt,x0,x1,_⟩:=tier_at (HT.out.on hR.out.bel) tt;subst e;have hNN5:N5≤8000000:=by omega
         have HN5:=hid hN5;clear tt hN5;obtain ⟨w4,hw4⟩:∃W,W=wr.alloc (.cells #[t.upto,t.rate] 119):=⟨_,rfl⟩;obtain ⟨k4,hk4⟩:∃k,k=wr.heap.size:=⟨_,rfl⟩;have R4:=hid (hR.out.start [t.upto,t.rate] 119);rw [←hw4,←hk4] at R4;have HW:=hid hw4;have HK:=hid hk4;clear hw4 hk4;have c0:=R4.out.box.cell 0 _ rfl;have c1:=R4.out.box.cell 1 _ rfl;clear hR;go_upto_region 21 with fail
         rw [←HW.out,←HK.out];clear HW HK x0 x1 lbt;go_wp2_with (first|(at_builtin;refine wpList_append_own_at _ rfl _ _ 65 rfl w1.heap.size 3 iI (.int .i64 0) 1 8 und_i64s jI zI sI bI rfl (by decide) _ _ _ rfl (R4.out.o1.alloc _) ⟨w4.heap.size,0,none⟩ 2 2 [t.upto,t.rate] rfl rfl (news_new w4 [t.upto,t.rate] _) (by simp [Value.oneCell']) (by unfold maxLen;omega) (by omega) (R4.out.call (bel_alloc _ _)).bel.size ?_;intro v' w5 hown hgrow _ hat;have R5:=hid (R4.out.app1 hown hgrow hat);clear hown hgrow hat)|fail)
         go_roundw
         case rel=>exact ⟨j'+1,N5+2,L5++rwT t,by simp,by omega,by have:=HN5.out;omega,hid (by rw [flat_take TT.out,←List.append_assoc,←hL5.out]),hid (by rw [ints_app];exact R5.out.drop)⟩
         case measure=>simp [intOf];omega
        ·obtain rfl:j'=x.tiers.length:=by omega
         have hL6:Hid (L5=L4++rwPh x++x.tiers.flatMap rwT):=hid (by rw [hL5.out,flat_whole]);have hN6:N5≤N4+2009:=by omega
         have c8:=hR.out.box.cell 8 _ rfl;have lk:=hR.out.box.lt;obtain ⟨wq,hwq⟩:∃W,W=wr:=⟨_,rfl⟩;rw [←hwq] at hR c8 lk ⊢;have RQ:=hR;clear hwq hR hL5 hlt2 hj hN5;go_wp2;clear c8 lk;go_loopw [4,122] (fun v i wr=>∃(j' N7:Nat) (L7:List Int),i=.int .i64 (j':Int)∧j'≤x.adjusts.length∧N7=N5+3*j'∧Hid (L7=L5++(x.adjusts.take j').flatMap rwA)∧Hid (Rw w1 wr [(k2,[x.mt,x.a,x.b,x.allowance,x.block,x.kind,.slice ta x.tiers.length tc,x.mode,.slice aa x.adjusts.length ac])] v N7 (ints L7) u5 M (txts K))) (fun _ i _=>x.adjusts.length-(intOf i).toNat)
         case atStart=>exact ⟨0,N5,L5,rfl,Nat.zero_le _,rfl,hid (by simp),RQ⟩
         case round=>
          clear RQ;obtain ⟨j',N7,L7,rfl,hj,hN7,hL7,hR⟩:=hrel;by_cases hlt2:j'<x.adjusts.length
          ·obtain ⟨t,tt⟩:∃t,x.adjusts[j']?=some t:=⟨_,List.getElem?_eq_getElem hlt2⟩;have TT:=hid tt;obtain ⟨bt,ot,e,lbt,x0,x1,x2,_⟩:=adj_at (HA.out.on hR.out.bel) tt;subst e;have hNN7:N7≤9000000:=by omega
           have HN7:=hid hN7;clear tt hN7;obtain ⟨w4,hw4⟩:∃W,W=wr.alloc (.cells #[t.kind,t.num,t.mode] 121):=⟨_,rfl⟩;obtain ⟨k4,hk4⟩:∃k,k=wr.heap.size:=⟨_,rfl⟩;have R4:=hid (hR.out.start [t.kind,t.num,t.mode] 121);rw [←hw4,←hk4] at R4;have HW:=hid hw4;have HK:=hid hk4;clear hw4 hk4;have c0:=R4.out.box.cell 0 _ rfl;have c1:=R4.out.box.cell 1 _ rfl;have c2:=R4.out.box.cell 2 _ rfl;clear hR;go_upto_region 26 with fail
           rw [←HW.out,←HK.out];clear HW HK x0 x1 x2 lbt;go_wp2_with (first|(at_builtin;refine wpList_append_own_at _ rfl _ _ 65 rfl w1.heap.size 3 iI (.int .i64 0) 1 8 und_i64s jI zI sI bI rfl (by decide) _ _ _ rfl (R4.out.o1.alloc _) ⟨w4.heap.size,0,none⟩ 3 3 [t.kind,t.num,t.mode] rfl rfl (news_new w4 [t.kind,t.num,t.mode] _) (by simp [Value.oneCell']) (by unfold maxLen;omega) (by omega) (R4.out.call (bel_alloc _ _)).bel.size ?_;intro v' w5 hown hgrow _ hat;have R5:=hid (R4.out.app1 hown hgrow hat);clear hown hgrow hat)|fail)
           go_roundw
           case rel=>exact ⟨j'+1,N7+3,L7++rwA t,by simp,by omega,by have:=HN7.out;omega,hid (by rw [flat_take TT.out,←List.append_assoc,←hL7.out]),hid (by rw [ints_app];exact R5.out.drop)⟩
           case measure=>simp [intOf];omega
          ·obtain rfl:j'=x.adjusts.length:=by omega
           have hL8:Hid (L7=L4++rwP x):=hid (by rw [hL7.out,flat_whole,hL6.out];unfold rwP;simp only [List.append_assoc]);have R9:=hid hR.out.drop;clear hR hL7 hlt2;go_wp2;go_roundw
           case rel=>exact ⟨i'+1,N7,L7,by simp,by omega,by omega,hid (by rw [flat_take TX.out,←List.append_assoc,←hL.out];exact hL8.out),R9⟩
           case measure=>simp [intOf];omega
      ·obtain rfl:i'=c.parts.length:=by omega
       have hL9:Hid (L4=rowN c):=hid (by rw [hL.out,flat_whole,hL2.out];rfl);have BF:=hid (X.out wr hR.out.bel).2;have o1:=hR.out.o1.mono HZ.out;have o2:=hR.out.o2.mono HZ.out
       have e1:N4=(rowN c).length:=by
        have:=o1.1;rw [hL9.out] at this;unfold ints at this;rw [List.length_map] at this;omega
       have e2:M=(rowT c).length:=by
        have:=o2.1;rw [hK1.out] at this;unfold txts at this;rw [List.length_map] at this;omega
       rw [hL9.out] at o1;rw [hK1.out] at o2;have O1:=hid o1;have O2:=hid o2;clear o1 o2 hR;go_wp2;refine bodyPost_ret (results_tmp2 rfl _ _ _) rfl ⟨u4,u5,rfl,?_,?_,BF.out⟩
       ·rw [←e1];exact O1.out
       ·rw [←e2];exact O2.out
theorem same_any (c d:Cor) (ma:Option Addr) (mc:Nat) (sa:Option Addr) (sc:Nat) (pa:Option Addr) (pc:Nat) (na:Option Addr) (nc:Nat) (ta:Option Addr) (tc:Nat) (qa:Option Addr) (qc:Nat) (w:World) (hc:CorLies w (corC c ma mc sa sc pa pc) c ma mc sa sc pa pc) (hd:CorLies w (corC d na nc ta tc qa qc) d na nc ta tc qa qc) (fc:Fit10 c) (fd:Fit10 d) (eN:rowN c=rowN d) (eT:rowT c=rowT d) :
  Calls Tryz.prog 11 #[.agg #[c.cur,c.a,c.b,.slice ma c.meters.length mc,.slice sa c.sums.length sc,.slice pa c.parts.length pc],.agg #[d.cur,d.a,d.b,.slice na d.meters.length nc,.slice ta d.sums.length tc,.slice qa d.parts.length qc]] w fun e w'=>e=.returned (.bool true)∧Below w.heap.size w w':=by
 obtain ⟨w1,hw1⟩:∃W,W=(w.alloc (.cells #[c.cur,c.a,c.b,.slice ma c.meters.length mc,.slice sa c.sums.length sc,.slice pa c.parts.length pc] 27)).alloc (.cells #[d.cur,d.a,d.b,.slice na d.meters.length nc,.slice ta d.sums.length tc,.slice qa d.parts.length qc] 27):=⟨_,rfl⟩;obtain ⟨k1,hk1⟩:∃k,k=w.heap.size:=⟨_,rfl⟩;obtain ⟨k2,hk2⟩:∃k,k=w.heap.size+1:=⟨_,rfl⟩;have b1:Below w.heap.size w w1:=by rw [hw1];exact bel_alloc2 ..
 have X2:Box w1 k2 [d.cur,d.a,d.b,.slice na d.meters.length nc,.slice ta d.sums.length tc,.slice qa d.parts.length qc]:=by
  rw [hw1,hk2];have:=Box.new (w.alloc (.cells #[c.cur,c.a,c.b,.slice ma c.meters.length mc,.slice sa c.sums.length sc,.slice pa c.parts.length pc] 27)) [d.cur,d.a,d.b,.slice na d.meters.length nc,.slice ta d.sums.length tc,.slice qa d.parts.length qc] 27;simpa using this
 have X1:Box w1 k1 [c.cur,c.a,c.b,.slice ma c.meters.length mc,.slice sa c.sums.length sc,.slice pa c.parts.length pc]:=by rw [hw1,hk1];exact (Box.new w _ 27).on (bel_alloc _ _)
 have cR:=hid (row_any c ma mc sa sc pa pc w1 (hc.on b1) fc);have cQ:=hid (fun (W:World) (b:Below w1.heap.size w1 W)=>row_any d na nc ta tc qa qc W (hd.on (bel_on b1 b)) fd);rw [←eN,←eT] at cQ;obtain ⟨n,hn⟩:∃n,n=(rowN c).length:=⟨_,rfl⟩;obtain ⟨m,hm⟩:∃n,n=(rowT c).length:=⟨_,rfl⟩;rw [←hn,←hm] at cR cQ;have n0:0<n:=by rw [hn];unfold rowN rwH;simp only [List.length_append,List.length_cons,List.length_nil];omega
 have m0:0<m:=by rw [hm];unfold rowT;simp only [List.length_append,List.length_cons,List.length_nil];omega
 have HN:=hid hn;have HM:=hid hm;have d0:=X1.cell 0 _ rfl;have d1:=X1.cell 1 _ rfl;have d2:=X1.cell 2 _ rfl;have d3:=X1.cell 3 _ rfl;have d4:=X1.cell 4 _ rfl;have d5:=X1.cell 5 _ rfl;have X:=hid (fun (W:World) (b:Below w1.heap.size w1 W)=>(⟨X2.on b,bel_on b1 b⟩:Box W k2 [d.cur,d.a,d.b,.slice na d.meters.length nc,.slice ta d.sums.length tc,.slice qa d.parts.length qc]∧Below w.heap.size w W));have HW:=hid hw1;have HK1:=hid hk1;have HK2:=hid hk2;clear hw1 X1 X2 b1 hc hd hk1 hk2 hn hm eN eT fc fd;go_enter Tryz.func11,Tryz.ntmps11
 go_upto_region 1 with fail
 rw [←HW.out,←HK2.out,←HK1.out];clear HW HK1 HK2;go_wp2_with fail
 refine cR.out.mono ?_;rintro e w2 ⟨v1,v2,rfl,o1,o2,b2⟩
 have nb:n≤9223372036854775807:=by
  rcases o1.2 with ⟨_,h⟩|⟨_,_,_,_,_,_,h1,h2,_⟩
  ·omega
  ·exact Nat.le_trans h1 (by unfold maxLen at h2;omega)
 have mb:m≤9223372036854775807:=by
  rcases o2.2 with ⟨_,h⟩|⟨_,_,_,_,_,_,h1,h2,_⟩
  ·omega
  ·exact Nat.le_trans h1 (by unfold maxLen at h2;omega)
 obtain ⟨g1,c1,rfl,p1,q1⟩:=o1.form n0;obtain ⟨g2,c2,rfl,p2,q2⟩:=o2.form m0;have B2:=hid b2;have A1:=hid (o1.cells rfl);have A2:=hid (o2.cells rfl);clear cR d0 d1 d2 d3 d4 d5 o1 o2 b2 p1 p2;have Y:=X.out w2 B2.out;have d0:=Y.1.cell 0 _ rfl;have d1:=Y.1.cell 1 _ rfl;have d2:=Y.1.cell 2 _ rfl;have d3:=Y.1.cell 3 _ rfl;have d4:=Y.1.cell 4 _ rfl;have d5:=Y.1.cell 5 _ rfl;have cS:=hid (cQ.out w2 B2.out);clear Y cQ;go_wp2_with fail
 refine cS.out.mono ?_;rintro e w3 ⟨v3,v4,rfl,o3,o4,b3⟩;obtain ⟨g3,c3,rfl,p3,q3⟩:=o3.form n0;obtain ⟨g4,c4,rfl,p4,q4⟩:=o4.form m0
 have E1:Hid (∀(W:World),Below w3.heap.size w3 W→∀(j:Nat) (x:Int),(rowN c)[j]?=some x→W.cell? ⟨g1,j,none⟩=some (.int .i64 x)):=hid fun W b j x h=>by
  rw [(bel_on b3 b).cell q1];have:=A1.out j (.int .i64 x) (by unfold ints;rw [List.getElem?_map,h];rfl)
  rwa [Mm.add_plain,Nat.zero_add] at this
 have E2:Hid (∀(W:World),Below w3.heap.size w3 W→∀(j:Nat) (x:ByteArray),(rowT c)[j]?=some x→W.cell? ⟨g2,j,none⟩=some (.string x)):=hid fun W b j x h=>by
  rw [(bel_on b3 b).cell q2];have:=A2.out j (.string x) (by unfold txts;rw [List.getElem?_map,h];rfl)
  rwa [Mm.add_plain,Nat.zero_add] at this
 have E3:Hid (∀(W:World),Below w3.heap.size w3 W→∀(j:Nat) (x:Int),(rowN c)[j]?=some x→W.cell? ⟨g3,j,none⟩=some (.int .i64 x)):=hid fun W b j x h=>by
  rw [b.cell q3];have:=o3.cells rfl j (.int .i64 x) (by unfold ints;rw [List.getElem?_map,h];rfl)
  rwa [Mm.add_plain,Nat.zero_add] at this
 have E4:Hid (∀(W:World),Below w3.heap.size w3 W→∀(j:Nat) (x:ByteArray),(rowT c)[j]?=some x→W.cell? ⟨g4,j,none⟩=some (.string x)):=hid fun W b j x h=>by
  rw [b.cell q4];have:=o4.cells rfl j (.string x) (by unfold txts;rw [List.getElem?_map,h];rfl)
  rwa [Mm.add_plain,Nat.zero_add] at this
 have BF:=hid (fun (W:World) (b:Below w3.heap.size w3 W)=>(X.out W (bel_on (bel_on B2.out b3) b)).2);have BB:=hid (Below.refl w3.heap.size w3);clear cS d0 d1 d2 d3 d4 d5 o3 o4 b3 p3 p4 q1 q2 q3 q4 A1 A2 B2 X;go_wp2;go_loopw [35] (fun i wr=>∃i':Nat,i=.int .i64 (i':Int)∧i'≤n∧Hid (Below w3.heap.size w3 wr)) (fun i _=>n-(intOf i).toNat)
 case atStart=>exact ⟨0,rfl,Nat.zero_le _,BB⟩
 case round=>
  clear BB;obtain ⟨i',rfl,hi,hb⟩:=hrel;by_cases hlt:i'<n
  ·obtain ⟨x,tx⟩:∃x,(rowN c)[i']?=some x:=⟨_,List.getElem?_eq_getElem (by have:=HN.out;omega)⟩;have k0:=cell_regrown (E1.out wr hb.out i' x tx);have k1:=cell_regrown (E3.out wr hb.out i' x tx);have l1:=World.block_lt_of_cell? wr _ (E1.out wr hb.out i' x tx);have l2:=World.block_lt_of_cell? wr _ (E3.out wr hb.out i' x tx);have B2:=fun d os=>hid (bel_on hb.out (below_regrown wr d os));clear tx hb;go_wp2;refine wp_region_quiet_below (by kernel_rfl) (by kernel_rfl) ?_;repeat (go_big_quiet_step (fail))
   refine wpQuiet_nil ?_;intro _ hw';obtain ⟨⟨dq,osq⟩,hw''⟩:=hw';subst hw'';have B3:=B2 dq osq;clear B2 k0 k1 l1 l2;go_wp2;go_roundw
   case rel=>exact ⟨i'+1,by simp,by omega,B3⟩
   case measure=>simp [intOf];omega
  ·obtain rfl:i'=n:=by omega

   obtain ⟨wq,hwq⟩:∃W,W=wr:=⟨_,rfl⟩;rw [←hwq] at hb ⊢;have BC:=hb;clear hwq hb hlt hi;go_wp2;go_loopw [50] (fun i wr=>∃i':Nat,i=.int .i64 (i':Int)∧i'≤m∧Hid (Below w3.heap.size w3 wr)) (fun i _=>m-(intOf i).toNat)
   case atStart=>exact ⟨0,rfl,Nat.zero_le _,BC⟩
   case round=>
    clear BC;obtain ⟨i',rfl,hi,hb⟩:=hrel;by_cases hlt:i'<m
    ·obtain ⟨x,tx⟩:∃x,(rowT c)[i']?=some x:=⟨_,List.getElem?_eq_getElem (by have:=HM.out;omega)⟩;have k0:=cell_regrown (E2.out wr hb.out i' x tx);have k1:=cell_regrown (E4.out wr hb.out i' x tx);have l1:=World.block_lt_of_cell? wr _ (E2.out wr hb.out i' x tx);have l2:=World.block_lt_of_cell? wr _ (E4.out wr hb.out i' x tx);have B2:=fun d os=>hid (bel_on hb.out (below_regrown wr d os));clear tx hb;go_wp2;refine wp_region_quiet_below (by kernel_rfl) (by kernel_rfl) ?_;repeat (go_big_quiet_step (fail))
     refine wpQuiet_nil ?_;intro _ hw';obtain ⟨⟨dq,osq⟩,hw''⟩:=hw';subst hw'';have B3:=B2 dq osq;clear B2 k0 k1 l1 l2;go_wp2;go_roundw
     case rel=>exact ⟨i'+1,by simp,by omega,B3⟩
     case measure=>simp [intOf];omega
    ·obtain rfl:i'=m:=by omega

     have BT:=hid (BF.out wr hb.out);go_wp2;go_ret;exact ⟨rfl,BT.out⟩
end R10
end Go.Proofs.YtofbobdhkbmbgaaGreatDoor
