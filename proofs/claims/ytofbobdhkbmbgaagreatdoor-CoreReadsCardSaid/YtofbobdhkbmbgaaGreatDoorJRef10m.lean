/- What the document's answers for layer 7 (poundageref07) come to: Parse, of every text. -/
import Derived.Test.YtofbobdhkbmbgaaGreatDoorJRef7g
import Derived.Test.YtofbobdhkbmbgaaGreatDoorJCoR
import Derived.Test.YtofbobdhkbmbgaaGreatDoorJRef10d
import Derived.Shelf.Strings.OnBuilder
set_option maxRecDepth 100000
set_option maxHeartbeats 8000000
namespace Go.Proofs.YtofbobdhkbmbgaaGreatDoor
namespace R7
open Go.RowKit Go.Sort P Tl Mm Md
theorem ref_any (l:ByteArray) (w:World):Calls Tryz.prog 12 #[.string l] w (PsQ w (parsed l.data.toList)):=by
 by_cases h:(lexed l.data.toList).2.1=0
 ·have e:parsed l.data.toList=planS (lexed l.data.toList).1:=by unfold parsed;simp only;rw [if_pos h]
  rw [e];exact parse_good l w (lexed l.data.toList).1 (lexed l.data.toList).2.2.1 (lexed l.data.toList).2.2.2 (by rw [←h]) (lexed_fine h)
 ·have e:parsed l.data.toList=(planZ,((lexed l.data.toList).2.1:Int),((lexed l.data.toList).2.2.1:Int),((lexed l.data.toList).2.2.2:Int)):=by unfold parsed;simp only;rw [if_neg h]
  rw [e];exact parse_bad l w _ _ _ _ rfl h
theorem ref_lies (l:ByteArray) (w:World):Calls Tryz.prog 12 #[.string l] w fun e w'=>∃ma mc fa fc ca cc,e=.returned (.tuple #[.agg (planC (parsed l.data.toList).1 ma mc fa fc ca cc).toArray,.int .i64 (parsed l.data.toList).2.1,.int .i64 (parsed l.data.toList).2.2.1,.int .i64 (parsed l.data.toList).2.2.2])∧
  PlanLies w' (planC (parsed l.data.toList).1 ma mc fa fc ca cc) (parsed l.data.toList).1 ma mc fa fc ca cc∧Below w.heap.size w w':=
 (ref_any l w).mono fun _ _ ⟨ma,mc,fa,fc,ca,cc,_,h1,h2,h3,h4⟩=>⟨ma,mc,fa,fc,ca,cc,h1,lies_of h2 (parsed_fits _) h3.own,h4⟩
end R7
namespace L10
open Go.RowKit Go.Sort P Mm Md R6 Co
theorem read_ok {l:List UInt8} (h:(readF l).1=0):(parsed l).2.1=0∧(wrongOf (parsed l).1).1=0∧readF l=(0,0,0)∧readC l=coreOf (parsed l).1:=by
 unfold readF at h ⊢;unfold readC;by_cases e:(parsed l).2.1=0
 ·rw [if_pos e] at h ⊢;rw [if_pos e];unfold coreAns;rw [if_pos h];exact ⟨e,h,wrong_nought h,rfl⟩
 ·rw [if_neg e] at h;exact absurd h e
theorem read_bad {l:List UInt8} (h:(readF l).1≠0):readC l=zeroC:=by
 unfold readF at h;unfold readC;by_cases e:(parsed l).2.1=0
 ·rw [if_pos e] at h ⊢;unfold coreAns;rw [if_neg h]
 ·rw [if_neg e]
theorem fit_zero:R10.Fit10 zeroC:=⟨by decide,by decide,by decide,fun x hx=>by cases hx⟩
theorem fit_core {p:Plan} (h:(wrongOf p).1=0):R10.Fit10 (coreOf p):=by
 refine ⟨?_,?_,?_,fun x hx=>?_⟩
 ·show (srt p.meters).length≤20000
  rw [srt_len];have:=meters_few h;omega
 ·show (p.fees.map _).length≤20000
  rw [List.length_map];have:=fees_few h;omega
 ·show (p.charges.map _).length≤1000
  rw [List.length_map];have:=charges_few h;omega
 ·obtain ⟨c,hc,rfl⟩:=List.mem_map.1 hx;have k:=charge_in h hc;have a:=k.few;have b:=k.adjs;exact ⟨show c.tiers.length≤1000 by omega,show c.adjusts.length≤1000 by omega⟩
theorem fit_read (l:List UInt8):R10.Fit10 (readC l):=by
 by_cases h:(readF l).1=0
 ·rw [(read_ok h).2.2.2];exact fit_core (read_ok h).2.1
 ·rw [read_bad h];exact fit_zero
theorem ref7t (l:ByteArray) (w:World) {p:Plan} {x y z:Int} (hp:p=(parsed l.data.toList).1) (hx:x=(parsed l.data.toList).2.1) (hy:y=(parsed l.data.toList).2.2.1) (hz:z=(parsed l.data.toList).2.2.2):Calls Tryz.prog 12 #[.string l] w fun e w'=>∃ma mc fa fc ca cc,e=.returned (.tuple #[.agg #[p.name,p.cur,p.a.y,p.a.m,p.a.d,p.b.y,p.b.m,p.b.d,.slice ma p.meters.length mc,.slice fa p.fees.length fc,.slice ca p.charges.length cc,p.line,p.col],.int .i64 x,.int .i64 y,.int .i64 z])∧PlanLies w' [p.name,p.cur,p.a.y,p.a.m,p.a.d,p.b.y,p.b.m,p.b.d,.slice ma p.meters.length mc,.slice fa p.fees.length fc,.slice ca p.charges.length cc,p.line,p.col] p ma mc fa fc ca cc∧Below w.heap.size w w':=by
 subst hp hx hy hz;exact R7.ref_lies l w
end L10
namespace R10
open Go.RowKit Go.Sort P Mm Md R6 Te Co
theorem days_any (p:Plan) (x:Win) (ma:Option Addr) (mc:Nat) (fa:Option Addr) (fc:Nat) (ca:Option Addr) (cc:Nat) (w:World) (hp:DayOk p.a∧DayOk p.b) (hx:WinOk x) :
  Calls Tryz.prog 60 #[.agg #[p.name,p.cur,p.a.y,p.a.m,p.a.d,p.b.y,p.b.m,p.b.d,.slice ma p.meters.length mc,.slice fa p.fees.length fc,.slice ca p.charges.length cc,p.line,p.col],.agg #[x.has,x.a.y,x.a.m,x.a.d,x.b.y,x.b.m,x.b.d]] w fun e w'=>e=.returned (.tuple #[.int .i64 (winA p x),.int .i64 (winB p x)])∧Below w.heap.size w w':=by
 obtain ⟨w1,hw1⟩:∃W,W=(w.alloc (.cells #[p.name,p.cur,p.a.y,p.a.m,p.a.d,p.b.y,p.b.m,p.b.d,.slice ma p.meters.length mc,.slice fa p.fees.length fc,.slice ca p.charges.length cc,p.line,p.col] 41)).alloc (.cells #[x.has,x.a.y,x.a.m,x.a.d,x.b.y,x.b.m,x.b.d] 51):=⟨_,rfl⟩;obtain ⟨k1,hk1⟩:∃k,k=w.heap.size:=⟨_,rfl⟩;obtain ⟨k2,hk2⟩:∃k,k=w.heap.size+1:=⟨_,rfl⟩;have b1:Below w.heap.size w w1:=by rw [hw1];exact bel_alloc2 ..
 have X2:Box w1 k2 [x.has,x.a.y,x.a.m,x.a.d,x.b.y,x.b.m,x.b.d]:=by
  rw [hw1,hk2];have:=Box.new (w.alloc (.cells #[p.name,p.cur,p.a.y,p.a.m,p.a.d,p.b.y,p.b.m,p.b.d,.slice ma p.meters.length mc,.slice fa p.fees.length fc,.slice ca p.charges.length cc,p.line,p.col] 41)) [x.has,x.a.y,x.a.m,x.a.d,x.b.y,x.b.m,x.b.d] 51;simpa using this
 have X1:Box w1 k1 [p.name,p.cur,p.a.y,p.a.m,p.a.d,p.b.y,p.b.m,p.b.d,.slice ma p.meters.length mc,.slice fa p.fees.length fc,.slice ca p.charges.length cc,p.line,p.col]:=by rw [hw1,hk1];exact (Box.new w _ 41).on (bel_alloc _ _)
 have HW:=hid hw1;have HK1:=hid hk1;have HK2:=hid hk2;have B1:=hid b1;have a0:=X2.cell 0 _ rfl;clear hw1 hk1 hk2 b1;obtain ⟨A,hA⟩:∃A,A=winA p x:=⟨_,rfl⟩;obtain ⟨B,hB⟩:∃A,A=winB p x:=⟨_,rfl⟩;rw [←hA,←hB];rcases Bool.eq_false_or_eq_true x.has with hh|hh
 ·have dx:DayOk x.a∧DayOk x.b:=by
   rcases hx with h|h
   ·exact h.2
   ·rw [h] at hh;cases hh
  have cA:=fun W=>R9.num3 x.a dx.1 W;have cB:=fun W=>R9.num3 x.b dx.2 W;rw [show dn x.a=A by rw [hA];unfold winA;rw [if_pos hh]] at cA;rw [show dn x.b=B by rw [hB];unfold winB;rw [if_pos hh]] at cB;have f1:=cell_regrown (X2.cell 1 _ rfl);have f2:=cell_regrown (X2.cell 2 _ rfl);have f3:=cell_regrown (X2.cell 3 _ rfl);have f4:=cell_regrown (X2.cell 4 _ rfl);have f5:=cell_regrown (X2.cell 5 _ rfl);have f6:=cell_regrown (X2.cell 6 _ rfl);have lk:=X2.lt;have HH:=hid hh;have qA:=fun d os=>Calls.regrown_of (cA (grow (redrawn w1 d) os));have qB:=fun d os=>Calls.regrown_of (cB (grow (redrawn w1 d) os));clear hA hB X1 X2 cA cB dx hh;go_enter Tryz.func60,Tryz.ntmps60
  go_upto_region 1 with fail
  rw [←HW.out,←HK2.out,←HK1.out];clear HW HK1 HK2;rw [HH.out] at a0;go_wp2;refine wp_region_quiet_below (by kernel_rfl) (by kernel_rfl) ?_;repeat (go_big_quiet_step (first|(go_at_call_of 55 (Value.agg #[x.a.y,x.a.m,x.a.d]);exact qA _ _)|(go_at_call 55;exact qB _ _)))
  refine wpQuiet_nil ?_;intro w3 hw';obtain ⟨⟨dq,osq⟩,hw''⟩:=hw';have BF:=hid (bel_on B1.out (by rw [hw''];exact below_regrown w1 dq osq:Below w1.heap.size w1 w3));clear hw'' f1 f2 f3 f4 f5 f6 qA qB;go_wp2;go_ret2;exact ⟨rfl,BF.out⟩
 ·have cA:=fun W=>R9.num3 p.a hp.1 W;have cB:=fun W=>R9.num3 p.b hp.2 W;rw [show dn p.a=A by rw [hA];unfold winA;rw [if_neg (by rw [hh];decide)]] at cA;rw [show dn p.b=B by rw [hB];unfold winB;rw [if_neg (by rw [hh];decide)]] at cB;have f1:=cell_regrown (X1.cell 2 _ rfl);have f2:=cell_regrown (X1.cell 3 _ rfl);have f3:=cell_regrown (X1.cell 4 _ rfl);have f4:=cell_regrown (X1.cell 5 _ rfl);have f5:=cell_regrown (X1.cell 6 _ rfl);have f6:=cell_regrown (X1.cell 7 _ rfl);have lk:=X1.lt;have HH:=hid hh;have qA:=fun d os=>Calls.regrown_of (cA (grow (redrawn w1 d) os));have qB:=fun d os=>Calls.regrown_of (cB (grow (redrawn w1 d) os));clear hA hB X1 X2 cA cB hh;go_enter Tryz.func60,Tryz.ntmps60
  go_upto_region 1 with fail
  rw [←HW.out,←HK2.out,←HK1.out];clear HW HK1 HK2;rw [HH.out] at a0;go_wp2;refine wp_region_quiet_below (by kernel_rfl) (by kernel_rfl) ?_;repeat (go_big_quiet_step (first|(go_at_call_of 55 (Value.agg #[p.a.y,p.a.m,p.a.d]);exact qA _ _)|(go_at_call 55;exact qB _ _)))
  refine wpQuiet_nil ?_;intro w3 hw';obtain ⟨⟨dq,osq⟩,hw''⟩:=hw';have BF:=hid (bel_on B1.out (by rw [hw''];exact below_regrown w1 dq osq:Below w1.heap.size w1 w3));clear hw'' f1 f2 f3 f4 f5 f6 qA qB;go_wp2;go_ret2;exact ⟨rfl,BF.out⟩
end R10
namespace Mm
open Go.RowKit Go.Deep Go.ChangeShapes P
theorem fl_len {β:Type} {n:Nat} : ∀(css:List (List β)),(∀cs∈css,cs.length=n)→css.flatten.length=css.length*n
 | [],_=>by simp
 | a::r,h=>by
   have e:=fl_len r (fun cs hc=>h cs (List.mem_cons_of_mem _ hc));have ha:=h a (List.mem_cons_self ..);rw [List.flatten_cons,List.length_append,e,ha,List.length_cons,Nat.succ_mul];omega
theorem fl_split {β:Type} {n:Nat} : ∀(css:List (List β)),(∀cs∈css,cs.length=n)→∀(j:Nat) (u:β),css.flatten[j]?=some u→∃q cs i,css[q]?=some cs∧cs[i]?=some u∧j=q*n+i
 | [],_,j,u,h=>by simp at h
 | a::r,hh,j,u,h=>by
   have ha:=hh a (List.mem_cons_self ..);rw [List.flatten_cons] at h;by_cases hj:j<n
   ·rw [List.getElem?_append_left (by rw [ha];exact hj)] at h;exact ⟨0,a,j,rfl,h,by omega⟩
   ·rw [List.getElem?_append_right (by rw [ha];omega),ha] at h;obtain ⟨q,x,i,h1,h2,h3⟩:=fl_split r (fun cs hc=>hh cs (List.mem_cons_of_mem _ hc)) (j-n) u h;refine ⟨q+1,x,i,by simpa using h1,h2,?_⟩;rw [Nat.succ_mul];omega
structure Ch {α:Type} (T:Ty α) (w:World) (css:List (List Value)) (xs:List α):Prop where
 len:css.length=xs.length
 lies:∀(j:Nat) (cs:List Value) (x:α),css[j]?=some cs→xs[j]?=some x→T.lies w cs x
section
variable {α:Type} {T:Ty α} {w w':World}
theorem Ch.sizes {css:List (List Value)} {xs:List α} (h:Ch T w css xs):∀cs∈css,cs.length=T.n:=fun cs hc=>by
 obtain ⟨j,hj,e⟩:=List.getElem_of_mem hc;have hjx:j<xs.length:=by rw [←h.len];exact hj
 exact T.len (h.lies j cs (xs[j]'hjx) (by rw [List.getElem?_eq_getElem hj,e]) (List.getElem?_eq_getElem hjx))
theorem choose_list {β:Type} {p:Nat→β→Prop} : ∀(n:Nat),(∀i,i<n→∃y,p i y)→∃l:List β,l.length=n∧∀i y,l[i]?=some y→p i y
 | 0,_=>⟨[],rfl,fun i y h=>by simp at h⟩
 | n+1,h=>by
   obtain ⟨l,h1,h2⟩:=choose_list n (fun i hi=>h i (by omega));obtain ⟨y,hy⟩:=h n (by omega);refine ⟨l++[y],by simp [h1],fun i z hz=>?_⟩;by_cases hi:i<l.length
   ·rw [List.getElem?_append_left hi] at hz;exact h2 i z hz
   ·have hl:=(List.getElem?_eq_some_iff.1 hz).1;simp only [List.length_append,List.length_singleton] at hl;obtain rfl:i=l.length:=by omega
    simp only [List.getElem?_append_right (Nat.le_refl _),Nat.sub_self,List.getElem?_cons_zero,Option.some.injEq] at hz;subst hz;rw [h1];exact hy
theorem row_chunks {ao:Option Addr} {len cap:Nat} {xs:List α} (h:Row T w ao len cap xs) :
  ∃css,Ch T w css xs∧css.flatten.length=len*T.n∧(ao=none→len=0)∧(∀ad,ao=some ad→0<len→ad.block<w.heap.size)∧∀ad,ao=some ad→∀j u,css.flatten[j]?=some u→w.cell? (ad.add j)=some u:=by
 by_cases hx:xs=[]
 ·subst hx;have hl:len=0:=by rw [←h.hlen];rfl
  subst hl;exact ⟨[],⟨rfl,fun j cs x h1 _=>by simp at h1⟩,by simp,fun _=>rfl,fun _ _ k=>absurd k (Nat.lt_irrefl _),fun _ _ j u h1=>by simp at h1⟩
 ·obtain ⟨b,o,rfl,hb,hl⟩:=h.lie hx
  obtain ⟨css,h1,h2⟩:=choose_list (p:=fun j cs=>∃x,xs[j]?=some x∧T.lies w cs x∧∀i v,cs[i]?=some v→w.cell? ⟨b,o+j*T.n+i,none⟩=some v) xs.length (fun j hj=>by
   obtain ⟨cs,h1,h2⟩:=hl j _ (List.getElem?_eq_getElem hj)
   exact ⟨cs,_,List.getElem?_eq_getElem hj,h1,h2⟩)
  have hc:Ch T w css xs:=⟨h1,fun j cs x k1 k2=>by
   obtain ⟨x',e,k3,_⟩:=h2 j cs k1;rw [k2] at e;obtain rfl:=Option.some.inj e
   exact k3⟩
  refine ⟨css,hc,by rw [fl_len css hc.sizes,h1,h.hlen],(fun e=>by cases e),(fun ad e _=>by obtain rfl:=Option.some.inj e;exact hb),fun ad e j u hj=>?_⟩;obtain rfl:=Option.some.inj e;obtain ⟨q,cs,i,k1,k2,rfl⟩:=fl_split css hc.sizes j u hj;obtain ⟨_,_,_,k3⟩:=h2 q cs k1;rw [add_plain,←Nat.add_assoc];exact k3 i u k2
end
theorem own_slice {w:World} {base:Nat} {e:TypeId} {size n:Nat} {v:Value} {xs:List Value} (h:w.ownsRow base e size v n xs):∃ao cap,v=.slice ao n cap:=by
 rcases h.2 with ⟨rfl,rfl⟩|⟨g,cap,cur,rfl,_⟩
 ·exact ⟨_,_,rfl⟩
 ·exact ⟨_,_,rfl⟩
theorem run_append_none {Pr:Program} {w:World} {base:Nat} {t ty e:TypeId} {i:TypeInfo} {size:Nat} (ht:Pr.underlying t=some (.slice e)) (hi:Pr.info? e=some i)
  {v:Value} {n:Nat} {xs:List Value} (hown:w.ownsRow base e size v n xs) (c:Nat) :
  (Builtin.append_ #[t,t] ty #[v,.slice none 0 c]).run Pr w=.ok v w:=by
 rcases hown.2 with ⟨rfl,rfl⟩|⟨g,cap,cur,rfl,hbg,hg,hnc,hcm,hcs,htake⟩
 ·simp [Builtin.append_,run_underlying ht,sizeOf,typeInfo,hi,Builtin.lenOf,run_firstCells_none]
 ·simp [Builtin.append_,run_underlying ht,sizeOf,typeInfo,hi,Builtin.lenOf,hnc,run_firstCells_none,Addr.add_lit,storeCells]
theorem step_join {Pr:Program} {ops:Array Oper} {o:Oper} {a:Act} {K:Act→World→Prop} {Q:Exit→Act→World→Prop} {E:Prop} {W:World} {base:Nat} (d:Tmp) (hd:o.dst=some d) (hgd:o.guard=none) (s x:Operand) (t e:TypeId) (z:Value) (size bytes:Nat)
  (ho:o.op=.call { callee:=.builtin .append,args:=#[s,x],argTypes:=#[t,t] }) (hu:Pr.underlying t=some (.slice e)) (hinfo:(Pr.info? e).map (fun i=>(i.zero,i.size,i.bytes))=some (some z,size,bytes)) (hzs:z.cells.size=size) (hsz:0<size)
  (v:Value) (n:Nat) (xs:List Value) (hs:a.eval s=v) (hown:W.ownsRow base e size v n xs) (ao:Option Addr) (m c:Nat) (news:List Value) (hx:a.eval x=.slice ao m c) (hl:news.length=m*size)
  (h0:ao=none→m=0) (hnews:∀ad,ao=some ad→∀j u,news[j]?=some u→W.cell? (ad.add j)=some u) (h1:∀u∈news,u.oneCell'=true) (hn:n+m≤1000000000) (hb:bytes≤1000) (N:Nat) (hN:n+m=N) (hbase:base≤W.heap.size)
  (h:∀ao' cap w',w'.ownsRow base e size (.slice ao' N cap) N (xs++news)→W.grownBy w' v.ownBlock→K (a.put (some d) (.slice ao' N cap)) w') :
  if Region.wanted o (yielded ops a.tmps)=true then Oper.wp Pr o a W K Q else E:=by
 have hw:Region.wanted o (yielded ops a.tmps)=true:=by simp [Region.wanted,hgd]
 rw [if_pos hw];subst hN;obtain ⟨i0,hi,hz0,hz1,hz2⟩:=info_parts hinfo;have hby:(n+m)*bytes≤140737488355328:=Nat.le_trans (Nat.mul_le_mul hn hb) (by decide);cases ao with
 | some ad=>
   refine wp_append_own W s x t ho base e i0 z size bytes hu hi hz0 hz1 hz2 hzs hsz v n xs hs hown ad m c news hx hl (hnews ad rfl) h1 (by unfold maxLen;omega) hby hbase ?_;intro v' w' k1 k2 _;obtain ⟨ao',cap,rfl⟩:=own_slice k1;rw [hd];exact h ao' cap w' k1 k2
 | none=>
   obtain rfl:=h0 rfl;obtain rfl:news=[]:=List.eq_nil_of_length_eq_zero (by rw [hl,Nat.zero_mul]);have hr:=run_append_none (ty:=o.type) hu hi hown c;obtain ⟨ao',cap,rfl⟩:=own_slice hown;unfold Oper.wp execOp;simp only [ho,resolve,invoke,builtin,Sem.run_bind,Sem.run_pure,Result.andThen_ok,List.map_toArray,List.map_cons,List.map_nil,hs,hx,hr];show K (a.put o.dst (.slice ao' n cap)) W
   rw [hd];exact h ao' cap W (by simpa using hown) ⟨rfl,rfl,rfl,Nat.le_refl _,fun _ _ _=>rfl⟩
section
variable {w w' w2:World} {k:Nat}
end
end Mm
namespace Co
open Go.RowKit Go.Sort Go.Deep Go.ChangeShapes P Mm Md R6
theorem run_fresh {Pr:Program} {W:World} {base:Nat} {t ty e:TypeId} {i:TypeInfo} {z:Value} {size bytes:Nat} (ht:Pr.underlying t=some (.slice e)) (hi:Pr.info? e=some i) (hz:i.zero=some z) (hsize:i.size=size) (hby:i.bytes=bytes) (hzs:z.cells.size=size) (hsz:0<size)
  (ao:Option Addr) (n cap:Nat) (xs:List Value) (hxl:xs.length=n*size) (hao:ao=none→n=0∧cap=0) (holds:∀b,ao=some b→∀j u,xs[j]?=some u→W.cell? (b.add j)=some u)
  (ad:Addr) (m c:Nat) (news:List Value) (hl:news.length=m*size) (hnews:∀j u,news[j]?=some u→W.cell? (ad.add j)=some u) (h1:∀u∈news,u.oneCell'=true) (hc:cap<n+m) (h63:n+m≤maxLen) (hbytes:(n+m)*bytes≤140737488355328) (hbase:base≤W.heap.size) :
  ∃c' w',(Builtin.append_ #[t,t] ty #[.slice ao n cap,.slice (some ad) m c]).run Pr W=.ok (.slice (some ⟨W.heap.size,0,none⟩) (n+m) c') w'∧w'.ownsRow base e size (.slice (some ⟨W.heap.size,0,none⟩) (n+m) c') (n+m) (xs++news)∧W.grownBy w' none:=by
 cases ao with
 | none=>
   obtain ⟨rfl,rfl⟩:=hao rfl;obtain rfl:xs=[]:=List.eq_nil_of_length_eq_zero (by rw [hxl,Nat.zero_mul]);obtain ⟨v',w',hr,h2,h3,_,h5⟩:=run_append_own_at (P:=Pr) W base t ty e i z size bytes ht hi hz hsize hby hzs hsz (.slice none 0 0) 0 [] (World.ownsRow_nil W base e size) ad m c news hl hnews h1 h63 hbytes hbase;obtain ⟨g,c',rfl,_,_⟩:=World.ownsRow.form h2 (by omega)
   have eg:g=W.heap.size:=by
    rcases h5 with q|q
    ·cases q
    ·exact Option.some.inj q
   subst eg;exact ⟨c',w',hr,h2,h3⟩
 | some b=>
   subst hsize hby;have hr:=run_append_grow (P:=Pr) W t ty e i z ht hi hz b n cap xs hxl (holds b rfl) ad m c news hl hnews hc (by unfold maxLen at h63;omega) (growslice_fits hc hbytes);refine ⟨_,_,hr,⟨by rw [List.length_append,hxl,hl,Nat.add_mul],.inr ⟨W.heap.size,_,_,rfl,hbase,heap_alloc_new W.drew _,grownCap_ge ..,grownCap_le_maxLen W (n+m) cap e h63,?_,?_⟩⟩,⟨rfl,rfl,rfl,by simp,fun k hk _=>(bel_alloc W.drew _).block k hk⟩⟩
   ·have:=grownCap_ge W (n+m) cap e;simp only [Array.size_append,List.size_toArray,size_zeroCells,hzs,hxl,hl];rw [←Nat.add_mul,←Nat.add_mul];congr 1
    omega
   ·have e1:(n+m)*i.size=(xs++news).length:=by rw [List.length_append,hxl,hl,Nat.add_mul]
    rw [Array.toList_append,Array.toList_append,e1];exact List.take_left
theorem step_fresh {Pr:Program} {ops:Array Oper} {o:Oper} {a:Act} {K:Act→World→Prop} {Q:Exit→Act→World→Prop} {E:Prop} {W:World} {base:Nat} (d:Tmp) (hd:o.dst=some d) (hgd:o.guard=none) (s x:Operand) (t e:TypeId) (z:Value) (size bytes:Nat)
  (ho:o.op=.call { callee:=.builtin .append,args:=#[s,x],argTypes:=#[t,t] }) (hu:Pr.underlying t=some (.slice e)) (hinfo:(Pr.info? e).map (fun i=>(i.zero,i.size,i.bytes))=some (some z,size,bytes)) (hzs:z.cells.size=size) (hsz:0<size)
  (ao:Option Addr) (n cap:Nat) (xs:List Value) (hs:a.eval s=.slice ao n cap) (hxl:xs.length=n*size) (hao:ao=none→n=0∧cap=0) (holds:∀b,ao=some b→∀j u,xs[j]?=some u→W.cell? (b.add j)=some u)
  (ad:Addr) (m c:Nat) (news:List Value) (hx:a.eval x=.slice (some ad) m c) (hl:news.length=m*size) (hnews:∀j u,news[j]?=some u→W.cell? (ad.add j)=some u) (h1:∀u∈news,u.oneCell'=true) (hc:cap<n+m) (hn:n+m≤1000000000) (hb:bytes≤1000) (N:Nat) (hN:n+m=N) (hbase:base≤W.heap.size)
  (h:∀c' w',w'.ownsRow base e size (.slice (some ⟨W.heap.size,0,none⟩) N c') N (xs++news)→W.grownBy w' none→K (a.put (some d) (.slice (some ⟨W.heap.size,0,none⟩) N c')) w') :
  if Region.wanted o (yielded ops a.tmps)=true then Oper.wp Pr o a W K Q else E:=by
 have hw:Region.wanted o (yielded ops a.tmps)=true:=by simp [Region.wanted,hgd]
 rw [if_pos hw];subst hN;obtain ⟨i0,hi,hz0,hz1,hz2⟩:=info_parts hinfo;have hby:(n+m)*bytes≤140737488355328:=Nat.le_trans (Nat.mul_le_mul hn hb) (by decide);obtain ⟨c',w',hr,h2,h3⟩:=run_fresh (ty:=o.type) hu hi hz0 hz1 hz2 hzs hsz ao n cap xs hxl hao holds ad m c news hl hnews h1 hc (by unfold maxLen;omega) hby hbase;unfold Oper.wp execOp;simp only [ho,resolve,invoke,builtin,Sem.run_bind,Sem.run_pure,Result.andThen_ok,List.map_toArray,List.map_cons,List.map_nil,hs,hx,hr];show K (a.put o.dst _) w'
 rw [hd];exact h c' w' h2 h3
section
variable {w W W':World} {k base:Nat} {cur:ByteArray} {A B:Int} {ms:List Meter} {ss:List Mm.Sm} {ps:List (Prt×Hd)} {ma:Option Addr} {mc:Nat} {sa:Option Addr} {sc:Nat} {pa:Option Addr} {pc:Nat}
theorem Mk.ins (h:Mk w W k base cur A B ms ss ps ma mc sa sc pa pc) {ma':Option Addr} {mc' H:Nat} {ms':List Meter} (hg:W.grownBy W' (Value.slice ma ms.length mc).ownBlock)
  (ho:W'.ownsRow base 49 5 (.slice ma' ms'.length mc') ms'.length (ms'.flatMap meterC))
  (hat:(Value.slice ma' ms'.length mc').ownBlock=(Value.slice ma ms.length mc).ownBlock∨(Value.slice ma' ms'.length mc').ownBlock=some H) (hH:W.heap.size≤H) :
  Mk w (W'.setCell ⟨k,3,none⟩ (.slice ma' ms'.length mc')) k base cur A B ms' ss ps ma' mc' sa sc pa pc:=
 h.turn (σ:=.m) (r':=⟨49,5,ma',ms'.length,mc',ms'.flatMap meterC⟩) rfl rfl (fun t ht=>by cases t<;>first|rfl|exact absurd rfl ht) hg ho hat hH 3 _ rfl
end
theorem flat_ln (l:List Meter):(l.flatMap meterC).length=l.length*5:=by
 rw [flat_len (n:=5) (fun _=>rfl)]
theorem flat_tk {l:List Meter} {k j:Nat} {u:Value} (h:((l.take k).flatMap meterC)[j]?=some u):(l.flatMap meterC)[j]?=some u:=by
 have e:l.flatMap meterC=(l.take k).flatMap meterC++(l.drop k).flatMap meterC:=by rw [←List.flatMap_append,List.take_append_drop]
 rw [e,List.getElem?_append_left (List.getElem?_eq_some_iff.1 h).1];exact h
theorem flat_dr {l:List Meter} {k j:Nat} {u:Value} (hk:k≤l.length) (h:((l.drop k).flatMap meterC)[j]?=some u):(l.flatMap meterC)[k*5+j]?=some u:=by
 have e:l.flatMap meterC=(l.take k).flatMap meterC++(l.drop k).flatMap meterC:=by rw [←List.flatMap_append,List.take_append_drop]
 have el:((l.take k).flatMap meterC).length=k*5:=by rw [flat_ln,List.length_take,Nat.min_eq_left hk]
 rw [e,List.getElem?_append_right (by omega),el,show k*5+j-k*5=j by omega];exact h
theorem ones_flat (l:List Meter):∀u∈l.flatMap meterC,u.oneCell'=true:=fun u hu=>by
 obtain ⟨m,_,h⟩:=List.mem_flatMap.1 hu;simp only [meterC,List.mem_cons,List.not_mem_nil,or_false] at h;rcases h with rfl|rfl|rfl|rfl|rfl<;>rfl
theorem bel_grown {W W':World} (b:Below W.heap.size W W') (r:Option Nat):W.grownBy W' r:=⟨b.os,b.tape,b.output,b.size,fun k hk _=>b.block k hk⟩
theorem grown_bel {W W':World} (g:W.grownBy W' none):Below W.heap.size W W':=⟨g.os,g.tape,g.output,g.size,fun k hk=>g.block k hk (by simp)⟩
theorem info_tierQ:(Tryz.prog.info? 119).map (fun i=>(i.zero,i.size,i.bytes))=some (some (.agg #[.int .i64 0,.int .i64 0]),2,16):=by kernel_rfl
theorem info_adjQ:(Tryz.prog.info? 121).map (fun i=>(i.zero,i.size,i.bytes))=some (some (.agg #[.int .i64 0,.int .i64 0,.int .i64 0]),3,24):=by kernel_rfl
theorem ix_ne {ms:List Meter} {n:ByteArray} {i j:Nat} {m:Meter} (h:meterIx ms n=some i) (hj:j<i) (hm:ms[j]?=some m):(m.name.toList==n.toList)=false:=by
 unfold meterIx at h;obtain ⟨hi,_,h2⟩:=List.findIdx?_eq_some_iff_getElem.1 h;have:=h2 j hj;have e:=(List.getElem?_eq_some_iff.1 hm).2;rw [e] at this;rw [ByteArray.toList_eq,ByteArray.toList_eq];simpa using this
theorem ix_eq {ms:List Meter} {n:ByteArray} {i:Nat} {m:Meter} (h:meterIx ms n=some i) (hm:ms[i]?=some m):(m.name.toList==n.toList)=true:=by
 obtain ⟨m',hm',e⟩:=ix_some h;rw [hm] at hm';obtain rfl:=Option.some.inj hm';rw [e];simp
theorem row_same {α:Type} {n:Nat} {cells:α→List Value} {ok:α→Prop} {hn:∀x,(cells x).length=n} {w w':World} {ao:Option Addr} {len cap:Nat} {xs:List α} (h:Row (leaf n cells ok hn) w ao len cap xs) (hb:∀ad,ao=some ad→w'.heap[ad.block]?=w.heap[ad.block]?) (hs:w.heap.size≤w'.heap.size):Row (leaf n cells ok hn) w' ao len cap xs:=
 ⟨h.hlen,h.hcap,h.hmax,fun hx=>by
  obtain ⟨b,o,e,hlt,hl⟩:=h.lie hx;refine ⟨b,o,e,Nat.lt_of_lt_of_le hlt hs,fun j x hj=>?_⟩;obtain ⟨cs,h1,h2⟩:=hl j x hj
  exact ⟨cs,h1,fun i u hi=>(World.cell?_of_block (w:=w) (a:=⟨b,o+j*n+i,none⟩) (hb ⟨b,o,none⟩ e)).trans (h2 i u hi)⟩⟩
theorem row_far {α:Type} {n:Nat} {cells:α→List Value} {ok:α→Prop} {hn:∀x,(cells x).length=n} {w w':World} {ao:Option Addr} {len cap:Nat} {xs:List α} (h:Row (leaf n cells ok hn) w ao len cap xs) (hb:∀ad,ao=some ad→w'.heap[ad.block]?=w.heap[ad.block]?):Row (leaf n cells ok hn) w' ao len cap xs:=
 ⟨h.hlen,h.hcap,h.hmax,fun hx=>by
  obtain ⟨b,o,e,hlt,hl⟩:=h.lie hx
  have hl2:b<w'.heap.size:=by
   have q:=hb ⟨b,o,none⟩ e;rcases Nat.lt_or_ge b w'.heap.size with g|g
   ·exact g
   ·have q2:w'.heap[b]?=w.heap[b]?:=q;rw [Array.getElem?_eq_none g,Array.getElem?_eq_getElem hlt] at q2;cases q2
  refine ⟨b,o,e,hl2,fun j x hj=>?_⟩;obtain ⟨cs,h1,h2⟩:=hl j x hj
  exact ⟨cs,h1,fun i u hi=>(World.cell?_of_block (w:=w) (a:=⟨b,o+j*n+i,none⟩) (hb ⟨b,o,none⟩ e)).trans (h2 i u hi)⟩⟩
theorem row_flat {α:Type} {n:Nat} {cells:α→List Value} {ok:α→Prop} {hn:∀x,(cells x).length=n} {w:World} {ao:Option Addr} {len cap:Nat} {xs:List α} (h:Row (leaf n cells ok hn) w ao len cap xs) :
  (ao=none→len=0)∧∀W,Below w.heap.size w W→∀ad,ao=some ad→∀j u,(xs.flatMap cells)[j]?=some u→W.cell? (ad.add j)=some u:=by
 obtain ⟨css,hc,hl,h0,_,hcell⟩:=row_chunks h
 have e:css=xs.map cells:=by
  refine List.ext_getElem? fun j=>?_;rw [List.getElem?_map];by_cases hj:j<xs.length
  ·obtain ⟨x,hx⟩:∃x,xs[j]?=some x:=⟨_,List.getElem?_eq_getElem hj⟩;obtain ⟨cs,hcs⟩:∃cs,css[j]?=some cs:=⟨_,List.getElem?_eq_getElem (by rw [hc.len];exact hj)⟩;rw [hx,hcs,(hc.lies j cs x hcs hx).1];rfl
  ·rw [List.getElem?_eq_none (by rw [hc.len];omega),List.getElem?_eq_none (by omega)];rfl
 have e2:css.flatten=xs.flatMap cells:=by rw [e,List.flatMap_def]
 refine ⟨h0,fun W b ad ea j u hj=>?_⟩;rw [←e2] at hj;have hxs:xs≠[]:=fun q=>by subst q;rw [e] at hj;simp at hj
 obtain ⟨b',o',e',hlt,_⟩:=h.lie hxs;rw [ea] at e';obtain rfl:=Option.some.inj e';have:=hcell _ ea j u hj;rw [Mm.add_plain] at this ⊢;rw [b.cell hlt];exact this
structure Kp (W:World) (k:Nat) (v:Value) (z:Prt×Hd):Prop where
 ts:Row tTier W z.2.ta z.1.tiers.length z.2.tc z.1.tiers
 as':Row tAdj W z.2.aa z.1.adjusts.length z.2.ac z.1.adjusts
 nums:I64 z.1.mt∧I64 z.1.a∧I64 z.1.b∧I64 z.1.allowance∧I64 z.1.block∧I64 z.1.kind∧I64 z.1.mode
 tb:∀ad,z.2.ta=some ad→k<ad.block∧ad.block<W.heap.size∧v.ownBlock≠some ad.block
 ab:∀ad,z.2.aa=some ad→k<ad.block∧ad.block<W.heap.size∧v.ownBlock≠some ad.block
theorem Kp.on {W W':World} {k:Nat} {v:Value} {z:Prt×Hd} (h:Kp W k v z) (b:Below W.heap.size W W'):Kp W' k v z:=
 ⟨h.ts.on b,h.as'.on b,h.nums,fun ad e=>⟨(h.tb ad e).1,Nat.lt_of_lt_of_le (h.tb ad e).2.1 b.size,(h.tb ad e).2.2⟩,fun ad e=>⟨(h.ab ad e).1,Nat.lt_of_lt_of_le (h.ab ad e).2.1 b.size,(h.ab ad e).2.2⟩⟩
theorem Kp.app {W W':World} {k H:Nat} {v v':Value} {z:Prt×Hd} (h:Kp W k v z) (g:W.grownBy W' v.ownBlock) (hat:v'.ownBlock=v.ownBlock∨v'.ownBlock=some H) (hH:W.heap.size≤H):Kp W' k v' z:=by
 have q:∀ad:Addr,k<ad.block∧ad.block<W.heap.size∧v.ownBlock≠some ad.block→k<ad.block∧ad.block<W'.heap.size∧v'.ownBlock≠some ad.block:=fun ad ⟨a,b,c⟩=>by
  refine ⟨a,Nat.lt_of_lt_of_le b g.size,fun e=>?_⟩;rcases hat with q|q
  ·exact c (by rw [←q];exact e)
  ·rw [e] at q;have:=Option.some.inj q;omega
 exact ⟨row_same h.ts (fun ad e=>g.block _ (h.tb ad e).2.1 (fun q=>(h.tb ad e).2.2 q.symm)) g.size,row_same h.as' (fun ad e=>g.block _ (h.ab ad e).2.1 (fun q=>(h.ab ad e).2.2 q.symm)) g.size,h.nums,fun ad e=>q ad (h.tb ad e),fun ad e=>q ad (h.ab ad e)⟩
theorem Kp.set {W:World} {k:Nat} {v:Value} {z:Prt×Hd} (h:Kp W k v z) (i:Nat) (u:Value):Kp (W.setCell ⟨k,i,none⟩ u) k v z:=by
 have hs:W.heap.size≤(W.setCell ⟨k,i,none⟩ u).heap.size:=by simp
 have q:∀ad:Addr,k<ad.block→(W.setCell ⟨k,i,none⟩ u).heap[ad.block]?=W.heap[ad.block]?:=fun ad a=>Below.heap_setCell W ⟨k,i,none⟩ u ad.block (by show ad.block≠k;omega);exact ⟨row_same h.ts (fun ad e=>q ad (h.tb ad e).1) hs,row_same h.as' (fun ad e=>q ad (h.ab ad e).1) hs,h.nums,fun ad e=>⟨(h.tb ad e).1,Nat.lt_of_lt_of_le (h.tb ad e).2.1 hs,(h.tb ad e).2.2⟩,fun ad e=>⟨(h.ab ad e).1,Nat.lt_of_lt_of_le (h.ab ad e).2.1 hs,(h.ab ad e).2.2⟩⟩
theorem dn_in {d:Day} (h:DayOk d):I64 (dn d):=by
 have:0≤dn d∧dn d<3652059:=num_bound h;unfold I64;omega
theorem win_in {p:Plan} {x:Win} (hp:DayOk p.a∧DayOk p.b) (hx:WinOk x):I64 (winA p x)∧I64 (winB p x):=by
 unfold winA winB;rcases hx with h|h
 ·rw [if_pos h.1,if_pos h.1];exact ⟨dn_in h.2.1,dn_in h.2.2⟩
 ·rw [h];exact ⟨dn_in hp.1,dn_in hp.2⟩
end Co
end Go.Proofs.YtofbobdhkbmbgaaGreatDoor
