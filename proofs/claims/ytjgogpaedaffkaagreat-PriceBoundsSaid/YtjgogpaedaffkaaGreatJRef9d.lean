/- What exact.Sum, Least and Most answer, of all rows of whole numbers. -/
import Derived.Test.YtjgogpaedaffkaaGreatJRef9c
set_option maxRecDepth 100000
set_option maxHeartbeats 8000000
namespace Go.Proofs.YtjgogpaedaffkaaGreat
namespace P
end P
namespace Mm
end Mm
namespace Md
end Md
namespace R6
end R6
namespace Te
end Te
namespace Co
end Co
namespace R10
end R10
namespace R11
end R11
namespace L06
end L06
namespace Ex
open Go.RowKit P
theorem sum_any (b off cap:Nat) (xs:List Int) (w:World) (hc:Cells w b off xs) (hx:allI64 xs) (hl:xs.length≤1000000) :
  Calls Tryz.prog 16 #[.slice (some ⟨b,off,none⟩) xs.length cap] w fun e w'=>e=.returned (.tuple #[.int .i64 (sumTo 0 xs).1,.bool (sumTo 0 xs).2])∧w=w':=by
 have HC:=hid hc;have HX:=hid hx;clear hc hx;go_enter Tryz.func16,Tryz.ntmps16
 go_wp2
 go_loop [4,11] (fun t i=>∃k:Nat,∃n:Int,k≤xs.length∧i=.int .i64 k∧t=.int .i64 n∧Hid (I64 n∧sumTo 0 xs=sumTo n (xs.drop k))) (fun _ i=>xs.length-(intOf i).toNat)
 case atStart=>exact ⟨0,0,Nat.zero_le _,rfl,rfl,⟨i64_0,rfl⟩⟩
 case round=>
  obtain ⟨k,n,hk,rfl,rfl,H⟩:=hrel;by_cases hlt:k<xs.length
  ·have hcell:=HC.out k hlt;have hxi:=allI64_get HX.out hlt;generalize hv:xs.getD k 0=v at *;have HV:=hid hv;have HXI:=hid hxi;clear hv hxi;by_cases hi:I64 (n+v)
   ·have HI:=hid hi;clear hi;go_wp2_with (go_at_call 41;refine (add_yes _ _ _ HI.out).mono ?_;rintro e w' ⟨rfl,rfl⟩)
    go_round
    case rel=>exact ⟨k+1,n+v,by omega,by go_num,rfl,⟨HI.out,by rw [H.out.2,sumTo_yes hlt (by rw [HV.out];exact HI.out),HV.out]⟩⟩
    case measure=>simp [intOf];omega
   ·have HI:=hid hi;clear hi;go_wp2_with (go_at_call 41;refine (add_no _ _ _ H.out.1 HXI.out HI.out).mono ?_;rintro e w' ⟨rfl,rfl⟩)
    go_ret2;have hfin:sumTo 0 xs=(0,false):=by rw [H.out.2];exact sumTo_no hlt (by rw [HV.out];exact HI.out)
    exact ⟨ret_2 (by rw [hfin]) (by rw [hfin]),rfl⟩
  ·go_wp2;go_ret2;have hfin:sumTo 0 xs=(n,true):=by rw [H.out.2];exact sumTo_end n (by omega)
   exact ⟨ret_2 (by rw [hfin]) (by rw [hfin]),rfl⟩
theorem sum_none (a:Option Addr) (cap:Nat) (w:World) :
  Calls Tryz.prog 16 #[.slice a 0 cap] w fun e w'=>e=.returned (.tuple #[.int .i64 0,.bool true])∧w=w':=by
 go_enter Tryz.func16,Tryz.ntmps16
 go_wp2;refine wp_loop_rounds 1 ?_;rw [rounds_succ];go_wp2;go_ret2;exact ⟨rfl,rfl⟩
theorem least_better (a b:Int) (w:World) :
  Calls Tryz.prog 133 #[.int .i64 a,.int .i64 b] w fun e w'=>e=.returned (.bool (ltB a b))∧w=w':=by
 go_enter Tryz.func133,Tryz.ntmps133
 go_wp2;go_ret;exact ⟨rfl,rfl⟩
theorem most_better (a b:Int) (w:World) :
  Calls Tryz.prog 134 #[.int .i64 a,.int .i64 b] w fun e w'=>e=.returned (.bool (gtB a b))∧w=w':=by
 go_enter Tryz.func134,Tryz.ntmps134
 go_wp2;go_ret;exact ⟨rfl,rfl⟩
theorem best_many_least (b off cap:Nat) (x:Int) (r:List Int) (w:World) (hc:Cells w b off (x::r)) (hl:r.length≤1000000) (_hcap:r.length+1≤cap) (h1:¬ cap=1) :
  Calls Tryz.prog 132 #[.func (.func 133) #[] #[],.slice (some ⟨b,off,none⟩) (r.length+1) cap] w fun e w'=>e=.returned (.tuple #[.int .i64 (bestOf ltB x r),.bool true])∧w=w':=by
 have HC:Hid (Cells w b (off+1) r):=fun i hi=>by
  have:=hc (i+1) (by simpa using hi);rw [show off+(i+1)=off+1+i by omega] at this;simpa using this
 have hc0:w.cell? ⟨b,off,none⟩=some (.int .i64 x):=hc 0 (by simp);clear hc;have e0:(((r.length:Nat):Int)+1==0)=false:=by simp;omega
 go_enter Tryz.func132,Tryz.ntmps132
 go_wp2
 go_loop [6,18] (fun t i=>∃k:Nat,∃n:Int,k≤r.length∧i=.int .i64 k∧t=.int .i64 n∧Hid (bestOf ltB x r=bestOf ltB n (r.drop k))) (fun _ i=>r.length-(intOf i).toNat)
 case atStart=>exact ⟨0,x,Nat.zero_le _,rfl,rfl,rfl⟩
 case round=>
  obtain ⟨k,n,hk,rfl,rfl,H⟩:=hrel;by_cases hlt:k<r.length
  ·have hcell:=HC.out k hlt;generalize hv:r.getD k 0=v at *;have HV:=hid hv;clear hv;rcases Bool.eq_false_or_eq_true (ltB v n) with hb|hb
   ·have HB:=hid hb;clear hb;go_wp2_with fail
    refine (least_better _ _ _).mono ?_;rintro e w' ⟨rfl,rfl⟩;rw [HB.out];go_wp2
    go_round
    case rel=>exact ⟨k+1,v,by omega,by go_num,rfl,by show _=_;rw [H.out,bestOf_yes hlt (by rw [HV.out];exact HB.out),HV.out]⟩
    case measure=>simp [intOf];omega
   ·have HB:=hid hb;clear hb;go_wp2_with fail
    refine (least_better _ _ _).mono ?_;rintro e w' ⟨rfl,rfl⟩;rw [HB.out];go_wp2
    go_round
    case rel=>exact ⟨k+1,n,by omega,by go_num,rfl,by show _=_;rw [H.out,bestOf_no hlt (by rw [HV.out];exact HB.out)]⟩
    case measure=>simp [intOf];omega
  ·go_wp2;go_ret2;exact ⟨ret_2 (by rw [H.out];exact (bestOf_end ltB n (by omega)).symm) rfl,rfl⟩
theorem best_one_least (b off:Nat) (x:Int) (w:World) (hc0:w.cell? ⟨b,off,none⟩=some (.int .i64 x)) :
  Calls Tryz.prog 132 #[.func (.func 133) #[] #[],.slice (some ⟨b,off,none⟩) 1 1] w fun e w'=>e=.returned (.tuple #[.int .i64 x,.bool true])∧w=w':=by
 go_enter Tryz.func132,Tryz.ntmps132
 go_wp2;refine wp_loop_rounds 1 ?_;rw [rounds_succ];go_wp2;go_ret2;exact ⟨rfl,rfl⟩
theorem best_any_least (b off cap:Nat) (x:Int) (r:List Int) (w:World) (hc:Cells w b off (x::r)) (hl:r.length≤1000000) (hcap:r.length+1≤cap) :
  Calls Tryz.prog 132 #[.func (.func 133) #[] #[],.slice (some ⟨b,off,none⟩) (r.length+1) cap] w fun e w'=>e=.returned (.tuple #[.int .i64 (bestOf ltB x r),.bool true])∧w=w':=by
 by_cases h1:cap=1
 ·have hr:r=[]:=List.eq_nil_of_length_eq_zero (by omega);subst h1 hr;exact best_one_least b off x w (hc 0 (by simp))
 ·exact best_many_least b off cap x r w hc hl hcap h1
theorem best_many_most (b off cap:Nat) (x:Int) (r:List Int) (w:World) (hc:Cells w b off (x::r)) (hl:r.length≤1000000) (_hcap:r.length+1≤cap) (h1:¬ cap=1) :
  Calls Tryz.prog 132 #[.func (.func 134) #[] #[],.slice (some ⟨b,off,none⟩) (r.length+1) cap] w fun e w'=>e=.returned (.tuple #[.int .i64 (bestOf gtB x r),.bool true])∧w=w':=by
 have HC:Hid (Cells w b (off+1) r):=fun i hi=>by
  have:=hc (i+1) (by simpa using hi);rw [show off+(i+1)=off+1+i by omega] at this;simpa using this
 have hc0:w.cell? ⟨b,off,none⟩=some (.int .i64 x):=hc 0 (by simp);clear hc;have e0:(((r.length:Nat):Int)+1==0)=false:=by simp;omega
 go_enter Tryz.func132,Tryz.ntmps132
 go_wp2
 go_loop [6,18] (fun t i=>∃k:Nat,∃n:Int,k≤r.length∧i=.int .i64 k∧t=.int .i64 n∧Hid (bestOf gtB x r=bestOf gtB n (r.drop k))) (fun _ i=>r.length-(intOf i).toNat)
 case atStart=>exact ⟨0,x,Nat.zero_le _,rfl,rfl,rfl⟩
 case round=>
  obtain ⟨k,n,hk,rfl,rfl,H⟩:=hrel;by_cases hlt:k<r.length
  ·have hcell:=HC.out k hlt;generalize hv:r.getD k 0=v at *;have HV:=hid hv;clear hv;rcases Bool.eq_false_or_eq_true (gtB v n) with hb|hb
   ·have HB:=hid hb;clear hb;go_wp2_with fail
    refine (most_better _ _ _).mono ?_;rintro e w' ⟨rfl,rfl⟩;rw [HB.out];go_wp2
    go_round
    case rel=>exact ⟨k+1,v,by omega,by go_num,rfl,by show _=_;rw [H.out,bestOf_yes hlt (by rw [HV.out];exact HB.out),HV.out]⟩
    case measure=>simp [intOf];omega
   ·have HB:=hid hb;clear hb;go_wp2_with fail
    refine (most_better _ _ _).mono ?_;rintro e w' ⟨rfl,rfl⟩;rw [HB.out];go_wp2
    go_round
    case rel=>exact ⟨k+1,n,by omega,by go_num,rfl,by show _=_;rw [H.out,bestOf_no hlt (by rw [HV.out];exact HB.out)]⟩
    case measure=>simp [intOf];omega
  ·go_wp2;go_ret2;exact ⟨ret_2 (by rw [H.out];exact (bestOf_end gtB n (by omega)).symm) rfl,rfl⟩
theorem best_one_most (b off:Nat) (x:Int) (w:World) (hc0:w.cell? ⟨b,off,none⟩=some (.int .i64 x)) :
  Calls Tryz.prog 132 #[.func (.func 134) #[] #[],.slice (some ⟨b,off,none⟩) 1 1] w fun e w'=>e=.returned (.tuple #[.int .i64 x,.bool true])∧w=w':=by
 go_enter Tryz.func132,Tryz.ntmps132
 go_wp2;refine wp_loop_rounds 1 ?_;rw [rounds_succ];go_wp2;go_ret2;exact ⟨rfl,rfl⟩
theorem best_any_most (b off cap:Nat) (x:Int) (r:List Int) (w:World) (hc:Cells w b off (x::r)) (hl:r.length≤1000000) (hcap:r.length+1≤cap) :
  Calls Tryz.prog 132 #[.func (.func 134) #[] #[],.slice (some ⟨b,off,none⟩) (r.length+1) cap] w fun e w'=>e=.returned (.tuple #[.int .i64 (bestOf gtB x r),.bool true])∧w=w':=by
 by_cases h1:cap=1
 ·have hr:r=[]:=List.eq_nil_of_length_eq_zero (by omega);subst h1 hr;exact best_one_most b off x w (hc 0 (by simp))
 ·exact best_many_most b off cap x r w hc hl hcap h1
theorem least_any (b off cap:Nat) (x:Int) (r:List Int) (w:World) (hc:Cells w b off (x::r)) (hl:r.length≤1000000) (hcap:r.length+1≤cap) :
  Calls Tryz.prog 115 #[.slice (some ⟨b,off,none⟩) (r.length+1) cap] w fun e w'=>e=.returned (.tuple #[.int .i64 (bestOf ltB x r),.bool true])∧w=w':=by
 have HC:=hid hc;clear hc;go_enter Tryz.func115,Tryz.ntmps115
 go_wp2_with fail
 refine (best_any_least _ _ _ x r _ HC.out hl hcap).mono ?_;rintro e w' ⟨rfl,rfl⟩;go_wp2;go_ret2;exact ⟨rfl,rfl⟩
theorem most_any (b off cap:Nat) (x:Int) (r:List Int) (w:World) (hc:Cells w b off (x::r)) (hl:r.length≤1000000) (hcap:r.length+1≤cap) :
  Calls Tryz.prog 116 #[.slice (some ⟨b,off,none⟩) (r.length+1) cap] w fun e w'=>e=.returned (.tuple #[.int .i64 (bestOf gtB x r),.bool true])∧w=w':=by
 have HC:=hid hc;clear hc;go_enter Tryz.func116,Tryz.ntmps116
 go_wp2_with fail
 refine (best_any_most _ _ _ x r _ HC.out hl hcap).mono ?_;rintro e w' ⟨rfl,rfl⟩;go_wp2;go_ret2;exact ⟨rfl,rfl⟩
end Ex
namespace R13
open Go.RowKit Go.Sort P Mm Md R6 Te Co R10 R11
theorem goodC_parts {c:Cor} (h:goodC c=true):(∀x∈c.parts,GoodT x∧x.adjusts.all adjB=true∧0≤x.mt∧x.mt<c.meters.length)∧c.meters.length≤4∧c.sums.length≤8∧c.parts.length≤8:=by
 unfold goodC at h;simp only [Bool.and_eq_true,decide_eq_true_eq] at h;obtain ⟨_,⟨h1,_⟩,h2,_,h3,h4⟩:=h;refine ⟨fun x hx=>?_,h1,h2,h3⟩;have:=List.all_eq_true.1 h4 x hx;unfold partB tierRow at this;simp only [Bool.and_eq_true,inB_iff,decide_eq_true_eq] at this;obtain ⟨_,⟨m0,m1⟩,a1,a2,a3,a4,⟨a5,a6⟩,a7,a8⟩:=this;exact ⟨⟨a1,a2,by omega,a4,by omega,a6,a7⟩,a8,m0,by omega⟩
theorem sumsL_step {d:Int} {l:List Mm.Sm} {i:Nat} {s:Mm.Sm} (h:l[i]?=some s):sumsL d (l.drop i)=if onB s.a s.b d=true then s.amt::sumsL d (l.drop (i+1)) else sumsL d (l.drop (i+1)):=by
 rw [drop_at h];rfl
def bindP (o:Option Int) (r:Option (List Int)):Option (List Int):=match o with
 | some n=>r.map (n::·)
 | none=>none
theorem partsO_step {d:Int} {bk:List Int} {l:List Prt} {i:Nat} {x:Prt} (h:l[i]?=some x):partsO d bk (l.drop i)=if onB x.a x.b d=true then bindP (partO x (qAt bk x.mt)) (partsO d bk (l.drop (i+1))) else partsO d bk (l.drop (i+1)):=by
 rw [drop_at h];rfl
def finO (acc:List Int) (o:Option (List Int)):Int×Int:=match o with
 | some l=>if (sumTo 0 (acc++l)).2=true then ((sumTo 0 (acc++l)).1,0) else (0,2)
 | none=>(0,2)
theorem adjsO_i:∀(l:List Adj) (n m:Int),I64 n→(∀a∈l,I64 a.num)→adjsO n l=some m→I64 m
 | [],n,m,hn,_,h=>by
   have h:some n=some m:=h;obtain rfl:=Option.some.inj h;exact hn
 | a::l,n,m,hn,hl,h=>by
   have h2:(match adjO a n with
    | some m=>adjsO m l
    | none=>none)=some m:=h
   cases e:adjO a n with
   | none=>rw [e] at h2;cases h2
   | some k=>
     rw [e] at h2;exact adjsO_i l k m (adjO_i64 hn (hl a (List.mem_cons_self ..)) e) (fun z hz=>hl z (List.mem_cons_of_mem _ hz)) h2
theorem row_nums {w:World} {ao:Option Addr} {len cap:Nat} {xs:List Adj} (h:Row tAdj w ao len cap xs):∀a∈xs,I64 a.num:=fun a ha=>by
 obtain ⟨j,hj,e⟩:=List.mem_iff_getElem.1 ha;obtain ⟨_,_,_,_,_,_,_,_,h2,_⟩:=adj_at h (show xs[j]?=some a by rw [←e];exact List.getElem?_eq_getElem hj);exact h2
theorem partO_i {x:Prt} (g:GoodT x) (ha:∀a∈x.adjusts,I64 a.num) {q n:Int} (h:partO x q=some n):I64 n:=by
 unfold partO at h;cases e:chargeO x q with
 | none=>rw [e] at h;cases h
 | some m=>
   rw [e] at h;exact adjsO_i x.adjusts m n (chargeO_i g e) ha h
theorem bk_at {w:World} {bo:Option Addr} {len cap:Nat} {bk:List Int} (h:Row tInt w bo len cap bk) {i:Nat} (hi:i<bk.length):∃b o,bo=some ⟨b,o,none⟩∧b<w.heap.size∧w.cell? ⟨b,o+i,none⟩=some (.int .i64 (bk.getD i 0))∧I64 (bk.getD i 0):=by
 have hj:bk[i]?=some (bk.getD i 0):=by rw [List.getD_eq_getElem?_getD,List.getElem?_eq_getElem hi];rfl
 obtain ⟨b,o,cs,h1,h2,⟨h3,h5⟩,h4⟩:=h.at hj;subst h3;refine ⟨b,o,h1,h2,?_,h5⟩;have:=h4 0 _ rfl;rw [show tInt.n=1 from rfl,Nat.mul_one] at this;exact this
def intC (n:Int):List Value:=[.int .i64 n]
theorem info_int:(Tryz.prog.info? 3).map (fun i=>(i.zero,i.size,i.bytes))=some (some (.int .i64 0),1,8):=by kernel_rfl
def costV (c:Cor) (d:Int) (bk:List Int):Int×Int:=match costO c d bk with
 | some n=>(n,0)
 | none=>(0,2)
theorem costV_fin (c:Cor) (d:Int) (bk:List Int):costV c d bk=finO (sumsL d c.sums) (partsO d bk c.parts):=by
 unfold costV costO finO;cases partsO d bk c.parts with
 | none=>rfl
 | some l=>
   show (match (if (sumTo 0 (sumsL d c.sums++l)).2=true then some (sumTo 0 (sumsL d c.sums++l)).1 else none) with
    | some n=>(n,(0:Int))
    | none=>(0,2))=if (sumTo 0 (sumsL d c.sums++l)).2=true then ((sumTo 0 (sumsL d c.sums++l)).1,0) else (0,2)
   split
   ·rename_i n hn
    split at hn
    ·rename_i k
     rw [if_pos k];obtain rfl:=Option.some.inj hn;rfl
    ·cases hn
   ·rename_i hn
    split at hn
    ·cases hn
    ·rename_i k
     rw [if_neg k]
theorem inBk_step {ms:List Meter} {bk:List Int} {i:Nat} {m:Meter} {q:Int} (h1:ms[i]?=some m) (h2:bk[i]?=some q):inBk (ms.drop i) (bk.drop i)=(decide (0≤q)&&decide (q≤m.max)&&inBk (ms.drop (i+1)) (bk.drop (i+1))):=by
 rw [drop_at h1,drop_at h2];rfl
theorem priceV_bad {c:Cor} {d:Int} {bk:List Int} (h:goodC c=false):priceV c d bk=(0,1):=by
 unfold priceV;rw [if_neg (by rw [h];simp)]
theorem priceV_out {c:Cor} {d:Int} {bk:List Int} (h:goodC c=true) (k:(onB c.a c.b d&&inBk c.meters bk)=false):priceV c d bk=(0,8):=by
 unfold priceV;rw [if_pos h,if_neg (by rw [k];simp)]
theorem priceV_in {c:Cor} {d:Int} {bk:List Int} (h:goodC c=true) (k:(onB c.a c.b d&&inBk c.meters bk)=true):priceV c d bk=costV c d bk:=by
 unfold priceV;rw [if_pos h,if_pos k];rfl
theorem inBk_ne {ms:List Meter} {bk:List Int} (h:bk.length≠ms.length):inBk ms bk=false:=by
 rcases Bool.eq_false_or_eq_true (inBk ms bk) with k|k
 ·exact absurd (inBk_len ms bk k) h
 ·exact k
end R13
namespace L11
open Go.RowKit Go.Sort P Mm Md R6 Te Co R10 R11
theorem row_box {α:Type} {n:Nat} {cells:α→List Value} {ok:α→Prop} {hn:∀x,(cells x).length=n} {W:World} {k:Nat} {xs:List α} (X:Box W k (xs.flatMap cells)) (hok:∀x∈xs,ok x) (hl:xs.length≤1000) :
  Row (leaf n cells ok hn) W (some ⟨k,0,none⟩) xs.length xs.length xs:=
 ⟨rfl,Nat.le_refl _,by omega,fun _=>⟨k,0,rfl,X.lt,fun j x hj=>⟨cells x,⟨rfl,hok x (List.mem_of_getElem? hj)⟩,fun i v hi=>by
  have:=X.cell (j*n+i) v (flat_get hn xs j x i v hj hi);show W.cell? ⟨k,0+j*n+i,none⟩=some v
  rw [Nat.zero_add]
  exact this⟩⟩⟩
end L11
namespace L13
open Go.RowKit Go.Sort P Mm Md R6 Te Co R10 R11
structure Pr:Prop where
 part:∀(x:Prt) (ta:Option Addr) (tc:Nat) (aa:Option Addr) (ac:Nat) (q:Int) (w:World),Row tTier w ta x.tiers.length tc x.tiers→Row tAdj w aa x.adjusts.length ac x.adjusts→I64 q→GoodT x→
  Calls Tryz.prog 40 #[.agg #[x.mt,x.a,x.b,x.allowance,x.block,x.kind,.slice ta x.tiers.length tc,x.mode,.slice aa x.adjusts.length ac],.int .i64 q] w fun e w'=>e=.returned (.tuple #[.int .i64 (oV (partO x q)),.bool (oB (partO x q))])∧Below w.heap.size w w'
 price:∀(c:Cor) (ma:Option Addr) (mc:Nat) (sa:Option Addr) (sc:Nat) (pa:Option Addr) (pc:Nat) (d:Int) (bk:List Int) (bo:Option Addr) (bcap:Nat) (w:World),CorLies w (corC c ma mc sa sc pa pc) c ma mc sa sc pa pc→Row tInt w bo bk.length bcap bk→c.meters.length≤100000→bk.length≤100000→
  Calls Tryz.prog 7 #[.agg #[c.cur,c.a,c.b,.slice ma c.meters.length mc,.slice sa c.sums.length sc,.slice pa c.parts.length pc],.int .i64 d,.slice bo bk.length bcap] w fun e w'=>e=.returned (.tuple #[.int .i64 (priceV c d bk).1,.int .i64 (priceV c d bk).2])∧Below w.heap.size w w'
theorem row_prt1 {W:World} {k:Nat} {x:Prt} {ta:Option Addr} {tc:Nat} {aa:Option Addr} {ac:Nat} (X:Box W k (prtC x ta tc aa ac)) (h:PrtLies W (prtC x ta tc aa ac) x ta tc aa ac):Row tPrt W (some ⟨k,0,none⟩) 1 1 [x]:=
 ⟨rfl,Nat.le_refl _,by decide,fun _=>⟨k,0,rfl,X.lt,fun j y hj=>by
  cases j with
  | zero=>
    obtain rfl:x=y:=by simpa using hj
    refine ⟨prtC x ta tc aa ac,⟨ta,tc,aa,ac,h⟩,fun i v hi=>?_⟩;have:=X.cell i v hi;simpa using this
  | succ j=>simp at hj⟩⟩
theorem price_one (A:Pr) (c:Cor) (ma:Option Addr) (mc:Nat) (sa:Option Addr) (sc:Nat) (pa:Option Addr) (pc:Nat) (d q:Int) (W:World) (hc:CorLies W (corC c ma mc sa sc pa pc) c ma mc sa sc pa pc) (hm:c.meters.length≤100000) (hq:I64 q) :
  Calls Tryz.prog 7 #[.agg #[c.cur,c.a,c.b,.slice ma c.meters.length mc,.slice sa c.sums.length sc,.slice pa c.parts.length pc],.int .i64 d,.slice (some ⟨W.heap.size,0,none⟩) 1 1] (W.alloc (.cells #[.int .i64 q] 3)) fun e w'=>e=.returned (.tuple #[.int .i64 (priceV c d [q]).1,.int .i64 (priceV c d [q]).2])∧Below W.heap.size W w':=by
 have X:=Box.new W [.int .i64 q] 3
 have R:Row tInt (W.alloc (.cells #[.int .i64 q] 3)) (some ⟨W.heap.size,0,none⟩) 1 1 [q]:=L11.row_box (α:=Int) (n:=1) (cells:=fun x=>[.int .i64 x]) (ok:=I64) (hn:=fun _=>rfl) (xs:=[q]) X (fun x hx=>by
  rw [List.mem_singleton] at hx;rw [hx]
  exact hq) (by show (1:Nat)≤1000;decide)
 exact (A.price c ma mc sa sc pa pc d [q] (some ⟨W.heap.size,0,none⟩) 1 _ (hc.on (bel_alloc W _)) R hm (by show (1:Nat)≤100000;decide)).mono fun e w' h=>⟨h.1,bel_on (bel_alloc W _) h.2⟩
def mA:Meter:=⟨⟨#[109]⟩,⟨#[]⟩,5,0,0⟩
def sA:Mm.Sm:=⟨5,0,9⟩
def xA:Prt:=⟨0,0,9,0,1,1,[⟨0,2000000⟩],0,[]⟩
def cA:Cor:=⟨⟨#[]⟩,0,9,[mA],[sA],[xA]⟩
theorem alive_any (A:Pr) (w:World):Calls Tryz.prog 5 #[] w fun e w'=>e=.returned (.bool true)∧Below w.heap.size w w':=by
 obtain ⟨w1,hw1⟩:∃W,W=w.alloc (.cells ([.string ⟨#[109]⟩,.string ⟨#[]⟩,.int .i64 5,.int .i64 0,.int .i64 0]:List Value).toArray 39):=⟨_,rfl⟩;obtain ⟨k1,hk1⟩:∃k,k=w.heap.size:=⟨_,rfl⟩;have b1:Below w.heap.size w w1:=by rw [hw1];exact bel_alloc _ _
 have X1:Box w1 k1 [.string ⟨#[109]⟩,.string ⟨#[]⟩,.int .i64 5,.int .i64 0,.int .i64 0]:=by rw [hw1,hk1];exact Box.new w _ 39
 obtain ⟨w2,hw2⟩:∃W,W=w1.alloc (.cells #[.int .i64 5,.int .i64 0,.int .i64 9] 52):=⟨_,rfl⟩;obtain ⟨k2,hk2⟩:∃k,k=w1.heap.size:=⟨_,rfl⟩;have b2:Below w1.heap.size w1 w2:=by rw [hw2];exact bel_alloc _ _
 have X2:Box w2 k2 [.int .i64 5,.int .i64 0,.int .i64 9]:=by rw [hw2,hk2];exact Box.new w1 _ 52
 obtain ⟨w3,hw3⟩:∃W,W=w2.alloc (.cells #[.int .i64 0,.int .i64 2000000] 54):=⟨_,rfl⟩;obtain ⟨k3,hk3⟩:∃k,k=w2.heap.size:=⟨_,rfl⟩;have b3:Below w2.heap.size w2 w3:=by rw [hw3];exact bel_alloc _ _
 have X3:Box w3 k3 [.int .i64 0,.int .i64 2000000]:=by rw [hw3,hk3];exact Box.new w2 _ 54
 obtain ⟨w4,hw4⟩:∃W,W=w3.alloc (.cells #[.int .i64 0,.int .i64 0,.int .i64 9,.int .i64 0,.int .i64 1,.int .i64 1,.slice (some ⟨k3,0,none⟩) 1 1,.int .i64 0,.slice none 0 0] 58):=⟨_,rfl⟩;obtain ⟨k4,hk4⟩:∃k,k=w3.heap.size:=⟨_,rfl⟩;have b4:Below w3.heap.size w3 w4:=by rw [hw4];exact bel_alloc _ _
 have X4:Box w4 k4 [.int .i64 0,.int .i64 0,.int .i64 9,.int .i64 0,.int .i64 1,.int .i64 1,.slice (some ⟨k3,0,none⟩) 1 1,.int .i64 0,.slice none 0 0]:=by rw [hw4,hk4];exact Box.new w3 _ 58
 obtain ⟨w5,hw5⟩:∃W,W=w4.alloc (.cells ([.string ⟨#[]⟩,.int .i64 0,.int .i64 9,.slice (some ⟨k1,0,none⟩) 1 1,.slice (some ⟨k2,0,none⟩) 1 1,.slice (some ⟨k4,0,none⟩) 1 1]:List Value).toArray 26):=⟨_,rfl⟩;obtain ⟨k5,hk5⟩:∃k,k=w4.heap.size:=⟨_,rfl⟩;have b5:Below w4.heap.size w4 w5:=by rw [hw5];exact bel_alloc _ _
 have X5:Box w5 k5 [.string ⟨#[]⟩,.int .i64 0,.int .i64 9,.slice (some ⟨k1,0,none⟩) 1 1,.slice (some ⟨k2,0,none⟩) 1 1,.slice (some ⟨k4,0,none⟩) 1 1]:=by rw [hw5,hk5];exact Box.new w4 _ 26
 have b35:=bel_on b4 b5;have b25:=bel_on b3 b35;have b15:=bel_on b2 b25;have b05:=bel_on b1 b15
 have r1:Row tMeter w5 (some ⟨k1,0,none⟩) 1 1 [mA]:=L11.row_box (α:=Meter) (n:=5) (cells:=meterC) (ok:=fun m=>strOk m.name∧strOk m.unit∧I64 m.max∧I64 m.line∧I64 m.col) (hn:=fun _=>rfl) (xs:=[mA]) (X1.on b15) (fun x hx=>by
  rw [List.mem_singleton] at hx;rw [hx]
  exact ⟨by show (1:Nat)≤_;decide,by show (0:Nat)≤_;decide,by show I64 5;unfold I64;omega,by show I64 0;unfold I64;omega,by show I64 0;unfold I64;omega⟩) (by decide)
 have r2:Row tSm w5 (some ⟨k2,0,none⟩) 1 1 [sA]:=L11.row_box (α:=Mm.Sm) (n:=3) (cells:=smC) (ok:=fun s=>I64 s.amt∧I64 s.a∧I64 s.b) (hn:=fun _=>rfl) (xs:=[sA]) (X2.on b25) (fun x hx=>by
  rw [List.mem_singleton] at hx;rw [hx]
  exact ⟨by show I64 5;unfold I64;omega,by show I64 0;unfold I64;omega,by show I64 9;unfold I64;omega⟩) (by decide)
 have r3:Row tTier w5 (some ⟨k3,0,none⟩) 1 1 [⟨0,2000000⟩]:=L11.row_box (α:=Tier) (n:=2) (cells:=tierC) (ok:=fun t=>I64 t.upto∧I64 t.rate) (hn:=fun _=>rfl) (xs:=[⟨0,2000000⟩]) (X3.on b35) (fun x hx=>by
  rw [List.mem_singleton] at hx;rw [hx]
  exact ⟨by show I64 0;unfold I64;omega,by show I64 2000000;unfold I64;omega⟩) (by decide)
 have r4:Row tPrt w5 (some ⟨k4,0,none⟩) 1 1 [xA]:=row_prt1 (x:=xA) (ta:=some ⟨k3,0,none⟩) (tc:=1) (aa:=none) (ac:=0) (X4.on b5) ⟨rfl,r3,⟨rfl,Nat.le_refl _,by decide,fun h=>absurd rfl h⟩,by
  have z:I64 0:=by unfold I64;omega
  have o:I64 1:=by unfold I64;omega
  have n:I64 9:=by unfold I64;omega
  exact ⟨z,z,n,z,o,o,z⟩⟩
 have lie:CorLies w5 (corC cA (some ⟨k1,0,none⟩) 1 (some ⟨k2,0,none⟩) 1 (some ⟨k4,0,none⟩) 1) cA (some ⟨k1,0,none⟩) 1 (some ⟨k2,0,none⟩) 1 (some ⟨k4,0,none⟩) 1:=
  ⟨rfl,r1,r2,r4,by show (0:Nat)≤_;decide,by show I64 0;unfold I64;omega,by show I64 9;unfold I64;omega⟩
 have c1:=hid (fun (W:World) (b:Below w5.heap.size w5 W)=>show Calls Tryz.prog 7 #[.agg #[.string ⟨#[]⟩,.int .i64 0,.int .i64 9,.slice (some ⟨k1,0,none⟩) 1 1,.slice (some ⟨k2,0,none⟩) 1 1,.slice (some ⟨k4,0,none⟩) 1 1],.int .i64 4,.slice (some ⟨W.heap.size,0,none⟩) 1 1] (W.alloc (.cells #[.int .i64 3] 3)) fun e w'=>e=.returned (.tuple #[.int .i64 11,.int .i64 0])∧Below W.heap.size W w' by
  have:=price_one A cA (some ⟨k1,0,none⟩) 1 (some ⟨k2,0,none⟩) 1 (some ⟨k4,0,none⟩) 1 4 3 W (lie.on b) (by decide) (by unfold I64;omega);rw [show priceV cA 4 [3]=(11,0) by decide +kernel] at this
  exact this)
 have c2:=hid (fun (W:World) (b:Below w5.heap.size w5 W)=>show Calls Tryz.prog 7 #[.agg #[.string ⟨#[]⟩,.int .i64 0,.int .i64 9,.slice (some ⟨k1,0,none⟩) 1 1,.slice (some ⟨k2,0,none⟩) 1 1,.slice (some ⟨k4,0,none⟩) 1 1],.int .i64 4,.slice (some ⟨W.heap.size,0,none⟩) 1 1] (W.alloc (.cells #[.int .i64 6] 3)) fun e w'=>e=.returned (.tuple #[.int .i64 0,.int .i64 8])∧Below W.heap.size W w' by
  have:=price_one A cA (some ⟨k1,0,none⟩) 1 (some ⟨k2,0,none⟩) 1 (some ⟨k4,0,none⟩) 1 4 6 W (lie.on b) (by decide) (by unfold I64;omega);rw [show priceV cA 4 [6]=(0,8) by decide +kernel] at this
  exact this)
 have e2:k2=w.heap.size+1:=by rw [hk2,hw1];simp
 have e3:k3=w.heap.size+1+1:=by rw [hk3,hw2,hw1];simp
 have e4:k4=w.heap.size+1+1+1:=by rw [hk4,hw3,hw2,hw1];simp
 have e5:k5=w.heap.size+1+1+1+1:=by rw [hk5,hw4,hw3,hw2,hw1];simp
 have HW:=hid (show w5=((((w.alloc (.cells #[.string ⟨#[109]⟩,.string ⟨#[]⟩,.int .i64 5,.int .i64 0,.int .i64 0] 39)).alloc (.cells #[.int .i64 5,.int .i64 0,.int .i64 9] 52)).alloc (.cells #[.int .i64 0,.int .i64 2000000] 54)).alloc (.cells #[.int .i64 0,.int .i64 0,.int .i64 9,.int .i64 0,.int .i64 1,.int .i64 1,.slice (some ⟨w.heap.size+1+1,0,none⟩) 1 1,.int .i64 0,.slice none 0 0] 58)).alloc (.cells #[.string ⟨#[]⟩,.int .i64 0,.int .i64 9,.slice (some ⟨w.heap.size,0,none⟩) 1 1,.slice (some ⟨w.heap.size+1,0,none⟩) 1 1,.slice (some ⟨w.heap.size+1+1+1,0,none⟩) 1 1] 26) by rw [hw5,hw4,hw3,hw2,hw1,hk1,e2,e3,e4]);have HK:=hid (And.intro hk1 (And.intro e2 (And.intro e3 (And.intro e4 e5))));have HX:=hid X5;have B5:=hid b05;have d0:=X5.cell 0 _ rfl;have d1:=X5.cell 1 _ rfl;have d2:=X5.cell 2 _ rfl;have d3:=X5.cell 3 _ rfl;have d4:=X5.cell 4 _ rfl;have d5:=X5.cell 5 _ rfl;have l5:=X5.lt;clear hw1 hk1 b1 X1 hw2 hk2 b2 X2 hw3 hk3 b3 X3 hw4 hk4 b4 X4 hw5 hk5 b5 X5 b35 b25 b15 b05 r1 r2 r3 r4 lie e2 e3 e4 e5;go_enter Tryz.func5,Tryz.ntmps5
 go_upto_region 2 with fail
 rw [←HW.out,←HK.out.2.2.2.2];clear HW;go_wp2_with fail
 refine (c1.out _ (Below.refl _ _)).mono ?_;rintro e w6 ⟨rfl,b6⟩;have B6:=hid b6;have Y:=HX.out.on b6;have d0:=Y.cell 0 _ rfl;have d1:=Y.cell 1 _ rfl;have d2:=Y.cell 2 _ rfl;have d3:=Y.cell 3 _ rfl;have d4:=Y.cell 4 _ rfl;have d5:=Y.cell 5 _ rfl;have l6:=Y.lt;clear b6 c1 Y;go_wp2_with fail
 refine (c2.out _ B6.out).mono ?_;rintro e w7 ⟨rfl,b7⟩;have B7:=hid (bel_on B5.out (bel_on B6.out b7));clear b7 c2;go_wp2;go_ret;exact ⟨rfl,B7.out⟩
end L13
namespace R9
open Go.RowKit Go.Sort P Mm Md R6 L06
theorem top_i64 {ts:List Tier} (h:∀t∈ts,0≤t.rate∧t.rate≤1000000000000) (i:Nat):0≤topRate (ts.take i)∧topRate (ts.take i)≤1000000000000:=by
 have:∀(l:List Tier) (r:Int),(∀t∈l,0≤t.rate∧t.rate≤1000000000000)→0≤r∧r≤1000000000000→0≤l.foldl (fun r t=>max r t.rate) r∧l.foldl (fun r t=>max r t.rate) r≤1000000000000:=by
  intro l;induction l with
  | nil=>intro r _ h;exact h
  | cons t q ih=>
    intro r h1 h2;have:=h1 t (List.mem_cons_self ..);exact ih _ (fun x hx=>h1 x (List.mem_cons_of_mem _ hx)) (by show 0≤max r t.rate∧max r t.rate≤_;omega)
 exact this _ 0 (fun t ht=>h t (List.mem_of_mem_take ht)) (by omega)
theorem rates_of {c:Charge} (g:ChOk c):∀t∈c.tiers,0≤t.rate∧t.rate≤1000000000000:=by
 obtain ⟨ts,r,e,h,hr⟩:=g.tiers;rw [e];intro t ht;rcases List.mem_append.1 ht with ht|ht
 ·exact (h t ht).rate
 ·obtain rfl:t=⟨0,r⟩:=by simpa using ht
  exact hr
theorem lim_t {n:Int} {b:Bool} (hb:b=true) (hn:n<maxBound):lim n b=some n:=by
 unfold lim;rw [if_pos ⟨hb,hn⟩]
theorem lim_f {n:Int} {b:Bool} (hb:b=false):lim n b=none:=by
 unfold lim;rw [if_neg (by rw [hb];simp)]
theorem lim_g {n:Int} {b:Bool} (hn:maxBound≤n):lim n b=none:=by
 unfold lim;rw [if_neg (fun h=>by have:=h.2;omega)]
theorem ret_n {o:Option Int} (h:o=none):(Ending.returned (.tuple #[.int .i64 0,.bool false]):Ending)=.returned (.tuple #[.int .i64 (o.getD 0),.bool o.isSome]):=by rw [h];rfl
theorem ret_v {o:Option Int} {n:Int} (h:o=some n):(Ending.returned (.tuple #[.int .i64 n,.bool true]):Ending)=.returned (.tuple #[.int .i64 (o.getD 0),.bool o.isSome]):=by rw [h];rfl
theorem max_if (a b:Int):(if a<b then b else a)=max a b:=by split<;>omega
theorem i64_mul (p c m:Int):I64 (mdn p c m):=by
 unfold mdn;split
 ·exact i64_cut _
 ·unfold I64;omega
theorem most_any (c:Charge) (ta:Option Addr) (tc:Nat) (aa:Option Addr) (ac:Nat) (mx:Int) (w:World) (hc:ChargeLies w (chargeC c ta tc aa ac) c ta tc aa ac) (g:ChOk c) (hb0:c.block≠0) (hx0:0≤mx) (hx1:mx≤2000) (ql:c.tiers.length≤100000∧c.adjusts.length≤100000) :
  Calls Tryz.prog 31 #[.agg #[c.meter,c.win.has,c.win.a.y,c.win.a.m,c.win.a.d,c.win.b.y,c.win.b.m,c.win.b.d,c.allowance,c.block,c.kind,.slice ta c.tiers.length tc,c.mode,.slice aa c.adjusts.length ac,c.line,c.col],.int .i64 mx] w fun e w'=>e=.returned (.tuple #[.int .i64 ((mostOf c mx).getD 0),.bool (mostOf c mx).isSome])∧Below w.heap.size w w':=by
 obtain ⟨w1,hw1⟩:∃W,W=w.alloc (.cells #[c.meter,c.win.has,c.win.a.y,c.win.a.m,c.win.a.d,c.win.b.y,c.win.b.m,c.win.b.d,c.allowance,c.block,c.kind,.slice ta c.tiers.length tc,c.mode,.slice aa c.adjusts.length ac,c.line,c.col] 87):=⟨_,rfl⟩;have b1:Below w.heap.size w w1:=by rw [hw1];exact bel_alloc _ _
 obtain ⟨k1,hk1⟩:∃k,k=w.heap.size:=⟨_,rfl⟩;have X1:Box w1 k1 [c.meter,c.win.has,c.win.a.y,c.win.a.m,c.win.a.d,c.win.b.y,c.win.b.m,c.win.b.d,c.allowance,c.block,c.kind,.slice ta c.tiers.length tc,c.mode,.slice aa c.adjusts.length ac,c.line,c.col]:=by rw [hw1,hk1];exact Box.new _ _ _
 obtain ⟨nT,hnT⟩:∃n,n=c.tiers.length:=⟨_,rfl⟩;obtain ⟨nA,hnA⟩:∃n,n=c.adjusts.length:=⟨_,rfl⟩;obtain ⟨al,hal⟩:∃al,al=c.allowance:=⟨_,rfl⟩;obtain ⟨bl,hbl⟩:∃bl,bl=c.block:=⟨_,rfl⟩
 have C:Hid (∀W,Below w1.heap.size w1 W→W.cell? ⟨k1,8,none⟩=some (.int .i64 al)∧W.cell? ⟨k1,9,none⟩=some (.int .i64 bl)∧W.cell? ⟨k1,11,none⟩=some (.slice ta nT tc)∧W.cell? ⟨k1,13,none⟩=some (.slice aa nA ac)):=
  hid fun W b=>by rw [hnT,hnA,hal,hbl];exact ⟨(X1.on b).cell 8 _ rfl,(X1.on b).cell 9 _ rfl,(X1.on b).cell 11 _ rfl,(X1.on b).cell 13 _ rfl⟩
 have L0:Hid (∀W,Below w1.heap.size w1 W→Row tTier W ta nT tc c.tiers∧Row tAdj W aa nA ac c.adjusts∧Below w.heap.size w W):=
  hid fun W b=>by rw [hnT,hnA];exact ⟨hc.tiers.on (bel_on b1 b),hc.adjusts.on (bel_on b1 b),bel_on b1 b⟩
 have a0:0≤al:=by rw [hal];exact g.allow.1
 have a1:al≤1000000:=by rw [hal];exact g.allow.2
 have l0:0<bl:=by have:=g.block.1;rw [hbl];omega
 have l1:bl≤1000000:=by rw [hbl];exact g.block.2
 have qT:nT≤100000:=by rw [hnT];exact ql.1
 have qA:nA≤100000:=by rw [hnA];exact ql.2
 have uT:nT≤tc:=by rw [hnT];exact hc.tiers.hcap
 have uA:nA≤ac:=by rw [hnA];exact hc.adjusts.hcap
 obtain ⟨M,hM⟩:∃M,M=mostOf c mx:=⟨_,rfl⟩;rw [←hM];have HM:Hid (M=(lim (mdn (topRate c.tiers*qty mx al bl) 1000000 1) (mdb (topRate c.tiers*qty mx al bl) 1000000 1)).bind fun n=>adjAll n c.adjusts):=hid (by rw [hM,hal,hbl];rfl);have HnT:=hid hnT;have HnA:=hid hnA;have GR:=hid (rates_of g);have GA:=hid g.adjs;have HW:=hid hw1;have HK:=hid hk1;clear hM hnT hnA hal hbl g hc b1 X1 hw1 hk1 hb0 ql;go_enter Tryz.func31,Tryz.ntmps31
 go_upto_region 1 with fail
 rw [←HW.out,←HK.out];clear HW HK;go_wp2;go_loopw [6] (fun q wr=>∃(k:Nat) (q':Int),q=.int .i64 q'∧0≤q'∧q'≤2000000∧Hid (q'=k*bl∧(k=0∨(k:Int)*bl-bl<mx-al))∧wr=w1) (fun q _=>(mx-al-intOf q).toNat)
 case atStart=>exact ⟨0,0,rfl,by omega,by omega,hid ⟨by simp,.inl rfl⟩,rfl⟩
 case round=>
  obtain ⟨k,q,rfl,q0,q1,hq,hwr⟩:=hrel;have hwr':=hwr.symm;clear hwr;subst hwr';obtain ⟨c8,c9,c11,c13⟩:=C.out w1 (Below.refl _ _);clear c13;by_cases hlt:q<mx-al
  ·have Hq:Hid (q+bl=((k+1:Nat):Int)*bl∧(k+1=0∨((k+1:Nat):Int)*bl-bl<mx-al)):=hid (by
    have e:((k+1:Nat):Int)*bl=(k:Int)*bl+bl:=by rw [Int.natCast_succ,Int.add_mul,Int.one_mul]
    have:=hq.out.1
    exact ⟨by omega,.inr (by omega)⟩)
   clear c11 hq;go_wp2;go_roundw
   case rel=>exact ⟨k+1,q+bl,rfl,by omega,by omega,Hq,trivial⟩
   case measure=>simp [intOf];omega
  ·have Q:Hid (qty mx al bl=q):=hid (by
    have:=hq.out
    rw [qty_count (k:=k) l0 (by omega) this.2,←this.1])
   rw [Q.out] at HM;have hle:mx-al≤q:=by omega
   clear hq hlt c9;go_wp2;clear c8 c11;go_loopw [7,27] (fun v i wx=>∃(i':Nat),v=.int .i64 (topRate (c.tiers.take i'))∧i=.int .i64 (i':Int)∧i'≤nT∧Hid (Below w1.heap.size w1 wx)) (fun _ i _=>nT-(intOf i).toNat)
   case atStart=>exact ⟨0,rfl,rfl,Nat.zero_le _,hid (Below.refl _ _)⟩
   case round=>
    obtain ⟨i',rfl,rfl,hi,hB⟩:=hrel;by_cases hlt:i'<nT
    ·obtain ⟨t,hti⟩:∃m,c.tiers[i']?=some m:=⟨_,List.getElem?_eq_getElem (by have:=HnT.out;omega)⟩;have ST:=hid (topRate_step hti);obtain ⟨b,o,e,lb,a0,a1,_⟩:=tier_at (L0.out _ hB.out).1 hti;have B2:=hid (bel_on hB.out (bel_alloc _ (.cells #[t.upto,t.rate] 54)));obtain ⟨tr,htr⟩:∃x,x=topRate (c.tiers.take i'):=⟨_,rfl⟩;rw [←htr] at ST ⊢;clear hti htr;subst e;go_wp2;go_roundw
     case rel=>exact ⟨i'+1,by first|rw [ST.out,max_if]|rw [ST.out],by simp,by omega,B2⟩
     case measure=>simp [intOf];omega
    ·obtain rfl:i'=nT:=by omega
     have ET:Hid (c.tiers.take i'=c.tiers):=hid (by rw [HnT.out,List.take_length]);obtain ⟨tr,htr⟩:∃x,x=topRate (c.tiers.take i'):=⟨_,rfl⟩;have tr0:=(top_i64 GR.out i').1;have tr1:=(top_i64 GR.out i').2;rw [←htr] at tr0 tr1 ⊢;rw [←ET.out,←htr] at HM;clear htr ET hlt hi;have cM:=fun W=>R2.muldiv_any tr q 1000000 1 W (by unfold I64;omega) (by unfold I64;omega) (by unfold I64;omega);obtain ⟨N,hN⟩:∃N,N=mdn (tr*q) 1000000 1:=⟨_,rfl⟩;obtain ⟨K,hK⟩:∃N,N=mdb (tr*q) 1000000 1:=⟨_,rfl⟩;have iN:I64 N:=by rw [hN];exact i64_mul _ _ _
     rw [←hN,←hK] at cM HM;clear hN hK;go_wp2_with fail
     refine (cM _).mono ?_;rintro e wx ⟨rfl,b3⟩;have B3:=hid (bel_on hB.out b3);clear b3 cM hB;by_cases hK:K=false
     ·subst hK;have E:Hid (M=none):=hid (by rw [HM.out,lim_f rfl];rfl);have BF:=hid (L0.out _ B3.out).2.2;clear iN;go_wp2;go_ret2;exact ⟨ret_n E.out,BF.out⟩
     obtain rfl:K=true:=by simpa using hK
     by_cases hg:1152921504606846976≤N
     ·have E:Hid (M=none):=hid (by rw [HM.out,lim_g hg];rfl);have BF:=hid (L0.out _ B3.out).2.2;clear iN;go_wp2;go_ret2;exact ⟨ret_n E.out,BF.out⟩
     have HA:Hid (M=adjAll N c.adjusts):=hid (by rw [HM.out,lim_t rfl (by unfold maxBound;omega)];rfl);have n0 : -9223372036854775808≤N:=iN.1;have n1:N<1152921504606846976:=by omega
     obtain ⟨c8,c9,c11,c13⟩:=C.out _ B3.out;clear c8 c9 c11 iN hg hK;go_wp2;clear c13;go_loopw [10,11,51] (fun n ok i wy=>∃(i':Nat) (n':Int),n=.int .i64 n'∧ok=.bool true∧i=.int .i64 (i':Int)∧i'≤nA∧-9223372036854775808≤n'∧n'<1152921504606846976∧Hid (M=adjAll n' (c.adjusts.drop i'))∧Hid (Below w1.heap.size w1 wy)) (fun _ _ i _=>nA-(intOf i).toNat)
     case atStart=>exact ⟨0,N,rfl,rfl,rfl,Nat.zero_le _,n0,n1,HA,B3⟩
     case round=>
      clear n0 n1 HA B3;obtain ⟨i',n',rfl,rfl,rfl,hi,n0,n1,hh,hB⟩:=hrel;by_cases hlt:i'<nA
      ·obtain ⟨a,hti⟩:∃m,c.adjusts[i']?=some m:=⟨_,List.getElem?_eq_getElem (by have:=HnA.out;omega)⟩;have ST:=hid (adjAll_step (n:=n') hti);have ga:=GA.out a (List.mem_of_getElem? hti);obtain ⟨b,o,e,lb,a0,a1,a2,_⟩:=adj_at (L0.out _ hB.out).2.1 hti;have HM2:Hid (M=(adjStep n' a).bind fun m=>adjAll m (c.adjusts.drop (i'+1))):=hid (by rw [hh.out,ST.out]);obtain ⟨kd,an,am⟩:=a;have B2:=hid (bel_on hB.out (bel_alloc _ (.cells #[.int .i64 kd,.int .i64 an,.int .i64 am] 115)));have g0:0≤an:=by rcases ga with h|h;exact h.2.1.1;exact h.2.1.1
       have g1:an≤1000000000000:=by rcases ga with h|h;have:=h.2.1.2;(show an≤_);(have:an≤100000000:=this);omega;exact h.2.1.2
       have g2:kd=1∨kd=2∨kd=3∨kd=4:=by rcases ga with h|h;exact .inl h.1;exact .inr h.1
       clear hti ga hh ST HM;subst e;rcases g2 with rfl|rfl|rfl|rfl
       ·have cM:=fun W=>R2.muldiv_any n' an 100000 1 W (by unfold I64;omega) (by unfold I64;omega) (by unfold I64;omega);obtain ⟨N2,hN⟩:∃N,N=mdn (n'*an) 100000 1:=⟨_,rfl⟩;obtain ⟨K,hK⟩:∃N,N=mdb (n'*an) 100000 1:=⟨_,rfl⟩;have iN:I64 N2:=by rw [hN];exact i64_mul _ _ _
        have SE:Hid (adjStep n' ⟨1,an,am⟩=lim N2 K):=hid (by rw [hN,hK];rfl);rw [←hN,←hK] at cM;clear hN hK;go_wp2_with fail
        refine (cM _).mono ?_;rintro e wz ⟨rfl,b3⟩;have B4:=hid (bel_on B2.out b3);clear b3 cM hB B2;have i0:=iN.1;clear iN;by_cases hK:K=false
        ·subst hK;have E:Hid (M=none):=hid (by rw [HM2.out,SE.out,lim_f rfl];rfl);have BF:=hid (L0.out _ B4.out).2.2;clear HM2;go_wp2;go_ret2;exact ⟨ret_n E.out,BF.out⟩
        obtain rfl:K=true:=by simpa using hK
        clear hK;by_cases hg:1152921504606846976≤N2
        ·have E:Hid (M=none):=hid (by rw [HM2.out,SE.out,lim_g hg];rfl);have BF:=hid (L0.out _ B4.out).2.2;clear HM2;go_wp2;go_ret2;exact ⟨ret_n E.out,BF.out⟩
        ·have E:Hid (M=adjAll (N2) (c.adjusts.drop (i'+1))):=hid (by rw [HM2.out,SE.out,lim_t rfl (by unfold maxBound;omega)];rfl);have v0 : -9223372036854775808≤N2:=by omega
         have v1:N2<1152921504606846976:=by omega
         clear HM2;go_wp2;go_roundw
         case rel=>exact ⟨i'+1,N2,rfl,rfl,by simp,by omega,v0,v1,E,B4⟩
         case measure=>simp [intOf];omega
       ·by_cases hg:an<n'
        ·have SE:Hid (adjStep n' ⟨2,an,am⟩=some an):=hid (by show lim (if an<n' then an else n') true=_;rw [if_pos hg,lim_t rfl (by unfold maxBound;omega)]);have E:Hid (M=adjAll (an) (c.adjusts.drop (i'+1))):=hid (by rw [HM2.out,SE.out];rfl);have v0 : -9223372036854775808≤an:=by omega
         have v1:an<1152921504606846976:=by omega
         clear HM2;go_wp2;go_roundw
         case rel=>exact ⟨i'+1,an,rfl,rfl,by simp,by omega,v0,v1,E,B2⟩
         case measure=>simp [intOf];omega
        ·have SE:Hid (adjStep n' ⟨2,an,am⟩=some n'):=hid (by show lim (if an<n' then an else n') true=_;rw [if_neg hg,lim_t rfl (by unfold maxBound;omega)]);have E:Hid (M=adjAll (n') (c.adjusts.drop (i'+1))):=hid (by rw [HM2.out,SE.out];rfl);have v0 : -9223372036854775808≤n':=by omega
         have v1:n'<1152921504606846976:=by omega
         clear HM2;go_wp2;go_roundw
         case rel=>exact ⟨i'+1,n',rfl,rfl,by simp,by omega,v0,v1,E,B2⟩
         case measure=>simp [intOf];omega
       ·by_cases hg:n'<an
        ·have SE:Hid (adjStep n' ⟨3,an,am⟩=some an):=hid (by show lim (if n'<an then an else n') true=_;rw [if_pos hg,lim_t rfl (by unfold maxBound;omega)]);have E:Hid (M=adjAll (an) (c.adjusts.drop (i'+1))):=hid (by rw [HM2.out,SE.out];rfl);have v0 : -9223372036854775808≤an:=by omega
         have v1:an<1152921504606846976:=by omega
         clear HM2;go_wp2;go_roundw
         case rel=>exact ⟨i'+1,an,rfl,rfl,by simp,by omega,v0,v1,E,B2⟩
         case measure=>simp [intOf];omega
        ·have SE:Hid (adjStep n' ⟨3,an,am⟩=some n'):=hid (by show lim (if n'<an then an else n') true=_;rw [if_neg hg,lim_t rfl (by unfold maxBound;omega)]);have E:Hid (M=adjAll (n') (c.adjusts.drop (i'+1))):=hid (by rw [HM2.out,SE.out];rfl);have v0 : -9223372036854775808≤n':=by omega
         have v1:n'<1152921504606846976:=by omega
         clear HM2;go_wp2;go_roundw
         case rel=>exact ⟨i'+1,n',rfl,rfl,by simp,by omega,v0,v1,E,B2⟩
         case measure=>simp [intOf];omega
       ·have cN:=fun W=>R1.of_any n' W (by unfold I64;omega);have cA:=fun W=>R1.of_any an W (by unfold I64;omega);have cS:=fun W=>R1.add_any n' an W (by unfold two127;omega) (by unfold two127;omega);have cI:=fun W=>R1.int_any (n'+an) W;rw [cut64_t (show I64 (n'+an) by unfold I64;omega),ok64_t (show I64 (n'+an) by unfold I64;omega)] at cI;have SE:Hid (adjStep n' ⟨4,an,am⟩=lim (n'+an) true):=hid (by show lim (cut64 (n'+an)) (ok64 (n'+an))=_;rw [cut64_t (show I64 (n'+an) by unfold I64;omega),ok64_t (show I64 (n'+an) by unfold I64;omega)]);obtain ⟨S,hS⟩:∃S,S=n'+an:=⟨_,rfl⟩;have s0 : -9223372036854775808≤S:=by omega
        rw [←hS] at cI cS SE;obtain ⟨V1,hV1⟩:∃V,V=R1.W n':=⟨_,rfl⟩;obtain ⟨V2,hV2⟩:∃V,V=R1.W an:=⟨_,rfl⟩;obtain ⟨V3,hV3⟩:∃V,V=R1.W S:=⟨_,rfl⟩;rw [←hV1] at cN cS;rw [←hV2] at cA cS;rw [←hV3] at cI cS;clear hV1 hV2 hV3;obtain ⟨wt,hwt⟩:∃W,W=wr.alloc (.cells #[.int .i64 4,.int .i64 an,.int .i64 am] 115):=⟨_,rfl⟩;have xt:Box wt wr.heap.size [.int .i64 4,.int .i64 an,.int .i64 am]:=by rw [hwt];exact Box.new _ _ _
        have BT:Hid (Below w1.heap.size w1 wt):=hid (by rw [hwt];exact B2.out);have HWT:=hid hwt;have t1:=cell_regrown (xt.cell 1 _ rfl);have qN:=fun d os=>Calls.regrown_of (cN (grow (redrawn wt d) os));have qA:=fun d os=>Calls.regrown_of (cA (grow (redrawn wt d) os));have qS:=fun d os=>Calls.regrown_of (cS (grow (redrawn wt d) os));have qI:=fun d os=>Calls.regrown_of (cI (grow (redrawn wt d) os));clear cN cA cS cI hwt xt hB B2 hS;go_upto_region 26 with fail
        rw [←HWT.out];clear HWT a0 a1 a2;refine wp_region_quiet_below (by kernel_rfl) (by kernel_rfl) ?_;repeat (go_big_quiet_step (first|(go_at_call_of 60 (Value.int IntKind.i64 n');exact qN _ _)|(go_at_call 60;exact qA _ _)|(go_at_call 59;exact qS _ _)|(go_at_call 58;exact qI _ _)))
        refine wpQuiet_nil ?_;intro wz hw';obtain ⟨⟨dq,osq⟩,hw''⟩:=hw';have B4:Hid (Below w1.heap.size w1 wz):=hid (by subst hw'';exact bel_on BT.out (below_regrown wt dq osq));clear hw'' qN qA qS qI t1 BT;by_cases hg:1152921504606846976≤S
        ·have E:Hid (M=none):=hid (by rw [HM2.out,SE.out,lim_g hg];rfl);have BF:=hid (L0.out _ B4.out).2.2;clear HM2;go_wp2;go_ret2;exact ⟨ret_n E.out,BF.out⟩
        ·have E:Hid (M=adjAll (S) (c.adjusts.drop (i'+1))):=hid (by rw [HM2.out,SE.out,lim_t rfl (by unfold maxBound;omega)];rfl);have v0 : -9223372036854775808≤S:=by omega
         have v1:S<1152921504606846976:=by omega
         clear HM2;go_wp2;go_roundw
         case rel=>exact ⟨i'+1,S,rfl,rfl,by simp,by omega,v0,v1,E,B4⟩
         case measure=>simp [intOf];omega
      ·obtain rfl:i'=nA:=by omega
       have E:Hid (M=some n'):=hid (by rw [hh.out,adjAll_end (by have:=HnA.out;omega)]);have BF:=hid (L0.out _ hB.out).2.2;clear hh HM;go_wp2;go_ret2;exact ⟨ret_v E.out,BF.out⟩
end R9
end Go.Proofs.YtjgogpaedaffkaaGreat
