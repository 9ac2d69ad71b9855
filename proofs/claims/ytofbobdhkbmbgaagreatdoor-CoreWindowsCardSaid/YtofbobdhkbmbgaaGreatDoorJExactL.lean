/- The document's answers for layer 9 (poundageref09): Most. -/
import Derived.Test.YtofbobdhkbmbgaaGreatDoorJRef9c
set_option maxHeartbeats 400000
namespace Go.Proofs.YtofbobdhkbmbgaaGreatDoor
namespace R9
open Go.RowKit Go.Sort P Mm Md R6 L06
theorem top_i64 {ts:List Tier} (h:∀t∈ts,0≤t.rate∧t.rate≤1000000000000) (i:Nat):0≤topRate (ts.take i)∧topRate (ts.take i)≤1000000000000:=by
 have:∀(l:List Tier) (r:Int),(∀t∈l,0≤t.rate∧t.rate≤1000000000000)→0≤r∧r≤1000000000000→0≤l.foldl (fun r t=>max r t.rate) r∧l.foldl (fun r t=>max r t.rate) r≤1000000000000:=by
  intro l;induction l with
  | nil=>intro r _ h;exact h
  | cons t q ih=>
    intro r h1 h2;have:=h1 t (List.mem_cons_self ..);exact ih _ (fun x hx=>h1 x (List.mem_cons_of_mem _ hx)) (by show 0≤max r t.rate∧max r t.rate≤_;omega)
 exact this _ 0 (fun t ht=>h t (List.mem_of_mem_take ht)) (by omega)
theorem rates_of {c:Charge} (g:ChOk c):∀t∈c.tiers,0≤t.rate∧t.rate≤1000000000000:=by
 obtain ⟨ts,r,e,h,hr⟩:=g.tiers;rw [e];intro t ht;rcases List.mem_append.1 ht with ht|ht
 ·exact (h t ht).rate
 ·obtain rfl:t=⟨0,r⟩:=by simpa using ht
  exact hr
theorem lim_t {n:Int} {b:Bool} (hb:b=true) (hn:n<maxBound):lim n b=some n:=by
 unfold lim;rw [if_pos ⟨hb,hn⟩]
theorem lim_f {n:Int} {b:Bool} (hb:b=false):lim n b=none:=by
 unfold lim;rw [if_neg (by rw [hb];simp)]
theorem lim_g {n:Int} {b:Bool} (hn:maxBound≤n):lim n b=none:=by
 unfold lim;rw [if_neg (fun h=>by have:=h.2;omega)]
theorem ret_m {o:Option Int} {n:Int} {k:Bool} (h:n=o.getD 0) (h2:k=o.isSome):(Ending.returned (.tuple #[.int .i64 n,.bool k]):Ending)=.returned (.tuple #[.int .i64 (o.getD 0),.bool o.isSome]):=by rw [h,h2]
theorem ret_n {o:Option Int} (h:o=none):(Ending.returned (.tuple #[.int .i64 0,.bool false]):Ending)=.returned (.tuple #[.int .i64 (o.getD 0),.bool o.isSome]):=by rw [h];rfl
theorem ret_v {o:Option Int} {n:Int} (h:o=some n):(Ending.returned (.tuple #[.int .i64 n,.bool true]):Ending)=.returned (.tuple #[.int .i64 (o.getD 0),.bool o.isSome]):=by rw [h];rfl
theorem i64_mul (p c m:Int):I64 (mdn p c m):=by
 unfold mdn;split
 ·exact i64_cut _
 ·unfold I64;omega
structure Chs (p:Plan):Prop where
 gd:Gd p
 cnt:p.meters.length≤20000∧p.fees.length≤20000∧p.charges.length≤20000
 parts:∀c∈p.charges,c.tiers.length≤100000∧c.adjusts.length≤100000
 named:∀c∈p.charges,∃i,meterIx p.meters c.meter=some i
 block:∀c∈p.charges,c.block≠0
def I60 (x:Int):Prop:=0≤x∧x≤9223372036854775807
theorem most_i60 {c:Charge} {mx x:Int} (g:ChOk c) (h:mostOf c mx=some x) (hb:x≤9223372036854775807):I60 x:=⟨mostOf_nn (fun a ha=>by rcases g.adjs a ha with k|k<;>exact k.2.1.1) g.block.1 h,hb⟩
theorem adjAll_lt:∀{l:List Adj} {n k:Int},n<maxBound→adjAll n l=some k→k<maxBound
 | [],n,k,hn,e=>by
   unfold adjAll at e;obtain rfl:=Option.some.inj e;exact hn
 | a::r,n,k,hn,e=>by
   unfold adjAll at e;obtain ⟨m,hm,e2⟩:=Option.bind_eq_some_iff.1 e;refine adjAll_lt ?_ e2;unfold adjStep at hm;split at hm
   ·exact (lim_some hm).2.2 ▸ (lim_some hm).2.1
   ·split at hm
    ·exact (lim_some hm).2.2 ▸ (lim_some hm).2.1
    ·split at hm
     ·exact (lim_some hm).2.2 ▸ (lim_some hm).2.1
     ·split at hm<;>exact (lim_some hm).2.2 ▸ (lim_some hm).2.1
theorem mostOf_lt {c:Charge} {mx k:Int} (h:mostOf c mx=some k):k<maxBound:=by
 unfold mostOf at h;obtain ⟨n,hn,e⟩:=Option.bind_eq_some_iff.1 h;exact adjAll_lt ((lim_some hn).2.2 ▸ (lim_some hn).2.1) e
end R9
namespace P
open Go.RowKit Mm
def zC (p:Plan):Int×Int×Int:=if boundOf p=none then (6,p.line,p.col) else (0,0,0)
def zF9 (p:Plan):Int×Int×Int:=(firstE (chE p) (fun c=>(c.line,c.col)) 0 p.charges).getD (zC p)
def zM (p:Plan):Int×Int×Int:=(firstE (feeE p) (fun f=>(f.line,f.col)) 0 p.fees).getD (zF9 p)
theorem wrong_getD (p:Plan):wrongOf p=if headE p=0 then (firstE (meterE p) (fun m=>(m.line,m.col)) 0 p.meters).getD (zM p) else (headE p,p.line,p.col):=by
 unfold wrongOf zM zF9 zC;by_cases h:headE p=0
 ·rw [if_pos h,if_pos h];cases firstE (meterE p) (fun m=>(m.line,m.col)) 0 p.meters with
  | some e=>rfl
  | none=>
    show _=(firstE (feeE p) (fun f=>(f.line,f.col)) 0 p.fees).getD _
    cases firstE (feeE p) (fun f=>(f.line,f.col)) 0 p.fees with
    | some e=>rfl
    | none=>
      show _=(firstE (chE p) (fun c=>(c.line,c.col)) 0 p.charges).getD _
      cases firstE (chE p) (fun c=>(c.line,c.col)) 0 p.charges<;>rfl
 ·rw [if_neg h,if_neg h]
theorem num_range {d:Day} (h:DayOk d):0≤dn d∧dn d≤3652058:=by
 have:=num_bound h;unfold dn;omega
end P
namespace R9
open Go.RowKit Go.Sort P Mm Md R6 L06
structure Pl9 (p:Plan):Prop where
 gd:Gd p
 cnt:p.meters.length≤20000∧p.fees.length≤20000∧p.charges.length≤20000
 parts:∀c∈p.charges,c.tiers.length≤100000∧c.adjusts.length≤100000
theorem chs_of {p:Plan} (h:Pl9 p) (e:firstE (chE p) (fun c=>(c.line,c.col)) 0 p.charges=none):Chs p:=by
 rw [firstE_none] at e
 have key:∀c∈p.charges,(∃i,meterIx p.meters c.meter=some i)∧c.block≠0:=by
  intro c hc;obtain ⟨j,hj,ej⟩:=List.getElem_of_mem hc;have:=e j c (by rw [List.getElem?_eq_getElem hj,ej]);unfold chE at this;split at this
  ·cases this
  ·split at this
   ·cases this
   ·rename_i h2
    refine ⟨?_,fun h0=>h2 (.inr (.inr h0))⟩;cases hm:meterIx p.meters c.meter with
    | none=>exact absurd (.inl hm) h2
    | some i=>exact ⟨i,rfl⟩
 exact ⟨h.gd,h.cnt,h.parts,fun c hc=>(key c hc).1,fun c hc=>(key c hc).2⟩
end R9
namespace P
open Go.RowKit Go.Sort Mm R6
theorem kle_tr {a b c:ByteArray} (h:klt b a=false) (k:klt c b=false):klt c a=false:=by
 rcases Bool.eq_false_or_eq_true (klt c a) with q|q
 ·rcases Decidable.em (b=a) with e|e
  ·subst e;rw [q] at k;cases k
  ·have:=klt_tr q (klt_tot h e);rw [this] at k;cases k
 ·exact q
theorem rising_pair:∀l:List ByteArray,L06.Rising l→l.Pairwise fun a b=>klt b a=false
 | [],_=>List.Pairwise.nil
 | [a],_=>List.pairwise_singleton ..
 | a::b::r,h=>by
   have ih:=rising_pair (b::r) (fun i x y hx hy=>h (i+1) x y (by simpa using hx) (by simpa using hy));have h0:=h 0 a b rfl rfl;rw [klt_eq] at h0;refine List.pairwise_cons.2 ⟨fun c hc=>?_,ih⟩;rcases List.mem_cons.1 hc with rfl|hc
   ·exact h0
   ·exact kle_tr h0 (List.rel_of_pairwise_cons ih hc)
theorem names_srt {ms:List Meter} {l:List ByteArray} (h:Apart ms) (hp:l.Perm (ms.map fun m=>m.name)) (hr:L06.Rising l):l=(srt ms).map fun m=>m.name:=by
 have hn:l.Pairwise fun a b=>a≠b:=by
  have:(ms.map fun m=>m.name).Pairwise fun a b=>a≠b:=by
   rw [List.pairwise_map];exact h
  exact hp.symm.pairwise this (fun a=>a.symm)
 have hl:l.Pairwise fun a b=>klt a b=true:=by
  have h1:=rising_pair l hr;rw [List.pairwise_iff_getElem] at h1 hn ⊢;intro i j hi hj hij;exact klt_tot (h1 i j hi hj hij) (Ne.symm (hn i j hi hj hij))
 refine perm_one (r:=fun a b=>klt a b=true) (fun x y a b=>by rw [klt_as a] at b;cases b) _ _ ?_ hl ?_
 ·refine hp.trans ?_;have:=(srt_perm ms).map (fun m:Meter=>m.name);rw [List.map_map] at this;exact this.symm
 ·rw [List.pairwise_map];exact srt_asc h
theorem name_at {ms:List Meter} {l:List ByteArray} (h:Apart (ms.map nM)) (hp:l.Perm ((ms.map nM).map fun m=>m.name)) (hr:L06.Rising l) {i:Nat} {n:ByteArray} (hi:l[i]?=some n) :
  ∃j x,(ms.map nM)[j]?=some x∧meterIx (ms.map nM) n=some j∧(srt (ms.map nM))[i]?=some x:=by
 rw [names_srt h hp hr,List.getElem?_map] at hi;obtain ⟨x,hx,rfl⟩:=Option.map_eq_some_iff.1 hi
 have hm:x∈ms.map nM:=by
  have:=(srt_perm (ms.map nM)).mem_iff.1 (List.mem_of_getElem? hx)
  rwa [nM_nM] at this
 obtain ⟨j,hj,e⟩:=List.getElem_of_mem hm;have hj':(ms.map nM)[j]?=some x:=by rw [List.getElem?_eq_getElem hj,e]
 exact ⟨j,x,hj',ix_of h hj',hx⟩
theorem ix_mem {ms:List Meter} {n:ByteArray} : (∃i,meterIx ms n=some i)↔∃m∈ms,m.name=n:=by
 constructor
 ·rintro ⟨i,hi⟩;obtain ⟨m,hm,e⟩:=ix_some hi;exact ⟨m,List.mem_of_getElem? hm,e⟩
 ·rintro ⟨m,hm,e⟩;cases hx:meterIx ms n with
  | some i=>exact ⟨i,rfl⟩
  | none=>
    unfold meterIx at hx;rw [List.findIdx?_eq_none_iff] at hx;have:=hx m hm;rw [e] at this;simp at this
theorem ix_srt {ms:List Meter} {n:ByteArray} (h:∃i,meterIx ms n=some i):∃i,meterIx (srt ms) n=some i:=by
 obtain ⟨m,hm,e⟩:=ix_mem.1 h;refine ix_mem.2 ⟨nM m,(srt_perm ms).mem_iff.2 (List.mem_map.2 ⟨m,hm,rfl⟩),e⟩
theorem ix_lt {ms:List Meter} {n:ByteArray} {i:Nat} (h:meterIx ms n=some i):i<ms.length:=by
 obtain ⟨m,hm,_⟩:=ix_some h;exact (List.getElem?_eq_some_iff.1 hm).1
theorem mix_at {ms:List Meter} {n:ByteArray} {i:Nat} (h:meterIx ms n=some i):mix ms n=i:=by
 unfold mix;rw [h]
theorem findM_ix {p:Plan} {n:ByteArray} {i:Nat} (h:meterIx p.meters n=some i):L06.findM p n=i:=by
 obtain ⟨m,hm,e⟩:=ix_some h;unfold meterIx at h;obtain ⟨hi,h1,h2⟩:=List.findIdx?_eq_some_iff_getElem.1 h;unfold L06.findM
 have:p.meters.findIdx? (fun m=>decide (m.name=n))=some i:=by
  rw [List.findIdx?_eq_some_iff_getElem];refine ⟨hi,?_,fun j hj=>?_⟩
  ·have:=(List.getElem?_eq_some_iff.1 hm).2;rw [this];simpa using e
  ·have:=h2 j hj;simp only [Bool.not_eq_true,decide_eq_false_iff_not] at this ⊢;intro e2;rw [e2] at this;simp at this
 rw [this]
end P
namespace P
open Go.RowKit
def Cells (w:World) (b off:Nat) (xs:List Int):Prop:=∀i,i<xs.length→w.cell? ⟨b,off+i,none⟩=some (.int .i64 (xs.getD i 0))
def sumTo (t:Int):List Int→Int×Bool
 | []=>(t,true)
 | x::r=>if ok64 (t+x)=true then sumTo (t+x) r else (0,false)
theorem drop_step {xs:List Int} {k:Nat} (h:k<xs.length):xs.drop k=xs.getD k 0::xs.drop (k+1):=by
 rw [List.drop_eq_getElem_cons h,List.getD_eq_getElem?_getD,List.getElem?_eq_getElem h];rfl
def bestOf (lt:Int→Int→Bool) (m:Int):List Int→Int
 | []=>m
 | x::r=>bestOf lt (if lt x m=true then x else m) r
def ltB (a b:Int):Bool:=decide (a<b)
def gtB (a b:Int):Bool:=decide (b<a)
theorem bestOf_end (lt:Int→Int→Bool) (m:Int) {xs:List Int} {k:Nat} (h:xs.length≤k):bestOf lt m (xs.drop k)=m:=by
 rw [List.drop_eq_nil_of_le h];rfl
theorem bestOf_yes {lt:Int→Int→Bool} {m:Int} {xs:List Int} {k:Nat} (h:k<xs.length) (hi:lt (xs.getD k 0) m=true):bestOf lt m (xs.drop k)=bestOf lt (xs.getD k 0) (xs.drop (k+1)):=by
 rw [drop_step h];simp only [bestOf,if_pos hi]
theorem bestOf_no {lt:Int→Int→Bool} {m:Int} {xs:List Int} {k:Nat} (h:k<xs.length) (hi:lt (xs.getD k 0) m=false):bestOf lt m (xs.drop k)=bestOf lt m (xs.drop (k+1)):=by
 rw [drop_step h];simp only [bestOf,hi];rfl
end P
namespace Ex
open Go.RowKit P
theorem least_better (a b:Int) (w:World) :
  Calls Tryz.prog 231 #[.int .i64 a,.int .i64 b] w fun e w'=>e=.returned (.bool (ltB a b))∧w=w':=by
 go_enter Tryz.func231,Tryz.ntmps231
 go_wp2;go_ret;exact ⟨rfl,rfl⟩
theorem most_better (a b:Int) (w:World) :
  Calls Tryz.prog 232 #[.int .i64 a,.int .i64 b] w fun e w'=>e=.returned (.bool (gtB a b))∧w=w':=by
 go_enter Tryz.func232,Tryz.ntmps232
 go_wp2;go_ret;exact ⟨rfl,rfl⟩
theorem best_many_least (b off cap:Nat) (x:Int) (r:List Int) (w:World) (hc:Cells w b off (x::r)) (hl:r.length≤1000000) (_hcap:r.length+1≤cap) (h1:¬ cap=1) :
  Calls Tryz.prog 230 #[.func (.func 231) #[] #[],.slice (some ⟨b,off,none⟩) (r.length+1) cap] w fun e w'=>e=.returned (.tuple #[.int .i64 (bestOf ltB x r),.bool true])∧w=w':=by
 have HC:Hid (Cells w b (off+1) r):=fun i hi=>by
  have:=hc (i+1) (by simpa using hi);rw [show off+(i+1)=off+1+i by omega] at this;simpa using this
 have hc0:w.cell? ⟨b,off,none⟩=some (.int .i64 x):=hc 0 (by simp);clear hc;have e0:(((r.length:Nat):Int)+1==0)=false:=by simp;omega
 go_enter Tryz.func230,Tryz.ntmps230
 go_wp2
 go_loop [6,18] (fun t i=>∃k:Nat,∃n:Int,k≤r.length∧i=.int .i64 k∧t=.int .i64 n∧Hid (bestOf ltB x r=bestOf ltB n (r.drop k))) (fun _ i=>r.length-(intOf i).toNat)
 case atStart=>exact ⟨0,x,Nat.zero_le _,rfl,rfl,rfl⟩
 case round=>
  obtain ⟨k,n,hk,rfl,rfl,H⟩:=hrel;by_cases hlt:k<r.length
  ·have hcell:=HC.out k hlt;generalize hv:r.getD k 0=v at *;have HV:=hid hv;clear hv;rcases Bool.eq_false_or_eq_true (ltB v n) with hb|hb
   ·have HB:=hid hb;clear hb;go_wp2_with fail
    refine (least_better _ _ _).mono ?_;rintro e w' ⟨rfl,rfl⟩;rw [HB.out];go_wp2
    go_round
    case rel=>exact ⟨k+1,v,by omega,by go_num,rfl,by show _=_;rw [H.out,bestOf_yes hlt (by rw [HV.out];exact HB.out),HV.out]⟩
    case measure=>simp [intOf];omega
   ·have HB:=hid hb;clear hb;go_wp2_with fail
    refine (least_better _ _ _).mono ?_;rintro e w' ⟨rfl,rfl⟩;rw [HB.out];go_wp2
    go_round
    case rel=>exact ⟨k+1,n,by omega,by go_num,rfl,by show _=_;rw [H.out,bestOf_no hlt (by rw [HV.out];exact HB.out)]⟩
    case measure=>simp [intOf];omega
  ·go_wp2;go_ret2;exact ⟨ret_2 (by rw [H.out];exact (bestOf_end ltB n (by omega)).symm) rfl,rfl⟩
theorem best_one_least (b off:Nat) (x:Int) (w:World) (hc0:w.cell? ⟨b,off,none⟩=some (.int .i64 x)) :
  Calls Tryz.prog 230 #[.func (.func 231) #[] #[],.slice (some ⟨b,off,none⟩) 1 1] w fun e w'=>e=.returned (.tuple #[.int .i64 x,.bool true])∧w=w':=by
 go_enter Tryz.func230,Tryz.ntmps230
 go_wp2;refine wp_loop_rounds 1 ?_;rw [rounds_succ];go_wp2;go_ret2;exact ⟨rfl,rfl⟩
theorem best_any_least (b off cap:Nat) (x:Int) (r:List Int) (w:World) (hc:Cells w b off (x::r)) (hl:r.length≤1000000) (hcap:r.length+1≤cap) :
  Calls Tryz.prog 230 #[.func (.func 231) #[] #[],.slice (some ⟨b,off,none⟩) (r.length+1) cap] w fun e w'=>e=.returned (.tuple #[.int .i64 (bestOf ltB x r),.bool true])∧w=w':=by
 by_cases h1:cap=1
 ·have hr:r=[]:=List.eq_nil_of_length_eq_zero (by omega);subst h1 hr;exact best_one_least b off x w (hc 0 (by simp))
 ·exact best_many_least b off cap x r w hc hl hcap h1
theorem best_many_most (b off cap:Nat) (x:Int) (r:List Int) (w:World) (hc:Cells w b off (x::r)) (hl:r.length≤1000000) (_hcap:r.length+1≤cap) (h1:¬ cap=1) :
  Calls Tryz.prog 230 #[.func (.func 232) #[] #[],.slice (some ⟨b,off,none⟩) (r.length+1) cap] w fun e w'=>e=.returned (.tuple #[.int .i64 (bestOf gtB x r),.bool true])∧w=w':=by
 have HC:Hid (Cells w b (off+1) r):=fun i hi=>by
  have:=hc (i+1) (by simpa using hi);rw [show off+(i+1)=off+1+i by omega] at this;simpa using this
 have hc0:w.cell? ⟨b,off,none⟩=some (.int .i64 x):=hc 0 (by simp);clear hc;have e0:(((r.length:Nat):Int)+1==0)=false:=by simp;omega
 go_enter Tryz.func230,Tryz.ntmps230
 go_wp2
 go_loop [6,18] (fun t i=>∃k:Nat,∃n:Int,k≤r.length∧i=.int .i64 k∧t=.int .i64 n∧Hid (bestOf gtB x r=bestOf gtB n (r.drop k))) (fun _ i=>r.length-(intOf i).toNat)
 case atStart=>exact ⟨0,x,Nat.zero_le _,rfl,rfl,rfl⟩
 case round=>
  obtain ⟨k,n,hk,rfl,rfl,H⟩:=hrel;by_cases hlt:k<r.length
  ·have hcell:=HC.out k hlt;generalize hv:r.getD k 0=v at *;have HV:=hid hv;clear hv;rcases Bool.eq_false_or_eq_true (gtB v n) with hb|hb
   ·have HB:=hid hb;clear hb;go_wp2_with fail
    refine (most_better _ _ _).mono ?_;rintro e w' ⟨rfl,rfl⟩;rw [HB.out];go_wp2
    go_round
    case rel=>exact ⟨k+1,v,by omega,by go_num,rfl,by show _=_;rw [H.out,bestOf_yes hlt (by rw [HV.out];exact HB.out),HV.out]⟩
    case measure=>simp [intOf];omega
   ·have HB:=hid hb;clear hb;go_wp2_with fail
    refine (most_better _ _ _).mono ?_;rintro e w' ⟨rfl,rfl⟩;rw [HB.out];go_wp2
    go_round
    case rel=>exact ⟨k+1,n,by omega,by go_num,rfl,by show _=_;rw [H.out,bestOf_no hlt (by rw [HV.out];exact HB.out)]⟩
    case measure=>simp [intOf];omega
  ·go_wp2;go_ret2;exact ⟨ret_2 (by rw [H.out];exact (bestOf_end gtB n (by omega)).symm) rfl,rfl⟩
theorem best_one_most (b off:Nat) (x:Int) (w:World) (hc0:w.cell? ⟨b,off,none⟩=some (.int .i64 x)) :
  Calls Tryz.prog 230 #[.func (.func 232) #[] #[],.slice (some ⟨b,off,none⟩) 1 1] w fun e w'=>e=.returned (.tuple #[.int .i64 x,.bool true])∧w=w':=by
 go_enter Tryz.func230,Tryz.ntmps230
 go_wp2;refine wp_loop_rounds 1 ?_;rw [rounds_succ];go_wp2;go_ret2;exact ⟨rfl,rfl⟩
theorem best_any_most (b off cap:Nat) (x:Int) (r:List Int) (w:World) (hc:Cells w b off (x::r)) (hl:r.length≤1000000) (hcap:r.length+1≤cap) :
  Calls Tryz.prog 230 #[.func (.func 232) #[] #[],.slice (some ⟨b,off,none⟩) (r.length+1) cap] w fun e w'=>e=.returned (.tuple #[.int .i64 (bestOf gtB x r),.bool true])∧w=w':=by
 by_cases h1:cap=1
 ·have hr:r=[]:=List.eq_nil_of_length_eq_zero (by omega);subst h1 hr;exact best_one_most b off x w (hc 0 (by simp))
 ·exact best_many_most b off cap x r w hc hl hcap h1
theorem least_any (b off cap:Nat) (x:Int) (r:List Int) (w:World) (hc:Cells w b off (x::r)) (hl:r.length≤1000000) (hcap:r.length+1≤cap) :
  Calls Tryz.prog 203 #[.slice (some ⟨b,off,none⟩) (r.length+1) cap] w fun e w'=>e=.returned (.tuple #[.int .i64 (bestOf ltB x r),.bool true])∧w=w':=by
 have HC:=hid hc;clear hc;go_enter Tryz.func203,Tryz.ntmps203
 go_wp2_with fail
 refine (best_any_least _ _ _ x r _ HC.out hl hcap).mono ?_;rintro e w' ⟨rfl,rfl⟩;go_wp2;go_ret2;exact ⟨rfl,rfl⟩
theorem most_any (b off cap:Nat) (x:Int) (r:List Int) (w:World) (hc:Cells w b off (x::r)) (hl:r.length≤1000000) (hcap:r.length+1≤cap) :
  Calls Tryz.prog 204 #[.slice (some ⟨b,off,none⟩) (r.length+1) cap] w fun e w'=>e=.returned (.tuple #[.int .i64 (bestOf gtB x r),.bool true])∧w=w':=by
 have HC:=hid hc;clear hc;go_enter Tryz.func204,Tryz.ntmps204
 go_wp2_with fail
 refine (best_any_most _ _ _ x r _ HC.out hl hcap).mono ?_;rintro e w' ⟨rfl,rfl⟩;go_wp2;go_ret2;exact ⟨rfl,rfl⟩
end Ex
end Go.Proofs.YtofbobdhkbmbgaaGreatDoor
