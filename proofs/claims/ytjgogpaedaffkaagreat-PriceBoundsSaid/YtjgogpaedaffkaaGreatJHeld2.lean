/- A row put behind one that has no room (in a new block, then), and a core in the making whose meters are others. -/
import Derived.Test.YtjgogpaedaffkaaGreatJJoin
import Derived.Lib.Small
set_option maxRecDepth 100000
set_option maxHeartbeats 4000000
namespace Go.Proofs.YtjgogpaedaffkaaGreat
namespace P
end P
namespace Mm
end Mm
namespace Md
end Md
namespace R6
end R6
namespace Ex
end Ex
namespace Bt
end Bt
namespace R9
end R9
namespace Cc
end Cc
namespace Co
open Go.RowKit Go.Sort Go.Deep Go.ChangeShapes P Mm Md R6
theorem run_fresh {Pr:Program} {W:World} {base:Nat} {t ty e:TypeId} {i:TypeInfo} {z:Value} {size bytes:Nat} (ht:Pr.underlying t=some (.slice e)) (hi:Pr.info? e=some i) (hz:i.zero=some z) (hsize:i.size=size) (hby:i.bytes=bytes) (hzs:z.cells.size=size) (hsz:0<size)
  (ao:Option Addr) (n cap:Nat) (xs:List Value) (hxl:xs.length=n*size) (hao:ao=none→n=0∧cap=0) (holds:∀b,ao=some b→∀j u,xs[j]?=some u→W.cell? (b.add j)=some u)
  (ad:Addr) (m c:Nat) (news:List Value) (hl:news.length=m*size) (hnews:∀j u,news[j]?=some u→W.cell? (ad.add j)=some u) (h1:∀u∈news,u.oneCell'=true) (hc:cap<n+m) (h63:n+m≤maxLen) (hbytes:(n+m)*bytes≤140737488355328) (hbase:base≤W.heap.size) :
  ∃c' w',(Builtin.append_ #[t,t] ty #[.slice ao n cap,.slice (some ad) m c]).run Pr W=.ok (.slice (some ⟨W.heap.size,0,none⟩) (n+m) c') w'∧w'.ownsRow base e size (.slice (some ⟨W.heap.size,0,none⟩) (n+m) c') (n+m) (xs++news)∧W.grownBy w' none:=by
 cases ao with
 | none=>
   obtain ⟨rfl,rfl⟩:=hao rfl;obtain rfl:xs=[]:=List.eq_nil_of_length_eq_zero (by rw [hxl,Nat.zero_mul]);obtain ⟨v',w',hr,h2,h3,_,h5⟩:=run_append_own_at (P:=Pr) W base t ty e i z size bytes ht hi hz hsize hby hzs hsz (.slice none 0 0) 0 [] (World.ownsRow_nil W base e size) ad m c news hl hnews h1 h63 hbytes hbase;obtain ⟨g,c',rfl,_,_⟩:=World.ownsRow.form h2 (by omega)
   have eg:g=W.heap.size:=by
    rcases h5 with q|q
    ·cases q
    ·exact Option.some.inj q
   subst eg;exact ⟨c',w',hr,h2,h3⟩
 | some b=>
   subst hsize hby;have hr:=run_append_grow (P:=Pr) W t ty e i z ht hi hz b n cap xs hxl (holds b rfl) ad m c news hl hnews hc (by unfold maxLen at h63;omega) (growslice_fits hc hbytes);refine ⟨_,_,hr,⟨by rw [List.length_append,hxl,hl,Nat.add_mul],.inr ⟨W.heap.size,_,_,rfl,hbase,heap_alloc_new W.drew _,grownCap_ge ..,grownCap_le_maxLen W (n+m) cap e h63,?_,?_⟩⟩,⟨rfl,rfl,rfl,by simp,fun k hk _=>(bel_alloc W.drew _).block k hk⟩⟩
   ·have:=grownCap_ge W (n+m) cap e;simp only [Array.size_append,List.size_toArray,size_zeroCells,hzs,hxl,hl];rw [←Nat.add_mul,←Nat.add_mul];congr 1
    omega
   ·have e1:(n+m)*i.size=(xs++news).length:=by rw [List.length_append,hxl,hl,Nat.add_mul]
    rw [Array.toList_append,Array.toList_append,e1];exact List.take_left
theorem step_fresh {Pr:Program} {ops:Array Oper} {o:Oper} {a:Act} {K:Act→World→Prop} {Q:Exit→Act→World→Prop} {E:Prop} {W:World} {base:Nat} (d:Tmp) (hd:o.dst=some d) (hgd:o.guard=none) (s x:Operand) (t e:TypeId) (z:Value) (size bytes:Nat)
  (ho:o.op=.call { callee:=.builtin .append,args:=#[s,x],argTypes:=#[t,t] }) (hu:Pr.underlying t=some (.slice e)) (hinfo:(Pr.info? e).map (fun i=>(i.zero,i.size,i.bytes))=some (some z,size,bytes)) (hzs:z.cells.size=size) (hsz:0<size)
  (ao:Option Addr) (n cap:Nat) (xs:List Value) (hs:a.eval s=.slice ao n cap) (hxl:xs.length=n*size) (hao:ao=none→n=0∧cap=0) (holds:∀b,ao=some b→∀j u,xs[j]?=some u→W.cell? (b.add j)=some u)
  (ad:Addr) (m c:Nat) (news:List Value) (hx:a.eval x=.slice (some ad) m c) (hl:news.length=m*size) (hnews:∀j u,news[j]?=some u→W.cell? (ad.add j)=some u) (h1:∀u∈news,u.oneCell'=true) (hc:cap<n+m) (hn:n+m≤1000000000) (hb:bytes≤1000) (N:Nat) (hN:n+m=N) (hbase:base≤W.heap.size)
  (h:∀c' w',w'.ownsRow base e size (.slice (some ⟨W.heap.size,0,none⟩) N c') N (xs++news)→W.grownBy w' none→K (a.put (some d) (.slice (some ⟨W.heap.size,0,none⟩) N c')) w') :
  if Region.wanted o (yielded ops a.tmps)=true then Oper.wp Pr o a W K Q else E:=by
 have hw:Region.wanted o (yielded ops a.tmps)=true:=by simp [Region.wanted,hgd]
 rw [if_pos hw];subst hN;obtain ⟨i0,hi,hz0,hz1,hz2⟩:=info_parts hinfo;have hby:(n+m)*bytes≤140737488355328:=Nat.le_trans (Nat.mul_le_mul hn hb) (by decide);obtain ⟨c',w',hr,h2,h3⟩:=run_fresh (ty:=o.type) hu hi hz0 hz1 hz2 hzs hsz ao n cap xs hxl hao holds ad m c news hl hnews h1 hc (by unfold maxLen;omega) hby hbase;unfold Oper.wp execOp;simp only [ho,resolve,invoke,builtin,Sem.run_bind,Sem.run_pure,Result.andThen_ok,List.map_toArray,List.map_cons,List.map_nil,hs,hx,hr];show K (a.put o.dst _) w'
 rw [hd];exact h c' w' h2 h3
section
variable {w W W':World} {k base:Nat} {cur:ByteArray} {A B:Int} {ms:List Meter} {ss:List Mm.Sm} {ps:List (Prt×Hd)} {ma:Option Addr} {mc:Nat} {sa:Option Addr} {sc:Nat} {pa:Option Addr} {pc:Nat}
theorem Mk.ins (h:Mk w W k base cur A B ms ss ps ma mc sa sc pa pc) {ma':Option Addr} {mc' H:Nat} {ms':List Meter} (hg:W.grownBy W' (Value.slice ma ms.length mc).ownBlock)
  (ho:W'.ownsRow base 39 5 (.slice ma' ms'.length mc') ms'.length (ms'.flatMap meterC))
  (hat:(Value.slice ma' ms'.length mc').ownBlock=(Value.slice ma ms.length mc).ownBlock∨(Value.slice ma' ms'.length mc').ownBlock=some H) (hH:W.heap.size≤H) :
  Mk w (W'.setCell ⟨k,3,none⟩ (.slice ma' ms'.length mc')) k base cur A B ms' ss ps ma' mc' sa sc pa pc:=
 h.turn (σ:=.m) (r':=⟨39,5,ma',ms'.length,mc',ms'.flatMap meterC⟩) rfl rfl (fun t ht=>by cases t<;>first|rfl|exact absurd rfl ht) hg ho hat hH 3 _ rfl
end
theorem flat_ln (l:List Meter):(l.flatMap meterC).length=l.length*5:=by
 rw [flat_len (n:=5) (fun _=>rfl)]
theorem flat_tk {l:List Meter} {k j:Nat} {u:Value} (h:((l.take k).flatMap meterC)[j]?=some u):(l.flatMap meterC)[j]?=some u:=by
 have e:l.flatMap meterC=(l.take k).flatMap meterC++(l.drop k).flatMap meterC:=by rw [←List.flatMap_append,List.take_append_drop]
 rw [e,List.getElem?_append_left (List.getElem?_eq_some_iff.1 h).1];exact h
theorem flat_dr {l:List Meter} {k j:Nat} {u:Value} (hk:k≤l.length) (h:((l.drop k).flatMap meterC)[j]?=some u):(l.flatMap meterC)[k*5+j]?=some u:=by
 have e:l.flatMap meterC=(l.take k).flatMap meterC++(l.drop k).flatMap meterC:=by rw [←List.flatMap_append,List.take_append_drop]
 have el:((l.take k).flatMap meterC).length=k*5:=by rw [flat_ln,List.length_take,Nat.min_eq_left hk]
 rw [e,List.getElem?_append_right (by omega),el,show k*5+j-k*5=j by omega];exact h
theorem ones_flat (l:List Meter):∀u∈l.flatMap meterC,u.oneCell'=true:=fun u hu=>by
 obtain ⟨m,_,h⟩:=List.mem_flatMap.1 hu;simp only [meterC,List.mem_cons,List.not_mem_nil,or_false] at h;rcases h with rfl|rfl|rfl|rfl|rfl<;>rfl
theorem bel_grown {W W':World} (b:Below W.heap.size W W') (r:Option Nat):W.grownBy W' r:=⟨b.os,b.tape,b.output,b.size,fun k hk _=>b.block k hk⟩
theorem grown_bel {W W':World} (g:W.grownBy W' none):Below W.heap.size W W':=⟨g.os,g.tape,g.output,g.size,fun k hk=>g.block k hk (by simp)⟩
theorem info_tierQ:(Tryz.prog.info? 54).map (fun i=>(i.zero,i.size,i.bytes))=some (some (.agg #[.int .i64 0,.int .i64 0]),2,16):=by kernel_rfl
theorem info_adjQ:(Tryz.prog.info? 115).map (fun i=>(i.zero,i.size,i.bytes))=some (some (.agg #[.int .i64 0,.int .i64 0,.int .i64 0]),3,24):=by kernel_rfl
theorem ix_ne {ms:List Meter} {n:ByteArray} {i j:Nat} {m:Meter} (h:meterIx ms n=some i) (hj:j<i) (hm:ms[j]?=some m):(m.name.toList==n.toList)=false:=by
 unfold meterIx at h;obtain ⟨hi,_,h2⟩:=List.findIdx?_eq_some_iff_getElem.1 h;have:=h2 j hj;have e:=(List.getElem?_eq_some_iff.1 hm).2;rw [e] at this;rw [ByteArray.toList_eq,ByteArray.toList_eq];simpa using this
theorem ix_eq {ms:List Meter} {n:ByteArray} {i:Nat} {m:Meter} (h:meterIx ms n=some i) (hm:ms[i]?=some m):(m.name.toList==n.toList)=true:=by
 obtain ⟨m',hm',e⟩:=ix_some h;rw [hm] at hm';obtain rfl:=Option.some.inj hm';rw [e];simp
theorem row_same {α:Type} {n:Nat} {cells:α→List Value} {ok:α→Prop} {hn:∀x,(cells x).length=n} {w w':World} {ao:Option Addr} {len cap:Nat} {xs:List α} (h:Row (leaf n cells ok hn) w ao len cap xs) (hb:∀ad,ao=some ad→w'.heap[ad.block]?=w.heap[ad.block]?) (hs:w.heap.size≤w'.heap.size):Row (leaf n cells ok hn) w' ao len cap xs:=
 ⟨h.hlen,h.hcap,h.hmax,fun hx=>by
  obtain ⟨b,o,e,hlt,hl⟩:=h.lie hx;refine ⟨b,o,e,Nat.lt_of_lt_of_le hlt hs,fun j x hj=>?_⟩;obtain ⟨cs,h1,h2⟩:=hl j x hj
  exact ⟨cs,h1,fun i u hi=>(World.cell?_of_block (w:=w) (a:=⟨b,o+j*n+i,none⟩) (hb ⟨b,o,none⟩ e)).trans (h2 i u hi)⟩⟩
theorem row_far {α:Type} {n:Nat} {cells:α→List Value} {ok:α→Prop} {hn:∀x,(cells x).length=n} {w w':World} {ao:Option Addr} {len cap:Nat} {xs:List α} (h:Row (leaf n cells ok hn) w ao len cap xs) (hb:∀ad,ao=some ad→w'.heap[ad.block]?=w.heap[ad.block]?):Row (leaf n cells ok hn) w' ao len cap xs:=
 ⟨h.hlen,h.hcap,h.hmax,fun hx=>by
  obtain ⟨b,o,e,hlt,hl⟩:=h.lie hx
  have hl2:b<w'.heap.size:=by
   have q:=hb ⟨b,o,none⟩ e;rcases Nat.lt_or_ge b w'.heap.size with g|g
   ·exact g
   ·have q2:w'.heap[b]?=w.heap[b]?:=q;rw [Array.getElem?_eq_none g,Array.getElem?_eq_getElem hlt] at q2;cases q2
  refine ⟨b,o,e,hl2,fun j x hj=>?_⟩;obtain ⟨cs,h1,h2⟩:=hl j x hj
  exact ⟨cs,h1,fun i u hi=>(World.cell?_of_block (w:=w) (a:=⟨b,o+j*n+i,none⟩) (hb ⟨b,o,none⟩ e)).trans (h2 i u hi)⟩⟩
theorem row_flat {α:Type} {n:Nat} {cells:α→List Value} {ok:α→Prop} {hn:∀x,(cells x).length=n} {w:World} {ao:Option Addr} {len cap:Nat} {xs:List α} (h:Row (leaf n cells ok hn) w ao len cap xs) :
  (ao=none→len=0)∧∀W,Below w.heap.size w W→∀ad,ao=some ad→∀j u,(xs.flatMap cells)[j]?=some u→W.cell? (ad.add j)=some u:=by
 obtain ⟨css,hc,hl,h0,_,hcell⟩:=row_chunks h
 have e:css=xs.map cells:=by
  refine List.ext_getElem? fun j=>?_;rw [List.getElem?_map];by_cases hj:j<xs.length
  ·obtain ⟨x,hx⟩:∃x,xs[j]?=some x:=⟨_,List.getElem?_eq_getElem hj⟩;obtain ⟨cs,hcs⟩:∃cs,css[j]?=some cs:=⟨_,List.getElem?_eq_getElem (by rw [hc.len];exact hj)⟩;rw [hx,hcs,(hc.lies j cs x hcs hx).1];rfl
  ·rw [List.getElem?_eq_none (by rw [hc.len];omega),List.getElem?_eq_none (by omega)];rfl
 have e2:css.flatten=xs.flatMap cells:=by rw [e,List.flatMap_def]
 refine ⟨h0,fun W b ad ea j u hj=>?_⟩;rw [←e2] at hj;have hxs:xs≠[]:=fun q=>by subst q;rw [e] at hj;simp at hj
 obtain ⟨b',o',e',hlt,_⟩:=h.lie hxs;rw [ea] at e';obtain rfl:=Option.some.inj e';have:=hcell _ ea j u hj;rw [Mm.add_plain] at this ⊢;rw [b.cell hlt];exact this
structure Kp (W:World) (k:Nat) (v:Value) (z:Prt×Hd):Prop where
 ts:Row tTier W z.2.ta z.1.tiers.length z.2.tc z.1.tiers
 as':Row tAdj W z.2.aa z.1.adjusts.length z.2.ac z.1.adjusts
 nums:I64 z.1.mt∧I64 z.1.a∧I64 z.1.b∧I64 z.1.allowance∧I64 z.1.block∧I64 z.1.kind∧I64 z.1.mode
 tb:∀ad,z.2.ta=some ad→k<ad.block∧ad.block<W.heap.size∧v.ownBlock≠some ad.block
 ab:∀ad,z.2.aa=some ad→k<ad.block∧ad.block<W.heap.size∧v.ownBlock≠some ad.block
theorem Kp.on {W W':World} {k:Nat} {v:Value} {z:Prt×Hd} (h:Kp W k v z) (b:Below W.heap.size W W'):Kp W' k v z:=
 ⟨h.ts.on b,h.as'.on b,h.nums,fun ad e=>⟨(h.tb ad e).1,Nat.lt_of_lt_of_le (h.tb ad e).2.1 b.size,(h.tb ad e).2.2⟩,fun ad e=>⟨(h.ab ad e).1,Nat.lt_of_lt_of_le (h.ab ad e).2.1 b.size,(h.ab ad e).2.2⟩⟩
theorem Kp.app {W W':World} {k H:Nat} {v v':Value} {z:Prt×Hd} (h:Kp W k v z) (g:W.grownBy W' v.ownBlock) (hat:v'.ownBlock=v.ownBlock∨v'.ownBlock=some H) (hH:W.heap.size≤H):Kp W' k v' z:=by
 have q:∀ad:Addr,k<ad.block∧ad.block<W.heap.size∧v.ownBlock≠some ad.block→k<ad.block∧ad.block<W'.heap.size∧v'.ownBlock≠some ad.block:=fun ad ⟨a,b,c⟩=>by
  refine ⟨a,Nat.lt_of_lt_of_le b g.size,fun e=>?_⟩;rcases hat with q|q
  ·exact c (by rw [←q];exact e)
  ·rw [e] at q;have:=Option.some.inj q;omega
 exact ⟨row_same h.ts (fun ad e=>g.block _ (h.tb ad e).2.1 (fun q=>(h.tb ad e).2.2 q.symm)) g.size,row_same h.as' (fun ad e=>g.block _ (h.ab ad e).2.1 (fun q=>(h.ab ad e).2.2 q.symm)) g.size,h.nums,fun ad e=>q ad (h.tb ad e),fun ad e=>q ad (h.ab ad e)⟩
theorem Kp.set {W:World} {k:Nat} {v:Value} {z:Prt×Hd} (h:Kp W k v z) (i:Nat) (u:Value):Kp (W.setCell ⟨k,i,none⟩ u) k v z:=by
 have hs:W.heap.size≤(W.setCell ⟨k,i,none⟩ u).heap.size:=by simp
 have q:∀ad:Addr,k<ad.block→(W.setCell ⟨k,i,none⟩ u).heap[ad.block]?=W.heap[ad.block]?:=fun ad a=>Below.heap_setCell W ⟨k,i,none⟩ u ad.block (by show ad.block≠k;omega);exact ⟨row_same h.ts (fun ad e=>q ad (h.tb ad e).1) hs,row_same h.as' (fun ad e=>q ad (h.ab ad e).1) hs,h.nums,fun ad e=>⟨(h.tb ad e).1,Nat.lt_of_lt_of_le (h.tb ad e).2.1 hs,(h.tb ad e).2.2⟩,fun ad e=>⟨(h.ab ad e).1,Nat.lt_of_lt_of_le (h.ab ad e).2.1 hs,(h.ab ad e).2.2⟩⟩
theorem dn_in {d:Day} (h:DayOk d):I64 (dn d):=by
 have:0≤dn d∧dn d<3652059:=num_bound h;unfold I64;omega
theorem win_in {p:Plan} {x:Win} (hp:DayOk p.a∧DayOk p.b) (hx:WinOk x):I64 (winA p x)∧I64 (winB p x):=by
 unfold winA winB;rcases hx with h|h
 ·rw [if_pos h.1,if_pos h.1];exact ⟨dn_in h.2.1,dn_in h.2.2⟩
 ·rw [h];exact ⟨dn_in hp.1,dn_in hp.2⟩
end Co
namespace Bt
open Go.RowKit P
theorem mask_any {n:Int} : bits .and .u64 (IntKind.u64.wrap n) 4294967295=IntKind.u64.wrap n % 4294967296:=and32 (by rw [u64_mod];omega) (by rw [u64_mod];omega)
theorem upper_half (X Y:Int) (x0:0≤X) (x1:X<18446744073709551616) (y0:0≤Y) (y1:Y<18446744073709551616) :
  IntKind.u64.wrap (IntKind.u64.wrap (IntKind.u64.wrap (X / 4294967296*(Y / 4294967296))+IntKind.u64.wrap (IntKind.u64.wrap (X / 4294967296*(Y % 4294967296))+IntKind.u64.wrap (X % 4294967296*(Y % 4294967296)) / 4294967296) / 4294967296) +
   IntKind.u64.wrap (IntKind.u64.wrap (IntKind.u64.wrap (X / 4294967296*(Y % 4294967296))+IntKind.u64.wrap (X % 4294967296*(Y % 4294967296)) / 4294967296) % 4294967296+IntKind.u64.wrap (X % 4294967296*(Y / 4294967296))) / 4294967296)=X*Y / 18446744073709551616:=by
 have le:∀a b:Int,0≤a→a≤4294967295→0≤b→b≤4294967295→0≤a*b∧a*b≤18446744065119617025:=fun a b h1 h2 h3 h4=>by
  have h5:=Int.mul_le_mul h2 h4 h3 (by omega:(0:Int)≤4294967295);exact ⟨Int.mul_nonneg h1 h3,by omega⟩
 have e:X*Y=X / 4294967296*(Y / 4294967296)*18446744073709551616+(X / 4294967296*(Y % 4294967296)+X % 4294967296*(Y / 4294967296))*4294967296+X % 4294967296*(Y % 4294967296):=by
  have hx:=Int.mul_ediv_add_emod X 4294967296;have hy:=Int.mul_ediv_add_emod Y 4294967296;have key:∀a b c d:Int,(4294967296*a+b)*(4294967296*c+d)=a*c*18446744073709551616+(a*d+b*c)*4294967296+b*d:=by intro a b c d;grind
  have:=key (X / 4294967296) (X % 4294967296) (Y / 4294967296) (Y % 4294967296);rw [hx,hy] at this;exact this
 have p1:=le (X / 4294967296) (Y / 4294967296) (by omega) (by omega) (by omega) (by omega);have p2:=le (X / 4294967296) (Y % 4294967296) (by omega) (by omega) (by omega) (by omega);have p3:=le (X % 4294967296) (Y / 4294967296) (by omega) (by omega) (by omega) (by omega);have p4:=le (X % 4294967296) (Y % 4294967296) (by omega) (by omega) (by omega) (by omega);rw [e];generalize X / 4294967296*(Y / 4294967296)=A at *;generalize X / 4294967296*(Y % 4294967296)=B at *;generalize X % 4294967296*(Y / 4294967296)=C at *;generalize X % 4294967296*(Y % 4294967296)=D at *;simp only [u64_mod];clear e le x0 x1 y0 y1;omega
theorem mul64_int (X Y:Int) (x0:0≤X) (x1:X<18446744073709551616) (y0:0≤Y) (y1:Y<18446744073709551616) (w:World) :
  Calls Tryz.prog 127 #[.int .u64 X,.int .u64 Y] w fun e w'=>e=.returned (.tuple #[.int .u64 (X*Y / 18446744073709551616),.int .u64 (IntKind.u64.wrap (X*Y))])∧w=w':=by
 have E:=hid (upper_half X Y x0 x1 y0 y1);have EX:=hid (and32 x0 x1);have EY:=hid (and32 y0 y1);clear x0 x1 y0 y1;go_enter Tryz.func127,Tryz.ntmps127
 go_wp2;rw [EX.out,EY.out,mask_any,E.out];go_ret2;exact ⟨rfl,rfl⟩
theorem mul64_any (x y:Nat) (hx:x<18446744073709551616) (hy:y<18446744073709551616) (w:World) :
  Calls Tryz.prog 127 #[.int .u64 x,.int .u64 y] w fun e w'=>e=.returned (.tuple #[.int .u64 (hiN (x*y)),.int .u64 (loN (x*y))])∧w=w':=by
 have h:=mul64_int x y (by omega) (by omega) (by omega) (by omega) w;have e1:(x:Int)*y / 18446744073709551616=(hiN (x*y):Int):=by rw [←Int.natCast_mul];unfold hiN;omega
 have e2:IntKind.u64.wrap ((x:Int)*y)=(loN (x*y):Int):=by rw [←Int.natCast_mul,u64_mod];unfold loN;omega
 rw [e1,e2] at h;exact h
theorem tab_len (n:Nat) (h:n<Lib.len8tab.size):(Lib.len8tab[n]'h).toNat=Lib.bitLen n:=by
 have h2:n<256:=by rw [Lib.len8tab_size] at h;exact h
 have e:=Lib.len8_eq ⟨n,h2⟩;simp only [Lib.len8,Int.toNat_natCast,ByteArray.getElem?_lt' _ _ h,Option.getD_some] at e;omega
theorem tab_le (n:Nat) (h:n<Lib.len8tab.size):Lib.bitLen n≤8:=by
 have h2:n<256:=by rw [Lib.len8tab_size] at h;exact h
 exact Lib.bitLen_le8 ⟨n,h2⟩
theorem len_close {k:Nat} {x d:Int} {e:Int} (h:d.toNat<Lib.len8tab.size) (hk:e=k) (h1:x≤18446744073709551615) (h0:0≤x) (hx:2 ^ k≤x.toNat) (hd:d.toNat=x.toNat / 2 ^ k) (k56:k≤56) :
  wrap64 (e+wrap64 ((Lib.len8tab[d.toNat]'h).toNat:Int))=(Lib.bitLen x.toNat:Int):=by
 rw [tab_len,Lib.bitLen_shift k x.toNat hx (by omega),←hd];have:=tab_le _ h;unfold wrap64;omega
theorem len_close0 {x:Int} (h:x.toNat<Lib.len8tab.size):wrap64 (wrap64 ((Lib.len8tab[x.toNat]'h).toNat:Int))=(Lib.bitLen x.toNat:Int):=by
 rw [tab_len];have:=tab_le _ h;unfold wrap64;omega
theorem len64_int (x:Int) (w:World) (h0:0≤x) (h1:x≤18446744073709551615) :
  Calls Tryz.prog 139 #[.int .u64 x] w fun e w'=>e=.returned (.int .i64 (Lib.bitLen x.toNat))∧w=w':=by
 have hs:=Lib.len8tab_size;go_enter Tryz.func139,Tryz.ntmps139
 go_wp2
 all_goals first
  | (exfalso;omega)
  | (go_ret
     refine ⟨congrArg Ending.returned (congrArg (Value.int IntKind.i64) ?_),rfl⟩
     first
      | exact len_close0 _
      | exact len_close (k:=56) _ rfl h1 h0 (by omega) (by omega) (by omega)
      | exact len_close (k:=48) _ rfl h1 h0 (by omega) (by omega) (by omega)
      | exact len_close (k:=40) _ rfl h1 h0 (by omega) (by omega) (by omega)
      | exact len_close (k:=32) _ rfl h1 h0 (by omega) (by omega) (by omega)
      | exact len_close (k:=24) _ rfl h1 h0 (by omega) (by omega) (by omega)
      | exact len_close (k:=16) _ rfl h1 h0 (by omega) (by omega) (by omega)
      | exact len_close (k:=8) _ rfl h1 h0 (by omega) (by omega) (by omega))
theorem len_bounds (x:Nat) (hx:x<2 ^ 64) (h0:x≠0):∃k,Lib.bitLen x=k+1∧2 ^ k≤x∧x<2 ^ (k+1):=by
 induction x using Nat.strongRecOn with
 | ind x ih=>
   by_cases h1:x=1
   ·subst h1;exact ⟨0,by decide,by decide,by decide⟩
   ·obtain ⟨k,e,l,u⟩:=ih (x / 2) (by omega) (by omega) (by omega);refine ⟨k+1,by rw [Lib.bitLen_half x h0 hx,e];omega,?_,?_⟩
    ·rw [Nat.pow_succ] at *;omega
    ·rw [Nat.pow_succ] at *;omega
def lz (x:Nat):Nat:=64-Lib.bitLen x
theorem lz_le (x:Nat) (hx:x<2 ^ 64) (h0:x≠0):lz x≤63:=by
 obtain ⟨k,e,_,_⟩:=len_bounds x hx h0;unfold lz;omega
theorem lz_norm (x:Nat) (hx:x<2 ^ 64) (h0:x≠0):2 ^ 63≤x*2 ^ lz x∧x*2 ^ lz x<2 ^ 64:=by
 obtain ⟨k,e,l,u⟩:=len_bounds x hx h0
 have hk:k<64:=by
  rcases Nat.lt_or_ge k 64 with h|h
  ·exact h
  ·exact absurd (Nat.le_trans (Nat.pow_le_pow_right (by omega) h) l) (by omega)
 have e1:lz x=63-k:=by unfold lz;omega
 rw [e1];have p1:(2:Nat) ^ 63=2 ^ k*2 ^ (63-k):=by rw [←Nat.pow_add];congr 1;omega
 have p2:(2:Nat) ^ 64=2 ^ (k+1)*2 ^ (63-k):=by rw [←Nat.pow_add];congr 1;omega
 rw [p1,p2];exact ⟨Nat.mul_le_mul_right _ l,Nat.mul_lt_mul_of_pos_right u (Nat.pow_pos (by omega))⟩
theorem lead_any (x:Int) (w:World) (h0:0≤x) (h1:x≤18446744073709551615) :
  Calls Tryz.prog 138 #[.int .u64 x] w fun e w'=>e=.returned (.int .i64 (64-(Lib.bitLen x.toNat:Int)))∧w=w':=by
 have hl:Lib.bitLen x.toNat≤64:=Lib.bitLen_le _ _ (Nat.le_refl _) (by omega);have E:Hid (wrap64 (64-(Lib.bitLen x.toNat:Int))=64-(Lib.bitLen x.toNat:Int)):=by show _=_;unfold wrap64;omega
 clear hl;go_enter Tryz.func138,Tryz.ntmps138
 go_wp2_with (go_at_call 139;refine (len64_int _ _ h0 h1).mono ?_;rintro e w' ⟨rfl,rfl⟩)
 go_ret;exact ⟨by rw [E.out];rfl,rfl⟩
theorem lead_ex (x:Int) (w:World) (h0:0<x) (h1:x≤18446744073709551615) :
  Calls Tryz.prog 138 #[.int .u64 x] w fun e w'=>∃s:Nat,s≤63∧9223372036854775808≤x*2 ^ s∧x*2 ^ s<18446744073709551616∧e=.returned (.int .i64 s)∧w=w':=by
 have hx:x.toNat<2 ^ 64:=by omega
 have hn:x.toNat≠0:=by omega
 have hl:Lib.bitLen x.toNat≤64:=Lib.bitLen_le _ _ (Nat.le_refl _) hx;have h2:=lz_norm x.toNat hx hn
 have e2:((x.toNat*2 ^ lz x.toNat:Nat):Int)=x*2 ^ lz x.toNat:=by
  rw [Int.natCast_mul,Int.natCast_pow,Int.toNat_of_nonneg (by omega)];rfl
 refine (lead_any x w (by omega) h1).mono ?_;rintro e w' ⟨rfl,rfl⟩;refine ⟨lz x.toNat,lz_le _ hx hn,by omega,by omega,?_,rfl⟩;rw [show ((lz x.toNat:Nat):Int)=64-(Lib.bitLen x.toNat:Int) by unfold lz;omega]
theorem div64_low (lo y:Int) (w:World) (h2:0<y) (h3:y≤18446744073709551615) (h4:0≤lo) (h5:lo≤18446744073709551615) :
  Calls Tryz.prog 129 #[.int .u64 0,.int .u64 lo,.int .u64 y] w fun e w'=>e=.returned (.tuple #[.int .u64 (lo / y),.int .u64 (lo % y)])∧∃n,w'=w.drewN n:=by
 have e1:(y==0)=false:=by simp;omega
 have e2:decide (y≤0)=false:=by simp;omega
 have d1:lo.tdiv y=lo / y:=Int.tdiv_eq_ediv_of_nonneg h4;have d2:lo.tmod y=lo % y:=Int.tmod_eq_emod_of_nonneg h4;have d3:0≤lo / y:=Int.ediv_nonneg h4 (by omega);have d4:lo / y≤lo:=Int.ediv_le_self _ h4;have D1:Hid (IntKind.u64.wrap (lo.tdiv y)=lo / y):=by show _=_;rw [d1];exact u64_in d3 (by omega)
 have D2:=hid d2;clear d1 d2 d3 d4 h3 h4 h5;go_enter Tryz.func129,Tryz.ntmps129
 go_wp2
 go_quiet (fail)
 go_wp2;go_ret2;exact ⟨by rw [D1.out,D2.out];rfl,_,rfl⟩
theorem div64_big (hi lo y:Int) (w:World) (h1:0<hi) (h2:hi<y) (h3:y≤18446744073709551615) (h4:0≤lo) (h5:lo≤18446744073709551615) :
  Calls Tryz.prog 129 #[.int .u64 hi,.int .u64 lo,.int .u64 y] w fun e w'=>e=.returned (.tuple #[.int .u64 ((hi*18446744073709551616+lo) / y),.int .u64 ((hi*18446744073709551616+lo) % y)])∧w=w':=by
 have e1:(y==0)=false:=by simp;omega
 have e2:decide (y≤hi)=false:=by simp;omega
 have e3:(hi==0)=false:=by simp;omega
 go_enter Tryz.func129,Tryz.ntmps129
 go_upto_block 0 with (go_at_call 138;refine (lead_ex _ _ (by omega) h3).mono ?_;rintro e w' ⟨s,hs,n1,n2,rfl,rfl⟩)
 obtain ⟨u,y1,y0,c1,c0,f1,f2,f3,f4,f5,f6,f7,f8,f9,g1,g2,g3,g4,g5,g6,g7,g8⟩:=div_front h1 h2 h4 h5 hs n1 n2;rw [f1,f2,f3,f4,f5];have F7:=hid f7;have F6:=hid f6;have N1:=hid n1;have N2:=hid n2
 have d1:IntKind.u64.wrap (u.tdiv y1)=u / y1:=by
  rw [Int.tdiv_eq_ediv_of_nonneg f8];exact u64_in (Int.ediv_nonneg f8 (by omega)) (by have:=Int.ediv_le_self y1 f8;omega)
 have d2:IntKind.u64.wrap (u-IntKind.u64.wrap (u / y1*y1))=u % y1:=by
  have a1:=Int.mul_ediv_add_emod u y1;have a2:=Int.emod_nonneg u (show y1≠0 by omega);have a3:=Int.emod_lt_of_pos u (show 0<y1 by omega);rw [Int.mul_comm] at a1;rw [u64_mod,u64_mod];omega
 rw [d1,d2]
 obtain ⟨Q1,R1,q1,q2,q3⟩:∃Q R:Int,u*4294967296+c1=Q*(y1*4294967296+y0)+R∧0≤R∧R<y1*4294967296+y0:=
  ⟨(u*4294967296+c1) / (y1*4294967296+y0),(u*4294967296+c1) % (y1*4294967296+y0),by have:=Int.mul_ediv_add_emod (u*4294967296+c1) (y1*4294967296+y0);rw [Int.mul_comm] at this;omega,Int.emod_nonneg _ (by omega),Int.emod_lt_of_pos _ (by omega)⟩
 have S1:Hid (Step u y1 y0 c1 Q1):=⟨g1,g2,g3,g4,g5,g6,f8,by omega,by omega,by omega⟩;rw [f6];clear f1 f2 f3 f4 f5 f6 f7 d1 d2 n1 n2;go_cut [15,16] (fun q _r wx=>q=.int .u64 Q1∧w=wx)
 case first=>
  go_wp2_with fail
  go_loop [15,16] (fun q r=>∃q' r':Int,q=.int .u64 q'∧r=.int .u64 r'∧Hid (Guess u y1 y0 c1 Q1 q' r')) (fun q _=>(intOf q).toNat)
  case atStart=>exact ⟨_,_,rfl,rfl,S1.out.start⟩
  case round=>
   obtain ⟨q,r,rfl,rfl,G⟩:=hrel;have r0:=G.out.r0;have r1:=G.out.r1;have k0:=S1.out.small.1;have k1:=G.out.le;have k2:=G.out.top;by_cases hq:4294967296≤q
   ·have hlt:=S1.out.big G.out hq;by_cases hr:4294967296≤r+y1
    ·have E:=hid (G.out.last S1.out hlt hr);go_wp2;go_meet;exact ⟨by rw [E.out],rfl⟩
    ·have G2:=hid (G.out.next S1.out hlt (by omega));go_wp2
     go_round
     case rel=>exact ⟨q-1,r+y1,rfl,rfl,G2.out⟩
     case measure=>simp [intOf];omega
   ·obtain ⟨p0,p1,p2⟩:=S1.out.fits G.out (by omega);by_cases hc:4294967296*r+c1<q*y0
    ·have hlt:=S1.out.yes G.out.eq hc;by_cases hr:4294967296≤r+y1
     ·have E:=hid (G.out.last S1.out hlt hr);go_wp2;go_meet;exact ⟨by rw [E.out],rfl⟩
     ·have G2:=hid (G.out.next S1.out hlt (by omega));go_wp2
      go_round
      case rel=>exact ⟨q-1,r+y1,rfl,rfl,G2.out⟩
      case measure=>simp [intOf];omega
    ·have E:=hid (G.out.done S1.out (by omega));go_wp2;go_meet;exact ⟨by rw [E.out],rfl⟩
 case rest=>
  obtain ⟨rfl,rfl⟩:=hcut;go_upto_block 2 with fail
  have g9:=F6.out;have g10:=N2.out;rw [mid q1 q2 (by omega),quot_wrap q2 (by omega) (by omega),rest_wrap q2 (by omega) (by omega)];obtain ⟨Q2,R2,p1,p2,p3⟩:=cut_num (R1*4294967296+c0) (y1*4294967296+y0) (by omega);have S2:Hid (Step R1 y1 y0 c0 Q2):=⟨g1,g2,g3,g4,g7,g8,q2,q3,by omega,by omega⟩;have P1:=hid p1;have Q1':=hid q1;clear p1 q1 g9 g10;go_cut [18,16] (fun q _r wx=>q=.int .u64 Q2∧w=wx)
  case first=>
   go_wp2_with fail
   go_loop [18,16] (fun q r=>∃q' r':Int,q=.int .u64 q'∧r=.int .u64 r'∧Hid (Guess R1 y1 y0 c0 Q2 q' r')) (fun q _=>(intOf q).toNat)
   case atStart=>exact ⟨_,_,rfl,rfl,S2.out.start⟩
   case round=>
    obtain ⟨q,r,rfl,rfl,G⟩:=hrel;have r0:=G.out.r0;have r1:=G.out.r1;have k0:=S2.out.small.1;have k1:=G.out.le;have k2:=G.out.top;by_cases hq:4294967296≤q
    ·have hlt:=S2.out.big G.out hq;by_cases hr:4294967296≤r+y1
     ·have E:=hid (G.out.last S2.out hlt hr);go_wp2;go_meet;exact ⟨by rw [E.out],rfl⟩
     ·have G2:=hid (G.out.next S2.out hlt (by omega));go_wp2
      go_round
      case rel=>exact ⟨q-1,r+y1,rfl,rfl,G2.out⟩
      case measure=>simp [intOf];omega
    ·obtain ⟨p0,p1,p2⟩:=S2.out.fits G.out (by omega);by_cases hc:4294967296*r+c0<q*y0
     ·have hlt:=S2.out.yes G.out.eq hc;by_cases hr:4294967296≤r+y1
      ·have E:=hid (G.out.last S2.out hlt hr);go_wp2;go_meet;exact ⟨by rw [E.out],rfl⟩
      ·have G2:=hid (G.out.next S2.out hlt (by omega));go_wp2
       go_round
       case rel=>exact ⟨q-1,r+y1,rfl,rfl,G2.out⟩
       case measure=>simp [intOf];omega
     ·have E:=hid (G.out.done S2.out (by omega));go_wp2;go_meet;exact ⟨by rw [E.out],rfl⟩
  case rest=>
   obtain ⟨rfl,rfl⟩:=hcut;go_wp2;have a1:=S1.out.small;have a2:=S2.out.small;have g9:=F6.out;have g10:=N2.out;obtain ⟨b1,b2⟩:=div_back (Int.pow_pos (by omega):(0:Int)<2 ^ s) (by omega:0<y) F6.out F7.out Q1'.out P1.out p2 p3;rw [quot_join a1.1 a1.2 a2.1 a2.2,mid P1.out p2 (by omega),b1,b2];go_ret2;exact ⟨rfl,rfl⟩
theorem div64_any (hi lo y:Int) (w:World) (h1:0≤hi) (h2:hi<y) (h3:y≤18446744073709551615) (h4:0≤lo) (h5:lo≤18446744073709551615) :
  Calls Tryz.prog 129 #[.int .u64 hi,.int .u64 lo,.int .u64 y] w fun e w'=>e=.returned (.tuple #[.int .u64 ((hi*18446744073709551616+lo) / y),.int .u64 ((hi*18446744073709551616+lo) % y)])∧∃n,w'=w.drewN n:=by
 by_cases h:hi=0
 ·subst h;rw [Int.zero_mul,Int.zero_add];exact div64_low lo y w h2 h3 h4 h5
 ·refine (div64_big hi lo y w (by omega) h2 h3 h4 h5).mono ?_;rintro e w' ⟨rfl,rfl⟩;exact ⟨rfl,0,rfl⟩
end Bt
namespace Rd
open Go.RowKit P Ex Bt
theorem size_any (n:Int) (w:World) (hn:I64 n) :
  Calls Tryz.prog 128 #[.int .i64 n] w fun e w'=>e=.returned (.int .u64 (n.natAbs:Int))∧w=w':=by
 by_cases h:n<0
 ·have E:Hid (IntKind.u64.wrap (-IntKind.u64.wrap n)=(n.natAbs:Int)):=by
   show _=_;rw [u64_mod,u64_mod];unfold I64 at hn;omega
  clear hn;go_enter Tryz.func128,Tryz.ntmps128
  go_wp2;go_ret;exact ⟨by rw [←E.out];rfl,rfl⟩
 ·have E:Hid (n=(n.natAbs:Int)):=by show _=_;omega
  have h1:0≤n:=by omega
  have h2:n≤9223372036854775807:=by unfold I64 at hn;omega
  clear hn;go_enter Tryz.func128,Tryz.ntmps128
  go_wp2;go_ret;exact ⟨by rw [←E.out];rfl,rfl⟩
theorem good_any (mode:Int) (w:World) :
  Calls Tryz.prog 126 #[.int .i64 mode] w fun e w'=>e=.returned (.bool (goodm mode))∧w=w':=by
 by_cases h:goodm mode=true
 ·rw [h];have hg:=(goodm_iff mode).1 h;have hm:mode=0∨mode=1∨mode=2∨mode=3:=by omega
  clear hg h;rcases hm with rfl|rfl|rfl|rfl
  all_goals
   go_enter Tryz.func126,Tryz.ntmps126
   go_wp2;go_ret;exact ⟨rfl,rfl⟩
 ·have e:goodm mode=false:=by simpa using h
  rw [e];have hg:¬ (0≤mode∧mode≤3):=fun k=>h ((goodm_iff mode).2 k);have e0:(mode==0)=false:=by simp;omega
  have e1:(mode==1)=false:=by simp;omega
  have e2:(mode==2)=false:=by simp;omega
  have e3:(mode==3)=false:=by simp;omega
  clear hg h e;go_enter Tryz.func126,Tryz.ntmps126
  go_wp2;go_ret;exact ⟨rfl,rfl⟩
theorem signed_any (n:Int) (b:Bool) (w:World) (h0:0≤n) (h1:n<18446744073709551616) :
  Calls Tryz.prog 131 #[.int .u64 n,.bool b] w fun e w'=>e=.returned (.tuple #[.int .i64 (cut64 (sgnB b n)),.bool (ok64 (sgnB b n))])∧w=w':=by
 cases b
 ·show Calls _ _ _ _ fun e w'=>e=.returned (.tuple #[.int .i64 (cut64 n),.bool (ok64 n)])∧w=w'
  by_cases h:n<9223372036854775808
  ·have hi:I64 n:=by unfold I64;omega
   rw [cut64_t hi,ok64_t hi];have E:=hid (wrap_in hi);clear hi;go_enter Tryz.func131,Tryz.ntmps131
   go_wp2;go_ret2;exact ⟨by first|rfl|(rw [←E.out];rfl),rfl⟩
  ·have hi:¬ I64 n:=by unfold I64;omega
   rw [cut64_f hi,ok64_f hi];clear hi;go_enter Tryz.func131,Tryz.ntmps131
   go_wp2;go_ret2;exact ⟨rfl,rfl⟩
 ·show Calls _ _ _ _ fun e w'=>e=.returned (.tuple #[.int .i64 (cut64 (-n)),.bool (ok64 (-n))])∧w=w'
  by_cases h:n≤9223372036854775808
  ·have hi:I64 (-n):=by unfold I64;omega
   rw [cut64_t hi,ok64_t hi];have E:Hid (wrap64 (IntKind.u64.wrap (-n)) = -n):=by show _=_;rw [u64_mod];unfold wrap64;omega
   clear hi;go_enter Tryz.func131,Tryz.ntmps131
   go_wp2;go_ret2;exact ⟨by rw [E.out];rfl,rfl⟩
  ·have hi:¬ I64 (-n):=by unfold I64;omega
   rw [cut64_f hi,ok64_f hi];clear hi;go_enter Tryz.func131,Tryz.ntmps131
   go_wp2;go_ret2;exact ⟨rfl,rfl⟩
theorem outward_any (q r c mode:Int) (b:Bool) (w:World) (h0:0≤q) (h1:q<18446744073709551616) (r0:0≤r) (r1:r<9223372036854775808) :
  Calls Tryz.prog 130 #[.int .u64 q,.int .u64 r,.int .u64 c,.bool b,.int .i64 mode] w fun e w'=>e=.returned (.bool (outB q r c b mode))∧w=w':=by
 unfold outB;by_cases hr:r=0
 ·subst hr;rw [if_pos rfl];go_enter Tryz.func130,Tryz.ntmps130
  go_wp2;go_ret;exact ⟨rfl,rfl⟩
 ·rw [if_neg hr];have e0:(r==0)=false:=by simpa using hr
  by_cases m0:mode=0
  ·subst m0;rw [if_pos rfl];go_enter Tryz.func130,Tryz.ntmps130
   go_wp2;go_ret;exact ⟨rfl,rfl⟩
  ·rw [if_neg m0];have e1:(mode==0)=false:=by simpa using m0
   by_cases m1:mode=1
   ·subst m1;rw [if_pos rfl];go_enter Tryz.func130,Tryz.ntmps130
    go_wp2;go_ret;exact ⟨rfl,rfl⟩
   ·rw [if_neg m1];have e2:(mode==1)=false:=by simpa using m1
    have t0:0≤2*r:=by omega
    have t1:2*r<18446744073709551616:=by omega
    by_cases hc:2*r=c
    ·have e3:(2*r==c)=true:=by simpa using hc
     rw [if_neg (by omega)];by_cases m2:mode=2
     ·subst m2;rw [if_pos rfl];clear hc;go_enter Tryz.func130,Tryz.ntmps130
      go_wp2;go_ret;exact ⟨rfl,rfl⟩
     ·rw [if_neg m2];have e4:(mode==2)=false:=by simpa using m2
      have E:Hid ((q.tmod 2==1)=decide (q % 2=1)):=by
       show _=_;rw [Int.tmod_eq_emod_of_nonneg h0];rfl
      clear hc;go_enter Tryz.func130,Tryz.ntmps130
      go_wp2;go_ret;exact ⟨by first|(rw [←E.out];rfl)|rfl,rfl⟩
    ·have e3:(2*r==c)=false:=by simpa using hc
     rw [if_pos hc];clear hc;go_enter Tryz.func130,Tryz.ntmps130
     go_wp2;go_ret;exact ⟨rfl,rfl⟩
theorem below_sgn (a b:Int):sgnB (!(decide (a<0)==decide (b<0))) ((a.natAbs*b.natAbs:Nat):Int)=a*b:=by
 rw [←Int.natAbs_mul];by_cases ha:a<0
 ·by_cases hb:b<0
  ·rw [decide_eq_true ha,decide_eq_true hb];have:=Int.mul_pos_of_neg_of_neg ha hb;show ((a*b).natAbs:Int)=_;omega
  ·rw [decide_eq_true ha,decide_eq_false hb];have:=Int.mul_nonpos_of_nonpos_of_nonneg (show a≤0 by omega) (show 0≤b by omega);show -((a*b).natAbs:Int)=_;omega
 ·by_cases hb:b<0
  ·rw [decide_eq_false ha,decide_eq_true hb];have:=Int.mul_nonpos_of_nonneg_of_nonpos (show 0≤a by omega) (show b≤0 by omega);show -((a*b).natAbs:Int)=_;omega
  ·rw [decide_eq_false ha,decide_eq_false hb];have:=Int.mul_nonneg (show 0≤a by omega) (show 0≤b by omega);show ((a*b).natAbs:Int)=_;omega
theorem muldiv_good (a b c mode:Int) (w:World) (ha:I64 a) (hb:I64 b) (hc:I64 c) (hc0:0<c) (hm:goodm mode=true) :
  Calls Tryz.prog 114 #[.int .i64 a,.int .i64 b,.int .i64 c,.int .i64 mode] w fun e w'=>e=.returned (.tuple #[.int .i64 (cut64 (rnd (a*b) c mode)),.bool (ok64 (rnd (a*b) c mode))])∧∃n,w'=w.drewN n:=by
 have hx:a.natAbs<18446744073709551616:=by unfold I64 at ha;omega
 have hy:b.natAbs<18446744073709551616:=by unfold I64 at hb;omega
 have c1:c≤9223372036854775807:=by unfold I64 at hc;omega
 have e0:decide (c≤0)=false:=by simp;omega
 have HA:=hid ha;have HB:=hid hb;have HM:=hid hm;clear ha hb hc;go_enter Tryz.func114,Tryz.ntmps114
 go_wp2_with fail
 refine (good_any _ _).mono ?_;rintro e w1 ⟨rfl,rfl⟩;rw [HM.out];go_wp2_with fail
 refine (size_any _ _ HA.out).mono ?_;rintro e w1 ⟨rfl,rfl⟩;go_wp2_with fail
 refine (size_any _ _ HB.out).mono ?_;rintro e w1 ⟨rfl,rfl⟩;go_wp2_with fail
 refine (mul64_any _ _ hx hy _).mono ?_;rintro e w1 ⟨rfl,rfl⟩;have hs:=below_sgn a b;generalize hmm:a.natAbs*b.natAbs=m at *;obtain ⟨t,ht⟩:∃t,(!(decide (a<0)==decide (b<0)))=t:=⟨_,rfl⟩;rw [ht] at hs;have HS:=hid hs;have HL:Hid (loN m<18446744073709551616):=loN_lt m;clear hmm hs;by_cases hq:c≤(hiN m:Int)
 ·have hbig:=big_quot hc0 hq
  have hn:¬ I64 (rnd (a*b) c mode):=by
   rw [←HS.out];exact rnd_sgn_big t hc0 HM.out (by split<;>omega)
  have HN:=hid hn;clear hbig hn;go_wp2;go_ret2;exact ⟨Ex.ret_2 (cut64_f HN.out).symm (ok64_f HN.out).symm,0,rfl⟩
 ·have hsm:=small_quot hc0 hq;have r0:=Int.emod_nonneg (m:Int) (show c≠0 by omega);have r1:=Int.emod_lt_of_pos (m:Int) hc0;go_wp2_with fail
  refine (div64_any _ _ _ _ (by omega) (by omega) (by omega) (by omega) (by have:=HL.out;omega)).mono ?_;rintro e w1 ⟨rfl,n,rfl⟩;rw [hi_lo_int];have hout:=out_rnd (m:=(m:Int)) t hc0 HM.out;rw [HS.out] at hout;generalize hqq:(m:Int) / c=q at *;generalize hrr:(m:Int) % c=r at *;have HO:=hid hout;clear hqq hrr hout;go_wp2_with fail
  obtain ⟨q0,q1⟩:=hsm;refine (outward_any q r c mode t _ q0 q1 r0 (by omega)).mono ?_;rintro e w1 ⟨rfl,rfl⟩;generalize outB q r c t mode=o at *;cases o
  ·have HP:Hid (sgnB t q=rnd (a*b) c mode):=by show _=_;rw [←HO.out];simp
   clear HO;go_wp2_with fail
   refine (signed_any q t _ q0 q1).mono ?_;rintro e w1 ⟨rfl,rfl⟩;go_wp2;go_ret2;exact ⟨Ex.ret_2 (by rw [HP.out]) (by rw [HP.out]),n,rfl⟩
  ·by_cases hl:q=18446744073709551615
   ·have HN:Hid (¬ I64 (rnd (a*b) c mode)):=by
     show ¬ _
     rw [←HO.out,hl];unfold I64 sgnB;cases t<;>simp
    clear HO;have e1:(q==18446744073709551615)=true:=by simpa using hl
    clear hl;go_wp2;go_ret2;exact ⟨Ex.ret_2 (cut64_f HN.out).symm (ok64_f HN.out).symm,n,rfl⟩
   ·have HP:Hid (sgnB t (q+1)=rnd (a*b) c mode):=by show _=_;rw [←HO.out];simp
    clear HO;have e1:(q==18446744073709551615)=false:=by simpa using hl
    have q2:q+1<18446744073709551616:=by omega
    clear hl;go_wp2_with fail
    refine (signed_any (q+1) t _ (by omega) q2).mono ?_;rintro e w1 ⟨rfl,rfl⟩;go_wp2;go_ret2;exact ⟨Ex.ret_2 (by rw [HP.out]) (by rw [HP.out]),n,rfl⟩
theorem muldiv_any (a b c mode:Int) (w:World) (ha:I64 a) (hb:I64 b) (hc:I64 c) :
  Calls Tryz.prog 114 #[.int .i64 a,.int .i64 b,.int .i64 c,.int .i64 mode] w fun e w'=>e=.returned (.tuple #[.int .i64 (mdn (a*b) c mode),.bool (mdb (a*b) c mode)])∧∃n,w'=w.drewN n:=by
 by_cases hc0:0<c
 ·by_cases hm:goodm mode=true
  ·rw [mdn_good hc0 hm,mdb_good hc0 hm];exact muldiv_good a b c mode w ha hb hc hc0 hm
  ·have hm':goodm mode=false:=by simpa using hm
   rw [mdn_m hm',mdb_m hm'];have e0:decide (c≤0)=false:=by simp;omega
   have HM:=hid hm';clear hm hm' ha hb hc;go_enter Tryz.func114,Tryz.ntmps114
   go_wp2_with fail
   refine (good_any _ _).mono ?_;rintro e w1 ⟨rfl,rfl⟩;rw [HM.out];go_wp2;go_ret2;exact ⟨rfl,0,rfl⟩
 ·rw [mdn_c (by omega),mdb_c (by omega)];have e0:decide (c≤0)=true:=by simp;omega
  clear ha hb hc;go_enter Tryz.func114,Tryz.ntmps114
  go_wp2;go_ret2;exact ⟨rfl,0,rfl⟩
theorem div_any (a c mode:Int) (w:World) (ha:I64 a) (hc:I64 c) :
  Calls Tryz.prog 101 #[.int .i64 a,.int .i64 c,.int .i64 mode] w fun e w'=>e=.returned (.tuple #[.int .i64 (mdn a c mode),.bool (mdb a c mode)])∧∃n,w'=w.drewN n:=by
 have h:=fun w=>muldiv_any a 1 c mode w ha (by unfold I64;omega) hc;rw [Int.mul_one] at h;have H:=hid h;clear h ha hc;go_enter Tryz.func101,Tryz.ntmps101
 go_wp2_with fail
 refine (H.out _).mono ?_;rintro e w1 ⟨rfl,n,rfl⟩;go_wp2;go_ret2;exact ⟨rfl,n,rfl⟩
def upn (a c:Int):Int:=if mdb a c 1=true then cut64 (mdn a c 1*c) else 0
def upb (a c:Int):Bool:=mdb a c 1&&ok64 (mdn a c 1*c)
theorem i64_mdn (p c mode:Int):I64 (mdn p c mode):=by
 unfold mdn;split
 ·exact i64_cut _
 ·exact i64_0
theorem up_any (a c:Int) (w:World) (ha:I64 a) (hc:I64 c) :
  Calls Tryz.prog 122 #[.int .i64 a,.int .i64 c] w fun e w'=>e=.returned (.tuple #[.int .i64 (upn a c),.bool (upb a c)])∧∃n,w'=w.drewN n:=by
 have HA:=hid ha;have HC:=hid hc;have HI:=hid (i64_mdn a c 1);clear ha hc;rcases Bool.eq_false_or_eq_true (mdb a c 1) with hy|hy
 ·rw [show upn a c=cut64 (mdn a c 1*c) by unfold upn;rw [hy];rfl,show upb a c=ok64 (mdn a c 1*c) by unfold upb;rw [hy];rfl];have HY:=hid hy;clear hy;go_enter Tryz.func122,Tryz.ntmps122
  go_wp2_with fail
  refine (div_any a c 1 _ HA.out HC.out).mono ?_;rintro e w1 ⟨rfl,n,rfl⟩;rw [HY.out];go_wp2_with fail
  refine (Ex.mul_any _ c _ HI.out HC.out).mono ?_;rintro e w1 ⟨rfl,rfl⟩;go_wp2;go_ret2;exact ⟨rfl,n,rfl⟩
 ·rw [show upn a c=0 by unfold upn;rw [hy];rfl,show upb a c=false by unfold upb;rw [hy];rfl];have HY:=hid hy;clear hy;go_enter Tryz.func122,Tryz.ntmps122
  go_wp2_with fail
  refine (div_any a c 1 _ HA.out HC.out).mono ?_;rintro e w1 ⟨rfl,n,rfl⟩;rw [HY.out];go_wp2;go_ret2;exact ⟨rfl,n,rfl⟩
end Rd
namespace Co
open Go.RowKit Go.Sort P Mm Md R6 R9 Cc
def Far (B:Nat) (w W:World):Prop:=∀b,B≤b→b<w.heap.size→W.heap[b]?=w.heap[b]?
theorem Far.refl (B:Nat) (w:World):Far B w w:=fun _ _ _=>rfl
theorem Far.sets {B:Nat} {w:World} {b:Nat} (hb:b<B):∀(vs:List Value) (o:Nat) {W:World},Far B w W→Far B w (W.setCells b o vs)
 | [],_,_,h=>h
 | v::r,o,W,h=>Far.sets hb r (o+1) (fun j h1 h2=>(Below.heap_setCell W ⟨b,o,none⟩ v j (by show j≠b;omega)).trans (h j h1 h2))
theorem owns_far {w w1:World} {B base:Nat} {e:TypeId} {size n:Nat} {v:Value} {xs:List Value} (h:w.ownsRow base e size v n xs) (hb:B≤base) (f:Far B w w1):w1.ownsRow base e size v n xs:=by
 refine ⟨h.1,?_⟩;rcases h.2 with h2|⟨g,cap,cur,h1,h2,h3,h4⟩
 ·exact .inl h2
 ·have hg:g<w.heap.size:=by
   rcases Nat.lt_or_ge g w.heap.size with k|k
   ·exact k
   ·rw [Array.getElem?_eq_none k] at h3;cases h3
  exact .inr ⟨g,cap,cur,h1,h2,by rw [f g (Nat.le_trans hb h2) hg];exact h3,h4⟩
def zeroC:Cor:=⟨⟨#[]⟩,0,0,[],[],[]⟩
theorem Box.sets {W:World} {b:Nat} : ∀(vs:List Value) (o:Nat) {W:World} {cs:List Value},Box W b cs→Box (W.setCells b o vs) b (Md.setAt cs o vs)
 | [],_,_,_,h=>h
 | v::r,o,_,_,h=>Box.sets (W:=W) r (o+1) (h.set o v)
end Co
namespace Hu
open Go
section
variable {P:Program} {ops:Array Oper} {Q:Exit→Act→World→Prop} {md:Region.Mode} {S:World→Prop} {st:Nat}
theorem pk (i:Nat) {dst:Option Tmp} {op:Op} {ty:TypeId} {pos:String} {after:Array Edge} {gd:Option (Nat×Bool)} {v:Value} {fuel:Nat} {listed:Array Bool} {a:Act} {w:World} (hy:∀w,S w→(execOp a.eval ⟨dst,op,ty,pos,after,gd⟩).run P w=.ok (.value v) w)
  (h:wpAnyU P md ops Q S st fuel (listed.setIfInBounds i true) (a.put dst v) w) (hr:(Region.ready md ops listed).contains i=true:=by decide +kernel) (hi:ops[i]?=some ⟨dst,op,ty,pos,after,gd⟩:=by rfl)
  (hwd:Region.wanted ⟨dst,op,ty,pos,after,gd⟩ (yielded ops a.tmps)=true:=by rfl)
  (hs:Region.noSelect ops=true:=by kernel_rfl) (hf:Region.free md ops listed i=true:=by kernel_rfl)
  (hw:(waitsB md ops ops.size st i&&(i != st&&(!(listed.getD st true)&&closedB md ops listed)))=true:=by kernel_rfl)
  (hQ:∀c a w,Q (.panic c) (a.put dst v) w→Q (.panic c) a w:=by exact fun _ _ _ h=>h) (hS:S w:=by assumption):wpAnyU P md ops Q S st (fuel+1) listed a w:=
 wpAnyU_take hi hs hf hr hw hQ (Or.inl ⟨hwd,hy⟩) hS h
end
end Hu
end Go.Proofs.YtjgogpaedaffkaaGreat
