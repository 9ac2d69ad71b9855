/- A charge while the document's parser (poundageref07) makes it: its block, its result's, its rows. -/
import Derived.Test.YtjgogpaedaffkaaGreatJRef7d
namespace Go.Proofs.YtjgogpaedaffkaaGreat
namespace P
end P
namespace Tl
end Tl
namespace Mm
end Mm
namespace R7
open Go.RowKit Go.Sort P Tl Mm
theorem Bx.set {W:World} {b:Nat} {cs:List Value} (h:Bx W b cs) (i:Nat) (u:Value):Bx (W.setCell ⟨b,i,none⟩ u) b (cs.set i u):=by
 refine ⟨by simpa using h.lt,fun j v k=>?_,fun j=>?_⟩
 ·rw [List.getElem?_set] at k;split at k
  ·rename_i e
   subst e;split at k
   ·rename_i hi
    obtain rfl:u=v:=by simpa using k
    have:=h.cell i (cs[i]'hi) (List.getElem?_eq_getElem hi);exact World.cell?_setCell_same (h:=this) ..
   ·cases k
  ·rename_i e
   rw [World.cell?_setCell_other (h:=show (⟨b,i,none⟩:Addr)≠⟨b,j,none⟩ by simp only [ne_eq,Addr.mk.injEq,and_true,true_and];exact e) ..];exact h.cell j v k
 ·simpa using h.free j
theorem Bx.other {W:World} {b:Nat} {cs:List Value} (h:Bx W b cs) {p:Addr} (hp:b≠p.block) (u:Value):Bx (W.setCell p u) b cs:=
 ⟨by simpa using h.lt,fun j v k=>by rw [World.cell?_of_block (w:=W) (Below.heap_setCell _ _ _ _ hp)];exact h.cell j v k,fun j=>by rw [World.frozen?_of_block (w:=W) (Below.heap_setCell _ _ _ _ hp)];exact h.free j⟩
theorem own_call {w w':World} {base b:Nat} {e:TypeId} {size n:Nat} {v:Value} {xs:List Value} (h:w.ownsRow base e size v n xs) (g:w.grownBy w' (some b)) (hb:b<base):w'.ownsRow base e size v n xs:=by
 refine h.kept g ?_;cases hv:v.ownBlock with
 | none=>exact .inl rfl
 | some k=>exact .inr (fun e=>by have:=(h.lt k hv).1;have:=Option.some.inj e;omega)
def zeroC:List Value:=chargeC ⟨⟨#[]⟩,⟨false,⟨0,0,0⟩,⟨0,0,0⟩⟩,0,0,0,[],0,[],0,0⟩ none 0 none 0
structure Ch (w0 W:World) (b tb cap:Nat) (ts:List Tok) (kr kc base:Nat) (s:St) (c:Charge) (ta:Option Addr) (tc:Nat) (aa:Option Addr) (ac:Nat):Prop where
 ps:Ps W b tb cap ts s
 box:Bx W kc (chargeC c ta tc aa ac)
 res:Bx W kr zeroC
 tie:W.ownsRow base 54 2 (.slice ta c.tiers.length tc) c.tiers.length (c.tiers.flatMap tierC)
 adj:W.ownsRow base 115 3 (.slice aa c.adjusts.length ac) c.adjusts.length (c.adjusts.flatMap adjC)
 apart:∀k,(Value.slice ta c.tiers.length tc).ownBlock=some k→(Value.slice aa c.adjusts.length ac).ownBlock≠some k
 gr:w0.grownBy W (some b)
 lb:b<w0.heap.size
 lt:tb<w0.heap.size
 lr:w0.heap.size≤kr
 lc:w0.heap.size≤kc
 rb:kr<base
 cb:kc<base
 rc:kr≠kc
 bsz:base≤W.heap.size
section
variable {w0 W W':World} {b tb cap:Nat} {ts:List Tok} {kr kc base:Nat} {s s':St} {c c':Charge} {ta:Option Addr} {tc:Nat} {aa:Option Addr} {ac:Nat}
theorem Ch.call (h:Ch w0 W b tb cap ts kr kc base s c ta tc aa ac) (q:Ps W' b tb cap ts s') (g:W.grownBy W' (some b)):Ch w0 W' b tb cap ts kr kc base s' c ta tc aa ac:=by
 have hb:b<base:=by have:=h.lb;have:=h.lr;have:=h.rb;omega
 exact ⟨q,h.box.grown g (fun e=>by have:=Option.some.inj e;have:=h.lb;have:=h.lc;omega),h.res.grown g (fun e=>by have:=Option.some.inj e;have:=h.lb;have:=h.lr;omega),
  own_call h.tie g hb,own_call h.adj g hb,h.apart,grown_trans h.gr g,h.lb,h.lt,h.lr,h.lc,h.rb,h.cb,h.rc,Nat.le_trans h.bsz g.size⟩
theorem Ch.on (h:Ch w0 W b tb cap ts kr kc base s c ta tc aa ac) (g:Below W.heap.size W W'):Ch w0 W' b tb cap ts kr kc base s c ta tc aa ac:=
 h.call (h.ps.on g) (grown_below g)
theorem Ch.put (h:Ch w0 W b tb cap ts kr kc base s c ta tc aa ac) (i:Nat) (u:Value) (e1:c'.tiers=c.tiers) (e2:c'.adjusts=c.adjusts) (e:chargeC c' ta tc aa ac=(chargeC c ta tc aa ac).set i u) :
  Ch w0 (W.setCell ⟨kc,i,none⟩ u) b tb cap ts kr kc base s c' ta tc aa ac:=by
 refine ⟨h.ps.far h.lb h.lt h.lc _ _,by rw [e];exact h.box.set i u,h.res.other (p:=⟨kc,i,none⟩) h.rc u,?_,?_,?_,grown_put h.gr h.lc _ _,h.lb,h.lt,h.lr,h.lc,h.rb,h.cb,h.rc,by simpa using h.bsz⟩
 ·rw [e1];exact ownsRow_setCell_below h.tie (a:=⟨kc,i,none⟩) h.cb u
 ·rw [e2];exact ownsRow_setCell_below h.adj (a:=⟨kc,i,none⟩) h.cb u
 ·rw [e1,e2];exact h.apart
theorem Ch.cells (h:Ch w0 W b tb cap ts kr kc base s c ta tc aa ac) (i:Nat) (u:Value) (hu:(chargeC c ta tc aa ac)[i]?=some u):W.cell? ⟨kc,i,none⟩=some u∧W.frozen? ⟨kc,i,none⟩=false:=⟨h.box.cell i u hu,h.box.free i⟩
theorem Ch.win (h:Ch w0 W b tb cap ts kr kc base s c ta tc aa ac) (x:Win) :
  Ch w0 (((((((W.setCell ⟨kc,1,none⟩ (.bool x.has)).setCell ⟨kc,2,none⟩ (.int .i64 x.a.y)).setCell ⟨kc,3,none⟩ (.int .i64 x.a.m)).setCell ⟨kc,4,none⟩ (.int .i64 x.a.d)).setCell ⟨kc,5,none⟩ (.int .i64 x.b.y)).setCell ⟨kc,6,none⟩ (.int .i64 x.b.m)).setCell ⟨kc,7,none⟩ (.int .i64 x.b.d))
   b tb cap ts kr kc base s { c with win:=x } ta tc aa ac:=by
 have h1:=h.put (c':={ c with win:={ c.win with has:=x.has } }) 1 (.bool x.has) rfl rfl rfl;have h2:=h1.put (c':={ c with win:={ c.win with has:=x.has,a:={ c.win.a with y:=x.a.y } } }) 2 (.int .i64 x.a.y) rfl rfl rfl;have h3:=h2.put (c':={ c with win:={ c.win with has:=x.has,a:={ c.win.a with y:=x.a.y,m:=x.a.m } } }) 3 (.int .i64 x.a.m) rfl rfl rfl;have h4:=h3.put (c':={ c with win:={ c.win with has:=x.has,a:=x.a } }) 4 (.int .i64 x.a.d) rfl rfl rfl;have h5:=h4.put (c':={ c with win:={ has:=x.has,a:=x.a,b:={ c.win.b with y:=x.b.y } } }) 5 (.int .i64 x.b.y) rfl rfl rfl;have h6:=h5.put (c':={ c with win:={ has:=x.has,a:=x.a,b:={ c.win.b with y:=x.b.y,m:=x.b.m } } }) 6 (.int .i64 x.b.m) rfl rfl rfl;exact h6.put (c':={ c with win:=x }) 7 (.int .i64 x.b.d) rfl rfl rfl
theorem Ch.tier (h:Ch w0 W b tb cap ts kr kc base s c ta tc none 0) (hadj:c.adjusts=[]) {ta':Option Addr} {tc':Nat} {x:Tier} (hg:W.grownBy W' (Value.slice ta c.tiers.length tc).ownBlock)
  (hown:W'.ownsRow base 54 2 (.slice ta' (c.tiers.length+1) tc') (c.tiers.length+1) (c.tiers.flatMap tierC++tierC x)) :
  Ch w0 (W'.setCell ⟨kc,11,none⟩ (.slice ta' (c.tiers.length+1) tc')) b tb cap ts kr kc base s { c with tiers:=c.tiers++[x] } ta' tc' none 0:=by
 have hk:∀k,(Value.slice ta c.tiers.length tc).ownBlock=some k→base≤k:=fun k e=>(h.tie.lt k e).1;have l1:=h.lb;have l2:=h.lt;have l3:=h.lr;have l4:=h.lc;have l5:=h.rb;have l6:=h.cb;have nb:∀j,j<base→some j≠(Value.slice ta c.tiers.length tc).ownBlock:=fun j hj e=>by have:=hk j e.symm;omega
 have e:chargeC { c with tiers:=c.tiers++[x] } ta' tc' none 0=(chargeC c ta tc none 0).set 11 (.slice ta' (c.tiers.length+1) tc'):=by
  unfold chargeC;simp only [List.length_append,List.length_singleton];rfl
 refine ⟨(h.ps.other hg (nb b (by omega)) (nb tb (by omega))).far h.lb h.lt h.lc _ _,by rw [e];exact (h.box.grown hg (nb kc h.cb)).set 11 _,(h.res.grown hg (nb kr h.rb)).other (p:=⟨kc,11,none⟩) h.rc _,?_,?_,(fun _ _ e=>by cases e),?_,h.lb,h.lt,h.lr,h.lc,h.rb,h.cb,h.rc,by have:=Nat.le_trans h.bsz hg.size;simpa using this⟩
 ·show (W'.setCell _ _).ownsRow base _ 2 (.slice ta' (c.tiers++[x]).length tc') (c.tiers++[x]).length ((c.tiers++[x]).flatMap tierC)
  rw [List.length_append,List.flatMap_append];exact ownsRow_setCell_below (by simpa using hown) (a:=⟨kc,11,none⟩) h.cb _
 ·show (W'.setCell _ _).ownsRow base _ 3 (.slice none c.adjusts.length 0) c.adjusts.length (c.adjusts.flatMap adjC)
  rw [hadj];exact World.ownsRow_nil _ _ _ _
 ·refine grown_put ⟨hg.os.trans h.gr.os,hg.tape.trans h.gr.tape,hg.output.trans h.gr.output,Nat.le_trans h.gr.size hg.size,fun k hk2 hne=>?_⟩ h.lc _ _;rw [hg.block k (Nat.lt_of_lt_of_le hk2 h.gr.size) (nb k (by omega))];exact h.gr.block k hk2 hne
end
theorem slice_form {w:World} {base:Nat} {e:TypeId} {size n:Nat} {v:Value} {xs:List Value} (h:w.ownsRow base e size v n xs):∃a cap,v=.slice a n cap:=by
 rcases h.2 with ⟨h1,h2⟩|⟨g,cap,cur,h1,_⟩
 ·exact ⟨none,0,by rw [h1,h2]⟩
 ·exact ⟨_,cap,h1⟩
section
variable {w0 W W':World} {b tb cap:Nat} {ts:List Tok} {kr kc base:Nat} {s:St} {c:Charge} {ta:Option Addr} {tc:Nat} {aa:Option Addr} {ac:Nat}
theorem Ch.more (h:Ch w0 W b tb cap ts kr kc base s c ta tc aa ac) {aa':Option Addr} {ac' H:Nat} {x:Adj} (hg:W.grownBy W' (Value.slice aa c.adjusts.length ac).ownBlock)
  (hown:W'.ownsRow base 115 3 (.slice aa' (c.adjusts.length+1) ac') (c.adjusts.length+1) (c.adjusts.flatMap adjC++adjC x))
  (hat:(Value.slice aa' (c.adjusts.length+1) ac').ownBlock=(Value.slice aa c.adjusts.length ac).ownBlock∨(Value.slice aa' (c.adjusts.length+1) ac').ownBlock=some H) (hH:W.heap.size≤H) :
  Ch w0 (W'.setCell ⟨kc,13,none⟩ (.slice aa' (c.adjusts.length+1) ac')) b tb cap ts kr kc base s { c with adjusts:=c.adjusts++[x] } ta tc aa' ac':=by
 have hk:∀k,(Value.slice aa c.adjusts.length ac).ownBlock=some k→base≤k:=fun k e=>(h.adj.lt k e).1;have l1:=h.lb;have l2:=h.lt;have l3:=h.lr;have l4:=h.lc;have l5:=h.rb;have l6:=h.cb;have nb:∀j,j<base→some j≠(Value.slice aa c.adjusts.length ac).ownBlock:=fun j hj e=>by have:=hk j e.symm;omega
 have e:chargeC { c with adjusts:=c.adjusts++[x] } ta tc aa' ac'=(chargeC c ta tc aa ac).set 13 (.slice aa' (c.adjusts.length+1) ac'):=by
  unfold chargeC;simp only [List.length_append,List.length_singleton];rfl
 have tie':W'.ownsRow base 54 2 (.slice ta c.tiers.length tc) c.tiers.length (c.tiers.flatMap tierC):=by
  refine h.tie.kept hg ?_;cases hv:(Value.slice ta c.tiers.length tc).ownBlock with
  | none=>exact .inl rfl
  | some k=>exact .inr (fun e=>h.apart k hv e.symm)
 refine ⟨(h.ps.other hg (nb b (by omega)) (nb tb (by omega))).far h.lb h.lt h.lc _ _,by rw [e];exact (h.box.grown hg (nb kc h.cb)).set 13 _,(h.res.grown hg (nb kr h.rb)).other (p:=⟨kc,13,none⟩) h.rc _,ownsRow_setCell_below tie' (a:=⟨kc,13,none⟩) h.cb _,?_,fun k hk1 hk2=>?_,?_,h.lb,h.lt,h.lr,h.lc,h.rb,h.cb,h.rc,by have:=Nat.le_trans h.bsz hg.size;simpa using this⟩
 ·show (W'.setCell _ _).ownsRow base _ 3 (.slice aa' (c.adjusts++[x]).length ac') (c.adjusts++[x]).length ((c.adjusts++[x]).flatMap adjC)
  rw [List.length_append,List.flatMap_append];exact ownsRow_setCell_below (by simpa using hown) (a:=⟨kc,13,none⟩) h.cb _
 ·have hk3:(Value.slice aa' (c.adjusts.length+1) ac').ownBlock=some k:=by
   cases aa'
   ·cases hk2
   ·exact hk2
  rw [hk3] at hat;rcases hat with h2|h2
  ·exact h.apart k hk1 h2.symm
  ·have:=(h.tie.lt k hk1).2;have:=Option.some.inj h2;omega
 ·refine grown_put ⟨hg.os.trans h.gr.os,hg.tape.trans h.gr.tape,hg.output.trans h.gr.output,Nat.le_trans h.gr.size hg.size,fun k hk2 hne=>?_⟩ h.lc _ _;rw [hg.block k (Nat.lt_of_lt_of_le hk2 h.gr.size) (nb k (by omega))];exact h.gr.block k hk2 hne
theorem Ch.aside (h:Ch w0 W b tb cap ts kr kc base s c ta tc aa ac) {k:Nat} (hk:w0.heap.size≤k) (h1:kr≠k) (h2:kc≠k) (nt:(Value.slice ta c.tiers.length tc).ownBlock≠some k) (na:(Value.slice aa c.adjusts.length ac).ownBlock≠some k) (o:Nat) (u:Value) :
  Ch w0 (W.setCell ⟨k,o,none⟩ u) b tb cap ts kr kc base s c ta tc aa ac:=
 ⟨h.ps.far h.lb h.lt hk _ _,h.box.other (p:=⟨k,o,none⟩) h2 u,h.res.other (p:=⟨k,o,none⟩) h1 u,ownsRow_setCell_other h.tie (a:=⟨k,o,none⟩) nt u,ownsRow_setCell_other h.adj (a:=⟨k,o,none⟩) na u,h.apart,grown_put h.gr hk _ _,h.lb,h.lt,h.lr,h.lc,h.rb,h.cb,h.rc,by simpa using h.bsz⟩
end
theorem one_range (ts:List Tok) (s:St) (ws:List (List UInt8)) : -1≤(oneS ts s ws).1∧(oneS ts s ws).1≤ws.length:=by
 have key:∀(ws:List (List UInt8)) (k:Int),0≤k→-1≤(oneAt ts s ws k).1∧(oneAt ts s ws k).1≤k+ws.length:=by
  intro ws;induction ws with
  | nil=>intro k hk;exact ⟨by show (-1:Int)≤-1;omega,by show (-1:Int)≤_;simp;omega⟩
  | cons w r ih=>
    intro k hk;unfold oneAt;split
    ·exact ⟨by show -1≤k;omega,by show k≤_;simp;omega⟩
    ·have:=ih (k+1) (by omega);exact ⟨this.1,by have h2:=this.2;simp;omega⟩
 have:=key ws 0 (Int.le_refl _);unfold oneS;omega
theorem info_tier7:(Tryz.prog.info? 54).map (fun i=>(i.zero,i.size,i.bytes))=some (some (.agg (tierC ⟨0,0⟩).toArray),2,16):=by kernel_rfl
theorem info_adj7:(Tryz.prog.info? 115).map (fun i=>(i.zero,i.size,i.bytes))=some (some (.agg (adjC ⟨0,0,0⟩).toArray),3,24):=by kernel_rfl
theorem nob {w0 W:World} {b tb cap:Nat} {ts:List Tok} {kr kc base:Nat} {s:St} {c:Charge} {ta:Option Addr} {tc:Nat} {aa:Option Addr} {ac:Nat} (h:Ch w0 W b tb cap ts kr kc base s c ta tc aa ac):some kc≠(Value.slice ta c.tiers.length tc).ownBlock:=fun e=>by
 have:=(h.tie.lt kc e.symm).1;have:=h.cb;omega
theorem nob_a {w0 W:World} {b tb cap:Nat} {ts:List Tok} {kr kc base:Nat} {s:St} {c:Charge} {ta:Option Addr} {tc:Nat} {aa:Option Addr} {ac:Nat} (h:Ch w0 W b tb cap ts kr kc base s c ta tc aa ac):some kc≠(Value.slice aa c.adjusts.length ac).ownBlock:=fun e=>by
 have:=(h.adj.lt kc e.symm).1;have:=h.cb;omega
theorem news_at (w:World) (cs:List Value) (t:TypeId):∀j u,cs[j]?=some u→(w.alloc (.cells cs.toArray t)).cell? ((⟨w.heap.size,0,none⟩:Addr).add j)=some u:=fun j u h=>by
 rw [add_plain,Nat.zero_add];exact (Bx.new w cs t).cell j u h
theorem grown_unalloc {w w':World} {x:Obj} {row:Option Nat} (h:(w.alloc x).grownBy w' row):w.grownBy w' row:=
 grown_trans (grown_below ((Below.refl _ _).alloc (Nat.le_refl _) _)) h
theorem step_tier {ops:Array Oper} {o:Oper} {a:Act} {K:Act→World→Prop} {Q:Exit→Act→World→Prop} {E:Prop} {W:World} {base:Nat} (t:Tier) (d:Tmp) (hd:o.dst=some d) (hgd:o.guard=none) (s x:Operand)
  (ho:o.op=.call { callee:=.builtin .append,args:=#[s,x],argTypes:=#[55,55] }) (v:Value) (n:Nat) (xs:List Value) (hs:a.eval s=v) (hown:W.ownsRow base 54 2 v n xs)
  (hx:a.eval x=.slice (some ⟨W.heap.size,0,none⟩) 1 1) (hn:n+1≤1000000) (hbase:base≤W.heap.size)
  (h:∀g cap w',w'.ownsRow base 54 2 (.slice (some ⟨g,0,none⟩) (n+1) cap) (n+1) (xs++tierC t)→W.grownBy w' v.ownBlock→K (a.put (some d) (.slice (some ⟨g,0,none⟩) (n+1) cap)) w') :
  if Region.wanted o (yielded ops a.tmps)=true then Oper.wp Tryz.prog o a (W.alloc (.cells (tierC t).toArray 54)) K Q else E:=by
 obtain ⟨i0,hi,hz0,hz1,hz2⟩:=info_parts info_tier7;refine step_append_lies _ hgd s x 55 ho base 54 i0 (.agg (tierC ⟨0,0⟩).toArray) 2 16 Tryz.underlying55 hi hz0 hz1 hz2 rfl (by decide) v n xs hs (hown.alloc _) ⟨W.heap.size,0,none⟩ 1 1 (tierC t) hx rfl (news_at W (tierC t) _) (by simp [tierC,Value.oneCell']) (by decide) (by unfold maxLen;omega) (by omega) (by simp;omega) _ rfl ?_;intro g cap w' k1 k2 _ _;rw [hd];exact h g cap w' k1 (grown_unalloc k2)
theorem tiers_len (ts:List Tok):∀(n:Nat) (s:St) (acc:List Tier),Toks ts→∀{r:List Tier×St},r=tiersS ts n s acc→r.1.length≤n+acc.length
 | 0,s,acc,_,r,h=>by rw [h];show acc.length≤_;omega
 | n+1,s,acc,hk,r,h=>by
   rw [h];unfold tiersS;split
   ·have:=tiers_len ts n (tierS ts s.next).2 (acc++[(tierS ts s.next).1]) hk rfl;simp only [List.length_append,List.length_singleton] at this;omega
   ·show acc.length≤_;omega
def iOf (W:World) (b:Nat):Nat:=match W.cell? ⟨b,1,none⟩ with
 | some (.int _ v)=>v.toNat
 | _=>0
theorem iOf_ps {w:World} {b tb cap:Nat} {ts:List Tok} {s:St} (h:Ps w b tb cap ts s):iOf w b=s.i:=by
 unfold iOf;rw [h.c1];rfl
end R7
end Go.Proofs.YtjgogpaedaffkaaGreat
