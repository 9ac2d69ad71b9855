/- Package tree, walked: rows that a call makes; Clone; a charge without its place. -/
import Derived.Test.YtofbobdhkbmbgaaGreatDoorJOwn2
import Derived.Lib.SliceRun
set_option maxRecDepth 100000
set_option maxHeartbeats 2000000
namespace Go.Proofs.YtofbobdhkbmbgaaGreatDoor
namespace Te
open Go.RowKit Go.Sort P Mm R6 Tl L06
def setAt {α:Type} (xs:List α):Nat→List α→List α
 | _,[]=>xs
 | o,v::r=>setAt (xs.set o v) (o+1) r
theorem setAt_mid {α:Type} : ∀(vs A B C:List α),B.length=vs.length→setAt (A++B++C) A.length vs=A++vs++C
 | [],A,B,C,h=>by
   obtain rfl:B=[]:=List.eq_nil_of_length_eq_zero h;rfl
 | v::r,A,[],C,h=>by cases h
 | v::r,A,b::B,C,h=>by
   have ih:=setAt_mid r (A++[v]) B C (by simpa using h);rw [setAt]
   have e:(A++b::B++C).set A.length v=A++[v]++B++C:=by
    rw [List.append_assoc,List.set_append_right _ _ (Nat.le_refl _),Nat.sub_self,List.cons_append,List.set_cons_zero];simp
   rw [e];have e2:(A++[v]).length=A.length+1:=by simp
   rw [e2] at ih;rw [ih];simp
theorem owns_setCells {e:TypeId} {base size n cap g:Nat} : ∀(vs:List Value) (o:Nat) (w:World) (xs:List Value),w.ownsRow base e size (.slice (some ⟨g,0,none⟩) n cap) n xs→
  (w.setCells g o vs).ownsRow base e size (.slice (some ⟨g,0,none⟩) n cap) n (setAt xs o vs)∧w.grownBy (w.setCells g o vs) (some g)
 | [],_,w,_,h=>⟨h,rfl,rfl,rfl,Nat.le_refl _,fun _ _ _=>rfl⟩
 | v::r,o,w,xs,h=>by
   obtain ⟨h1,h2⟩:=h.stored o v;obtain ⟨h3,h4⟩:=owns_setCells r (o+1) (w.setCell ⟨g,o,none⟩ v) (xs.set o v) h1;exact ⟨h3,⟨h4.os.trans h2.os,h4.tape.trans h2.tape,h4.output.trans h2.output,Nat.le_trans h2.size h4.size,fun k hk hne=>(h4.block k (Nat.lt_of_lt_of_le hk h2.size) hne).trans (h2.block k hk hne)⟩⟩
theorem there_own {w:World} {e:TypeId} {base size n cap g o k:Nat} {xs:List Value} (h:w.ownsRow base e size (.slice (some ⟨g,0,none⟩) n cap) n xs) (ho:o+k≤n*size):w.there g o k:=fun j hj=>by
 refine ⟨?_,h.frozenAt _⟩;rw [h.cellAt _ (by omega),List.getElem?_eq_getElem (by rw [h.1];omega)];rfl
theorem Below.setCells {B:Nat} {a:World} {b:Nat} (hb:B≤b):∀(vs:List Value) (o:Nat) (w:World),Below B a w→Below B a (w.setCells b o vs)
 | [],_,_,h=>h
 | v::r,o,_,h=>Below.setCells hb r (o+1) _ (h.setCell hb v)
theorem owns_setCells_below {base:Nat} {e:TypeId} {size:Nat} {v:Value} {n:Nat} {xs:List Value} {b:Nat} (hb:b<base):∀(vs:List Value) (o:Nat) (w:World),w.ownsRow base e size v n xs→(w.setCells b o vs).ownsRow base e size v n xs
 | [],_,_,h=>h
 | u::r,o,_,h=>owns_setCells_below hb r (o+1) _ (ownsRow_setCell_below h hb u)
theorem Below.setRow {w:World} {b:Nat} (vs:List Value) (o:Nat) (w':World) (h:Below w.heap.size w w') (hb:w.heap.size≤b):Below w.heap.size w (w'.setCells b o vs):=Below.setCells hb vs o w' h
theorem results_mid {P:Program} {fn:Func} {p:Tmp} {ty:TypeId} (h:fn.results = #[.cell p ty]) (tmps:Array Value) (w:World) (b:Nat) (cs:List Value) (d:TypeDesc)
  (hp:tmps.getD p undef=.pointer (some ⟨b,0,none⟩)) (hc:w.rangeAt b 0 cs) (hu:P.underlying ty=some d) (hd:d.isRow=true) (hi:(P.info? ty).map (·.size)=some cs.length) :
  (results fn tmps).run P w=.ok (.agg cs.toArray) w:=by
 have hp':tmps[p]?.getD undef=.pointer (some ⟨b,0,none⟩):=by simpa using hp
 simp [results,h,hp',asAddr,run_loadVar_mid w b 0 ty cs d hc hu hd hi]
theorem box_range {W:World} {b:Nat} {cs:List Value} (h:Box W b cs):W.rangeAt b 0 cs:=fun j v hv=>by rw [Nat.zero_add];exact h.cell j v hv
theorem box_there {W:World} {b:Nat} {cs:List Value} (h:Box W b cs) {n:Nat} (hn:n=cs.length):W.there b 0 n:=fun j hj=>by
 subst hn;rw [Nat.zero_add];exact ⟨by rw [h.cell j _ (List.getElem?_eq_getElem hj)];rfl,h.free j⟩
theorem flat_split {α β:Type} {cells:α→List β} {n:Nat} (hn:∀x,(cells x).length=n):∀(xs:List α) (j:Nat) (u:β),(xs.flatMap cells)[j]?=some u→∃q x i,xs[q]?=some x∧(cells x)[i]?=some u∧j=q*n+i
 | [],j,u,h=>by simp at h
 | a::r,j,u,h=>by
   rw [List.flatMap_cons] at h;by_cases hj:j<n
   ·rw [List.getElem?_append_left (by rw [hn];exact hj)] at h;exact ⟨0,a,j,rfl,h,by omega⟩
   ·rw [List.getElem?_append_right (by rw [hn];omega),hn] at h;obtain ⟨q,x,i,h1,h2,h3⟩:=flat_split hn r (j-n) u h;refine ⟨q+1,x,i,by simpa using h1,h2,?_⟩;rw [Nat.succ_mul];omega
theorem row_cells {α:Type} {n:Nat} {cells:α→List Value} {ok:α→Prop} {hn:∀x,(cells x).length=n} {w:World} {b o len cap:Nat} {xs:List α} (h:Row (leaf n cells ok hn) w (some ⟨b,o,none⟩) len cap xs) :
  ∀j u,(xs.flatMap cells)[j]?=some u→w.cell? ((⟨b,o,none⟩:Addr).add j)=some u:=fun j u hj=>by
 obtain ⟨q,x,i,h1,h2,h3⟩:=flat_split hn xs j u hj;obtain ⟨b',o',cs,e,_,⟨e2,_⟩,h4⟩:=h.at h1;simp only [Option.some.injEq,Addr.mk.injEq,and_true] at e;obtain ⟨rfl,rfl⟩:=e;subst e2;have:=h4 i u h2;rw [add_plain,h3,←Nat.add_assoc];exact this
theorem one_tier:∀(ts:List Tier),∀u∈ts.flatMap tierC,u.oneCell'=true:=fun ts u hu=>by
 obtain ⟨t,_,h⟩:=List.mem_flatMap.1 hu;simp only [tierC,List.mem_cons,List.not_mem_nil,or_false] at h;rcases h with rfl|rfl<;>rfl
theorem one_adj:∀(ts:List Adj),∀u∈ts.flatMap adjC,u.oneCell'=true:=fun ts u hu=>by
 obtain ⟨t,_,h⟩:=List.mem_flatMap.1 hu;simp only [adjC,List.mem_cons,List.not_mem_nil,or_false] at h;rcases h with rfl|rfl|rfl<;>rfl
theorem cloneT_any (ts:List Tier) (ta:Option Addr) (tc:Nat) (w:World) (h:Row tTier w ta ts.length tc ts) (hl:ts.length≤100000) :
  Calls Tryz.prog 122 #[.slice ta ts.length tc] w fun e w'=>∃v,e=.returned v∧w'.ownsRow w.heap.size 119 2 v ts.length (ts.flatMap tierC)∧Below w.heap.size w w':=by
 have q:∀(w:World) (a:Option Addr) (n c n' c':Nat),(binOp .eql 54 (.slice a n c) (.slice none n' c')).run Tryz.prog w=.ok (.bool a.isNone) w:=fun w a n c n' c'=>Lib.run_eql_slice_nil w _ _ a n c n' c' Tryz.underlying54;cases ta with
 | none=>
   obtain rfl:ts=[]:=by
    cases ts with
    | nil=>rfl
    | cons a r=>obtain ⟨b,o,e,_⟩:=h.lie (by simp);cases e
   clear h hl;go_enter Tryz.func122,Tryz.ntmps122
   go_wp2;go_ret;exact ⟨_,rfl,World.ownsRow_nil ..,Below.refl _ _⟩
 | some a=>
   obtain ⟨ti,hi,hz0,hz1,hz2⟩:=info_parts info_tier
   have hnews:∀(x:Obj) (j:Nat) (u:Value),(ts.flatMap tierC)[j]?=some u→(w.alloc x).cell? (a.add j)=some u:=fun x j u hj=>by
    obtain ⟨b,o,e,hlt,_⟩:=h.lie (fun e=>by rw [e] at hj;simp at hj);obtain rfl:=Option.some.inj e;have:=row_cells (h.alloc x) j u hj;exact this
   have hfl:(ts.flatMap tierC).length=ts.length*2:=flat_len (f:=tierC) (n:=2) (fun _=>rfl) _;have H:=hid hnews;have HF:=hid hfl;clear h hnews hfl;go_enter Tryz.func122,Tryz.ntmps122
   go_wp2_with (at_builtin;refine wpList_append_own _ rfl _ _ 54 rfl w.heap.size 119 ti (.agg (tierC ⟨0,0⟩).toArray) 2 16 Tryz.underlying54 hi hz0 hz1 hz2 rfl (by decide) _ _ _ rfl (World.ownsRow_made w #[] 0 (Nat.le_refl _) (Nat.zero_le _) rfl) a ts.length tc (ts.flatMap tierC) rfl ?c1 ?c2 ?c3 ?c4 ?c5 ?c6 ?_)
   case c1=>exact HF.out
   case c2=>exact H.out _
   case c3=>exact one_tier ts
   case c4=>unfold maxLen;omega
   case c5=>omega
   case c6=>simp
   intro v' w1 hown hgrow hnil;clear hnil;have hb:Below w.heap.size w w1:=((Below.refl _ w).alloc (Nat.le_refl _) _).grown hgrow (by simp) (by intro k hk;simp [Value.ownBlock] at hk;omega);have ho:w1.ownsRow w.heap.size 119 2 v' ts.length (ts.flatMap tierC):=by simpa using hown
   clear hown hgrow;go_wp2;go_ret;exact ⟨v',rfl,ho,hb⟩
theorem cloneA_any (ts:List Adj) (ta:Option Addr) (tc:Nat) (w:World) (h:Row tAdj w ta ts.length tc ts) (hl:ts.length≤100000) :
  Calls Tryz.prog 123 #[.slice ta ts.length tc] w fun e w'=>∃v,e=.returned v∧w'.ownsRow w.heap.size 121 3 v ts.length (ts.flatMap adjC)∧Below w.heap.size w w':=by
 have q:∀(w:World) (a:Option Addr) (n c n' c':Nat),(binOp .eql 55 (.slice a n c) (.slice none n' c')).run Tryz.prog w=.ok (.bool a.isNone) w:=fun w a n c n' c'=>Lib.run_eql_slice_nil w _ _ a n c n' c' Tryz.underlying55;cases ta with
 | none=>
   obtain rfl:ts=[]:=by
    cases ts with
    | nil=>rfl
    | cons a r=>obtain ⟨b,o,e,_⟩:=h.lie (by simp);cases e
   clear h hl;go_enter Tryz.func123,Tryz.ntmps123
   go_wp2;go_ret;exact ⟨_,rfl,World.ownsRow_nil ..,Below.refl _ _⟩
 | some a=>
   obtain ⟨ti,hi,hz0,hz1,hz2⟩:=info_parts info_adj
   have hnews:∀(x:Obj) (j:Nat) (u:Value),(ts.flatMap adjC)[j]?=some u→(w.alloc x).cell? (a.add j)=some u:=fun x j u hj=>by
    obtain ⟨b,o,e,hlt,_⟩:=h.lie (fun e=>by rw [e] at hj;simp at hj);obtain rfl:=Option.some.inj e;have:=row_cells (h.alloc x) j u hj;exact this
   have hfl:(ts.flatMap adjC).length=ts.length*3:=flat_len (f:=adjC) (n:=3) (fun _=>rfl) _;have H:=hid hnews;have HF:=hid hfl;clear h hnews hfl;go_enter Tryz.func123,Tryz.ntmps123
   go_wp2_with (at_builtin;refine wpList_append_own _ rfl _ _ 55 rfl w.heap.size 121 ti (.agg (adjC ⟨0,0,0⟩).toArray) 3 24 Tryz.underlying55 hi hz0 hz1 hz2 rfl (by decide) _ _ _ rfl (World.ownsRow_made w #[] 0 (Nat.le_refl _) (Nat.zero_le _) rfl) a ts.length tc (ts.flatMap adjC) rfl ?c1 ?c2 ?c3 ?c4 ?c5 ?c6 ?_)
   case c1=>exact HF.out
   case c2=>exact H.out _
   case c3=>exact one_adj ts
   case c4=>unfold maxLen;omega
   case c5=>omega
   case c6=>simp
   intro v' w1 hown hgrow hnil;clear hnil;have hb:Below w.heap.size w w1:=((Below.refl _ w).alloc (Nat.le_refl _) _).grown hgrow (by simp) (by intro k hk;simp [Value.ownBlock] at hk;omega);have ho:w1.ownsRow w.heap.size 121 3 v' ts.length (ts.flatMap adjC):=by simpa using hown
   clear hown hgrow;go_wp2;go_ret;exact ⟨v',rfl,ho,hb⟩
end Te
namespace P
open Go.RowKit
structure Lies3 (w:World) (k:Nat) (a b c:Value):Prop where
 lt:k<w.heap.size
 c0:w.cell? ⟨k,0,none⟩=some a
 c1:w.cell? ⟨k,1,none⟩=some b
 c2:w.cell? ⟨k,2,none⟩=some c
 f0:w.frozen? ⟨k,0,none⟩=false
 f1:w.frozen? ⟨k,1,none⟩=false
 f2:w.frozen? ⟨k,2,none⟩=false
theorem Lies3.on {w W:World} {k:Nat} {a b c:Value} (h:Lies3 w k a b c) (hb:Below w.heap.size w W):Lies3 W k a b c:=by
 obtain ⟨h1,h2,h3,h4,h5,h6,h7⟩:=h
 exact ⟨Nat.lt_of_lt_of_le h1 hb.size,by rw [hb.cell h1];exact h2,by rw [hb.cell h1];exact h3,by rw [hb.cell h1];exact h4,
  by rw [hb.frozen h1];exact h5,by rw [hb.frozen h1];exact h6,by rw [hb.frozen h1];exact h7⟩
theorem Lies3.new {w:World} {k:Nat} {a b c:Value} {t:TypeId} (hk:w.heap.size=k):Lies3 (w.alloc (.cells #[a,b,c] t)) k a b c:=by
 subst hk;refine ⟨by simp,?_,?_,?_,?_,?_,?_⟩<;>go_simp
theorem Lies3.later {w w2:World} {k:Nat} {a b c:Value} {t:TypeId} (hb:Below (w.alloc (.cells #[a,b,c] t)).heap.size (w.alloc (.cells #[a,b,c] t)) w2) (hk:w.heap.size=k):Lies3 w2 k a b c:=(Lies3.new hk).on hb
theorem Lies3.alloc {w:World} {k:Nat} {a b c:Value} (h:Lies3 w k a b c) (o:Obj):Lies3 (w.alloc o) k a b c:=h.on ((Below.refl _ _).alloc (Nat.le_refl _) _)
theorem Lies3.set0 {w:World} {k:Nat} {a b c:Value} (h:Lies3 w k a b c) (v:Value):Lies3 (w.setCell ⟨k,0,none⟩ v) k v b c:=by
 obtain ⟨h1,h2,h3,h4,h5,h6,h7⟩:=h;refine ⟨?_,?_,?_,?_,?_,?_,?_⟩<;>go_simp
theorem Lies3.set1 {w:World} {k:Nat} {a b c:Value} (h:Lies3 w k a b c) (v:Value):Lies3 (w.setCell ⟨k,1,none⟩ v) k a v c:=by
 obtain ⟨h1,h2,h3,h4,h5,h6,h7⟩:=h;refine ⟨?_,?_,?_,?_,?_,?_,?_⟩<;>go_simp
theorem Lies3.set2 {w:World} {k:Nat} {a b c:Value} (h:Lies3 w k a b c) (v:Value):Lies3 (w.setCell ⟨k,2,none⟩ v) k a b v:=by
 obtain ⟨h1,h2,h3,h4,h5,h6,h7⟩:=h;refine ⟨?_,?_,?_,?_,?_,?_,?_⟩<;>go_simp
theorem Lies3.other {w:World} {k:Nat} {a b c:Value} (h:Lies3 w k a b c) {j o:Nat} (hj:k≠j) (v:Value):Lies3 (w.setCell ⟨j,o,none⟩ v) k a b c:=by
 obtain ⟨h1,h2,h3,h4,h5,h6,h7⟩:=h;have e:=Below.heap_setCell w ⟨j,o,none⟩ v k hj;refine ⟨?_,?_,?_,?_,?_,?_,?_⟩
 ·simpa using h1
 ·rw [World.cell?_of_block (w:=w) e];exact h2
 ·rw [World.cell?_of_block (w:=w) e];exact h3
 ·rw [World.cell?_of_block (w:=w) e];exact h4
 ·rw [World.frozen?_of_block (w:=w) e];exact h5
 ·rw [World.frozen?_of_block (w:=w) e];exact h6
 ·rw [World.frozen?_of_block (w:=w) e];exact h7
end P
end Go.Proofs.YtofbobdhkbmbgaaGreatDoor
