/- Package tree, walked: rows without places. -/
import Derived.Test.YtofbobdhkbmbgaaGreatDoorJTr9
import Derived.Sort.OwnSorted
set_option maxRecDepth 100000
set_option maxHeartbeats 16000000
namespace Go.Proofs.YtofbobdhkbmbgaaGreatDoor
namespace Te
open Go.RowKit Go.Sort P Mm R6 Tl L06
theorem own_push {α:Type} {C:α→List Value} {size:Nat} (hn:∀x,(C x).length=size) {w:World} {base:Nat} {e:TypeId} {n cap g:Nat} {zs:List α} {Z:List Value}
  (h:w.ownsRow base e size (.slice (some ⟨g,0,none⟩) n cap) n (zs.flatMap C++Z)) (hi:zs.length<n) (y:α) :
  ∃Z',(w.setCells g (zs.length*size) (C y)).ownsRow base e size (.slice (some ⟨g,0,none⟩) n cap) n ((zs++[y]).flatMap C++Z')∧w.grownBy (w.setCells g (zs.length*size) (C y)) (some g):=by
 obtain ⟨h1,h2⟩:=owns_setCells (C y) (zs.length*size) w _ h;have hl:=h.1;have hA:(zs.flatMap C).length=zs.length*size:=flat_len (f:=C) (n:=size) hn _;rw [List.length_append,hA] at hl;have hm:(zs.length+1)*size≤n*size:=Nat.mul_le_mul_right _ hi;rw [Nat.succ_mul] at hm;refine ⟨Z.drop size,?_,h2⟩
 have e1:setAt (zs.flatMap C++Z) (zs.length*size) (C y)=(zs++[y]).flatMap C++Z.drop size:=by
  have:=setAt_mid (C y) (zs.flatMap C) (Z.take size) (Z.drop size) (by rw [List.length_take,hn];omega);rw [List.append_assoc,List.take_append_drop,hA] at this;rw [this,List.flatMap_append];simp
 rw [←e1];exact h1
theorem own_full {α:Type} {C:α→List Value} {size:Nat} (hn:∀x,(C x).length=size) {w:World} {base:Nat} {e:TypeId} {n cap g:Nat} {zs:List α} {Z:List Value}
  (h:w.ownsRow base e size (.slice (some ⟨g,0,none⟩) n cap) n (zs.flatMap C++Z)) (hi:zs.length=n):w.ownsRow base e size (.slice (some ⟨g,0,none⟩) n cap) n (zs.flatMap C):=by
 have hl:=h.1;have hA:(zs.flatMap C).length=zs.length*size:=flat_len (f:=C) (n:=size) hn _;rw [List.length_append,hA,hi] at hl;obtain rfl:Z=[]:=List.eq_nil_of_length_eq_zero (by omega);simpa using h
theorem there_push {α:Type} {C:α→List Value} {size:Nat} {w:World} {base:Nat} {e:TypeId} {n cap g:Nat} {zs:List α} {Z:List Value}
  (h:w.ownsRow base e size (.slice (some ⟨g,0,none⟩) n cap) n (zs.flatMap C++Z)) (hi:zs.length<n):w.there g (zs.length*size) size:=by
 refine there_own h ?_;have hm:(zs.length+1)*size≤n*size:=Nat.mul_le_mul_right _ hi;rw [Nat.succ_mul] at hm;exact hm
theorem turnedM_any (xs:List Meter) (ma:Option Addr) (mc:Nat) (w:World) (hx:Row tMeter w ma xs.length mc xs) (hl:xs.length≤100000) :
  Calls Tryz.prog 72 #[.slice ma xs.length mc,.func (.func 73) #[] #[]] w fun e w'=>∃v,e=.returned v∧w'.ownsRow w.heap.size 49 5 v xs.length ((xs.map nM).flatMap meterC)∧Below w.heap.size w w':=by
 obtain ⟨n,hn⟩:∃n,n=xs.length:=⟨_,rfl⟩;rw [←hn] at hx hl ⊢;have HX:=hid hx;have HN:=hid hn;clear hx hn;obtain ⟨ti,hi,hz0,hz1,hz2⟩:=info_parts info_meter;go_enter Tryz.func72,Tryz.ntmps72
 go_wp2_with (at_make;refine wpList_make_full _ rfl _ _ 23 rfl w.heap.size 49 ti (.agg (meterC m0).toArray) 5 Tryz.underlying23 hi hz0 hz1 _ _ _ _ n rfl rfl rfl rfl ?b2 ?b3 ?b4 ?_)
 case b2=>rw [hz2];omega
 case b3=>unfold maxLen;omega
 case b4=>exact Nat.le_refl _
 intro w1 hown hgrow;have hb1:Below w.heap.size w w1:=(Below.refl _ w).grown hgrow (Nat.le_refl _) (by intro k hk;cases hk);obtain ⟨g,hg⟩:∃g,g=w.heap.size:=⟨_,rfl⟩;have HO:Hid (∃Z,w1.ownsRow g 49 5 (.slice (some ⟨g,0,none⟩) n n) n (((xs.take 0).map nM).flatMap meterC++Z)):=hid ⟨_,by rw [hg];simpa using hown⟩;rw [←hg];have HG:=hid hg;have HB1:=hid hb1;clear hown hgrow hg hb1 hi hz0 hz1 hz2;go_wp2;go_loopw [13] (fun i wr=>∃i':Int,i=.int .i64 i'∧0≤i'∧i'≤n∧Hid (∃Z,wr.ownsRow g 49 5 (.slice (some ⟨g,0,none⟩) n n) n (((xs.take i'.toNat).map nM).flatMap meterC++Z))∧Hid (Below w.heap.size w wr)) (fun i _=>((n:Int)-intOf i).toNat)
 case atStart=>exact ⟨0,rfl,by omega,by omega,HO,HB1⟩
 case round=>
  obtain ⟨i',rfl,i0,i1,ho,hb⟩:=hrel;clear HO HB1;by_cases hlt:i'<n
  ·obtain ⟨x,tx⟩:∃x,xs[i'.toNat]?=some x:=⟨_,List.getElem?_eq_getElem (by have:=HN.out;omega)⟩;obtain ⟨bx,ox,e,lbx,x0,x1,x2,x3,x4,_⟩:=meter_at (HX.out.on hb.out) tx;subst e;have cS:=fun W=>plainMeter_any x W;unfold meterC at cS;have TX:=hid tx;have LN:Hid (((xs.take i'.toNat).map nM).length=i'.toNat):=hid (by have:=HN.out;simp;omega);clear tx;go_wp2_with fail
   refine (cS _).mono ?_;rintro e w2 ⟨rfl,b2⟩;have b3:=bel_on (bel_alloc wr _) b2;obtain ⟨Z,ho⟩:=ho.out;have o2:=owns_on ho b3;have th:=there_push o2 (by rw [LN.out];omega);rw [LN.out] at th;have TH:=hid th;have O2:=hid o2;have HB:=hid (bel_on hb.out b3);clear cS b2 b3 ho o2 th x0 x1 x2 x3 x4 hb lbx
   go_wp2_with (first
    | (with_reducible refine wpList_store_mid (op:=Oper.mk none (Op.store 49 (Operand.tmp 23) (Operand.tmp 22)) _ _ _ _) ?_ 49 (.tmp 23) (.tmp 22) ?_ g (i'.toNat*5) #[x.name,x.unit,x.max,.int .i64 0,.int .i64 0] ?_ ?_ ?_ ?_ ?_ ?_;rfl;rfl;go_simp;go_simp;(simpa using TH.out);kernel_rfl;(simp [Value.oneCell']))
    | fail)
   have key:∃Z,(w2.setCells g (i'.toNat*5) [x.name,x.unit,x.max,.int .i64 0,.int .i64 0]).ownsRow g 49 5 (.slice (some ⟨g,0,none⟩) n n) n (((xs.take (i'+1).toNat).map nM).flatMap meterC++Z):=by
    obtain ⟨Z',k1,_⟩:=own_push (C:=meterC) (size:=5) (fun _=>rfl) O2.out (by rw [LN.out];omega) (nM x);rw [LN.out] at k1;refine ⟨Z',?_⟩;rw [show (i'+1).toNat=i'.toNat+1 by omega,List.take_add_one,TX.out,List.map_append];exact k1
   have HB2:Hid (Below w.heap.size w (w2.setCells g (i'.toNat*5) [x.name,x.unit,x.max,.int .i64 0,.int .i64 0])):=hid (Below.setRow _ _ _ HB.out (by rw [HG.out];exact Nat.le_refl _));have KEY:=hid key;clear key;go_wp2;go_roundw
   case rel=>exact ⟨i'+1,rfl,by omega,by omega,KEY,HB2⟩
   case measure=>simp [intOf];omega
  ·obtain rfl:i'=n:=by omega
   go_wp2;go_ret;refine ⟨_,rfl,?_,hb.out⟩;obtain ⟨Z,ho⟩:=ho.out;have hn:=HN.out;have:=own_full (C:=meterC) (size:=5) (fun _=>rfl) ho (by rw [List.length_map,List.length_take];omega);rw [←HG.out];rw [List.take_of_length_le (by omega)] at this;exact this
theorem turnedF_any (xs:List Fee) (ma:Option Addr) (mc:Nat) (w:World) (hx:Row tFee w ma xs.length mc xs) (hl:xs.length≤100000) :
  Calls Tryz.prog 74 #[.slice ma xs.length mc,.func (.func 75) #[] #[]] w fun e w'=>∃v,e=.returned v∧w'.ownsRow w.heap.size 53 10 v xs.length ((xs.map nF).flatMap feeC)∧Below w.heap.size w w':=by
 obtain ⟨n,hn⟩:∃n,n=xs.length:=⟨_,rfl⟩;rw [←hn] at hx hl ⊢;have HX:=hid hx;have HN:=hid hn;clear hx hn;obtain ⟨ti,hi,hz0,hz1,hz2⟩:=info_parts info_fee;go_enter Tryz.func74,Tryz.ntmps74
 go_wp2_with (at_make;refine wpList_make_full _ rfl _ _ 38 rfl w.heap.size 53 ti (.agg (feeC e0).toArray) 10 Tryz.underlying38 hi hz0 hz1 _ _ _ _ n rfl rfl rfl rfl ?b2 ?b3 ?b4 ?_)
 case b2=>rw [hz2];omega
 case b3=>unfold maxLen;omega
 case b4=>exact Nat.le_refl _
 intro w1 hown hgrow;have hb1:Below w.heap.size w w1:=(Below.refl _ w).grown hgrow (Nat.le_refl _) (by intro k hk;cases hk);obtain ⟨g,hg⟩:∃g,g=w.heap.size:=⟨_,rfl⟩;have HO:Hid (∃Z,w1.ownsRow g 53 10 (.slice (some ⟨g,0,none⟩) n n) n (((xs.take 0).map nF).flatMap feeC++Z)):=hid ⟨_,by rw [hg];simpa using hown⟩;rw [←hg];have HG:=hid hg;have HB1:=hid hb1;clear hown hgrow hg hb1 hi hz0 hz1 hz2;go_wp2;go_loopw [13] (fun i wr=>∃i':Int,i=.int .i64 i'∧0≤i'∧i'≤n∧Hid (∃Z,wr.ownsRow g 53 10 (.slice (some ⟨g,0,none⟩) n n) n (((xs.take i'.toNat).map nF).flatMap feeC++Z))∧Hid (Below w.heap.size w wr)) (fun i _=>((n:Int)-intOf i).toNat)
 case atStart=>exact ⟨0,rfl,by omega,by omega,HO,HB1⟩
 case round=>
  obtain ⟨i',rfl,i0,i1,ho,hb⟩:=hrel;clear HO HB1;by_cases hlt:i'<n
  ·obtain ⟨x,tx⟩:∃x,xs[i'.toNat]?=some x:=⟨_,List.getElem?_eq_getElem (by have:=HN.out;omega)⟩;obtain ⟨bx,ox,e,lbx,x0,x1,x2,x3,x4,x5,x6,x7,x8,x9,_⟩:=fee_at (HX.out.on hb.out) tx;subst e;have cS:=fun W=>plainFee_any x W;unfold feeC at cS;have TX:=hid tx;have LN:Hid (((xs.take i'.toNat).map nF).length=i'.toNat):=hid (by have:=HN.out;simp;omega);clear tx;go_wp2_with fail
   refine (cS _).mono ?_;rintro e w2 ⟨rfl,b2⟩;have b3:=bel_on (bel_alloc wr _) b2;obtain ⟨Z,ho⟩:=ho.out;have o2:=owns_on ho b3;have th:=there_push o2 (by rw [LN.out];omega);rw [LN.out] at th;have TH:=hid th;have O2:=hid o2;have HB:=hid (bel_on hb.out b3);clear cS b2 b3 ho o2 th x0 x1 x2 x3 x4 x5 x6 x7 x8 x9 hb lbx
   go_wp2_with (first
    | (with_reducible refine wpList_store_mid (op:=Oper.mk none (Op.store 53 (Operand.tmp 23) (Operand.tmp 22)) _ _ _ _) ?_ 53 (.tmp 23) (.tmp 22) ?_ g (i'.toNat*10) #[x.amount,x.win.has,x.win.a.y,x.win.a.m,x.win.a.d,x.win.b.y,x.win.b.m,x.win.b.d,.int .i64 0,.int .i64 0] ?_ ?_ ?_ ?_ ?_ ?_;rfl;rfl;go_simp;go_simp;(simpa using TH.out);kernel_rfl;(simp [Value.oneCell']))
    | fail)
   have key:∃Z,(w2.setCells g (i'.toNat*10) [x.amount,x.win.has,x.win.a.y,x.win.a.m,x.win.a.d,x.win.b.y,x.win.b.m,x.win.b.d,.int .i64 0,.int .i64 0]).ownsRow g 53 10 (.slice (some ⟨g,0,none⟩) n n) n (((xs.take (i'+1).toNat).map nF).flatMap feeC++Z):=by
    obtain ⟨Z',k1,_⟩:=own_push (C:=feeC) (size:=10) (fun _=>rfl) O2.out (by rw [LN.out];omega) (nF x);rw [LN.out] at k1;refine ⟨Z',?_⟩;rw [show (i'+1).toNat=i'.toNat+1 by omega,List.take_add_one,TX.out,List.map_append];exact k1
   have HB2:Hid (Below w.heap.size w (w2.setCells g (i'.toNat*10) [x.amount,x.win.has,x.win.a.y,x.win.a.m,x.win.a.d,x.win.b.y,x.win.b.m,x.win.b.d,.int .i64 0,.int .i64 0])):=hid (Below.setRow _ _ _ HB.out (by rw [HG.out];exact Nat.le_refl _));have KEY:=hid key;clear key;go_wp2;go_roundw
   case rel=>exact ⟨i'+1,rfl,by omega,by omega,KEY,HB2⟩
   case measure=>simp [intOf];omega
  ·obtain rfl:i'=n:=by omega
   go_wp2;go_ret;refine ⟨_,rfl,?_,hb.out⟩;obtain ⟨Z,ho⟩:=ho.out;have hn:=HN.out;have:=own_full (C:=feeC) (size:=10) (fun _=>rfl) ho (by rw [List.length_map,List.length_take];omega);rw [←HG.out];rw [List.take_of_length_le (by omega)] at this;exact this
def rhoC (g n:Nat) (zs:List (Charge×Hd)) (Z:List Value):Slot→Option R
 | .c=>some ⟨57,16,some ⟨g,0,none⟩,n,n,zs.flatMap zC++Z⟩
 | .t i=>(zs[i]?).map fun x=>⟨119,2,x.2.ta,x.1.tiers.length,x.2.tc,x.1.tiers.flatMap tierC⟩
 | .a i=>(zs[i]?).map fun x=>⟨121,3,x.2.aa,x.1.adjusts.length,x.2.ac,x.1.adjusts.flatMap adjC⟩
 | _=>none
theorem only_c {g n:Nat} {Z:List Value} {s:Slot} {r:R} (h:rhoC g n [] Z s=some r):s=.c:=by
 cases s with
 | c=>rfl
 | m=>cases h
 | f=>cases h
 | t i=>simp [rhoC] at h
 | a i=>simp [rhoC] at h
theorem push_get {α:Type} {zs:List α} {y:α} {i:Nat} {x:α} (h:(zs++[y])[i]?=some x):zs[i]?=some x∨(i=zs.length∧x=y):=by
 by_cases hi:i<zs.length
 ·rw [List.getElem?_append_left hi] at h;exact .inl h
 ·rw [List.getElem?_append_right (by omega)] at h;by_cases e:i=zs.length
  ·subst e;simp at h;exact .inr ⟨rfl,h.symm⟩
  ·rw [List.getElem?_eq_none (by simp;omega)] at h;cases h
theorem slot_cases {g n:Nat} {zs:List (Charge×Hd)} {Z Z':List Value} {c:Charge} {hd:Hd} {s:Slot} {r:R} (h:rhoC g n (zs++[(c,hd)]) Z' s=some r) :
  (∃r0,rhoC g n zs Z s=some r0∧r0.v=r.v∧(s≠.c→r0=r))∨
  (s=.t zs.length∧r=⟨119,2,hd.ta,c.tiers.length,hd.tc,c.tiers.flatMap tierC⟩)∨(s=.a zs.length∧r=⟨121,3,hd.aa,c.adjusts.length,hd.ac,c.adjusts.flatMap adjC⟩):=by
 cases s with
 | m=>cases h
 | f=>cases h
 | c=>
   obtain rfl:=(Option.some.inj h).symm;exact .inl ⟨_,rfl,rfl,fun k=>absurd rfl k⟩
 | t i=>
   obtain ⟨x,hx,rfl⟩:=Option.map_eq_some_iff.1 h;rcases push_get hx with k|⟨rfl,rfl⟩
   ·exact .inl ⟨_,by show Option.map _ (zs[i]?)=_;rw [k];rfl,rfl,fun _=>rfl⟩
   ·exact .inr (.inl ⟨rfl,rfl⟩)
 | a i=>
   obtain ⟨x,hx,rfl⟩:=Option.map_eq_some_iff.1 h;rcases push_get hx with k|⟨rfl,rfl⟩
   ·exact .inl ⟨_,by show Option.map _ (zs[i]?)=_;rw [k];rfl,rfl,fun _=>rfl⟩
   ·exact .inr (.inr ⟨rfl,rfl⟩)
theorem owns_step {w w2:World} {base g n S:Nat} {zs:List (Charge×Hd)} {Z:List Value} {c:Charge} {hd:Hd} (h:Owns w base (rhoC g n zs Z)) (hb:Below w.heap.size w w2) (hS:w.heap.size≤S) (hn:zs.length<n)
  (ot:w2.ownsRow S 119 2 (.slice hd.ta c.tiers.length hd.tc) c.tiers.length (c.tiers.flatMap tierC)) (oa:w2.ownsRow S 121 3 (.slice hd.aa c.adjusts.length hd.ac) c.adjusts.length (c.adjusts.flatMap adjC))
  (ap:∀k,(Value.slice hd.ta c.tiers.length hd.tc).ownBlock=some k→(Value.slice hd.aa c.adjusts.length hd.ac).ownBlock≠some k) :
  ∃Z',Owns (w2.setCells g (zs.length*16) (zC (c,hd))) base (rhoC g n (zs++[(c,hd)]) Z'):=by
 have h2:=h.on hb;have oc:=h2.own .c _ rfl;obtain ⟨gb,gl⟩:=(h.own .c _ rfl).lt g rfl;obtain ⟨Z',k1,kg⟩:=own_push (C:=zC) (size:=16) zC_len oc hn (c,hd);have oth:=h2.others (s:=.c) rfl kg;have far:∀(r:R) (k:Nat) (s:Slot),rhoC g n zs Z s=some r→r.v.ownBlock=some k→k<S:=fun r k s hs hk=>Nat.lt_of_lt_of_le ((h.own s r hs).lt k hk).2 hS;refine ⟨Z',⟨fun s r hs=>?_,fun s t r r' k hs ht hk hk'=>?_⟩⟩
 ·rcases slot_cases (Z:=Z) hs with ⟨r0,e0,e1,e2⟩|⟨rfl,rfl⟩|⟨rfl,rfl⟩
  ·by_cases hc:s=.c
   ·subst hc;obtain rfl:=(Option.some.inj hs).symm;exact k1
   ·obtain rfl:=e2 hc;exact oth s r0 hc e0
  ·refine (ot.kept kg ?_).mono (by omega);cases hob:(Value.slice hd.ta c.tiers.length hd.tc).ownBlock with
   | none=>exact .inl rfl
   | some k=>
     refine .inr (fun e=>?_);have:=(ot.lt k hob).1;have:=Option.some.inj e;omega
  ·refine (oa.kept kg ?_).mono (by omega);cases hob:(Value.slice hd.aa c.adjusts.length hd.ac).ownBlock with
   | none=>exact .inl rfl
   | some k=>
     refine .inr (fun e=>?_);have:=(oa.lt k hob).1;have:=Option.some.inj e;omega
 ·rcases slot_cases (Z:=Z) hs with ⟨r0,e0,e1,_⟩|⟨rfl,rfl⟩|⟨rfl,rfl⟩<;>rcases slot_cases (Z:=Z) ht with ⟨r1,f0,f1,_⟩|⟨rfl,rfl⟩|⟨rfl,rfl⟩
  ·exact h.apart s t r0 r1 k e0 f0 (by rw [e1];exact hk) (by rw [f1];exact hk')
  ·have:=far r0 k s e0 (by rw [e1];exact hk);have:=(ot.lt k hk').1;omega
  ·have:=far r0 k s e0 (by rw [e1];exact hk);have:=(oa.lt k hk').1;omega
  ·have:=far r1 k t f0 (by rw [f1];exact hk');have:=(ot.lt k hk).1;omega
  ·rfl
  ·exact absurd hk' (ap k hk)
  ·have:=far r1 k t f0 (by rw [f1];exact hk');have:=(oa.lt k hk).1;omega
  ·exact absurd hk (ap k hk')
  ·rfl
theorem turnedC_any (xs:List Charge) (ma:Option Addr) (mc:Nat) (w:World) (hx:Row tCharge w ma xs.length mc xs) (hl:xs.length≤100000) (hq:∀c∈xs,c.tiers.length≤100000∧c.adjusts.length≤100000) :
  Calls Tryz.prog 76 #[.slice ma xs.length mc,.func (.func 77) #[] #[]] w fun e w'=>∃zs,e=.returned (.slice (some ⟨w.heap.size,0,none⟩) xs.length xs.length)∧zs.map Prod.fst=xs.map nC∧Owns w' w.heap.size (rhoC w.heap.size xs.length zs [])∧Below w.heap.size w w':=by
 obtain ⟨n,hn⟩:∃n,n=xs.length:=⟨_,rfl⟩;rw [←hn] at hx hl ⊢;have HX:=hid hx;have HN:=hid hn;have HQ:=hid hq;clear hx hn hq;obtain ⟨ti,hi,hz0,hz1,hz2⟩:=info_parts info_charge;go_enter Tryz.func76,Tryz.ntmps76
 go_wp2_with (at_make;refine wpList_make_full _ rfl _ _ 39 rfl w.heap.size 57 ti (.agg (chargeC k0 none 0 none 0).toArray) 16 Tryz.underlying39 hi hz0 hz1 _ _ _ _ n rfl rfl rfl rfl ?b2 ?b3 ?b4 ?_)
 case b2=>rw [hz2];omega
 case b3=>unfold maxLen;omega
 case b4=>exact Nat.le_refl _
 intro w1 hown hgrow;have hb1:Below w.heap.size w w1:=(Below.refl _ w).grown hgrow (Nat.le_refl _) (by intro k hk;cases hk);obtain ⟨g,hg⟩:∃g,g=w.heap.size:=⟨_,rfl⟩
 have HO:Hid (∃zs Z,zs.map Prod.fst=(xs.take 0).map nC∧Owns w1 g (rhoC g n zs Z)):=hid (by
  refine ⟨[],(madeCells (chargeC k0 none 0 none 0).toArray (n*16)).toList,rfl,⟨fun s r hs=>?_,fun s t r r' k hs ht _ _=>?_⟩⟩
  ·cases s with
   | c=>
     obtain rfl:=(Option.some.inj hs).symm;rw [hg];exact hown
   | m=>cases hs
   | f=>cases hs
   | t i=>simp [rhoC] at hs
   | a i=>simp [rhoC] at hs
  ·exact (only_c hs).trans (only_c ht).symm)
 rw [←hg];have HG:=hid hg;have HB1:=hid hb1;clear hown hgrow hg hb1 hi hz0 hz1 hz2;go_wp2;go_loopw [13] (fun i wr=>∃i':Int,i=.int .i64 i'∧0≤i'∧i'≤n∧Hid (∃zs Z,zs.map Prod.fst=(xs.take i'.toNat).map nC∧Owns wr g (rhoC g n zs Z))∧Hid (Below w.heap.size w wr)) (fun i _=>((n:Int)-intOf i).toNat)
 case atStart=>exact ⟨0,rfl,by omega,by omega,HO,HB1⟩
 case round=>
  obtain ⟨i',rfl,i0,i1,ho,hb⟩:=hrel;clear HO HB1;by_cases hlt:i'<n
  ·obtain ⟨x,tx⟩:∃x,xs[i'.toNat]?=some x:=⟨_,List.getElem?_eq_getElem (by have:=HN.out;omega)⟩;obtain ⟨bx,ox,ta,tc,aa,ac,e,ax,lx⟩:=charge_at (HX.out.on hb.out) tx;subst e;obtain ⟨q1,q2⟩:=HQ.out x (List.mem_of_getElem? tx);have lbx:=ax.lt;have cS:=fun W (h:Below wr.heap.size wr W)=>plainCharge_any x ta tc aa ac W (lies_on lx h) q1 q2;have r1:=hid (range_box ax);have r2:=hid (range_new wr (chargeC x ta tc aa ac) 57);have BW:=hid (bel_alloc wr (.cells (chargeC x ta tc aa ac).toArray 57));have TX:=hid tx;clear tx ax lx q1 q2;unfold chargeC at r1 r2 BW cS
   go_wp2_with (first
    | (with_reducible refine wpList_load_mid (op:=Oper.mk (some 17) (Op.load 57 (Operand.tmp 16)) _ _ _ _) ?_ 57 (.tmp 16) ?_ bx (ox+i'.toNat*16) ?_ [x.meter,x.win.has,x.win.a.y,x.win.a.m,x.win.a.d,x.win.b.y,x.win.b.m,x.win.b.d,x.allowance,x.block,x.kind,.slice ta x.tiers.length tc,x.mode,.slice aa x.adjusts.length ac,x.line,x.col] _ r1.out Tryz.underlying57 ?_ ?_ ?_;rfl;rfl;go_simp;rfl;kernel_rfl)
    | (with_reducible refine wpList_store_new (op:=Oper.mk none (Op.store 57 (Operand.tmp 7) (Operand.tmp 17)) _ _ _ _) ?_ 57 (.tmp 7) (.tmp 17) ?_ wr _ #[x.meter,x.win.has,x.win.a.y,x.win.a.m,x.win.a.d,x.win.b.y,x.win.b.m,x.win.b.d,x.allowance,x.block,x.kind,.slice ta x.tiers.length tc,x.mode,.slice aa x.adjusts.length ac,x.line,x.col] ?_ ?_ ?_ ?_ ?_ ?_;rfl;rfl;go_simp;go_simp;kernel_rfl;rfl;(simp [Value.oneCell']))
    | (with_reducible refine wpList_load_mid (op:=Oper.mk (some 21) (Op.load 57 (Operand.tmp 7)) _ _ _ _) ?_ 57 (.tmp 7) ?_ wr.heap.size 0 ?_ [x.meter,x.win.has,x.win.a.y,x.win.a.m,x.win.a.d,x.win.b.y,x.win.b.m,x.win.b.d,x.allowance,x.block,x.kind,.slice ta x.tiers.length tc,x.mode,.slice aa x.adjusts.length ac,x.line,x.col] _ r2.out Tryz.underlying57 ?_ ?_ ?_;rfl;rfl;go_simp;rfl;kernel_rfl)
    | fail)
   refine (cS _ BW.out).mono ?_;rintro e w2 ⟨⟨hta,htc,haa,hac⟩,rfl,ot,oa,ap,b2⟩;have b3:=bel_on BW.out b2;obtain ⟨zs,Z,hz,ho⟩:=ho.out
   have hzl:zs.length=i'.toNat:=by
    have:=congrArg List.length hz;rw [List.length_map,List.length_map,List.length_take] at this;have:=HN.out;omega
   have ox2:w2.ownsRow g 57 16 (.slice (some ⟨g,0,none⟩) n n) n (zs.flatMap zC++Z):=(ho.on b3).own .c _ rfl;have th:=there_push (C:=zC) (size:=16) ox2 (by omega);rw [hzl] at th;have TH:=hid th;have HB:=hid (bel_on hb.out b3);obtain ⟨Z',hs⟩:=owns_step (c:=nC x) (hd:=⟨hta,htc,haa,hac⟩) ho b3 BW.out.size (by omega) ot oa ap;rw [hzl] at hs
   have KEY:Hid (∃zs Z,zs.map Prod.fst=(xs.take (i'+1).toNat).map nC∧Owns (w2.setCells g (i'.toNat*16) [x.meter,x.win.has,x.win.a.y,x.win.a.m,x.win.a.d,x.win.b.y,x.win.b.m,x.win.b.d,x.allowance,x.block,x.kind,.slice hta x.tiers.length htc,x.mode,.slice haa x.adjusts.length hac,.int .i64 0,.int .i64 0]) g (rhoC g n zs Z)):=hid ⟨_,Z',by
    rw [show (i'+1).toNat=i'.toNat+1 by omega,List.take_add_one,TX.out,List.map_append,List.map_append,hz]
    rfl,hs⟩
   clear cS b2 b3 ho ox2 th hb lbx r1 r2 BW hz hzl hs ot oa ap Z' zs Z;unfold nC
   go_wp2_with (first
    | (with_reducible refine wpList_store_mid (op:=Oper.mk none (Op.store 57 (Operand.tmp 23) (Operand.tmp 22)) _ _ _ _) ?_ 57 (.tmp 23) (.tmp 22) ?_ g (i'.toNat*16) #[x.meter,x.win.has,x.win.a.y,x.win.a.m,x.win.a.d,x.win.b.y,x.win.b.m,x.win.b.d,x.allowance,x.block,x.kind,.slice hta x.tiers.length htc,x.mode,.slice haa x.adjusts.length hac,.int .i64 0,.int .i64 0] ?_ ?_ ?_ ?_ ?_ ?_;rfl;rfl;go_simp;go_simp;(simpa using TH.out);kernel_rfl;(simp [Value.oneCell']))
    | fail)
   have HB2:Hid (Below w.heap.size w (w2.setCells g (i'.toNat*16) [x.meter,x.win.has,x.win.a.y,x.win.a.m,x.win.a.d,x.win.b.y,x.win.b.m,x.win.b.d,x.allowance,x.block,x.kind,.slice hta x.tiers.length htc,x.mode,.slice haa x.adjusts.length hac,.int .i64 0,.int .i64 0])):=hid (Below.setRow _ _ _ HB.out (by rw [HG.out];exact Nat.le_refl _));go_wp2;go_roundw
   case rel=>exact ⟨i'+1,rfl,by omega,by omega,KEY,HB2⟩
   case measure=>simp [intOf];omega
  ·obtain rfl:i'=n:=by omega
   go_wp2;go_ret;obtain ⟨zs,Z,hz,ho⟩:=ho.out;have hn:=HN.out;rw [List.take_of_length_le (by omega)] at hz
   have hzl:zs.length=n:=by
    have:=congrArg List.length hz;rw [List.length_map,List.length_map] at this;omega
   have hzz:Z=[]:=by
    have hl:=(ho.own .c _ rfl).1;have hA:(zs.flatMap zC).length=zs.length*16:=flat_len (f:=zC) (n:=16) zC_len _;change (zs.flatMap zC++Z).length=n*16 at hl
    rw [List.length_append,hA,hzl] at hl;exact List.eq_nil_of_length_eq_zero (by omega)
   subst hzz;refine ⟨?_,zs,hz,?_,hb.out⟩
   ·rw [←HG.out];rfl
   ·rw [←HG.out];exact ho
theorem Owns.below {w:World} {base:Nat} {ρ:Slot→Option R} (h:Owns w base ρ) {a:Addr} (ha:a.block<base) (u:Value):Owns (w.setCell a u) base ρ:=⟨fun s r hs=>ownsRow_setCell_below (h.own s r hs) ha u,h.apart⟩
theorem Owns.belows {w:World} {base:Nat} {ρ:Slot→Option R} (h:Owns w base ρ) {b:Nat} (hb:b<base) (vs:List Value) (o:Nat):Owns (w.setCells b o vs) base ρ:=⟨fun s r hs=>owns_setCells_below hb vs o w (h.own s r hs),h.apart⟩
theorem zip_unzip {α β:Type} : ∀zs:List (α×β),(zs.map Prod.fst).zip (zs.map Prod.snd)=zs
 | []=>rfl
 | x::r=>by rw [List.map_cons,List.map_cons,List.zip_cons_cons,zip_unzip r]
theorem owns_all {W:World} {B S3 S5 g n:Nat} {q:Plan} {ma:Option Addr} {mc:Nat} {fa:Option Addr} {fc:Nat} {zs:List (Charge×Hd)} (hz:zs.map Prod.fst=q.charges) (hn:q.charges.length=n)
  (om:W.ownsRow B 49 5 (.slice ma q.meters.length mc) q.meters.length (q.meters.flatMap meterC)) (lm:∀k,(Value.slice ma q.meters.length mc).ownBlock=some k→k<S3)
  (of:W.ownsRow S3 53 10 (.slice fa q.fees.length fc) q.fees.length (q.fees.flatMap feeC)) (lf:∀k,(Value.slice fa q.fees.length fc).ownBlock=some k→k<S5)
  (oc:Owns W S5 (rhoC g n zs [])) (h1:B≤S3) (h2:S3≤S5):Owns W B (rowOf q ma mc fa fc (some ⟨g,0,none⟩) n (zs.map Prod.snd)):=by
 have hzip:q.charges.zip (zs.map Prod.snd)=zs:=by rw [←hz];exact zip_unzip zs
 have key:∀s r,rowOf q ma mc fa fc (some ⟨g,0,none⟩) n (zs.map Prod.snd) s=some r→(s=.m∧r=⟨49,5,ma,q.meters.length,mc,q.meters.flatMap meterC⟩)∨(s=.f∧r=⟨53,10,fa,q.fees.length,fc,q.fees.flatMap feeC⟩)∨rhoC g n zs [] s=some r:=by
  intro s r h;cases s with
  | m=>exact .inl ⟨rfl,(Option.some.inj h).symm⟩
  | f=>exact .inr (.inl ⟨rfl,(Option.some.inj h).symm⟩)
  | c=>
    refine .inr (.inr ?_);have:=(Option.some.inj h).symm;rw [this,hzip,hn];show some _=some _
    rw [List.append_nil]
  | t i=>
    refine .inr (.inr ?_);rw [←h];show Option.map _ (zs[i]?)=Option.map _ ((q.charges.zip (zs.map Prod.snd))[i]?)
    rw [hzip]
  | a i=>
    refine .inr (.inr ?_);rw [←h];show Option.map _ (zs[i]?)=Option.map _ ((q.charges.zip (zs.map Prod.snd))[i]?)
    rw [hzip]
 have lc:∀s r k,rhoC g n zs [] s=some r→r.v.ownBlock=some k→S5≤k:=fun s r k hs hk=>((oc.own s r hs).lt k hk).1;refine ⟨fun s r hs=>?_,fun s t r r' k hs ht hk hk'=>?_⟩
 ·rcases key s r hs with ⟨_,rfl⟩|⟨_,rfl⟩|h
  ·exact om
  ·exact of.mono h1
  ·exact (oc.own s r h).mono (Nat.le_trans h1 h2)
 ·rcases key s r hs with ⟨rfl,rfl⟩|⟨rfl,rfl⟩|h<;>rcases key t r' ht with ⟨rfl,rfl⟩|⟨rfl,rfl⟩|h'
  ·rfl
  ·have:=lm k hk;have:=(of.lt k hk').1;omega
  ·have:=lm k hk;have:=lc t r' k h' hk';omega
  ·have:=lm k hk';have:=(of.lt k hk).1;omega
  ·rfl
  ·have:=lf k hk;have:=lc t r' k h' hk';omega
  ·have:=lm k hk';have:=lc s r k h hk;omega
  ·have:=lf k hk';have:=lc s r k h hk;omega
  ·exact oc.apart s t r r' k h h' hk hk'
theorem plain_any (p:Plan) (ma:Option Addr) (mc:Nat) (fa:Option Addr) (fc:Nat) (ca:Option Addr) (cc:Nat) (w:World) (hm:Mid p) (hp:PlanLies w (planC p ma mc fa fc ca cc) p ma mc fa fc ca cc) :
  Calls Tryz.prog 32 #[.agg (planC p ma mc fa fc ca cc).toArray] w fun e w'=>∃ma' mc' fa' fc' ca' cc' hs,e=.returned (.agg (planC (noPl p) ma' mc' fa' fc' ca' cc').toArray)∧
   hs.length=(noPl p).charges.length∧Owns w' w.heap.size (rowOf (noPl p) ma' mc' fa' fc' ca' cc' hs)∧Below w.heap.size w w':=by
 have cM:=fun W (hb:Below w.heap.size w W)=>turnedM_any p.meters ma mc W (hp.meters.on hb) hm.meters;have cF:=fun W (hb:Below w.heap.size w W)=>turnedF_any p.fees fa fc W (hp.fees.on hb) hm.fees;have cC:=fun W (hb:Below w.heap.size w W)=>turnedC_any p.charges ca cc W (hp.charges.on hb) hm.charges hm.parts;clear hp hm;unfold planC;go_enter Tryz.func32,Tryz.ntmps32
 go_wp2_with fail
 obtain ⟨w1,hw1⟩:∃w1,w1=(w.alloc (.cells #[p.name,p.cur,p.a.y,p.a.m,p.a.d,p.b.y,p.b.m,p.b.d,.slice ma p.meters.length mc,.slice fa p.fees.length fc,.slice ca p.charges.length cc,.int .i64 0,.int .i64 0] 41)).alloc (.cells [.string ⟨#[]⟩,.string ⟨#[]⟩,.int .i64 0,.int .i64 0,.int .i64 0,.int .i64 0,.int .i64 0,.int .i64 0,.slice none 0 0,.slice none 0 0,.slice none 0 0,.int .i64 0,.int .i64 0].toArray 41):=⟨_,rfl⟩;rw [←hw1];obtain ⟨bx,bz⟩:=box_lies hw1;have b1:Below w.heap.size w w1:=by rw [hw1];exact bel_alloc2 ..
 have s1:w.heap.size+1<w1.heap.size:=by rw [hw1];simp
 clear hw1;refine (cM _ b1).mono ?_;rintro e w2 ⟨v,rfl,om,b2⟩;obtain ⟨m2,c2,rfl⟩:=form_slice om;have bx2:=hid (bx.on b2);have bz2:=hid (bz.on b2);have k8:=bx2.out.cell 8 _ rfl;have k9:=bx2.out.cell 9 _ rfl;have f8:=bx2.out.free 8;have b12:=hid (bel_on b1 b2);have s2:=hid s1;have lt2:w.heap.size<w2.heap.size:=Nat.lt_of_lt_of_le (by omega) b2.size;have om':=hid om;have sz2:=hid b2.size;clear bx bz b1 b2 s1 cM om;go_wp2_with fail
 obtain ⟨w3,hw3⟩:∃w3,w3=w2.setCell ⟨w.heap.size,8,none⟩ (.slice m2 p.meters.length c2):=⟨_,rfl⟩;rw [←hw3];have bx3:=bx2.out.set 8 (.slice m2 p.meters.length c2);rw [←hw3] at bx3;have bz3:=bz2.out.other (p:=⟨w.heap.size,8,none⟩) (by simp) (.slice m2 p.meters.length c2);rw [←hw3] at bz3;have b3:Below w.heap.size w w3:=by rw [hw3];exact b12.out.setCell (Nat.le_refl _) _
 have o3:=ownsRow_setCell_below (a:=⟨w.heap.size,8,none⟩) om'.out (by have:=s2.out;show w.heap.size<_;omega) (.slice m2 p.meters.length c2);rw [←hw3] at o3;have s3:w2.heap.size=w3.heap.size:=by rw [hw3];simp
 have LM:Hid (∀k,(Value.slice m2 p.meters.length c2).ownBlock=some k→k<w3.heap.size):=hid fun k hk=>by rw [←s3];exact (om'.out.lt k hk).2
 have S3:=hid (show w1.heap.size≤w3.heap.size by rw [←s3];exact sz2.out);clear hw3 k8 k9 f8 bx2 bz2 om' sz2 b12 lt2 s3;refine (cF _ b3).mono ?_;rintro e w4 ⟨v,rfl,of,b4⟩;obtain ⟨f4,c4,rfl⟩:=form_slice of;have bx4:=hid (bx3.on b4);have bz4:=hid (bz3.on b4);have k9:=bx4.out.cell 9 _ rfl;have k10:=bx4.out.cell 10 _ rfl;have f9:=bx4.out.free 9;have b14:=hid (bel_on b3 b4);have lt4:w.heap.size<w4.heap.size:=Nat.lt_of_lt_of_le (by have:=s2.out;have:=S3.out;omega) b4.size;have o4:=hid (owns_on o3 b4);have of':=hid of;have sz4:=hid b4.size;clear bx3 bz3 b3 b4 cF o3 of;go_wp2_with fail
 obtain ⟨w5,hw5⟩:∃w5,w5=w4.setCell ⟨w.heap.size,9,none⟩ (.slice f4 p.fees.length c4):=⟨_,rfl⟩;rw [←hw5];have bx5:=bx4.out.set 9 (.slice f4 p.fees.length c4);rw [←hw5] at bx5;have bz5:=bz4.out.other (p:=⟨w.heap.size,9,none⟩) (by simp) (.slice f4 p.fees.length c4);rw [←hw5] at bz5;have b5:Below w.heap.size w w5:=by rw [hw5];exact b14.out.setCell (Nat.le_refl _) _
 have o5:=ownsRow_setCell_below (a:=⟨w.heap.size,9,none⟩) o4.out (by have:=s2.out;show w.heap.size<_;omega) (.slice f4 p.fees.length c4);rw [←hw5] at o5;have o5f:=ownsRow_setCell_below (a:=⟨w.heap.size,9,none⟩) of'.out (by have:=s2.out;have:=S3.out;show w.heap.size<_;omega) (.slice f4 p.fees.length c4);rw [←hw5] at o5f;have s5:w4.heap.size=w5.heap.size:=by rw [hw5];simp
 have LF:Hid (∀k,(Value.slice f4 p.fees.length c4).ownBlock=some k→k<w5.heap.size):=hid fun k hk=>by rw [←s5];exact (of'.out.lt k hk).2
 have S5:=hid (show w3.heap.size≤w5.heap.size by rw [←s5];exact sz4.out);clear hw5 k9 k10 f9 bx4 bz4 o4 of' sz4 b14 lt4 s5;refine (cC _ b5).mono ?_;rintro e w6 ⟨zs,rfl,hz,oc,b6⟩;obtain ⟨g,hg⟩:∃g,g=w5.heap.size:=⟨_,rfl⟩;rw [←hg];have OC:Hid (Owns w6 w5.heap.size (rhoC g p.charges.length zs [])):=hid (by rw [hg];exact oc);have bx6:=hid (bx5.on b6);have bz6:=hid (bz5.on b6);have k10:=bx6.out.cell 10 _ rfl;have f10:=bx6.out.free 10;have b16:=hid (bel_on b5 b6);have lt6:w.heap.size<w6.heap.size:=Nat.lt_of_lt_of_le (by have:=s2.out;have:=S3.out;have:=S5.out;omega) b6.size;have o6:=hid (owns_on o5 b6);have o6f:=hid (owns_on o5f b6);have HZ:=hid hz;clear bx5 bz5 b5 b6 cC o5 o5f oc hg hz;go_upto_region 5 with fail
 obtain ⟨w7,hw7⟩:∃w7,w7=w6.setCell ⟨w.heap.size,10,none⟩ (.slice (some ⟨g,0,none⟩) p.charges.length p.charges.length):=⟨_,rfl⟩;rw [←hw7];have bx7:=bx6.out.set 10 (.slice (some ⟨g,0,none⟩) p.charges.length p.charges.length);rw [←hw7] at bx7;have bz7:=bz6.out.other (p:=⟨w.heap.size,10,none⟩) (by simp) (.slice (some ⟨g,0,none⟩) p.charges.length p.charges.length);rw [←hw7] at bz7;have b7:Below w.heap.size w w7:=by rw [hw7];exact b16.out.setCell (Nat.le_refl _) _
 have o7:=ownsRow_setCell_below (a:=⟨w.heap.size,10,none⟩) o6.out (by have:=s2.out;show w.heap.size<_;omega) (.slice (some ⟨g,0,none⟩) p.charges.length p.charges.length);rw [←hw7] at o7;have o7f:=ownsRow_setCell_below (a:=⟨w.heap.size,10,none⟩) o6f.out (by have:=s2.out;have:=S3.out;show w.heap.size<_;omega) (.slice (some ⟨g,0,none⟩) p.charges.length p.charges.length);rw [←hw7] at o7f;have o7c:=Owns.below (a:=⟨w.heap.size,10,none⟩) OC.out (by have:=s2.out;have:=S3.out;have:=S5.out;show w.heap.size<_;omega) (.slice (some ⟨g,0,none⟩) p.charges.length p.charges.length);rw [←hw7] at o7c;have rx:Hid (w7.rangeAt w.heap.size 0 [p.name,p.cur,p.a.y,p.a.m,p.a.d,p.b.y,p.b.m,p.b.d,.slice m2 p.meters.length c2,.slice f4 p.fees.length c4,.slice (some ⟨g,0,none⟩) p.charges.length p.charges.length,.int .i64 0,.int .i64 0]):=hid (box_range bx7);have rz:Hid (w7.there (w.heap.size+1) 0 13):=hid (box_there bz7 (n:=13) rfl);have B7:=hid b7;have O7:=hid o7;have O7f:=hid o7f;have O7c:=hid o7c;clear k10 f10 bx6 bz6 b16 o6 o6f OC hw7 bx7 bz7 b7 o7 o7f o7c lt6
 go_wp2_with (first
  | (with_reducible refine wpList_load_mid (op:=Oper.mk (some 17) (Op.load 41 (Operand.tmp 1)) _ _ _ _) ?_ 41 (.tmp 1) ?_ w.heap.size 0 ?_ [p.name,p.cur,p.a.y,p.a.m,p.a.d,p.b.y,p.b.m,p.b.d,.slice m2 p.meters.length c2,.slice f4 p.fees.length c4,.slice (some ⟨g,0,none⟩) p.charges.length p.charges.length,.int .i64 0,.int .i64 0] _ rx.out Tryz.underlying41 ?_ ?_ ?_;rfl;rfl;go_simp;rfl;kernel_rfl)
  | (with_reducible refine wpList_store_mid (op:=Oper.mk none (Op.store 41 (Operand.tmp 2) (Operand.tmp 17)) _ _ _ _) ?_ 41 (.tmp 2) (.tmp 17) ?_ (w.heap.size+1) 0 #[p.name,p.cur,p.a.y,p.a.m,p.a.d,p.b.y,p.b.m,p.b.d,.slice m2 p.meters.length c2,.slice f4 p.fees.length c4,.slice (some ⟨g,0,none⟩) p.charges.length p.charges.length,.int .i64 0,.int .i64 0] ?_ ?_ ?_ ?_ ?_ ?_;rfl;rfl;go_simp;go_simp;(simpa using rz.out);kernel_rfl;(simp [Value.oneCell']))
  | fail)
 have rr:(w7.setCells (w.heap.size+1) 0 [p.name,p.cur,p.a.y,p.a.m,p.a.d,p.b.y,p.b.m,p.b.d,.slice m2 p.meters.length c2,.slice f4 p.fees.length c4,.slice (some ⟨g,0,none⟩) p.charges.length p.charges.length,.int .i64 0,.int .i64 0]).rangeAt (w.heap.size+1) 0 [p.name,p.cur,p.a.y,p.a.m,p.a.d,p.b.y,p.b.m,p.b.d,.slice m2 p.meters.length c2,.slice f4 p.fees.length c4,.slice (some ⟨g,0,none⟩) p.charges.length p.charges.length,.int .i64 0,.int .i64 0]:=World.rangeAt_setCells_same _ _ _ _ rz.out;refine bodyPost_ret (v:=.agg #[p.name,p.cur,p.a.y,p.a.m,p.a.d,p.b.y,p.b.m,p.b.d,.slice m2 p.meters.length c2,.slice f4 p.fees.length c4,.slice (some ⟨g,0,none⟩) p.charges.length p.charges.length,.int .i64 0,.int .i64 0]) ?_ rfl ?_
 ·exact results_mid rfl _ _ (w.heap.size+1) [p.name,p.cur,p.a.y,p.a.m,p.a.d,p.b.y,p.b.m,p.b.d,.slice m2 p.meters.length c2,.slice f4 p.fees.length c4,.slice (some ⟨g,0,none⟩) p.charges.length p.charges.length,.int .i64 0,.int .i64 0] _ rfl rr Tryz.underlying41 rfl (by kernel_rfl)
 refine ⟨m2,c2,f4,c4,some ⟨g,0,none⟩,p.charges.length,zs.map Prod.snd,?_,?_,?_,Below.setRow _ _ _ B7.out (by omega)⟩
 ·simp [noPl]
 ·have:=congrArg List.length HZ.out;simpa [noPl] using this
 ·have e1:(noPl p).meters.length=p.meters.length:=by simp [noPl]
  have e2:(noPl p).fees.length=p.fees.length:=by simp [noPl]
  have e3:(noPl p).charges.length=p.charges.length:=by simp [noPl]
  have h:=owns_all (W:=w7.setCells (w.heap.size+1) 0 [p.name,p.cur,p.a.y,p.a.m,p.a.d,p.b.y,p.b.m,p.b.d,.slice m2 p.meters.length c2,.slice f4 p.fees.length c4,.slice (some ⟨g,0,none⟩) p.charges.length p.charges.length,.int .i64 0,.int .i64 0]) (B:=w1.heap.size) (S3:=w3.heap.size) (S5:=w5.heap.size) (g:=g) (n:=p.charges.length) (q:=noPl p) (ma:=m2) (mc:=c2) (fa:=f4) (fc:=c4) (zs:=zs) HZ.out e3
   (by rw [e1];exact owns_setCells_below (by have:=s2.out;omega) _ _ _ O7.out) (by rw [e1];exact LM.out)
   (by rw [e2];exact owns_setCells_below (by have:=s2.out;have:=S3.out;omega) _ _ _ O7f.out) (by rw [e2];exact LF.out)
   (Owns.belows O7c.out (by have:=s2.out;have:=S3.out;have:=S5.out;omega) _ _) S3.out S5.out
  exact ⟨fun s r hs=>(h.own s r hs).mono (by have:=s2.out;omega),h.apart⟩
end Te
namespace Co
open Go.RowKit Go.Sort P Mm Md R6 R9 Cc
theorem results_cc {P:Program} {fn:Func} {p q:Tmp} {ty ty':TypeId} (h:fn.results = #[.cell p ty,.cell q ty']) (tmps:Array Value) (w:World) (b b':Nat) (cs ds:List Value) (d d':TypeDesc)
  (hp:tmps.getD p undef=.pointer (some ⟨b,0,none⟩)) (hq:tmps.getD q undef=.pointer (some ⟨b',0,none⟩)) (hc:w.rangeAt b 0 cs) (hd:w.rangeAt b' 0 ds) (hu:P.underlying ty=some d) (hr:d.isRow=true) (hi:(P.info? ty).map (·.size)=some cs.length)
  (hu':P.underlying ty'=some d') (hr':d'.isRow=true) (hi':(P.info? ty').map (·.size)=some ds.length) :
  (results fn tmps).run P w=.ok (.tuple #[.agg cs.toArray,.agg ds.toArray]) w:=by
 have hp':tmps[p]?.getD undef=.pointer (some ⟨b,0,none⟩):=by simpa using hp
 have hq':tmps[q]?.getD undef=.pointer (some ⟨b',0,none⟩):=by simpa using hq
 simp [results,h,hp',hq',asAddr,run_loadVar_mid w b 0 ty cs d hc hu hr hi,run_loadVar_mid w b' 0 ty' ds d' hd hu' hr' hi']
def Far (B:Nat) (w W:World):Prop:=∀b,B≤b→b<w.heap.size→W.heap[b]?=w.heap[b]?
theorem Far.refl (B:Nat) (w:World):Far B w w:=fun _ _ _=>rfl
theorem Far.sets {B:Nat} {w:World} {b:Nat} (hb:b<B):∀(vs:List Value) (o:Nat) {W:World},Far B w W→Far B w (W.setCells b o vs)
 | [],_,_,h=>h
 | v::r,o,W,h=>Far.sets hb r (o+1) (fun j h1 h2=>(Below.heap_setCell W ⟨b,o,none⟩ v j (by show j≠b;omega)).trans (h j h1 h2))
theorem owns_far {w w1:World} {B base:Nat} {e:TypeId} {size n:Nat} {v:Value} {xs:List Value} (h:w.ownsRow base e size v n xs) (hb:B≤base) (f:Far B w w1):w1.ownsRow base e size v n xs:=by
 refine ⟨h.1,?_⟩;rcases h.2 with h2|⟨g,cap,cur,h1,h2,h3,h4⟩
 ·exact .inl h2
 ·have hg:g<w.heap.size:=by
   rcases Nat.lt_or_ge g w.heap.size with k|k
   ·exact k
   ·rw [Array.getElem?_eq_none k] at h3;cases h3
  exact .inr ⟨g,cap,cur,h1,h2,by rw [f g (Nat.le_trans hb h2) hg];exact h3,h4⟩
def zeroC:Cor:=⟨⟨#[]⟩,0,0,[],[],[]⟩
theorem Box.sets {W:World} {b:Nat} : ∀(vs:List Value) (o:Nat) {W:World} {cs:List Value},Box W b cs→Box (W.setCells b o vs) b (Md.setAt cs o vs)
 | [],_,_,_,h=>h
 | v::r,o,_,_,h=>Box.sets (W:=W) r (o+1) (h.set o v)
theorem Box.others {W:World} {b b':Nat} (hne:b≠b'):∀(vs:List Value) (o:Nat) {W:World} {cs:List Value},Box W b cs→Box (W.setCells b' o vs) b cs
 | [],_,_,_,h=>h
 | v::r,o,_,_,h=>Box.others (W:=W) hne r (o+1) (h.other (p:=⟨b',o,none⟩) hne v)
theorem make_bad (p:Plan) (ma:Option Addr) (mc:Nat) (fa:Option Addr) (fc:Nat) (ca:Option Addr) (cc:Nat) (w:World) (hp:PlanLies w (planC p ma mc fa fc ca cc) p ma mc fa fc ca cc) (h:Pl9 p) (hn:(wrongOf p).1≠0) :
  Calls Tryz.prog 13 #[.agg #[p.name,p.cur,p.a.y,p.a.m,p.a.d,p.b.y,p.b.m,p.b.d,.slice ma p.meters.length mc,.slice fa p.fees.length fc,.slice ca p.charges.length cc,p.line,p.col]] w fun e w'=>e=.returned (.tuple #[.agg #[.string ⟨#[]⟩,.int .i64 0,.int .i64 0,.slice none 0 0,.slice none 0 0,.slice none 0 0],.agg #[.int .i64 (wrongOf p).1,.int .i64 (wrongOf p).2.1,.int .i64 (wrongOf p).2.2]])∧Below w.heap.size w w':=by
 obtain ⟨w0,hw0⟩:∃W,W=w.alloc (.cells #[p.name,p.cur,p.a.y,p.a.m,p.a.d,p.b.y,p.b.m,p.b.d,.slice ma p.meters.length mc,.slice fa p.fees.length fc,.slice ca p.charges.length cc,p.line,p.col] 41):=⟨_,rfl⟩;obtain ⟨w1,hw1⟩:∃W,W=w0.alloc (.cells ([.string ⟨#[]⟩,.int .i64 0,.int .i64 0,.slice none 0 0,.slice none 0 0,.slice none 0 0]:List Value).toArray 27):=⟨_,rfl⟩;obtain ⟨w2,hw2⟩:∃W,W=w1.alloc (.cells #[.int .i64 0,.int .i64 0,.int .i64 0] 30):=⟨_,rfl⟩;obtain ⟨k1,hk1⟩:∃k,k=w.heap.size:=⟨_,rfl⟩;obtain ⟨k2,hk2⟩:∃k,k=k1+1:=⟨_,rfl⟩;obtain ⟨k3,hk3⟩:∃k,k=k2+1:=⟨_,rfl⟩;have s0:w0.heap.size=k2:=by rw [hw0,hk2,hk1];simp
 have s1:w1.heap.size=k3:=by rw [hw1,hk3,←s0];simp
 have s2:w2.heap.size=k3+1:=by rw [hw2,←s1];simp
 have b0:Below w.heap.size w w0:=by rw [hw0];exact bel_alloc _ _
 have b1:Below w0.heap.size w0 w1:=by rw [hw1];exact bel_alloc _ _
 have b2:Below w1.heap.size w1 w2:=by rw [hw2];exact bel_alloc _ _
 have X1:Box w2 k1 [p.name,p.cur,p.a.y,p.a.m,p.a.d,p.b.y,p.b.m,p.b.d,.slice ma p.meters.length mc,.slice fa p.fees.length fc,.slice ca p.charges.length cc,p.line,p.col]:=by
  have:=Box.new w [p.name,p.cur,p.a.y,p.a.m,p.a.d,p.b.y,p.b.m,p.b.d,.slice ma p.meters.length mc,.slice fa p.fees.length fc,.slice ca p.charges.length cc,p.line,p.col] 41;rw [←hw0,←hk1] at this;exact (this.on b1).on b2
 have X2:Box w2 k2 [.string ⟨#[]⟩,.int .i64 0,.int .i64 0,.slice none 0 0,.slice none 0 0,.slice none 0 0]:=by
  have:=Box.new w0 [.string ⟨#[]⟩,.int .i64 0,.int .i64 0,.slice none 0 0,.slice none 0 0,.slice none 0 0] 27;rw [←hw1,s0] at this;exact this.on b2
 have X3:Box w2 k3 [.int .i64 0,.int .i64 0,.int .i64 0]:=by
  have:=Box.new w1 [.int .i64 0,.int .i64 0,.int .i64 0] 30;rw [←hw2,s1] at this;exact this
 have b02:Below w.heap.size w w2:=bel_on (bel_on b0 b1) b2;have HW:=hid (show w2=((w.alloc (.cells #[p.name,p.cur,p.a.y,p.a.m,p.a.d,p.b.y,p.b.m,p.b.d,.slice ma p.meters.length mc,.slice fa p.fees.length fc,.slice ca p.charges.length cc,p.line,p.col] 41)).alloc (.cells #[.string ⟨#[]⟩,.int .i64 0,.int .i64 0,.slice none 0 0,.slice none 0 0,.slice none 0 0] 27)).alloc (.cells #[.int .i64 0,.int .i64 0,.int .i64 0] 30) by rw [hw2,hw1,hw0]);have HK3:=hid (show k3=w.heap.size+1+1 by omega);have HK2:=hid (show k2=w.heap.size+1 by omega);have HK1:=hid hk1;have HB:=hid (show w.heap.size≤k1∧w.heap.size≤k2∧w.heap.size≤k3∧k1≠k2∧k1≠k3∧k2≠k3∧k1<w2.heap.size∧k2<w2.heap.size∧k3<w2.heap.size by omega);have X:=hid (fun (W:World) (b:Below w2.heap.size w2 W)=>(⟨X1.on b,X2.on b,X3.on b,bel_on b02 b⟩:Box W k1 [p.name,p.cur,p.a.y,p.a.m,p.a.d,p.b.y,p.b.m,p.b.d,.slice ma p.meters.length mc,.slice fa p.fees.length fc,.slice ca p.charges.length cc,p.line,p.col]∧Box W k2 [.string ⟨#[]⟩,.int .i64 0,.int .i64 0,.slice none 0 0,.slice none 0 0,.slice none 0 0]∧Box W k3 [.int .i64 0,.int .i64 0,.int .i64 0]∧Below w.heap.size w W));have cP:=hid (Cc.plan_any p ma mc fa fc ca cc w2 (hp.on b02) h);obtain ⟨e1,h1⟩:∃e,e=(wrongOf p).1:=⟨_,rfl⟩;obtain ⟨e2,h2⟩:∃e,e=(wrongOf p).2.1:=⟨_,rfl⟩;obtain ⟨e3,h3⟩:∃e,e=(wrongOf p).2.2:=⟨_,rfl⟩;rw [←h1,←h2,←h3] at cP;rw [←h1] at hn;rw [←h1,←h2,←h3];have g1:(e1==0)=false:=by simpa using hn
 have RP:=hid (range_of X1.cell);clear hw0 hw1 hw2 hk1 hk2 hk3 s0 s1 s2 b0 b1 b2 b02 X1 X2 X3 hp h h1 h2 h3 hn;go_enter Tryz.func13,Tryz.ntmps13
 go_upto_region 1 with fail
 rw [←HW.out,←HK3.out,←HK2.out,←HK1.out];clear HW HK3 HK2 HK1;go_wp2_with (first|(with_reducible refine wpList_load_mid (op:=Oper.mk (some 12) (Op.load 41 (Operand.tmp 1)) _ _ _ _) ?_ 41 (.tmp 1) ?_ k1 0 ?_ [p.name,p.cur,p.a.y,p.a.m,p.a.d,p.b.y,p.b.m,p.b.d,.slice ma p.meters.length mc,.slice fa p.fees.length fc,.slice ca p.charges.length cc,p.line,p.col] _ RP.out Tryz.underlying41 ?_ ?_ ?_;rfl;rfl;go_simp;rfl;kernel_rfl)|fail)
 refine cP.out.mono ?_;rintro e w3 ⟨rfl,b3⟩;obtain ⟨w4,hw4⟩:∃W,W=w3.alloc (.cells #[.int .i64 e1,.int .i64 e2,.int .i64 e3] 30):=⟨_,rfl⟩;obtain ⟨k4,hk4⟩:∃k,k=w3.heap.size:=⟨_,rfl⟩;have b4:Below w3.heap.size w3 w4:=by rw [hw4];exact bel_alloc _ _
 have X4:Box w4 k4 [.int .i64 e1,.int .i64 e2,.int .i64 e3]:=by rw [hw4,hk4];exact Box.new _ _ _
 have HX4:=hid X4;have Y:=hid (X.out w4 (bel_on b3 b4));have HN:=hid (show k4≠k2∧k4≠k3 by have:=HB.out;have:=b3.size;omega);have HW4:=hid hw4;have HK4:=hid hk4;clear hw4 hk4 b3 b4 X4 X cP RP;go_upto_region 2 with fail
 rw [←HW4.out,←HK4.out];clear HW4 HK4;have a0:=HX4.out.cell 0 _ rfl;have a1:=HX4.out.cell 1 _ rfl;have a2:=HX4.out.cell 2 _ rfl;go_upto_region 3 with fail
 have c0:=Y.out.2.1.cell 0 _ rfl;have c1:=Y.out.2.1.cell 1 _ rfl;have c2:=Y.out.2.1.cell 2 _ rfl;have c3:=Y.out.2.1.cell 3 _ rfl;have c4:=Y.out.2.1.cell 4 _ rfl;have c5:=Y.out.2.1.cell 5 _ rfl;have d0:=Y.out.2.2.1.cell 0 _ rfl;have d1:=Y.out.2.2.1.cell 1 _ rfl;have d2:=Y.out.2.2.1.cell 2 _ rfl;have u0:=Y.out.2.1.free 0;have u1:=Y.out.2.1.free 1;have u2:=Y.out.2.1.free 2;have u3:=Y.out.2.1.free 3;have u4:=Y.out.2.1.free 4;have u5:=Y.out.2.1.free 5;have v0:=Y.out.2.2.1.free 0;have v1:=Y.out.2.2.1.free 1;have v2:=Y.out.2.2.1.free 2;have n1:k4≠k2:=HN.out.1;have n2:k4≠k3:=HN.out.2;have n3:k2≠k3:=HB.out.2.2.2.2.2.1;have n4:k3≠k2:=Ne.symm n3;have n5:k2≠k4:=Ne.symm n1;have n6:k3≠k4:=Ne.symm n2
 go_region
 have A2:Box (w4.setCells k2 0 [.string ⟨#[]⟩,.int .i64 0,.int .i64 0,.slice none 0 0,.slice none 0 0,.slice none 0 0]) k2 [.string ⟨#[]⟩,.int .i64 0,.int .i64 0,.slice none 0 0,.slice none 0 0,.slice none 0 0]:=Box.sets (W:=w4) [.string ⟨#[]⟩,.int .i64 0,.int .i64 0,.slice none 0 0,.slice none 0 0,.slice none 0 0] 0 Y.out.2.1;have A3:Box (w4.setCells k2 0 [.string ⟨#[]⟩,.int .i64 0,.int .i64 0,.slice none 0 0,.slice none 0 0,.slice none 0 0]) k3 [.int .i64 0,.int .i64 0,.int .i64 0]:=Box.others (W:=w4) n4 [.string ⟨#[]⟩,.int .i64 0,.int .i64 0,.slice none 0 0,.slice none 0 0,.slice none 0 0] 0 Y.out.2.2.1;have C3:Box ((w4.setCells k2 0 [.string ⟨#[]⟩,.int .i64 0,.int .i64 0,.slice none 0 0,.slice none 0 0,.slice none 0 0]).setCells k3 0 [.int .i64 e1,.int .i64 e2,.int .i64 e3]) k3 [.int .i64 e1,.int .i64 e2,.int .i64 e3]:=Box.sets (W:=w4) [.int .i64 e1,.int .i64 e2,.int .i64 e3] 0 A3;have C2:Box ((w4.setCells k2 0 [.string ⟨#[]⟩,.int .i64 0,.int .i64 0,.slice none 0 0,.slice none 0 0,.slice none 0 0]).setCells k3 0 [.int .i64 e1,.int .i64 e2,.int .i64 e3]) k2 [.string ⟨#[]⟩,.int .i64 0,.int .i64 0,.slice none 0 0,.slice none 0 0,.slice none 0 0]:=Box.others (W:=w4) n3 [.int .i64 e1,.int .i64 e2,.int .i64 e3] 0 A2;have D2:=hid (range_of (C2.on (Below.drew (Below.refl _ _))).cell);have D3:=hid (range_of (C3.on (Below.drew (Below.refl _ _))).cell);have BF:=hid (Below.drew (below_setCells HB.out.2.2.1 [.int .i64 e1,.int .i64 e2,.int .i64 e3] 0 _ (below_setCells HB.out.2.1 [.string ⟨#[]⟩,.int .i64 0,.int .i64 0,.slice none 0 0,.slice none 0 0,.slice none 0 0] 0 _ Y.out.2.2.2)));clear A2 A3 C2 C3 c0 c1 c2 c3 c4 c5 d0 d1 d2 u0 u1 u2 u3 u4 u5 v0 v1 v2 a0 a1 a2;go_wp2;refine bodyPost_ret (v:=.tuple #[.agg #[.string ⟨#[]⟩,.int .i64 0,.int .i64 0,.slice none 0 0,.slice none 0 0,.slice none 0 0],.agg #[.int .i64 e1,.int .i64 e2,.int .i64 e3]]) ?_ rfl ?_
 ·exact results_cc rfl _ _ k2 k3 [.string ⟨#[]⟩,.int .i64 0,.int .i64 0,.slice none 0 0,.slice none 0 0,.slice none 0 0] [.int .i64 e1,.int .i64 e2,.int .i64 e3] _ _ rfl rfl D2.out D3.out Tryz.underlying27 rfl (by kernel_rfl) Tryz.underlying30 rfl (by kernel_rfl)
 exact ⟨rfl,BF.out⟩
end Co
namespace Hu
open Go
section
variable {P:Program} {ops:Array Oper} {Q:Exit→Act→World→Prop} {md:Region.Mode} {S:World→Prop} {st:Nat}
theorem pk (i:Nat) {dst:Option Tmp} {op:Op} {ty:TypeId} {pos:String} {after:Array Edge} {gd:Option (Nat×Bool)} {v:Value} {fuel:Nat} {listed:Array Bool} {a:Act} {w:World} (hy:∀w,S w→(execOp a.eval ⟨dst,op,ty,pos,after,gd⟩).run P w=.ok (.value v) w)
  (h:wpAnyU P md ops Q S st fuel (listed.setIfInBounds i true) (a.put dst v) w) (hr:(Region.ready md ops listed).contains i=true:=by decide +kernel) (hi:ops[i]?=some ⟨dst,op,ty,pos,after,gd⟩:=by rfl)
  (hwd:Region.wanted ⟨dst,op,ty,pos,after,gd⟩ (yielded ops a.tmps)=true:=by rfl)
  (hs:Region.noSelect ops=true:=by kernel_rfl) (hf:Region.free md ops listed i=true:=by kernel_rfl)
  (hw:(waitsB md ops ops.size st i&&(i != st&&(!(listed.getD st true)&&closedB md ops listed)))=true:=by kernel_rfl)
  (hQ:∀c a w,Q (.panic c) (a.put dst v) w→Q (.panic c) a w:=by exact fun _ _ _ h=>h) (hS:S w:=by assumption):wpAnyU P md ops Q S st (fuel+1) listed a w:=
 wpAnyU_take hi hs hf hr hw hQ (Or.inl ⟨hwd,hy⟩) hS h
theorem ph (i:Nat) {dst:Option Tmp} {op:Op} {ty:TypeId} {pos:String} {after:Array Edge} {gd:Option (Nat×Bool)} {v:Value} {fuel:Nat} {listed:Array Bool} {a:Act} {w:World} (hy:∀w,S w→(execOp a.eval ⟨dst,op,ty,pos,after,gd⟩).run P w=.ok (.value v) w)
  (h:wpAnyH P md ops Q S fuel (listed.setIfInBounds i true) (a.put dst v) w) (hr:(Region.ready md ops listed).contains i=true:=by decide +kernel) (hi:ops[i]?=some ⟨dst,op,ty,pos,after,gd⟩:=by rfl)
  (hwd:Region.wanted ⟨dst,op,ty,pos,after,gd⟩ (yielded ops a.tmps)=true:=by rfl)
  (hs:Region.noSelect ops=true:=by kernel_rfl) (hf:Region.free md ops listed i=true:=by kernel_rfl)
  (hQ:∀c a w,Q (.panic c) (a.put dst v) w→Q (.panic c) a w:=by exact fun _ _ _ h=>h) (hS:S w:=by assumption):wpAnyH P md ops Q S (fuel+1) listed a w:=
 wpAnyH_take hi hs hf hr hQ (Or.inl ⟨hwd,hy⟩) hS h
end
end Hu
namespace Te
open Go.RowKit Go.Sort P Mm R6 Tl L06
def strC (s:ByteArray):List Value:=[.string s]
theorem strC_map:∀l:List ByteArray,l.flatMap strC=(l.map fun s=>s.data.toList).map encStr
 | []=>rfl
 | s::r=>by
   rw [List.flatMap_cons,strC_map r];rfl
theorem strC_back:∀ts:List (List UInt8),ts.map encStr=(ts.map fun b=>(⟨b.toArray⟩:ByteArray)).flatMap strC
 | []=>rfl
 | s::r=>by
   rw [List.map_cons,strC_back r];rfl
theorem mk_back:∀l:List ByteArray,(l.map fun s=>s.data.toList).map (fun b=>(⟨b.toArray⟩:ByteArray))=l
 | []=>rfl
 | s::r=>by
   rw [List.map_cons,List.map_cons,mk_back r]
theorem rising_sorted (ss:List (List UInt8)):Rising ((ss.mergeSort fun x y=>decide (x≤y)).map fun b=>(⟨b.toArray⟩:ByteArray)):=by
 intro i a b ha hb;have tr:∀a b c:List UInt8,decide (a≤b)=true→decide (b≤c)=true→decide (a≤c)=true:=fun a b c h1 h2=>by simp only [decide_eq_true_eq] at *;exact List.le_trans h1 h2
 have tt:∀a b:List UInt8,(decide (a≤b)||decide (b≤a))=true:=fun a b=>by simp only [Bool.or_eq_true,decide_eq_true_eq];exact List.le_total a b
 have hp:=List.pairwise_mergeSort tr tt ss;rw [List.getElem?_map] at ha hb;obtain ⟨x,hx,rfl⟩:=Option.map_eq_some_iff.1 ha;obtain ⟨y,hy,rfl⟩:=Option.map_eq_some_iff.1 hb;obtain ⟨l1,e1⟩:=List.getElem?_eq_some_iff.1 hx;obtain ⟨l2,e2⟩:=List.getElem?_eq_some_iff.1 hy;have:=(List.pairwise_iff_getElem.1 hp) i (i+1) l1 l2 (by omega);rw [e1,e2] at this;rw [ByteArray.toList_eq,ByteArray.toList_eq,bytesLess_eq];simp only [decide_eq_true_eq] at this;simpa using this
theorem sort_any (g cap:Nat) (l:List ByteArray) (base:Nat) (w:World) (h:w.ownsRow base 9 1 (.slice (some ⟨g,0,none⟩) l.length cap) l.length (l.flatMap strC)) (hl:l.length≤100000) :
  Calls Tryz.prog 79 #[.slice (some ⟨g,0,none⟩) l.length cap] w fun e w'=>∃l':List ByteArray,e=.returned (.tuple #[])∧l'.length=l.length∧l'.Perm l∧Rising l'∧
   w'.ownsRow base 9 1 (.slice (some ⟨g,0,none⟩) l.length cap) l.length (l'.flatMap strC)∧w.grownBy w' (some g):=by
 obtain ⟨ss,hss⟩:∃ss,ss=l.map fun s=>s.data.toList:=⟨_,rfl⟩;have hlen:ss.length=l.length:=by rw [hss,List.length_map]
 rw [strC_map,←hss,←hlen] at h;rcases h.2 with ⟨h0,_⟩|⟨g',cap',cur,hv,hbase,hb,h1,h2,h3,h4⟩
 ·cases h0
 simp only [Value.slice.injEq,Option.some.injEq,Addr.mk.injEq,and_true,true_and] at hv;obtain ⟨rfl,rfl⟩:=hv;have hH:Holds encStr w g 0 ss.toArray:=holds_of_block hb (by simpa using h4);have hc:=Any.slices_Sort_string Tryz.lays190 g 0 cap ss w hH (Array.getElem?_eq_some_iff.1 hb).1 (by omega);rw [←hlen];refine hc.mono ?_;rintro e w' ⟨rfl,n,os,rfl⟩;refine ⟨_,rfl,?_,?_,rising_sorted ss,?_,grownBy_sorted _⟩
 ·rw [List.length_map,List.length_mergeSort]
 ·have:=(List.mergeSort_perm ss fun x y=>decide (x≤y)).map fun b=>(⟨b.toArray⟩:ByteArray);rw [hss] at this ⊢
  rwa [mk_back] at this
 ·rw [←strC_back];exact ownsRow_sorted (by simp) hbase hb h1 h2 h3
end Te
end Go.Proofs.YtofbobdhkbmbgaaGreatDoor
