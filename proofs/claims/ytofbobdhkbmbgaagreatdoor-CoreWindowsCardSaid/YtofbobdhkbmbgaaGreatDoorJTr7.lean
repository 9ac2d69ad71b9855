/- Package tree, walked: charges held against each other. -/
import Derived.Test.YtofbobdhkbmbgaaGreatDoorJTr1
import Derived.Deep.WholeRow
import Derived.Deep.CutBlock
import Derived.Deep.DeepCutAuto
import Derived.Laws.Cover1
set_option maxRecDepth 100000
set_option maxHeartbeats 4000000
namespace Go.Proofs.YtofbobdhkbmbgaaGreatDoor
namespace Te
open Go.RowKit Go.Sort P Mm R6 Tl
theorem cell1 {w:World} {a:List Value} {t:TypeId} {j:Nat} {v:Value} (h:a[j]?=some v):(w.alloc (.cells a.toArray t)).cell? ⟨w.heap.size,j,none⟩=some v:=by
 rw [World.cell?_alloc_new];simpa using h
theorem cell2b {w:World} {a b:List Value} {t u:TypeId} {j:Nat} {v:Value} (h:b[j]?=some v):((w.alloc (.cells a.toArray t)).alloc (.cells b.toArray u)).cell? ⟨w.heap.size+1,j,none⟩=some v:=by
 have:=cell1 (w:=w.alloc (.cells a.toArray t)) (t:=u) h
 rwa [show (w.alloc (.cells a.toArray t)).heap.size=w.heap.size+1 by simp] at this
theorem lies_on {w w':World} {cs:List Value} {c:Charge} {ta:Option Addr} {tc:Nat} {aa:Option Addr} {ac:Nat} (h:ChargeLies w cs c ta tc aa ac) (hb:Below w.heap.size w w'):ChargeLies w' cs c ta tc aa ac:=
 ⟨h.cells,h.tiers.on hb,h.adjusts.on hb,h.meter,h.win,h.nums⟩
theorem wpList_store_new {P:Program} {ops:Array Oper} {rest:List Oper} {op:Oper} {a:Act} {Q:Exit→Act→World→Prop} (hgd:op.guard=none) (ty:TypeId) (x y:Operand) (ho:op.op=.store ty x y)
  (W:World) (z cs:Array Value) (hx:a.eval x=.pointer (some ⟨W.heap.size,0,none⟩)) (hy:a.eval y=.agg cs) (hi:(P.info? ty).map (·.size)=some cs.size) (hz:z.size=cs.size) (h1:cs.all (·.oneCell')=true)
  (h:wpList P ops Q rest (a.put op.dst undef) (W.alloc (.cells cs ty))):wpList P ops Q (op::rest) a (W.alloc (.cells z ty)):=
 wpList_plain hgd fun K hK=>by
  have:=hK _ _ h;unfold Oper.wp execOp;simp only [ho,hx,hy,Sem.run_bind,run_storeAt_new W ty z cs hi hz h1,Result.andThen_ok];exact this
theorem range_new (W:World) (cs:List Value) (t:TypeId):(W.alloc (.cells cs.toArray t)).rangeAt W.heap.size 0 cs:=fun j v h=>by
 rw [Nat.zero_add];exact cell1 h
theorem range_box {W:World} {b o:Nat} {x:Charge} {ta:Option Addr} {tc:Nat} {aa:Option Addr} {ac:Nat} (h:ChargeAt W b o x ta tc aa ac):W.rangeAt b o (chargeC x ta tc aa ac):=by
 obtain ⟨_,a0,a1,a2,a3,a4,a5,a6,a7,a8,a9,a10,a11,a12,a13,a14,a15⟩:=h;intro j v hj
 match j,hj with
 | 0,hj=>cases hj;exact a0
 | 1,hj=>cases hj;exact a1
 | 2,hj=>cases hj;exact a2
 | 3,hj=>cases hj;exact a3
 | 4,hj=>cases hj;exact a4
 | 5,hj=>cases hj;exact a5
 | 6,hj=>cases hj;exact a6
 | 7,hj=>cases hj;exact a7
 | 8,hj=>cases hj;exact a8
 | 9,hj=>cases hj;exact a9
 | 10,hj=>cases hj;exact a10
 | 11,hj=>cases hj;exact a11
 | 12,hj=>cases hj;exact a12
 | 13,hj=>cases hj;exact a13
 | 14,hj=>cases hj;exact a14
 | 15,hj=>cases hj;exact a15
 | j+16,hj=>cases hj
theorem str_eq {a b:ByteArray} : a.toList=b.toList↔a=b:=by
 constructor
 ·intro h;rw [ByteArray.toList_eq,ByteArray.toList_eq] at h;exact ByteArray.ext (Array.toList_inj.1 h)
 ·rintro rfl;rfl
end Te
namespace L06
open Go.RowKit Go.Sort P Mm R6
def findM (p:Plan) (name:ByteArray):Int:=match p.meters.findIdx? (fun m=>decide (m.name=name)) with
 | some i=>i
 | none=>-1
def Rising (l:List ByteArray):Prop:=∀(i:Nat) (a b:ByteArray),l[i]?=some a→l[i+1]?=some b→Op.bytesLess b.toList a.toList=false
structure Mid (p:Plan):Prop where
 meters:p.meters.length≤100000
 fees:p.fees.length≤100000
 charges:p.charges.length≤100000
 parts:∀c∈p.charges,c.tiers.length≤100000∧c.adjusts.length≤100000
theorem row_nil {α:Type} {T:Ty α} {w:World} : Row T w none 0 0 []:=⟨rfl,Nat.le_refl _,Nat.zero_le _,fun h=>absurd rfl h⟩
def mB (col:Int):Meter:=⟨⟨#[98]⟩,⟨#[]⟩,0,0,col⟩
def mA:Meter:=⟨⟨#[97]⟩,⟨#[]⟩,0,0,0⟩
def d0:Day:=⟨0,0,0⟩
def q0:Plan:=⟨⟨#[112]⟩,⟨#[]⟩,d0,d0,[mB 7,mA],[⟨5,⟨false,d0,d0⟩,0,0⟩],[],3,0⟩
def cnt (l:List ByteArray) (s:ByteArray) (k:Nat):Int:=((l.take k).countP fun x=>decide (x=s):Nat)
def scan (name:ByteArray):List Meter→Int→Int
 | [],_=>-1
 | m::t,k=>if m.name=name then k else scan name t (k+1)
theorem scan_find (name:ByteArray):∀(l:List Meter) (k:Int),scan name l k=(match l.findIdx? (fun m=>decide (m.name=name)) with
 | some i=>(i:Int)+k
 | none=>-1)
 | [],k=>by simp [scan]
 | m::t,k=>by
   rw [scan,List.findIdx?_cons,scan_find name t (k+1)];by_cases e:m.name=name
   ·simp [e]
   ·simp only [e,if_false,decide_false,Bool.false_eq_true];cases t.findIdx? (fun m=>decide (m.name=name)) with
    | none=>rfl
    | some i=>show (i:Int)+(k+1)=((i+1:Nat):Int)+k;omega
theorem scan_all (p:Plan) (name:ByteArray):scan name p.meters 0=findM p name:=by
 rw [scan_find];unfold findM;cases p.meters.findIdx? (fun m=>decide (m.name=name)) with
 | none=>rfl
 | some i=>simp
theorem scan_drop {name:ByteArray} {l:List Meter} {i:Nat} {m:Meter} (h:l[i]?=some m):scan name (l.drop i) i=if m.name=name then (i:Int) else scan name (l.drop (i+1)) ((i:Int)+1):=by
 obtain ⟨hl,e⟩:=List.getElem?_eq_some_iff.1 h;rw [List.drop_eq_getElem_cons hl,scan,e]
end L06
namespace Te
open Go.RowKit Go.Sort P Mm R6 Tl L06
theorem named_any (m:Meter) (name:ByteArray) (b:Nat) (w:World) (hk:w.cell? ⟨b,0,none⟩=some (.string name)) (hb:b<w.heap.size) :
  Calls Tryz.prog 81 #[.agg (meterC m).toArray,.pointer (some ⟨b,0,none⟩)] w fun e w'=>e=.returned (.bool (m.name.toList==name.toList))∧Below w.heap.size w w':=by
 obtain ⟨w1,hw1⟩:∃w1,w1=w.alloc (.cells (meterC m).toArray 49):=⟨_,rfl⟩;have b1:Below w.heap.size w w1:=by rw [hw1];exact bel_alloc ..
 unfold meterC at hw1 ⊢;rcases Bool.eq_false_or_eq_true (m.name.toList==name.toList) with h|h<;>rw [h]
 all_goals
  go_enter Tryz.func81,Tryz.ntmps81
  go_wp2;go_ret;rw [←hw1];exact ⟨rfl,b1⟩
theorem idxM_any (xs:List Meter) (ma:Option Addr) (mc:Nat) (name:ByteArray) (b:Nat) (w:World) (hx:Row tMeter w ma xs.length mc xs) (hb:b<w.heap.size) (hk:w.cell? ⟨b,0,none⟩=some (.string name)) :
  Calls Tryz.prog 129 #[.slice ma xs.length mc,.func (.func 81) #[] #[.pointer (some ⟨b,0,none⟩)]] w fun e w'=>e=.returned (.int .i64 (scan name xs 0))∧Below w.heap.size w w':=by
 obtain ⟨n,hn⟩:∃n,n=xs.length:=⟨_,rfl⟩;have u1:=hx.hcap;have u2:=hx.hmax;obtain ⟨R,hR⟩:∃R,R=scan name xs 0:=⟨_,rfl⟩;rw [←hR];have HR:=hid hR;rw [←hn] at hx u1 ⊢;have HX:=hid hx;have HN:=hid hn;have HL:=hid hb;have HK:=hid hk;clear hR hx hn hb hk;go_enter Tryz.func129,Tryz.ntmps129
 go_wp2;go_loopw [8] (fun i wr=>∃i':Int,i=.int .i64 i'∧0≤i'∧i'≤n∧Hid (R=scan name (xs.drop i'.toNat) i')∧Hid (Below w.heap.size w wr)) (fun i _=>((n:Int)-intOf i).toNat)
 case atStart=>exact ⟨0,rfl,by omega,by omega,hid HR.out,hid (Below.refl _ _)⟩
 case round=>
  obtain ⟨i',rfl,i0,i1,hh,hb⟩:=hrel;by_cases hlt:i'<n
  ·obtain ⟨x,tx⟩:∃x,xs[i'.toNat]?=some x:=⟨_,List.getElem?_eq_getElem (by have:=HN.out;omega)⟩
   have K:Hid (R=if x.name=name then i' else scan name (xs.drop (i'+1).toNat) (i'+1)):=hid (by
    have:=scan_drop (name:=name) tx;rw [show ((i'.toNat:Nat):Int)=i' by omega] at this
    rw [hh.out,this,show (i'+1).toNat=i'.toNat+1 by omega])
   obtain ⟨bx,ox,e,lbx,x0,x1,x2,x3,x4,_⟩:=meter_at (HX.out.on hb.out) tx;subst e;have cS:=named_any x name b wr (by rw [hb.out.cell HL.out];exact HK.out) (Nat.lt_of_lt_of_le HL.out hb.out.size);unfold meterC at cS;clear tx hh;go_wp2_with fail
   refine cS.mono ?_;rintro e w' ⟨rfl,b3⟩;have HB:=hid (bel_on hb.out b3);clear cS b3;rcases Bool.eq_false_or_eq_true (x.name.toList==name.toList) with g|g
   ·have K2:Hid (R=i'):=hid (by rw [K.out,if_pos (str_eq.1 (eq_of_beq g))]);rw [g];go_wp2;go_ret;exact ⟨by rw [K2.out];rfl,HB.out⟩
   ·have K2:Hid (R=scan name (xs.drop (i'+1).toNat) (i'+1)):=hid (by rw [K.out,if_neg (fun e=>by rw [e] at g;simp at g)]);rw [g];go_wp2;go_roundw
    case rel=>exact ⟨i'+1,rfl,by omega,by omega,K2,HB⟩
    case measure=>simp [intOf];omega
  ·obtain rfl:i'=n:=by omega
   have K2:Hid (R = -1):=hid (by rw [hh.out,List.drop_eq_nil_of_le (by have:=HN.out;omega)];rfl);go_wp2;go_ret;exact ⟨by rw [K2.out];rfl,hb.out⟩
theorem findMt_any (xs:List Meter) (ma:Option Addr) (mc:Nat) (name:ByteArray) (b:Nat) (w:World) (hx:Row tMeter w ma xs.length mc xs) (hb:b<w.heap.size) (hk:w.cell? ⟨b,0,none⟩=some (.string name)) :
  Calls Tryz.prog 80 #[.slice ma xs.length mc,.func (.func 81) #[] #[.pointer (some ⟨b,0,none⟩)]] w fun e w'=>e=.returned (.int .i64 (scan name xs 0))∧Below w.heap.size w w':=by
 have c:=idxM_any xs ma mc name b w hx hb hk;clear hx hb hk;go_enter Tryz.func80,Tryz.ntmps80
 go_wp2_with fail
 refine c.mono ?_;rintro e w' ⟨rfl,b⟩;clear c;go_wp2;go_ret;exact ⟨rfl,b⟩
theorem meter_any (p:Plan) (name:ByteArray) (ma:Option Addr) (mc:Nat) (fa:Option Addr) (fc:Nat) (ca:Option Addr) (cc:Nat) (w:World) (hp:PlanLies w (planC p ma mc fa fc ca cc) p ma mc fa fc ca cc) :
  Calls Tryz.prog 35 #[.agg (planC p ma mc fa fc ca cc).toArray,.string name] w fun e w'=>e=.returned (.int .i64 (findM p name))∧Below w.heap.size w w':=by
 obtain ⟨w1,hw1⟩:∃w1,w1=(w.alloc (.cells (planC p ma mc fa fc ca cc).toArray 41)).alloc (.cells #[.string name] 9):=⟨_,rfl⟩;have b1:Below w.heap.size w w1:=by rw [hw1];exact bel_alloc2 ..
 have s1:w1.heap.size=w.heap.size+2:=by rw [hw1];simp
 have c:=findMt_any p.meters ma mc name (w.heap.size+1) w1 (hp.meters.on b1) (by omega) (by rw [hw1];exact cell2b (b:=[.string name]) rfl);rw [scan_all] at c;have HW1:=hid hw1;clear hw1 s1 hp;unfold planC at HW1 ⊢;go_enter Tryz.func35,Tryz.ntmps35
 go_wp2_with fail
 rw [←HW1.out];refine c.mono ?_;rintro e w' ⟨rfl,b⟩;clear c;go_wp2;go_ret;exact ⟨rfl,bel_on b1 b⟩
end Te
end Go.Proofs.YtofbobdhkbmbgaaGreatDoor
