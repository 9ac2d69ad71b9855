/- Package tree, walked: a meter, a fee without its place; whether two are one. -/
import Derived.Deep.RegionHeld3
import Derived.Deep.WholeRow
import Derived.Deep.CutBlock
import Derived.Deep.DeepCutAuto
import Derived.Test.YtofbobdhkbmbgaaGreatDoorJLexR
import Derived.Laws.Cover1
set_option maxRecDepth 100000
set_option maxHeartbeats 2000000
namespace Go.Proofs.YtofbobdhkbmbgaaGreatDoor
namespace Te
open Go.RowKit Go.Sort P Mm Tl
theorem bel_alloc2 (w:World) (x y:Obj):Below w.heap.size w ((w.alloc x).alloc y):=bel_on (bel_alloc w x) (bel_alloc _ y)
theorem plainMeter_any (m:Meter) (w:World) :
  Calls Tryz.prog 73 #[.agg (meterC m).toArray] w fun e w'=>e=.returned (.agg (meterC { m with line:=0,col:=0 }).toArray)∧Below w.heap.size w w':=by
 unfold meterC;go_enter Tryz.func73,Tryz.ntmps73
 go_wp2;refine bodyPost_ret (v:=.agg #[m.name,m.unit,m.max,.int .i64 0,.int .i64 0]) (by simp only [results,Tryz.results73];go_simp) rfl ⟨rfl,bel_alloc2 ..⟩
theorem plainFee_any (m:Fee) (w:World) :
  Calls Tryz.prog 75 #[.agg (feeC m).toArray] w fun e w'=>e=.returned (.agg (feeC { m with line:=0,col:=0 }).toArray)∧Below w.heap.size w w':=by
 unfold feeC;go_enter Tryz.func75,Tryz.ntmps75
 go_wp2;refine bodyPost_ret (v:=.agg #[m.amount,m.win.has,m.win.a.y,m.win.a.m,m.win.a.d,m.win.b.y,m.win.b.m,m.win.b.d,.int .i64 0,.int .i64 0]) (by simp only [results,Tryz.results75];go_simp) rfl ⟨rfl,bel_alloc2 ..⟩
end Te
namespace Te
open Go.RowKit Go.Sort P Mm R6 Tl
theorem cell1 {w:World} {a:List Value} {t:TypeId} {j:Nat} {v:Value} (h:a[j]?=some v):(w.alloc (.cells a.toArray t)).cell? ⟨w.heap.size,j,none⟩=some v:=by
 rw [World.cell?_alloc_new];simpa using h
theorem cell2b {w:World} {a b:List Value} {t u:TypeId} {j:Nat} {v:Value} (h:b[j]?=some v):((w.alloc (.cells a.toArray t)).alloc (.cells b.toArray u)).cell? ⟨w.heap.size+1,j,none⟩=some v:=by
 have:=cell1 (w:=w.alloc (.cells a.toArray t)) (t:=u) h
 rwa [show (w.alloc (.cells a.toArray t)).heap.size=w.heap.size+1 by simp] at this
theorem lies_on {w w':World} {cs:List Value} {c:Charge} {ta:Option Addr} {tc:Nat} {aa:Option Addr} {ac:Nat} (h:ChargeLies w cs c ta tc aa ac) (hb:Below w.heap.size w w'):ChargeLies w' cs c ta tc aa ac:=
 ⟨h.cells,h.tiers.on hb,h.adjusts.on hb,h.meter,h.win,h.nums⟩
theorem wpList_store_new {P:Program} {ops:Array Oper} {rest:List Oper} {op:Oper} {a:Act} {Q:Exit→Act→World→Prop} (hgd:op.guard=none) (ty:TypeId) (x y:Operand) (ho:op.op=.store ty x y)
  (W:World) (z cs:Array Value) (hx:a.eval x=.pointer (some ⟨W.heap.size,0,none⟩)) (hy:a.eval y=.agg cs) (hi:(P.info? ty).map (·.size)=some cs.size) (hz:z.size=cs.size) (h1:cs.all (·.oneCell')=true)
  (h:wpList P ops Q rest (a.put op.dst undef) (W.alloc (.cells cs ty))):wpList P ops Q (op::rest) a (W.alloc (.cells z ty)):=
 wpList_plain hgd fun K hK=>by
  have:=hK _ _ h;unfold Oper.wp execOp;simp only [ho,hx,hy,Sem.run_bind,run_storeAt_new W ty z cs hi hz h1,Result.andThen_ok];exact this
theorem range_new (W:World) (cs:List Value) (t:TypeId):(W.alloc (.cells cs.toArray t)).rangeAt W.heap.size 0 cs:=fun j v h=>by
 rw [Nat.zero_add];exact cell1 h
theorem range_box {W:World} {b o:Nat} {x:Charge} {ta:Option Addr} {tc:Nat} {aa:Option Addr} {ac:Nat} (h:ChargeAt W b o x ta tc aa ac):W.rangeAt b o (chargeC x ta tc aa ac):=by
 obtain ⟨_,a0,a1,a2,a3,a4,a5,a6,a7,a8,a9,a10,a11,a12,a13,a14,a15⟩:=h;intro j v hj
 match j,hj with
 | 0,hj=>cases hj;exact a0
 | 1,hj=>cases hj;exact a1
 | 2,hj=>cases hj;exact a2
 | 3,hj=>cases hj;exact a3
 | 4,hj=>cases hj;exact a4
 | 5,hj=>cases hj;exact a5
 | 6,hj=>cases hj;exact a6
 | 7,hj=>cases hj;exact a7
 | 8,hj=>cases hj;exact a8
 | 9,hj=>cases hj;exact a9
 | 10,hj=>cases hj;exact a10
 | 11,hj=>cases hj;exact a11
 | 12,hj=>cases hj;exact a12
 | 13,hj=>cases hj;exact a13
 | 14,hj=>cases hj;exact a14
 | 15,hj=>cases hj;exact a15
 | j+16,hj=>cases hj
theorem str_eq {a b:ByteArray} : a.toList=b.toList↔a=b:=by
 constructor
 ·intro h;rw [ByteArray.toList_eq,ByteArray.toList_eq] at h;exact ByteArray.ext (Array.toList_inj.1 h)
 ·rintro rfl;rfl
end Te
namespace L06
open Go.RowKit Go.Sort P Mm R6
def findM (p:Plan) (name:ByteArray):Int:=match p.meters.findIdx? (fun m=>decide (m.name=name)) with
 | some i=>i
 | none=>-1
def Rising (l:List ByteArray):Prop:=∀(i:Nat) (a b:ByteArray),l[i]?=some a→l[i+1]?=some b→Op.bytesLess b.toList a.toList=false
structure Mid (p:Plan):Prop where
 meters:p.meters.length≤100000
 fees:p.fees.length≤100000
 charges:p.charges.length≤100000
 parts:∀c∈p.charges,c.tiers.length≤100000∧c.adjusts.length≤100000
theorem row_nil {α:Type} {T:Ty α} {w:World} : Row T w none 0 0 []:=⟨rfl,Nat.le_refl _,Nat.zero_le _,fun h=>absurd rfl h⟩
def mB (col:Int):Meter:=⟨⟨#[98]⟩,⟨#[]⟩,0,0,col⟩
def mA:Meter:=⟨⟨#[97]⟩,⟨#[]⟩,0,0,0⟩
def d0:Day:=⟨0,0,0⟩
def q0:Plan:=⟨⟨#[112]⟩,⟨#[]⟩,d0,d0,[mB 7,mA],[⟨5,⟨false,d0,d0⟩,0,0⟩],[],3,0⟩
def cnt (l:List ByteArray) (s:ByteArray) (k:Nat):Int:=((l.take k).countP fun x=>decide (x=s):Nat)
def scan (name:ByteArray):List Meter→Int→Int
 | [],_=>-1
 | m::t,k=>if m.name=name then k else scan name t (k+1)
theorem scan_find (name:ByteArray):∀(l:List Meter) (k:Int),scan name l k=(match l.findIdx? (fun m=>decide (m.name=name)) with
 | some i=>(i:Int)+k
 | none=>-1)
 | [],k=>by simp [scan]
 | m::t,k=>by
   rw [scan,List.findIdx?_cons,scan_find name t (k+1)];by_cases e:m.name=name
   ·simp [e]
   ·simp only [e,if_false,decide_false,Bool.false_eq_true];cases t.findIdx? (fun m=>decide (m.name=name)) with
    | none=>rfl
    | some i=>show (i:Int)+(k+1)=((i+1:Nat):Int)+k;omega
theorem scan_all (p:Plan) (name:ByteArray):scan name p.meters 0=findM p name:=by
 rw [scan_find];unfold findM;cases p.meters.findIdx? (fun m=>decide (m.name=name)) with
 | none=>rfl
 | some i=>simp
theorem scan_drop {name:ByteArray} {l:List Meter} {i:Nat} {m:Meter} (h:l[i]?=some m):scan name (l.drop i) i=if m.name=name then (i:Int) else scan name (l.drop (i+1)) ((i:Int)+1):=by
 obtain ⟨hl,e⟩:=List.getElem?_eq_some_iff.1 h;rw [List.drop_eq_getElem_cons hl,scan,e]
end L06
end Go.Proofs.YtofbobdhkbmbgaaGreatDoor
