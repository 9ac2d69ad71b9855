/- What the document's answers for layer 6 (poundageref06) come to: Row. -/
import Derived.Test.YtjgogpaedaffkaaGreatJRef6d
import Derived.Deep.AppendLies
import Derived.Deep.RegionHeldLaw
namespace Go.Proofs.YtjgogpaedaffkaaGreat
namespace P
end P
namespace Mm
end Mm
namespace Tl
end Tl
namespace R6
open Go.RowKit Go.Sort P Mm Tl
def rM (m:Meter):List ByteArray:=[m.name,m.unit,t8 m.max]
def rF (f:Fee):List ByteArray:=t8 f.amount::rW f.win
def rT (t:Tier):List ByteArray:=[t8 t.upto,t8 t.rate]
def rA (a:Adj):List ByteArray:=[t8 a.kind,t8 a.num,t8 a.mode]
def rCh (c:Charge):List ByteArray:=c.meter::rW c.win++[t8 c.allowance,t8 c.block,t8 c.kind,t8 c.mode,t8 c.tiers.length,t8 c.adjusts.length]
def rC (c:Charge):List ByteArray:=rCh c++c.tiers.flatMap rT++c.adjusts.flatMap rA
def rHead (p:Plan):List ByteArray:=[p.name,p.cur]++rW ⟨false,p.a,p.b⟩++[t8 p.meters.length,t8 p.fees.length,t8 p.charges.length]
def row (p:Plan):List ByteArray:=rHead p++p.meters.flatMap rM++p.fees.flatMap rF++p.charges.flatMap rC
theorem news_new (w:World) (cs:List Value) (t:TypeId):∀j u,cs[j]?=some u→(w.alloc (.cells cs.toArray t)).cell? ((⟨w.heap.size,0,none⟩:Addr).add j)=some u:=fun j u h=>by
 rw [Mm.add_plain,World.cell?_alloc_new];simpa using h
theorem grown_alloc {W w':World} {o:Obj} {r:Option Nat} (h:(W.alloc o).grownBy w' r):W.grownBy w' r:=by
 have b:=bel_alloc W o;exact ⟨h.os.trans b.os,h.tape.trans b.tape,h.output.trans b.output,Nat.le_trans b.size h.size,fun k hk hr=>(h.block k (Nat.lt_of_lt_of_le hk b.size) hr).trans (b.block k hk)⟩
end R6
end Go.Proofs.YtjgogpaedaffkaaGreat
