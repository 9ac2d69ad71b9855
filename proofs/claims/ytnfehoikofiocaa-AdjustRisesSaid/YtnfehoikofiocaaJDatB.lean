/- Days of the calendar as plain arithmetic: no program is named here. -/
import Derived.Test.YtnfehoikofiocaaJPureS
import Derived.Lib.Itoa
import Derived.Lib.ItoaNum
import Derived.Lib.Repeat
import Derived.Lib.ItoaLen
import Derived.WalkSmall
import Derived.WalkKit
import Derived.BigQuiet
import Derived.Lib.QuietBelow
namespace Go.Proofs.Ytnfehoikofiocaa
namespace P
open Go.RowKit
def leap (y:Int):Bool:=decide (y % 4=0∧(y % 100≠0∨y % 400=0))
def lp (y:Int):Int:=if leap y then 1 else 0
def yrs (y:Int):Int:=365*(y-1)+(y-1) / 4-(y-1) / 100+(y-1) / 400
def mon (y m:Int):Int:=
 if m≤1 then 0 else if m=2 then 31 else lp y +
  (if m=3 then 59 else if m=4 then 90 else if m=5 then 120 else if m=6 then 151 else if m=7 then 181 else if m=8 then 212
   else if m=9 then 243 else if m=10 then 273 else if m=11 then 304 else if m=12 then 334 else 365)
def num (y m d:Int):Int:=yrs y+mon y m+d-1
def dch (k:Nat):UInt8:=UInt8.ofNat (48+k)
def fs (n:Nat):Nat→List UInt8
 | 0=>[]
 | k+1=>if fs n k≠[]∨n / 10 ^ k % 10≠0 then dch (n / 10 ^ k % 10)::fs n k else []
theorem bel_drewN {B:Nat} {a w:World} (h:Below B a w) (n:Nat):Below B a (w.drewN n):=⟨h.os,h.tape,h.output,h.size,h.block⟩
end P
end Go.Proofs.Ytnfehoikofiocaa
