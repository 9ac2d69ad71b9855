/- Days of the calendar as plain arithmetic: no program is named here. -/
import Derived.Test.YtcimcdoiiepjoaaJPureS
import Derived.Lib.Itoa
import Derived.Lib.ItoaNum
import Derived.Lib.Repeat
import Derived.Lib.ItoaLen
namespace Go.Proofs.Ytcimcdoiiepjoaa
namespace Mm
end Mm
namespace P
open Go.RowKit
def leap (y:Int):Bool:=decide (y % 4=0∧(y % 100≠0∨y % 400=0))
def lp (y:Int):Int:=if leap y then 1 else 0
def days (y m:Int):Int:=
 if m<1∨12<m then 0 else if m=4∨m=6∨m=9∨m=11 then 30 else if m=2 then 28+lp y else 31
def good (y m d:Int):Bool:=decide (1≤y∧y≤9999∧1≤d∧d≤days y m)
def yrs (y:Int):Int:=365*(y-1)+(y-1) / 4-(y-1) / 100+(y-1) / 400
def mon (y m:Int):Int:=
 if m≤1 then 0 else if m=2 then 31 else lp y +
  (if m=3 then 59 else if m=4 then 90 else if m=5 then 120 else if m=6 then 151 else if m=7 then 181 else if m=8 then 212
   else if m=9 then 243 else if m=10 then 273 else if m=11 then 304 else if m=12 then 334 else 365)
def num (y m d:Int):Int:=yrs y+mon y m+d-1
def dch (k:Nat):UInt8:=UInt8.ofNat (48+k)
def isD (b:UInt8):Bool:=decide (48≤b.toNat∧b.toNat≤57)
def val (l:List UInt8):Nat:=l.foldl (fun n b=>10*n+(b.toNat-48)) 0
def formed (l:List UInt8):Bool:=decide (l.length=10)&&(decide (l.getD 4 0=45)&&decide (l.getD 7 0=45))&&((l.take 4).all isD&&(((l.drop 5).take 2).all isD&&(l.drop 8).all isD))
def yearOf (l:List UInt8):Int:=val (l.take 4)
def monthOf (l:List UInt8):Int:=val ((l.drop 5).take 2)
def dayOf (l:List UInt8):Int:=val (l.drop 8)
def reads (l:List UInt8):Bool:=formed l&&good (yearOf l) (monthOf l) (dayOf l)
end P
namespace P
open Go.RowKit Mm
def qty (mx al bl:Int):Int:=if mx-al≤0 then 0 else (mx-al+bl-1) / bl*bl
end P
namespace P
open Go.RowKit
def isDg (b:UInt8):Bool:=decide (48≤b.toNat∧b.toNat≤57)
def isDp (b:UInt8):Bool:=isDg b||b==46
def oddHead (l:List UInt8):Bool:=l.getD 0 0==48&&(decide (1<l.length)&&!(l.getD 1 0==46))
def evenBody (l:List UInt8):Bool:=l.all isDp&&(decide (l.count 46≤1)&&!(l.getLast?==some 46))
def fm (l:List UInt8):Nat:=if isDg (l.getD 0 0)&&evenBody l&&!oddHead l then 1+l.count 46 else 0
def isLt (b:UInt8):Bool:=decide (b.toNat=95∨b.toNat=46∨b.toNat=45∨(48≤b.toNat∧b.toNat≤57)∨(97≤b.toNat∧b.toNat≤122)∨(65≤b.toNat∧b.toNat≤90))
def words:List (List UInt8):=[[112,108,97,110],[99,117,114,114,101,110,99,121],[104,111,114,105,122,111,110],[109,101,116,101,114],[117,110,105,116],[109,97,120],[102,101,101],
 [99,104,97,114,103,101],[102,114,111,109],[116,111],[97,108,108,111,119,97,110,99,101],[98,108,111,99,107],[103,114,97,100,117,97,116,101,100],[118,111,108,117,109,101],[117,112,116,111],
 [114,97,116,101],[114,101,115,116],[114,111,117,110,100],[102,108,111,111,114],[99,101,105,108],[104,97,108,102,117,112],[104,97,108,102,101,118,101,110],[112,101,114,99,101,110,116],[99,97,112],
 [109,105,110,105,109,117,109],[97,100,100]]
def plain (l:List UInt8):Bool:=l.all fun c=>!(c==46)&&!(c==45)
def kd (l:List UInt8):Nat:=
 if l=[123]∨l=[125]∨l=[59] then 5
 else if l=[]∨l.all isLt=false then 0
 else if words.contains l then 2
 else if plain l&&!isDg (l.getD 0 0) then 1
 else if fm l≠0 then 3
 else if reads l then 4
 else 0
def run (p:UInt8→Bool):List UInt8→Nat
 | []=>0
 | c::r=>if p c then run p r+1 else 0
def fs (n:Nat):Nat→List UInt8
 | 0=>[]
 | k+1=>if fs n k≠[]∨n / 10 ^ k % 10≠0 then dch (n / 10 ^ k % 10)::fs n k else []
end P
end Go.Proofs.Ytcimcdoiiepjoaa
