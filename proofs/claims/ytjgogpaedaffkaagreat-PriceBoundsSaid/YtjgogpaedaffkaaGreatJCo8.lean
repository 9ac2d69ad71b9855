/- Package core, walked: what Make answers of any plan, and Read of any text. -/
import Derived.Test.YtjgogpaedaffkaaGreatJHeld2
import Derived.Sort.OwnSorted
import Derived.Lib.AppendIntMem
import Derived.Deep.DrawnRows
namespace Go.Proofs.YtjgogpaedaffkaaGreat
namespace P
end P
namespace Mm
end Mm
namespace Md
end Md
namespace R6
end R6
namespace R9
end R9
namespace Cc
end Cc
namespace Co
open Go.RowKit Go.Sort P Mm Md R6 R9 Cc
def coreAns (p:Plan):Cor:=if (wrongOf p).1=0 then coreOf p else zeroC
theorem zero_lies (W:World):CorLies W (corC zeroC none 0 none 0 none 0) zeroC none 0 none 0 none 0:=
 ⟨rfl,L06.row_nil,L06.row_nil,L06.row_nil,by show (0:Nat)≤_;omega,by unfold I64;decide,by unfold I64;decide⟩
theorem pl9_text {l:List UInt8} (e:(parsed l).2.1=0):Pl9 (parsed l).1:=by
 have sm:=parsed_small l;exact ⟨parsed_gd e,⟨sm.meters,sm.fees,sm.charges⟩,fun c hc=>by have:=sm.parts c hc;omega⟩
def readC (l:List UInt8):Cor:=if (parsed l).2.1=0 then coreAns (parsed l).1 else zeroC
def readF (l:List UInt8):Int×Int×Int:=if (parsed l).2.1=0 then wrongOf (parsed l).1 else (parsed l).2
end Co
end Go.Proofs.YtjgogpaedaffkaaGreat
