/- Package tree, walked: Names; and all that package tree answers. -/
import Derived.Test.YtofbobdhkbmbgaaGreatDoorJTr13
namespace Go.Proofs.YtofbobdhkbmbgaaGreatDoor
namespace Te
open Go.RowKit Go.Sort P Mm R6 Tl L06
theorem info_str:(Tryz.prog.info? 9).map (fun i=>(i.zero,i.size,i.bytes))=some (some (.string ⟨#[]⟩),1,16):=by kernel_rfl
end Te
end Go.Proofs.YtofbobdhkbmbgaaGreatDoor
