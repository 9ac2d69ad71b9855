/- A part (api.Part) that is an argument; a row of adjustments that is one. -/
import Derived.Test.YtcimcdoiiepjoaaJTieP
set_option maxRecDepth 100000
namespace Go.Proofs.Ytcimcdoiiepjoaa
namespace P
end P
namespace Mm
open Go.RowKit Go.Deep Go.ChangeShapes Go.WideShapes P
section
variable {H:Type} {enc:TypeId×Value→H} {w:World} {base:Nat} {spare:Nat→Bool} {held:Bool}
theorem open_prt {d:DataW H} {v:Value} {ps:List MemPlace} {r:Reach} {b0:Nat} (hv:Value.okWide Try.prog w r b0 25 v) (h:DataW.Trod enc Try.prog w base spare held 25 v d ps) :
  ∃x ta tc aa ac,v=.agg (prtC x ta tc aa ac).toArray∧PrtLies w (prtC x ta tc aa ac) x ta tc aa ac:=by
 obtain ⟨fuel,hf⟩:=h
 obtain ⟨p,ta,tc,aa,ac,hp⟩:=down_prt hf
 have hx:=okWide_struct (P:=Try.prog) (t:=25) Try.underlying25 hv
 obtain ⟨cs,hx,_⟩:=hx
 subst hx
 have e:cs.toList=prtC p ta tc aa ac:=hp.cells
 exact ⟨p,ta,tc,aa,ac,by rw [←e],rfl,hp.tiers,hp.adjusts,hp.nums⟩
end
end Mm
end Go.Proofs.Ytcimcdoiiepjoaa
