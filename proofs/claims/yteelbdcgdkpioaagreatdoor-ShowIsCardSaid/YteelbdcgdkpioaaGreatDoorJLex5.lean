/- What package lex answers, of all texts: the laws' premise. -/
import Derived.Test.YteelbdcgdkpioaaGreatDoorJLex4
namespace Go.Proofs.YteelbdcgdkpioaaGreatDoor.Le
open Go.RowKit P
theorem lx : L05.Lx Dc.Mx where
  keep := fun k b => k.later b
  of := fun s w k hs => of_any s w k hs
  lex := fun s w k => (lex_walk s w k).mono fun _ _ ⟨v, h1, h2, h3⟩ => ⟨v, h1, h2.holds, h3⟩
end Go.Proofs.YteelbdcgdkpioaaGreatDoor.Le
