/- What package lex answers, of all texts: the laws' premise. -/
import Derived.Test.YtcigholifpmdjaaLex4
namespace Go.Proofs.Ytcigholifpmdjaa.Le
open Go.RowKit P
theorem lx : L05.Lx Dc.Mx where
  keep := fun k b => k.later b
  of := fun s w k hs => of_any s w k hs
  lex := fun s w k => lex_walk s w k
end Go.Proofs.Ytcigholifpmdjaa.Le
