/- Package show, walked: what stands within a charge's braces. -/
import Derived.Test.YtnhhhnngocdagaaDoorJSh5
namespace Go.Proofs.YtnhhhnngocdagaaDoor.Sw
open Go.RowKit Go.Sort P Mm
def allowT (c : Charge) : List UInt8 := if c.allowance = 0 then [] else tellT 1 [wAllowance, nmbT c.allowance]
def blockT (c : Charge) : List UInt8 := if c.block = 1 then [] else tellT 1 [wBlock, nmbT c.block]
def tiersB (c : Charge) : List UInt8 := ln 1 (kindT c.kind ++ [32, 123]) ++ tiersUp c.tiers c.tiers.length ++ ln 1 [125]
def withinT (c : Charge) : List UInt8 := allowT c ++ blockT c ++ tiersB c ++ tellT 1 [wRound, modeT c.mode] ++ c.adjusts.flatMap adjT
theorem chargeT_eq (c : Charge) : chargeT c = ln 0 (wCharge ++ [32] ++ c.meter.data.toList ++ winT c.win ++ [32, 123]) ++ withinT c ++ ln 0 [125] := by
  unfold chargeT withinT allowT blockT tiersB
  simp only [List.append_assoc]
theorem allowT_len {c : Charge} (h : ShT c) : (allowT c).length ≤ 100 := by
  have h1 := nmbT_len h.i64.1.1
  unfold allowT
  split
  · simp
  · rw [tellT, ln, join2]
    simp only [List.length_append, List.length_replicate, List.length_cons, List.length_nil, wAllowance]
    omega
theorem blockT_len {c : Charge} (h : ShT c) : (blockT c).length ≤ 100 := by
  have h1 := nmbT_len h.i64.1.2
  unfold blockT
  split
  · simp
  · rw [tellT, ln, join2]
    simp only [List.length_append, List.length_replicate, List.length_cons, List.length_nil, wBlock]
    omega
theorem kindT_len (k : Int) : (kindT k).length ≤ 9 := by
  unfold kindT
  repeat' split
  all_goals simp [wGraduated, wVolume]
theorem tiersB_len {c : Charge} (h : ShT c) : (tiersB c).length ≤ 3000000 := by
  have h1 := tiersUp_len h.tiers c.tiers.length (Nat.le_refl _)
  have h2 := kindT_len c.kind
  have h3 := h.cnt.1
  unfold tiersB ln
  simp only [List.length_append, List.length_replicate, List.length_cons, List.length_nil]
  omega
theorem roundT_len (m : Int) : (tellT 1 [wRound, modeT m]).length ≤ 100 := by
  have h1 := modeT_len m
  rw [tellT, ln, join2]
  simp only [List.length_append, List.length_replicate, List.length_cons, List.length_nil, wRound]
  omega
theorem withinT_len {c : Charge} (h : ShT c) : (withinT c).length ≤ 10000000 := by
  have h1 := allowT_len h
  have h2 := blockT_len h
  have h3 := tiersB_len h
  have h4 := roundT_len c.mode
  have h5 := flat_le (f := adjT) (n := 100) c.adjusts (fun a ha => adjT_len (h.adjs a ha))
  have h6 := h.cnt.2
  unfold withinT
  simp only [List.length_append]
  omega
section
end
end Go.Proofs.YtnhhhnngocdagaaDoor.Sw
