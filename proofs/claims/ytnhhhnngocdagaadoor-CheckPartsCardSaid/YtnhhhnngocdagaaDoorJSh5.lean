/- Package show, walked: adjustments and tiers. -/
import Derived.Test.YtnhhhnngocdagaaDoorJSh3
import Derived.Test.YtnhhhnngocdagaaDoorJRef6
namespace Go.Proofs.YtnhhhnngocdagaaDoor.Sw
open Go.RowKit Go.Sort P Mm
theorem cell_of {w : World} {b i : Nat} {cs : Array Value} {t : TypeId} {fr : Nat × Nat} (h : w.heap[b]? = some (.cells cs t fr)) : w.cell? ⟨b, i, none⟩ = cs[i]? := Lib.cell_of_heap h i
theorem aC_heap (w : World) (cs : Array Value) (t : TypeId) : (w.alloc (.cells cs t)).heap[w.heap.size]? = some (.cells cs t (0, 0)) := heap_alloc_new w _
section
end
end Go.Proofs.YtnhhhnngocdagaaDoor.Sw
/- Package show, walked: tiers. -/
namespace Go.Proofs.YtnhhhnngocdagaaDoor.Sw
open Go.RowKit Go.Sort P Mm
theorem tiersUp_step {ts : List Tier} {i : Nat} {t : Tier} (ht : ts[i]? = some t) {b : Bool} (hb : decide (i + 1 = ts.length) = b) : tiersUp ts (i + 1) = tiersUp ts i ++ tierT b t := by
  rw [tiersUp, hb, List.getD_eq_getElem?_getD, ht]; rfl
section
end
end Go.Proofs.YtnhhhnngocdagaaDoor.Sw
