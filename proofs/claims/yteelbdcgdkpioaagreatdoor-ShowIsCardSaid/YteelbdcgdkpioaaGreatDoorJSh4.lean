/- Package show, walked: its writer: a strings.Builder that lies within a struct, and how many braces are open. -/
import Derived.Test.YteelbdcgdkpioaaGreatDoorJShT
import Derived.Test.YteelbdcgdkpioaaGreatDoorJDatB
import Derived.Test.YteelbdcgdkpioaaGreatDoorJLays
import Derived.Lib.Builder
import Derived.Lib.AppendStr
import Derived.Lib.UnsafeStr
import Derived.LoopTactic
import Derived.OwnWalk
import Derived.Shelf.Strings.OnBuilder
import Derived.BigQuiet
import Derived.Lib.QuietBelow
import Derived.Deep.RegionHeldLaw
import Derived.Deep.CutBlock
import Derived.Deep.DeepCutAuto
namespace Go.Proofs.YteelbdcgdkpioaaGreatDoor.Sw
open Go.RowKit P Mm

/-- A writer in block k, which a call owns that began when there were B blocks: what it holds, and how many braces are open. -/
structure Wr (B : Nat) (w : World) (k : Nat) (l : List UInt8) (d : Nat) : Prop where
  ge : B ≤ k
  ex : ∃ p v, w.heap[k]? = some (.cells #[p, v, .int .i64 (d : Int)] 75 (0, 0)) ∧ (p = .pointer none ∨ p = .pointer (some ⟨k, 0, none⟩)) ∧ w.ownsRow B 5 1 v l.length (Lib.byteCells l) ∧ v.ownBlock ≠ some k
/-- What a writer's calls leave alone: what lay there when the owner began; and all but the writer, and rows of bytes. -/
structure Kp (B k : Nat) (w w' : World) : Prop where
  bel : Below B w w'
  oth : ∀ j, j < w.heap.size → j ≠ k → (∀ cs fr, w.heap[j]? ≠ some (.cells cs 5 fr)) → w'.heap[j]? = w.heap[j]?
theorem Kp.refl (B k : Nat) (w : World) : Kp B k w w := ⟨Below.refl B w, fun _ _ _ _ => rfl⟩
theorem Kp.trans {B k : Nat} {a b c : World} (h : Kp B k a b) (g : Kp B k b c) : Kp B k a c :=
  ⟨h.bel.trans g.bel, fun j hj hk hn => by
    have e := h.oth j hj hk hn
    exact (g.oth j (Nat.lt_of_lt_of_le hj h.bel.size) hk (fun cs fr => by rw [e]; exact hn cs fr)).trans e⟩
theorem Kp.of {B k : Nat} {a b : World} (h : Below a.heap.size a b) (hB : B ≤ a.heap.size) : Kp B k a b := ⟨h.mono hB, fun j hj _ _ => h.block j hj⟩
theorem Kp.at {B k : Nat} {a b : World} (h : Kp B k a b) {j : Nat} {cs : Array Value} {t : TypeId} {fr : Nat × Nat} (hj : a.heap[j]? = some (.cells cs t fr)) (hk : j ≠ k) (ht : t ≠ 5) : b.heap[j]? = some (.cells cs t fr) := by
  have hl : j < a.heap.size := by
    rcases Nat.lt_or_ge j a.heap.size with c | c
    · exact c
    · rw [Array.getElem?_eq_none c] at hj; cases hj
  rw [h.oth j hl hk (fun cs' fr' e => by rw [hj] at e; simp only [Option.some.injEq, Obj.cells.injEq] at e; exact ht e.2.1)]
  exact hj
section
variable {B : Nat} {w w' : World} {k : Nat} {l : List UInt8} {d : Nat}
theorem Wr.lt (h : Wr B w k l d) : k < w.heap.size := by
  obtain ⟨_, _, hk, _⟩ := h.ex
  rcases Nat.lt_or_ge k w.heap.size with c | c
  · exact c
  · rw [Array.getElem?_eq_none c] at hk; cases hk
theorem Wr.size (h : Wr B w k l d) : B ≤ w.heap.size := Nat.le_of_lt (Nat.lt_of_le_of_lt h.ge h.lt)
theorem Wr.on (h : Wr B w k l d) (b : Below w.heap.size w w') : Wr B w' k l d := by
  obtain ⟨p, v, h1, h2, h3, h4⟩ := h.ex
  exact ⟨h.ge, p, v, (b.block k h.lt).trans h1, h2, owns_on h3 b, h4⟩
theorem Wr.cell2 (h : Wr B w k l d) : w.cell? ⟨k, 2, none⟩ = some (.int .i64 (d : Int)) := by
  obtain ⟨p, v, h1, _⟩ := h.ex
  rw [Lib.cell_of_heap h1]; rfl
theorem Wr.free2 (h : Wr B w k l d) : w.frozen? ⟨k, 2, none⟩ = false := by
  obtain ⟨p, v, h1, _⟩ := h.ex
  exact Lib.frozen_of_heap h1 2
/-- Another block is written. -/
theorem heap_put {w : World} {k i : Nat} {cs : Array Value} {t : TypeId} (h : w.heap[k]? = some (.cells cs t (0, 0))) (u : Value) : (w.setCell ⟨k, i, none⟩ u).heap[k]? = some (.cells (cs.setIfInBounds i u) t (0, 0)) := by
  unfold World.setCell
  simp only [Array.getElem?_modify, if_true, h, Option.map_some]
  simp
theorem owns_put {B : Nat} {w : World} {e : TypeId} {size n : Nat} {v : Value} {xs : List Value} (h : w.ownsRow B e size v n xs) {k i : Nat} (hk : v.ownBlock ≠ some k) (u : Value) : (w.setCell ⟨k, i, none⟩ u).ownsRow B e size v n xs := by
  refine ⟨h.1, ?_⟩
  rcases h.2 with h2 | ⟨g, cap, cur, h1, h2, h3, h4⟩
  · exact .inl h2
  · refine .inr ⟨g, cap, cur, h1, h2, ?_, h4⟩
    rw [Below.heap_setCell w ⟨k, i, none⟩ u g (fun e => hk (by rw [h1]; exact congrArg some e))]
    exact h3
theorem Wr.deep (h : Wr B w k l d) (n : Nat) : Wr B (w.setCell ⟨k, 2, none⟩ (.int .i64 (n : Int))) k l n ∧ Kp B k w (w.setCell ⟨k, 2, none⟩ (.int .i64 (n : Int))) := by
  obtain ⟨p, v, h1, h2, h3, h4⟩ := h.ex
  exact ⟨⟨h.ge, p, v, heap_put h1 _, h2, owns_put h3 h4 _, h4⟩, (Below.refl B w).setCell (p := ⟨k, 2, none⟩) h.ge _, fun j _ hk _ => Below.heap_setCell w ⟨k, 2, none⟩ _ j hk⟩
end
theorem size_builder : (Tryz.prog.info? 73).map (·.size) = some 2 := by kernel_rfl
theorem lies_builder : liesAt Tryz.prog Tryz.prog.depth 75 (3 / Tryz.prog.cellsOf 75) 0 73 1 = true := by kernel_rfl
theorem info_byte : (Tryz.prog.info? 5).map (fun i => (i.zero, i.size, i.bytes)) = some (some (.int .u8 0), 1, 1) := by kernel_rfl
set_option maxHeartbeats 1000000 in
set_option maxRecDepth 100000 in
theorem check_used (k : Nat) (w : World) (h0 : w.cell? ⟨k, 0, none⟩ = some (.pointer (some ⟨k, 0, none⟩))) :
    Calls Tryz.prog 100 #[.pointer (some ⟨k, 0, none⟩)] w fun e w' => e = .returned (.tuple #[]) ∧ w' = w := by
  obtain ⟨j, hj⟩ : ∃ j, Tryz.prog.info? 73 = some j := by obtain ⟨j, hj, _⟩ := Option.map_eq_some_iff.1 size_builder; exact ⟨j, hj⟩
  go_enter Tryz.func100, Tryz.ntmps100
  go_wp2
  rw [Lib.run_neq_ptr_same w _ Tryz.underlying70 hj]
  go_wp2
  go_end0
  exact ⟨rfl, rfl⟩
set_option maxHeartbeats 1000000 in
set_option maxRecDepth 100000 in
theorem check_fresh (k : Nat) (w : World) (h0 : w.cell? ⟨k, 0, none⟩ = some (.pointer none)) (hsh : w.shape? k = some (75, 3)) (hfz : w.frozen? ⟨k, 0, none⟩ = false) :
    Calls Tryz.prog 100 #[.pointer (some ⟨k, 0, none⟩)] w fun e w' => e = .returned (.tuple #[]) ∧ w' = w.setCell ⟨k, 0, none⟩ (.pointer (some ⟨k, 0, none⟩)) := by
  obtain ⟨j, hj, hjs⟩ : ∃ j, Tryz.prog.info? 73 = some j ∧ j.size ≠ 0 := by obtain ⟨j, hj, hs⟩ := Option.map_eq_some_iff.1 size_builder; exact ⟨j, hj, by rw [hs]; decide⟩
  go_enter Tryz.func100, Tryz.ntmps100
  go_wp2
  rw [Lib.run_to_unsafe w ⟨k, 0, none⟩ Tryz.underlying70 Tryz.underlying168 hj hjs hsh (Nat.zero_lt_succ 2)]
  simp only [Result.andThen]
  rw [Oper.upon_value]
  go_wp2
  rw [run_callFunc_extern Tryz.func132 (by kernel_rfl) (by kernel_rfl) (by kernel_rfl) (e := Extern.AbiNoEscape.same) (by kernel_rfl)]
  rw [Lib.run_noEscape]
  simp only [Result.andThen]
  rw [Oper.upon_value]
  go_wp2
  rw [Lib.run_from_unsafe w ⟨k, 0, none⟩ Tryz.underlying168 Tryz.underlying70 hj hsh lies_builder]
  simp only [Result.andThen]
  rw [Oper.upon_value]
  go_wp2
  go_end0
  exact ⟨rfl, rfl⟩
/-- Behind copyCheck the builder knows where it lies. -/
theorem check_any {B : Nat} {w : World} {k : Nat} {l : List UInt8} {d : Nat} (h : Wr B w k l d) :
    Calls Tryz.prog 100 #[.pointer (some ⟨k, 0, none⟩)] w fun e w' => e = .returned (.tuple #[]) ∧ (∃ v, w'.heap[k]? = some (.cells #[.pointer (some ⟨k, 0, none⟩), v, .int .i64 (d : Int)] 75 (0, 0)) ∧ w'.ownsRow B 5 1 v l.length (Lib.byteCells l) ∧ v.ownBlock ≠ some k) ∧ Kp B k w w' := by
  obtain ⟨p, v, h1, h2, h3, h4⟩ := h.ex
  rcases h2 with rfl | rfl
  · refine (check_fresh k w (by rw [Lib.cell_of_heap h1]; rfl) (by simp [World.shape?, h1]) (Lib.frozen_of_heap h1 0)).mono ?_
    rintro e w' ⟨rfl, rfl⟩
    exact ⟨rfl, ⟨v, heap_put h1 _, owns_put h3 h4 _, h4⟩, (Below.refl B w).setCell (p := ⟨k, 0, none⟩) h.ge _, fun j _ hk _ => Below.heap_setCell w ⟨k, 0, none⟩ _ j hk⟩
  · refine (check_used k w (by rw [Lib.cell_of_heap h1]; rfl)).mono ?_
    rintro e w' ⟨rfl, rfl⟩
    exact ⟨rfl, ⟨v, h1, h3, h4⟩, Kp.refl B k w'⟩
/-- Behind an append to the buffer, and its store. -/
theorem put_wr {B : Nat} {w1 w2 : World} {k : Nat} {l xs : List UInt8} {d : Nat} {v v' : Value} (hB : B ≤ k) (hk : w1.heap[k]? = some (.cells #[.pointer (some ⟨k, 0, none⟩), v, .int .i64 (d : Int)] 75 (0, 0)))
    (hown : w1.ownsRow B 5 1 v l.length (Lib.byteCells l)) (hne : v.ownBlock ≠ some k) (hown' : w2.ownsRow B 5 1 v' (l.length + xs.length) (Lib.byteCells l ++ Lib.byteCells xs)) (hg : w1.grownBy w2 v.ownBlock) :
    Wr B (w2.setCell ⟨k, 1, none⟩ v') k (l ++ xs) d ∧ Kp B k w1 (w2.setCell ⟨k, 1, none⟩ v') ∧ w2.cell? ⟨k, 1, none⟩ = some v ∧ w2.frozen? ⟨k, 1, none⟩ = false := by
  have hlt : k < w1.heap.size := by
    rcases Nat.lt_or_ge k w1.heap.size with c | c
    · exact c
    · rw [Array.getElem?_eq_none c] at hk; cases hk
  have hk2 : w2.heap[k]? = some (.cells #[.pointer (some ⟨k, 0, none⟩), v, .int .i64 (d : Int)] 75 (0, 0)) := (hg.block k hlt (fun e => hne e.symm)).trans hk
  have hne' : v'.ownBlock ≠ some k := by
    intro e
    rcases hown'.2 with ⟨rfl, _⟩ | ⟨g, cap, cur, rfl, _, hg2, _⟩
    · cases e
    · obtain rfl : g = k := Option.some.inj e
      rw [hk2] at hg2
      simp only [Option.some.injEq, Obj.cells.injEq] at hg2
      exact absurd hg2.2.1 (by decide)
  refine ⟨⟨hB, .pointer (some ⟨k, 0, none⟩), v', heap_put hk2 _, .inr rfl, ?_, hne'⟩, ⟨?_, ?_⟩, by rw [Lib.cell_of_heap hk2]; rfl, Lib.frozen_of_heap hk2 1⟩
  · have := owns_put (i := 1) hown' hne' v'
    rw [List.length_append, Lib.byteCells_append]
    exact this
  · exact ((Below.refl B w1).grown hg (by omega) (fun j hj => (hown.lt j hj).1)).setCell (p := ⟨k, 1, none⟩) hB _
  · intro j hj hjk hn
    rw [Below.heap_setCell w2 ⟨k, 1, none⟩ v' j hjk]
    refine hg.block j hj (fun e => ?_)
    rcases hown.2 with ⟨rfl, _⟩ | ⟨g, cap, cur, rfl, _, hg2, _⟩
    · cases e
    · obtain rfl : j = g := Option.some.inj e
      exact hn _ _ hg2
set_option maxHeartbeats 2000000 in
set_option maxRecDepth 100000 in
theorem byte_any {B : Nat} {w : World} {k : Nat} {l : List UInt8} {d : Nat} (c : UInt8) (h : Wr B w k l d) (hl : l.length + 1 ≤ 140737488355328) :
    Calls Tryz.prog 72 #[.pointer (some ⟨k, 0, none⟩), .int .u8 (c.toNat : Int)] w fun e w' => e = .returned .nilIface ∧ Wr B w' k (l ++ [c]) d ∧ Kp B k w w' := by
  obtain ⟨i0, hi, hz0, hz1, hz2⟩ := info_parts info_byte
  have cC := check_any h
  have hB := h.ge
  have hs := h.size
  clear h
  go_enter Tryz.func72, Tryz.ntmps72
  go_wp2_with fail
  refine cC.mono ?_
  rintro e w1 ⟨rfl, ⟨v, hbk, hown, hne⟩, k1⟩
  have c1 : w1.cell? ⟨k, 1, none⟩ = some v := by rw [Lib.cell_of_heap hbk]; rfl
  have hlt : k < w1.heap.size := by
    rcases Nat.lt_or_ge k w1.heap.size with c | c
    · exact c
    · rw [Array.getElem?_eq_none c] at hbk; cases hbk
  go_wp2_with (at_builtin; refine wpList_append_own _ rfl _ _ 71 rfl B 5 i0 (.int .u8 0) 1 1 Tryz.underlying71 hi hz0 hz1 hz2 rfl (by decide) _ _ _ rfl (hown.alloc _) ⟨w1.heap.size, 0, none⟩ 1 1 [.int .u8 (c.toNat : Int)] rfl rfl ?c1 ?c2 ?c3 ?c4 ?c5 ?_)
  case c1 =>
    intro j u hj
    match j, hj with
    | 0, hj => simp at hj; subst hj; simp [Addr.add]
  case c2 => intro u hu; simp at hu; subst hu; rfl
  case c3 => unfold maxLen; omega
  case c4 => omega
  case c5 => simp; omega
  intro v' w2 hown' hgrow _
  obtain ⟨ao, n', cap, rfl⟩ : ∃ ao n' cap, v' = .slice ao n' cap := by
    rcases hown'.2 with ⟨hv, _⟩ | ⟨g, cap, cur, hv, _⟩
    · exact ⟨_, _, _, hv⟩
    · exact ⟨_, _, _, hv⟩
  have hg2 : w1.grownBy w2 v.ownBlock := ⟨hgrow.os, hgrow.tape, hgrow.output, by have := hgrow.size; simp at this; omega, fun j hj hn => (hgrow.block j (by simp; omega) hn).trans (Lib.alloc_old w1 _ j hj)⟩
  obtain ⟨q1, q2, d1, f1⟩ := put_wr (xs := [c]) hB hbk hown hne hown' hg2
  clear hown hown' hgrow hg2
  go_wp2
  go_ret
  exact ⟨rfl, q1, k1.trans q2⟩
set_option maxHeartbeats 2000000 in
set_option maxRecDepth 100000 in
theorem text_any {B : Nat} {w : World} {k : Nat} {l : List UInt8} {d : Nat} (s : ByteArray) (h : Wr B w k l d) (hl : l.length + s.size ≤ 140737488355328) :
    Calls Tryz.prog 73 #[.pointer (some ⟨k, 0, none⟩), .string s] w fun e w' => e = .returned (.tuple #[.int .i64 s.size, .nilIface]) ∧ Wr B w' k (l ++ s.data.toList) d ∧ Kp B k w w' := by
  obtain ⟨i0, hi, hz0, hz1, hz2⟩ := info_parts info_byte
  have cC := check_any h
  have hB := h.ge
  have hs := h.size
  clear h
  go_enter Tryz.func73, Tryz.ntmps73
  go_wp2_with fail
  refine cC.mono ?_
  rintro e w1 ⟨rfl, ⟨v, hbk, hown, hne⟩, k1⟩
  have c1 : w1.cell? ⟨k, 1, none⟩ = some v := by rw [Lib.cell_of_heap hbk]; rfl
  have hlt : k < w1.heap.size := by
    rcases Nat.lt_or_ge k w1.heap.size with c | c
    · exact c
    · rw [Array.getElem?_eq_none c] at hbk; cases hbk
  go_wp2_with (at_builtin; refine Lib.wpList_append_own_string _ rfl _ _ 71 9 rfl B 5 i0 Tryz.underlying71 Tryz.underlying9 hi hz0 hz1 hz2 _ _ _ rfl hown s rfl ?c3 ?c4 ?c5 ?_)
  case c3 => unfold maxLen; omega
  case c4 => omega
  case c5 => omega
  intro v' w2 hown' hgrow _
  obtain ⟨ao, n', cap, rfl⟩ : ∃ ao n' cap, v' = .slice ao n' cap := by
    rcases hown'.2 with ⟨hv, _⟩ | ⟨g, cap, cur, hv, _⟩
    · exact ⟨_, _, _, hv⟩
    · exact ⟨_, _, _, hv⟩
  obtain ⟨q1, q2, d1, f1⟩ := put_wr (xs := s.data.toList) hB hbk hown hne (by rw [size_list]; exact hown') hgrow
  clear hown hown' hgrow
  go_wp2
  go_ret2
  exact ⟨rfl, q1, k1.trans q2⟩
end Go.Proofs.YteelbdcgdkpioaaGreatDoor.Sw
/- Package show, walked: lines, lines of words, lines of a number; the writer's text. -/
namespace Go.Proofs.YteelbdcgdkpioaaGreatDoor.Sw
open Go.RowKit P Mm

set_option maxHeartbeats 2000000 in
set_option maxRecDepth 100000 in
/-- What is written, as a text. -/
theorem string_any {B : Nat} {w : World} {k : Nat} {l : List UInt8} {d : Nat} (h : Wr B w k l d) (h0 : l ≠ []) :
    Calls Tryz.prog 30 #[.pointer (some ⟨k, 0, none⟩)] w fun e w' => e = .returned (.string ⟨l.toArray⟩) ∧ Below B w w' := by
  obtain ⟨p, v, hbk, _, hown, hne⟩ := h.ex
  have hB := h.ge
  clear h
  have hl0 : l.length ≠ 0 := by simpa using h0
  obtain ⟨g, cap, cur, rfl, hbg, hg, hnc, hcm, hcs, htake⟩ : ∃ g cap cur, v = .slice (some ⟨g, 0, none⟩) l.length cap ∧ B ≤ g ∧ w.heap[g]? = some (.cells cur 5 (0, 0)) ∧ l.length ≤ cap ∧ cap ≤ maxLen ∧ cur.size = cap * 1 ∧ cur.toList.take (l.length * 1) = Lib.byteCells l := by
    rcases hown.2 with ⟨_, hz⟩ | ⟨g, cap, cur, hv, r⟩
    · exact absurd hz hl0
    · exact ⟨g, cap, cur, hv, r⟩
  have c1 : w.drew.cell? ⟨k, 1, none⟩ = some (.slice (some ⟨g, 0, none⟩) l.length cap) := by
    have : w.drew.heap[k]? = some (.cells #[p, .slice (some ⟨g, 0, none⟩) l.length cap, .int .i64 (d : Int)] 75 (0, 0)) := hbk
    rw [Lib.cell_of_heap this]; rfl
  have hSD : (Builtin.unsafeSliceData_ #[71] 109 #[.slice (some ⟨g, 0, none⟩) l.length cap]).run Tryz.prog w.drew = .ok (.pointer (some ⟨g, 0, none⟩)) w.drew :=
    Lib.run_unsafeSliceData_row _ _ _ _ _ _ (by omega)
  have hUS : (Builtin.unsafeString_ #[109, 3] 9 #[.pointer (some ⟨g, 0, none⟩), .int .i64 l.length]).run Tryz.prog w.drew = .ok (.string ⟨l.toArray⟩) (w.drew.freeze ⟨g, 0, none⟩ l.length) := by
    refine Lib.run_unsafeString_row w.drew 109 3 9 5 Tryz.underlying109 (by kernel_rfl) g cur.size (by have hg' : w.drew.heap[g]? = some (.cells cur 5 (0, 0)) := hg; simp [World.shape?, hg']) l h0 (by omega) (by unfold maxLen at hcm; omega) ?_
    intro j x hx
    have := hown.cells (g := g) rfl j (.int .u8 x.toNat) (by simp [Lib.byteCells, hx])
    exact this
  have mixed : Tryz.prog.follows Departure.mixedOrders = true := by kernel_rfl
  go_enter Tryz.func30, Tryz.ntmps30
  go_wp2
  go_region_o
  all_goals (go_wp2; go_ret; exact ⟨rfl, Lib.below_freeze (Below.drew (Below.refl B w)) (p := ⟨g, 0, none⟩) hbg _⟩)
set_option maxHeartbeats 2000000 in
set_option maxRecDepth 100000 in
theorem line_any {B : Nat} {w : World} {k : Nat} {l : List UInt8} {d : Nat} (s : ByteArray) (h : Wr B w k l d) (hd : d ≤ 100) (hl : l.length + s.size + 200 ≤ 140737488355328) :
    Calls Tryz.prog 44 #[.pointer (some ⟨k, 0, none⟩), .string s] w fun e w' => e = .returned (.tuple #[]) ∧ Wr B w' k (l ++ ln d s.data.toList) d ∧ Kp B k w w' := by
  have c2 := h.cell2
  have H := hid h
  clear h
  go_enter Tryz.func44, Tryz.ntmps44
  go_wp2
  clear c2
  go_loopw [8] (fun i wr => ∃ i' : Nat, i = .int .i64 (i' : Int) ∧ i' ≤ d ∧ Hid (Wr B wr k (l ++ List.replicate i' 9) d) ∧ Hid (Kp B k w wr)) (fun i _ => d - (intOf i).toNat)
  case atStart => exact ⟨0, rfl, Nat.zero_le _, hid (by simpa using H.out), hid (Kp.refl B k w)⟩
  case round =>
    obtain ⟨i', rfl, hi, hh, hk⟩ := hrel
    by_cases hlt : i' < d
    · have cb : Calls Tryz.prog 72 #[.pointer (some ⟨k, 0, none⟩), .int .u8 9] _ _ := byte_any 9 hh.out (by rw [List.length_append, List.length_replicate]; omega)
      have hlt' : ((i' : Nat) : Int) < (d : Int) := by omega
      go_wp2_with fail
      refine cb.mono ?_
      rintro e w' ⟨rfl, q, kp⟩
      have Q := hid q
      have KP := hid kp
      clear q kp cb
      go_wp2
      go_roundw
      case rel => exact ⟨i' + 1, by simp, by omega, hid (by rw [List.replicate_succ', ← List.append_assoc]; exact Q.out), hid (hk.out.trans KP.out)⟩
      case measure => simp [intOf]; omega
    · obtain rfl : i' = d := by omega
      have cs := text_any s hh.out (by rw [List.length_append, List.length_replicate]; omega)
      clear hlt
      go_wp2_with fail
      refine cs.mono ?_
      rintro e w' ⟨rfl, q, kp⟩
      have cb : Calls Tryz.prog 72 #[.pointer (some ⟨k, 0, none⟩), .int .u8 10] _ _ := byte_any 10 q (by rw [List.length_append, List.length_append, List.length_replicate, size_list]; omega)
      have KP := hid (hk.out.trans kp)
      clear q kp cs
      go_wp2_with fail
      refine cb.mono ?_
      rintro e w2 ⟨rfl, q, kp⟩
      have KP2 := hid (KP.out.trans kp)
      have Q := hid q
      clear q kp cb
      go_wp2
      go_end0
      exact ⟨rfl, by unfold ln; rw [← List.append_assoc, ← List.append_assoc]; exact Q.out, KP2.out⟩
theorem tellT_len {d : Nat} {ws : List (List UInt8)} : (tellT d ws).length = d + (Lib.join ws [32]).length + 2 := by
  unfold tellT ln
  simp only [List.length_append, List.length_replicate, List.length_cons, List.length_nil]
  omega
set_option maxHeartbeats 2000000 in
set_option maxRecDepth 100000 in
theorem tell_any {B : Nat} {w : World} {k : Nat} {l : List UInt8} {d : Nat} (ws : List ByteArray) (b o c : Nat) (h : Wr B w k l d) (hd : d ≤ 100) (hc : ∀ (j : Nat) x, ws[j]? = some x → w.cell? ⟨b, o + j, none⟩ = some (.string x)) (hb : b < w.heap.size) (hcap : ws.length ≤ c) (hn : ws.length ≤ 100)
    (hl : l.length + (Lib.join (ws.map (·.data.toList)) [32]).length + 300 ≤ 140737488355328) :
    Calls Tryz.prog 25 #[.pointer (some ⟨k, 0, none⟩), .slice (some ⟨b, o, none⟩) ws.length c] w fun e w' => e = .returned (.tuple #[]) ∧ Wr B w' k (l ++ tellT d (ws.map (·.data.toList))) d ∧ Kp B k w w' := by
  have cJ := Any.strings_Join Tryz.lays156 Tryz.Builder_Extra_156 b o c ws ⟨#[32]⟩ w hc hb (by omega) hcap (by show (Lib.join _ [32]).length ≤ _; omega)
  obtain ⟨J, hJ⟩ : ∃ J : ByteArray, J = ⟨(Lib.join (ws.map (·.data.toList)) [32]).toArray⟩ := ⟨_, rfl⟩
  have zJ : J.size = (Lib.join (ws.map (·.data.toList)) [32]).length := by rw [hJ, ba_size]
  have eJ : (J ++ ⟨#[59]⟩).data.toList = Lib.join (ws.map (·.data.toList)) [32] ++ [59] := by rw [hJ]; simp
  rw [show (⟨#[32]⟩ : ByteArray).data.toList = [32] from rfl, ← hJ] at cJ
  have s1 : ¬ (9223372036854775807 < J.size + 1) := by omega
  have H := hid h
  have hl2 : l.length + (J ++ ⟨#[59]⟩ : ByteArray).size + 200 ≤ 140737488355328 := by
    rw [ByteArray.size_append]
    show l.length + (J.size + 1) + 200 ≤ _
    omega
  have HL := hid hl2
  have EJ := hid eJ
  clear h hc hb hcap hl hJ zJ hl2 eJ
  go_enter Tryz.func25, Tryz.ntmps25
  go_wp2_with fail
  refine cJ.mono ?_
  rintro e w1 ⟨rfl, b1⟩
  have cL := line_any (J ++ ⟨#[59]⟩) (H.out.on b1) hd HL.out
  rw [EJ.out] at cL
  have B1 := hid b1
  clear cJ b1
  go_wp2_with fail
  refine cL.mono ?_
  rintro e w2 ⟨rfl, q, kp⟩
  have Q := hid q
  have KP := hid ((Kp.of B1.out H.out.size).trans kp)
  clear q kp cL
  go_wp2
  go_end0
  exact ⟨rfl, Q.out, KP.out⟩
theorem news_cells (w : World) (xs : List ByteArray) (t : TypeId) : ∀ (j : Nat) x, xs[j]? = some x → (w.alloc (.cells (xs.map Value.string).toArray t)).cell? ⟨w.heap.size, 0 + j, none⟩ = some (.string x) := fun j x hj => by
  rw [Nat.zero_add, World.cell?_alloc_new]
  simp [hj]
/-- tell, of words that were laid just now. -/
theorem tell_new {B : Nat} {w : World} {k : Nat} {l : List UInt8} {d : Nat} (ws : List ByteArray) (h : Wr B w k l d) (hd : d ≤ 100) (hn : ws.length ≤ 100)
    (hl : l.length + (Lib.join (ws.map (·.data.toList)) [32]).length + 300 ≤ 140737488355328) :
    Calls Tryz.prog 25 #[.pointer (some ⟨k, 0, none⟩), .slice (some ⟨w.heap.size, 0, none⟩) ws.length ws.length] (w.alloc (.cells (ws.map Value.string).toArray 9)) fun e w' => e = .returned (.tuple #[]) ∧ Wr B w' k (l ++ tellT d (ws.map (·.data.toList))) d ∧ Kp B k w w' := by
  refine (tell_any (w := w.alloc (.cells (ws.map Value.string).toArray 9)) ws w.heap.size 0 ws.length (h.on (bel_alloc _ _)) hd (news_cells w ws _) (by simp) (Nat.le_refl _) hn hl).mono ?_
  rintro e w' ⟨rfl, q, kp⟩
  exact ⟨rfl, q, (Kp.of (bel_alloc _ _) h.size).trans kp⟩
end Go.Proofs.YteelbdcgdkpioaaGreatDoor.Sw
/- Package show, walked: words of modes and kinds, windows, lines of a number, adjustments. -/
namespace Go.Proofs.YteelbdcgdkpioaaGreatDoor.Sw
open Go.RowKit Go.Sort P Mm

theorem jl2 (a b : ByteArray) : (Lib.join ([a, b].map (·.data.toList)) [32]).length = a.size + b.size + 1 := by
  show (Lib.join [a.data.toList, b.data.toList] [32]).length = _
  rw [join2]
  simp only [List.length_append, List.length_cons, List.length_nil, size_list]
  omega
theorem jl3 (a b c : ByteArray) : (Lib.join ([a, b, c].map (·.data.toList)) [32]).length = a.size + b.size + c.size + 2 := by
  show (Lib.join [a.data.toList, b.data.toList, c.data.toList] [32]).length = _
  rw [join3]
  simp only [List.length_append, List.length_cons, List.length_nil, size_list]
  omega
theorem jl4 (a b c d : ByteArray) : (Lib.join ([a, b, c, d].map (·.data.toList)) [32]).length = a.size + b.size + c.size + d.size + 3 := by
  show (Lib.join [a.data.toList, b.data.toList, c.data.toList, d.data.toList] [32]).length = _
  rw [join4]
  simp only [List.length_append, List.length_cons, List.length_nil, size_list]
  omega
theorem jl6 (a b c d e f : ByteArray) : (Lib.join ([a, b, c, d, e, f].map (·.data.toList)) [32]).length = a.size + b.size + c.size + d.size + e.size + f.size + 5 := by
  show (Lib.join [a.data.toList, b.data.toList, c.data.toList, d.data.toList, e.data.toList, f.data.toList] [32]).length = _
  rw [join6]
  simp only [List.length_append, List.length_cons, List.length_nil, size_list]
  omega
def dC (d : Day) : Value := .agg #[.int .i64 d.y, .int .i64 d.m, .int .i64 d.d]
/-- What the packages below answer, in the worlds that K tells; and the words of modes, as the program's text lays them. -/
structure Tx (K : World → Prop) : Prop where
  keep : ∀ {w w' : World}, K w → Below w.heap.size w w' → K w'
  itoa : ∀ (n : Int) (w : World), K w → 0 ≤ n → I64 n → Calls Tryz.prog 27 #[.int .i64 n] w fun e w' => e = .returned (.string ⟨(nmbT n).toArray⟩) ∧ Below w.heap.size w w'
  dec : ∀ (n p : Int) (w : World), K w → 0 ≤ n → I64 n → 0 ≤ p → p ≤ 9 → Calls Tryz.prog 78 #[.int .i64 n, .int .i64 p] w fun e w' => e = .returned (.string ⟨(decT n p.toNat).toArray⟩) ∧ Below w.heap.size w w'
  day : ∀ (d : Day) (w : World), K w → Calls Tryz.prog 26 #[dC d] w fun e w' => e = .returned (.string ⟨(dayT d).toArray⟩) ∧ Below w.heap.size w w'
  word : ∀ {w : World}, K w → ∀ j l, modes[j]? = some l → w.cell? ⟨0, j, none⟩ = some (.string ⟨l.toArray⟩)
section
variable {K : World → Prop} (T : Tx K)
include T
set_option maxHeartbeats 1000000 in
theorem mode_any (m : Int) (hm : I64 m) (w : World) (k : K w) : Calls Tryz.prog 10 #[.int .i64 m] w fun e w' => e = .returned (.string ⟨(modeT m).toArray⟩) ∧ w' = w := by
  have m0 : w.cell? ⟨0, 0, none⟩ = some (.string ⟨#[102, 108, 111, 111, 114]⟩) := T.word k 0 _ rfl
  have m1 : w.cell? ⟨0, 1, none⟩ = some (.string ⟨#[99, 101, 105, 108]⟩) := T.word k 1 _ rfl
  have m2 : w.cell? ⟨0, 2, none⟩ = some (.string ⟨#[104, 97, 108, 102, 117, 112]⟩) := T.word k 2 _ rfl
  have m3 : w.cell? ⟨0, 3, none⟩ = some (.string ⟨#[104, 97, 108, 102, 101, 118, 101, 110]⟩) := T.word k 3 _ rfl
  have hc : m < 0 ∨ 4 ≤ m ∨ m = 0 ∨ m = 1 ∨ m = 2 ∨ m = 3 := by omega
  clear k
  rcases hc with h | h | rfl | rfl | rfl | rfl
  · have e : modeT m = [] := by unfold modeT; rw [if_neg (by omega), if_neg (by omega), if_neg (by omega), if_neg (by omega)]
    rw [e]
    go_enter Tryz.func10, Tryz.ntmps10
    go_wp2
    go_ret
    exact ⟨rfl, rfl⟩
  · have e : modeT m = [] := by unfold modeT; rw [if_neg (by omega), if_neg (by omega), if_neg (by omega), if_neg (by omega)]
    have h' : ¬ m < 0 := by omega
    rw [e]
    clear hm e
    go_enter Tryz.func10, Tryz.ntmps10
    go_wp2
    go_ret
    exact ⟨rfl, rfl⟩
  all_goals
    clear hm
    go_enter Tryz.func10, Tryz.ntmps10
    go_wp2
    go_ret
    exact ⟨rfl, rfl⟩
omit T in
theorem kind_any (m : Int) (hm : I64 m) (w : World) : Calls Tryz.prog 52 #[.int .i64 m] w fun e w' => e = .returned (.string ⟨(kindT m).toArray⟩) ∧ w' = w := by
  by_cases h1 : m = 1
  · subst h1
    go_enter Tryz.func52, Tryz.ntmps52
    go_wp2
    go_ret
    exact ⟨rfl, rfl⟩
  · by_cases h2 : m = 2
    · subst h2
      go_enter Tryz.func52, Tryz.ntmps52
      go_wp2
      go_ret
      exact ⟨rfl, rfl⟩
    · have e : kindT m = [] := by unfold kindT; rw [if_neg h1, if_neg h2]
      rw [e]
      go_enter Tryz.func52, Tryz.ntmps52
      go_wp2
      go_ret
      exact ⟨rfl, rfl⟩
def wC (x : Win) : Value := .agg #[.bool x.has, .int .i64 x.a.y, .int .i64 x.a.m, .int .i64 x.a.d, .int .i64 x.b.y, .int .i64 x.b.m, .int .i64 x.b.d]
set_option maxHeartbeats 2000000 in
set_option maxRecDepth 100000 in
theorem window_any (x : Win) (w : World) (k : K w) : Calls Tryz.prog 28 #[wC x] w fun e w' => e = .returned (.string ⟨(winT x).toArray⟩) ∧ Below w.heap.size w w' := by
  cases hx : x.has with
  | false =>
    have e : winT x = [] := by unfold winT; rw [hx]; rfl
    rw [e]
    unfold wC
    rw [hx]
    clear k
    go_enter Tryz.func28, Tryz.ntmps28
    go_wp2
    go_ret
    exact ⟨rfl, bel_alloc _ _⟩
  | true =>
    obtain ⟨X, hX⟩ : ∃ S : ByteArray, S = ⟨(dayT x.a).toArray⟩ := ⟨_, rfl⟩
    obtain ⟨Y, hY⟩ : ∃ S : ByteArray, S = ⟨(dayT x.b).toArray⟩ := ⟨_, rfl⟩
    have zX : X.size ≤ 10 := by rw [hX, ba_size]; exact dayT_len _
    have zY : Y.size ≤ 10 := by rw [hY, ba_size]; exact dayT_len _
    have fin : Hid ((⟨#[32, 102, 114, 111, 109, 32]⟩ : ByteArray) ++ X ++ ⟨#[32, 116, 111, 32]⟩ ++ Y = ⟨(winT x).toArray⟩) := hid (by
      unfold winT
      rw [hx, if_pos rfl, hX, hY, show (⟨#[32, 102, 114, 111, 109, 32]⟩ : ByteArray) = ⟨bFrom.toArray⟩ from rfl, show (⟨#[32, 116, 111, 32]⟩ : ByteArray) = ⟨bTo.toArray⟩ from rfl, ba_append, ba_append, ba_append])
    have cX := fun W hb => T.day x.a W (T.keep k (w' := W) hb)
    have cY := fun W hb => T.day x.b W (T.keep k (w' := W) hb)
    rw [← hX] at cX
    rw [← hY] at cY
    unfold dC at cX cY
    unfold wC
    rw [hx]
    obtain ⟨has, ⟨ay, am, ad⟩, ⟨b_y, bm, bd⟩⟩ := x
    simp only at cX cY
    clear hX hY k T hx
    go_enter Tryz.func28, Tryz.ntmps28
    go_upto_region 3 with fail
    obtain ⟨w1, hw1⟩ : ∃ W, W = w.alloc (.cells #[.bool true, .int .i64 ay, .int .i64 am, .int .i64 ad, .int .i64 b_y, .int .i64 bm, .int .i64 bd] 46) := ⟨_, rfl⟩
    have b1 : Below w.heap.size w w1 := by rw [hw1]; exact bel_alloc _ _
    have c1 : w1.cell? ⟨w.heap.size, 1, none⟩ = some (.int .i64 ay) := by rw [hw1, World.cell?_alloc_new]; rfl
    have c2 : w1.cell? ⟨w.heap.size, 2, none⟩ = some (.int .i64 am) := by rw [hw1, World.cell?_alloc_new]; rfl
    have c3 : w1.cell? ⟨w.heap.size, 3, none⟩ = some (.int .i64 ad) := by rw [hw1, World.cell?_alloc_new]; rfl
    have c4 : w1.cell? ⟨w.heap.size, 4, none⟩ = some (.int .i64 b_y) := by rw [hw1, World.cell?_alloc_new]; rfl
    have c5 : w1.cell? ⟨w.heap.size, 5, none⟩ = some (.int .i64 bm) := by rw [hw1, World.cell?_alloc_new]; rfl
    have c6 : w1.cell? ⟨w.heap.size, 6, none⟩ = some (.int .i64 bd) := by rw [hw1, World.cell?_alloc_new]; rfl
    rw [← hw1]
    clear hw1
    have k1 := cell_regrown c1
    have k2 := cell_regrown c2
    have k3 := cell_regrown c3
    have k4 := cell_regrown c4
    have k5 := cell_regrown c5
    have k6 := cell_regrown c6
    have qX := fun d os => Calls.regrown_of (cX _ (b1.trans ((below_regrown w1 d os).mono b1.size)))
    have qY := fun d os => Calls.regrown_of (cY _ (b1.trans ((below_regrown w1 d os).mono b1.size)))
    clear cX cY c1 c2 c3 c4 c5 c6
    refine wp_region_quiet_below (by kernel_rfl) (by kernel_rfl) ?_
    repeat (go_big_quiet_step (first | (go_at_call_of 26 (Value.agg #[Value.int IntKind.i64 ay, Value.int IntKind.i64 am, Value.int IntKind.i64 ad]); exact qX _ _) | (go_at_call 26; exact qY _ _)))
    refine wpQuiet_nil ?_
    intro _ hw'
    obtain ⟨⟨dq, osq⟩, hw''⟩ := hw'
    subst hw''
    go_wp2
    go_ret
    exact ⟨ret_s fin.out, b1.trans ((below_regrown w1 dq osq).mono b1.size)⟩
set_option maxHeartbeats 2000000 in
set_option maxRecDepth 100000 in
theorem number_any {B : Nat} {w : World} {k : Nat} {l : List UInt8} {d : Nat} (word : ByteArray) (n : Int) (hn : 0 ≤ n) (hI : I64 n) (h : Wr B w k l d) (hK : K w) (hd : d ≤ 100) (hs : word.size ≤ 100) (hl : l.length + 1000 ≤ 140737488355328) :
    Calls Tryz.prog 51 #[.pointer (some ⟨k, 0, none⟩), .string word, .int .i64 n] w fun e w' => e = .returned (.tuple #[]) ∧ Wr B w' k (l ++ tellT d [word.data.toList, nmbT n]) d ∧ Kp B k w w' := by
  have cI := T.itoa n w hK hn hI
  have zn := nmbT_len hI
  have hj : (Lib.join ([word, (⟨(nmbT n).toArray⟩ : ByteArray)].map (·.data.toList)) [32]).length ≤ 200 := by
    rw [jl2, ba_size (nmbT n)]
    omega
  have HJ := hid hj
  have H := hid h
  clear hK zn hj h
  go_enter Tryz.func51, Tryz.ntmps51
  go_wp2_with fail
  refine cI.mono ?_
  rintro e w1 ⟨rfl, b1⟩
  have cL := tell_new [word, (⟨(nmbT n).toArray⟩ : ByteArray)] (H.out.on b1) hd (by show 2 ≤ 100; decide) (by have := HJ.out; omega)
  have B1 := hid b1
  clear cI b1
  go_wp2_with fail
  refine cL.mono ?_
  rintro e w2 ⟨rfl, q, kp⟩
  have Q := hid q
  have KP := hid ((Kp.of B1.out H.out.size).trans kp)
  clear q kp cL
  go_wp2
  go_end0
  exact ⟨rfl, by simpa using Q.out, KP.out⟩
end
end Go.Proofs.YteelbdcgdkpioaaGreatDoor.Sw
/- Package show, walked: adjustments and tiers. -/
namespace Go.Proofs.YteelbdcgdkpioaaGreatDoor.Sw
open Go.RowKit Go.Sort P Mm

/-- A writer among blocks that a caller owns: whose world was w0 when the owner began. -/
structure Ow (w0 w : World) (k : Nat) (l : List UInt8) (d : Nat) : Prop where
  wr : Wr w0.heap.size w k l d
  bel : Below w0.heap.size w0 w
theorem Ow.on {w0 w w' : World} {k : Nat} {l : List UInt8} {d : Nat} (h : Ow w0 w k l d) (b : Below w.heap.size w w') : Ow w0 w' k l d := ⟨h.wr.on b, h.bel.trans (b.mono h.wr.size)⟩
theorem Ow.put {w0 w w' : World} {k : Nat} {l l' : List UInt8} {d d' : Nat} (h : Ow w0 w k l d) (q : Wr w0.heap.size w' k l' d') (kp : Kp w0.heap.size k w w') : Ow w0 w' k l' d' := ⟨q, h.bel.trans kp.bel⟩
theorem cell_of {w : World} {b i : Nat} {cs : Array Value} {t : TypeId} {fr : Nat × Nat} (h : w.heap[b]? = some (.cells cs t fr)) : w.cell? ⟨b, i, none⟩ = cs[i]? := Lib.cell_of_heap h i
theorem aC_heap (w : World) (cs : Array Value) (t : TypeId) : (w.alloc (.cells cs t)).heap[w.heap.size]? = some (.cells cs t (0, 0)) := heap_alloc_new w _
section
variable {K : World → Prop} (T : Tx K)
include T
set_option maxHeartbeats 4000000 in
set_option maxRecDepth 100000 in
theorem adjust_any {w0 w : World} {k : Nat} {l : List UInt8} (a : Adj) (ha : (0 ≤ a.num ∧ I64 a.num) ∧ I64 a.kind ∧ I64 a.mode) (h : Ow w0 w k l 1) (hK : K w0) (hl : l.length + 1000 ≤ 140737488355328) :
    Calls Tryz.prog 55 #[.pointer (some ⟨k, 0, none⟩), .agg #[.int .i64 a.kind, .int .i64 a.num, .int .i64 a.mode]] w fun e w' => e = .returned (.tuple #[]) ∧ Ow w0 w' k (l ++ adjT a) 1 ∧ Kp w0.heap.size k w w' := by
  obtain ⟨kn, nm, md⟩ := a
  simp only at ha
  have hk : k < w.heap.size := h.wr.lt
  obtain ⟨w1, hw1⟩ : ∃ W, W = w.alloc (.cells #[.int .i64 kn, .int .i64 nm, .int .i64 md] 100) := ⟨_, rfl⟩
  have hb1 : w1.heap[w.heap.size]? = some (.cells #[.int .i64 kn, .int .i64 nm, .int .i64 md] 100 (0, 0)) := by rw [hw1]; exact aC_heap _ _ _
  have b1 : Below w.heap.size w w1 := by rw [hw1]; exact bel_alloc _ _
  have H1 := hid (h.on b1)
  have kp1 : Kp w0.heap.size k w w1 := Kp.of b1 h.wr.size
  have c0 : w1.cell? ⟨w.heap.size, 0, none⟩ = some (.int .i64 kn) := by rw [cell_of hb1]; rfl
  have c1 : w1.cell? ⟨w.heap.size, 1, none⟩ = some (.int .i64 nm) := by rw [cell_of hb1]; rfl
  have c2 : w1.cell? ⟨w.heap.size, 2, none⟩ = some (.int .i64 md) := by rw [cell_of hb1]; rfl
  have cN := fun (word : ByteArray) hs => number_any T (d := 1) word nm ha.1.1 ha.1.2 H1.out.wr (T.keep hK H1.out.bel) (by decide) hs hl
  have e : adjT ⟨kn, nm, md⟩ = if kn = 1 then tellT 1 [wPercent, decT nm 3, modeT md] else if kn = 2 then tellT 1 [wCap, nmbT nm] else if kn = 3 then tellT 1 [wMinimum, nmbT nm] else if kn = 4 then tellT 1 [wAdd, nmbT nm] else [] := rfl
  rw [e]
  have hI := ha.2.1
  have KP1 := hid kp1
  have HW := hid hw1
  have HB1 := hid hb1
  clear e hw1 hb1 b1 kp1 h
  by_cases h1 : kn = 1
  · subst h1
    rw [if_pos rfl]
    have cD := fun W hb => T.dec nm 3 W (T.keep hK (w' := W) hb) ha.1.1 ha.1.2 (by decide) (by decide)
    have cM := fun W hb => mode_any T md ha.2.2 W (T.keep hK (w' := W) hb)
    obtain ⟨X, hX⟩ : ∃ S : ByteArray, S = ⟨(decT nm (3 : Int).toNat).toArray⟩ := ⟨_, rfl⟩
    obtain ⟨Y, hY⟩ : ∃ S : ByteArray, S = ⟨(modeT md).toArray⟩ := ⟨_, rfl⟩
    have zX : X.size ≤ 30 := by rw [hX, ba_size]; exact decT_len ha.1.2 (by decide)
    have zY : Y.size ≤ 8 := by rw [hY, ba_size]; exact modeT_len _
    have fin : Hid (tellT 1 [wPercent, decT nm 3, modeT md] = tellT 1 ([(⟨#[112, 101, 114, 99, 101, 110, 116]⟩ : ByteArray), X, Y].map (·.data.toList))) := hid (by rw [hX, hY]; rfl)
    rw [← hX] at cD
    rw [← hY] at cM
    have BB := hid (Kp.of (B := w0.heap.size) (k := k) (Below.drew (Below.refl w1.heap.size w1)) H1.out.wr.size)
    have WW := hid (H1.out.on (Below.drew (Below.refl w1.heap.size w1)))
    have KS : Hid (∀ w', Kp w0.heap.size k w1 w' → w'.cell? ⟨w.heap.size, 1, none⟩ = some (.int .i64 nm) ∧ w'.cell? ⟨w.heap.size, 2, none⟩ = some (.int .i64 md) ∧ Kp w0.heap.size k w1 w') := hid fun w' g => by
      have := g.at HB1.out (by omega) (by decide)
      exact ⟨by rw [cell_of this]; rfl, by rw [cell_of this]; rfl, g⟩
    have CD := hid cD
    have CM := hid cM
    clear cD cM hX hY cN
    go_enter Tryz.func55, Tryz.ntmps55
    go_upto_region 1 with fail
    rw [← HW.out]
    clear HW
    go_upto_region 3 with fail
    go_region_held_law (fun w' => w'.cell? ⟨w.heap.size, 1, none⟩ = some (.int .i64 nm) ∧ w'.cell? ⟨w.heap.size, 2, none⟩ = some (.int .i64 md) ∧ Kp w0.heap.size k w1 w')
      ((first | (refine KS.out _ ?_; exact BB.out) | (refine KS.out _ ?_; exact BB.out.trans (Kp.of (bel_alloc _ _) WW.out.wr.size))))
      (first
        | (go_at_call 78
           refine (CD.out _ WW.out.bel).mono ?_
           rintro e w' ⟨rfl, b⟩
           replace BB := hid (BB.out.trans (Kp.of b WW.out.wr.size))
           replace WW := hid (WW.out.on b)
           clear b)
        | (go_at_call 10
           refine (CM.out _ WW.out.bel).mono ?_
           rintro e w' ⟨rfl, b⟩
           subst b)
        | (go_at_call 25
           refine (tell_new [(⟨#[112, 101, 114, 99, 101, 110, 116]⟩ : ByteArray), X, Y] WW.out.wr (by decide) (by show 3 ≤ 100; decide) (by rw [jl3]; show l.length + (7 + X.size + Y.size + 2) + 300 ≤ _; omega)).mono ?_
           rintro e w' ⟨rfl, q, kp⟩
           replace BB := hid (BB.out.trans kp)
           replace WW := hid (WW.out.put q kp)
           clear q kp))
    all_goals
      go_wp2
      go_end0
      exact ⟨rfl, by rw [fin.out]; exact WW.out, KP1.out.trans BB.out⟩
  · rw [if_neg h1]
    by_cases h2 : kn = 2
    · subst h2
      rw [if_pos rfl]
      have c := cN ⟨#[99, 97, 112]⟩ (by decide)
      clear cN h1
      go_enter Tryz.func55, Tryz.ntmps55
      go_upto_region 1 with fail
      rw [← HW.out]
      clear HW
      go_wp2_with (go_at_call 51; refine c.mono ?_; rintro e w2 ⟨rfl, q, kp⟩)
      go_end0
      exact ⟨rfl, H1.out.put q kp, KP1.out.trans kp⟩
    · rw [if_neg h2]
      by_cases h3 : kn = 3
      · subst h3
        rw [if_pos rfl]
        have c := cN ⟨#[109, 105, 110, 105, 109, 117, 109]⟩ (by decide)
        clear cN h1 h2
        go_enter Tryz.func55, Tryz.ntmps55
        go_upto_region 1 with fail
        rw [← HW.out]
        clear HW
        go_wp2_with (go_at_call 51; refine c.mono ?_; rintro e w2 ⟨rfl, q, kp⟩)
        go_end0
        exact ⟨rfl, H1.out.put q kp, KP1.out.trans kp⟩
      · rw [if_neg h3]
        by_cases h4 : kn = 4
        · subst h4
          rw [if_pos rfl]
          have c := cN ⟨#[97, 100, 100]⟩ (by decide)
          clear cN h1 h2 h3
          go_enter Tryz.func55, Tryz.ntmps55
          go_upto_region 1 with fail
          rw [← HW.out]
          clear HW
          go_wp2_with (go_at_call 51; refine c.mono ?_; rintro e w2 ⟨rfl, q, kp⟩)
          go_end0
          exact ⟨rfl, H1.out.put q kp, KP1.out.trans kp⟩
        · rw [if_neg h4, List.append_nil]
          clear cN
          go_enter Tryz.func55, Tryz.ntmps55
          go_upto_region 1 with fail
          rw [← HW.out]
          clear HW
          go_wp2
          go_end0
          exact ⟨rfl, H1.out, KP1.out⟩
end
end Go.Proofs.YteelbdcgdkpioaaGreatDoor.Sw
