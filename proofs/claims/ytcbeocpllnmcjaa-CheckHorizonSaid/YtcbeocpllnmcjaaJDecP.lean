/- What the document's answers for layer 3 (poundageref03) come to: Leap, Days, Good, Number. -/
import Derived.Test.YtcbeocpllnmcjaaRows
import Derived.Test.YtcbeocpllnmcjaaJDatB
import Derived.Test.YtcbeocpllnmcjaaJMem
import Derived.OneCell
import Derived.Maps.AppendAt
import Derived.Test.YtcbeocpllnmcjaaJPureS
import Derived.Deep.MidRow
import Derived.Deep.WholeRow
import Derived.Deep.Onto
import Derived.Deep.Quiet
import Derived.Laws.OwnMore
namespace Go.Proofs.Ytcbeocpllnmcjaa.R3
open Go.RowKit Go.Sort P
theorem leap_any (y : Int) (w : World) :
    Calls Try.prog 10 #[.int .i64 y] w fun e w' => e = .returned (.bool (leap y)) ∧ w' = w := by
  go_enter Try.func10, Try.ntmps10
  go_wp2
  all_goals
    go_ret
    refine ⟨ret_b ?_, rfl⟩
    unfold leap
    simp_all [tmb]
    try omega
set_option maxHeartbeats 1000000 in
theorem days_any (y m : Int) (w : World) :
    Calls Try.prog 11 #[.int .i64 y, .int .i64 m] w fun e w' => e = .returned (.int .i64 (days y m)) ∧ Below w.heap.size w w' := by
  by_cases h : m < 1 ∨ 12 < m
  · have e := hid (days_out (y := y) h)
    have hm : m < 1 ∨ (¬ m < 1 ∧ 12 < m) := by omega
    clear h
    go_enter Try.func11, Try.ntmps11
    rcases hm with h | ⟨h1, h2⟩
    · go_wp2
      go_ret
      exact ⟨ret_i e.out.symm, Below.refl _ _⟩
    · go_wp2
      go_ret
      exact ⟨ret_i e.out.symm, Below.refl _ _⟩
  · have hm : m = 1 ∨ m = 2 ∨ m = 3 ∨ m = 4 ∨ m = 5 ∨ m = 6 ∨ m = 7 ∨ m = 8 ∨ m = 9 ∨ m = 10 ∨ m = 11 ∨ m = 12 := by omega
    clear h
    by_cases h2 : m = 2
    · subst h2
      clear hm
      cases hl : leap y
      · have e : days y 2 = 28 := by unfold days; rw [lp_no hl]; rfl
        have E := hid e
        clear e
        go_enter Try.func11, Try.ntmps11
        go_wp2_with (go_at_call 10; refine (leap_any _ _).mono ?_; rintro e w' ⟨rfl, h'⟩; rw [h'])
        go_ret
        exact ⟨ret_i E.out.symm, (Below.refl _ _).alloc (Nat.le_refl _) _⟩
      · have e : days y 2 = 29 := by unfold days; rw [lp_yes hl]; rfl
        have E := hid e
        clear e
        go_enter Try.func11, Try.ntmps11
        go_wp2_with (go_at_call 10; refine (leap_any _ _).mono ?_; rintro e w' ⟨rfl, h'⟩; rw [h'])
        go_ret
        exact ⟨ret_i E.out.symm, Below.refl _ _⟩
    · rcases hm with rfl | rfl | rfl | rfl | rfl | rfl | rfl | rfl | rfl | rfl | rfl | rfl
      all_goals first | omega | skip
      all_goals
        go_enter Try.func11, Try.ntmps11
        go_wp2
        go_ret
        exact ⟨ret_i (by unfold days; rfl), (Below.refl _ _).alloc (Nat.le_refl _) _⟩
end Go.Proofs.Ytcbeocpllnmcjaa.R3
/- What the document's answers for layer 3 (poundageref03) come to: Good, Number. -/
namespace Go.Proofs.Ytcbeocpllnmcjaa.R3
open Go.RowKit Go.Sort P
/-- A box of one's own, then what leaves the box alone. -/
theorem on2 {w w' : World} {o : Obj} (h : Below (w.alloc o).heap.size (w.alloc o) w') : Below w.heap.size w w' :=
  ((Below.refl _ _).alloc (Nat.le_refl _) _).trans (h.mono (by simp))
set_option maxHeartbeats 1000000 in
theorem good_any (y m d : Int) (w : World) :
    Calls Try.prog 13 #[dv y m d] w fun e w' => e = .returned (.bool (good y m d)) ∧ Below w.heap.size w w' := by
  unfold dv
  have cD : ∀ W, Calls Try.prog 11 #[.int .i64 y, .int .i64 m] W fun e w' => e = .returned (.int .i64 (days y m)) ∧ Below W.heap.size W w' := fun W => days_any y m W
  have L : Lies3 (w.alloc (.cells #[.int .i64 y, .int .i64 m, .int .i64 d] 24)) w.heap.size (.int .i64 y) (.int .i64 m) (.int .i64 d) := Lies3.new rfl
  have k0 := cell_regrown L.c0
  have k1 := cell_regrown L.c1
  have k2 := cell_regrown L.c2
  clear L
  by_cases h : 1 ≤ y ∧ y ≤ 9999 ∧ 1 ≤ m ∧ m ≤ 12 ∧ 1 ≤ d
  · obtain ⟨h1, h2, h3, h4, h5⟩ := h
    have g : good y m d = decide (d ≤ days y m) := by unfold good; rw [decide_eq_decide]; omega
    have G := hid g
    have b1 : decide (1 ≤ y) = true := decide_eq_true h1
    have b2 : decide (y ≤ 9999) = true := decide_eq_true h2
    have b3 : decide (1 ≤ m) = true := decide_eq_true h3
    have b4 : decide (m ≤ 12) = true := decide_eq_true h4
    have b5 : decide (1 ≤ d) = true := decide_eq_true h5
    have qD := fun a b c => Calls.regrown_of (cD (grow (redrawn (w.alloc a) b) c))
    clear g h1 h2 h3 h4 h5 cD
    go_enter Try.func13, Try.ntmps13
    go_wp2
    refine wp_region_quiet_below (by kernel_rfl) (by kernel_rfl) ?_
    repeat (go_big_quiet_step ((go_at_call 11; exact qD _ _ _)))
    refine wpQuiet_nil ?_
    intro _ hw'
    obtain ⟨⟨dq, osq⟩, hw''⟩ := hw'
    subst hw''
    go_wp2
    go_ret
    exact ⟨ret_b G.out.symm, on2 (below_regrown _ dq osq)⟩
  · have g : good y m d = false := by
      rw [Bool.eq_false_iff]
      intro k
      obtain ⟨a1, a2, a3, a4, a5, _⟩ := good_iff.1 k
      exact h ⟨a1, a2, a3, a4, a5⟩
    have G := hid g
    clear g cD
    rcases Decidable.em (1 ≤ y) with h1 | h1
    · have b1 : decide (1 ≤ y) = true := decide_eq_true h1
      rcases Decidable.em (y ≤ 9999) with h2 | h2
      · have b2 : decide (y ≤ 9999) = true := decide_eq_true h2
        rcases Decidable.em (1 ≤ m) with h3 | h3
        · have b3 : decide (1 ≤ m) = true := decide_eq_true h3
          rcases Decidable.em (m ≤ 12) with h4 | h4
          · have b4 : decide (m ≤ 12) = true := decide_eq_true h4
            rcases Decidable.em (1 ≤ d) with h5 | h5
            · exact absurd ⟨h1, h2, h3, h4, h5⟩ h
            · have b5 : decide (1 ≤ d) = false := decide_eq_false h5
              clear h
              go_enter Try.func13, Try.ntmps13
              go_wp2
              refine wp_region_quiet_below (by kernel_rfl) (by kernel_rfl) ?_
              repeat (go_big_quiet_step (fail))
              refine wpQuiet_nil ?_
              intro _ hw'
              obtain ⟨⟨dq, osq⟩, hw''⟩ := hw'
              subst hw''
              go_wp2
              go_ret
              exact ⟨ret_b G.out.symm, on2 (below_regrown _ dq osq)⟩
          · have b4 : decide (m ≤ 12) = false := decide_eq_false h4
            clear h
            go_enter Try.func13, Try.ntmps13
            go_wp2
            refine wp_region_quiet_below (by kernel_rfl) (by kernel_rfl) ?_
            repeat (go_big_quiet_step (fail))
            refine wpQuiet_nil ?_
            intro _ hw'
            obtain ⟨⟨dq, osq⟩, hw''⟩ := hw'
            subst hw''
            go_wp2
            go_ret
            exact ⟨ret_b G.out.symm, on2 (below_regrown _ dq osq)⟩
        · have b3 : decide (1 ≤ m) = false := decide_eq_false h3
          clear h
          go_enter Try.func13, Try.ntmps13
          go_wp2
          refine wp_region_quiet_below (by kernel_rfl) (by kernel_rfl) ?_
          repeat (go_big_quiet_step (fail))
          refine wpQuiet_nil ?_
          intro _ hw'
          obtain ⟨⟨dq, osq⟩, hw''⟩ := hw'
          subst hw''
          go_wp2
          go_ret
          exact ⟨ret_b G.out.symm, on2 (below_regrown _ dq osq)⟩
      · have b2 : decide (y ≤ 9999) = false := decide_eq_false h2
        clear h
        go_enter Try.func13, Try.ntmps13
        go_wp2
        refine wp_region_quiet_below (by kernel_rfl) (by kernel_rfl) ?_
        repeat (go_big_quiet_step (fail))
        refine wpQuiet_nil ?_
        intro _ hw'
        obtain ⟨⟨dq, osq⟩, hw''⟩ := hw'
        subst hw''
        go_wp2
        go_ret
        exact ⟨ret_b G.out.symm, on2 (below_regrown _ dq osq)⟩
    · have b1 : decide (1 ≤ y) = false := decide_eq_false h1
      clear h
      go_enter Try.func13, Try.ntmps13
      go_wp2
      refine wp_region_quiet_below (by kernel_rfl) (by kernel_rfl) ?_
      repeat (go_big_quiet_step (fail))
      refine wpQuiet_nil ?_
      intro _ hw'
      obtain ⟨⟨dq, osq⟩, hw''⟩ := hw'
      subst hw''
      go_wp2
      go_ret
      exact ⟨ret_b G.out.symm, on2 (below_regrown _ dq osq)⟩
end Go.Proofs.Ytcbeocpllnmcjaa.R3
/- What the document's answers for layer 3 (poundageref03) come to: Number, Of. -/
namespace Go.Proofs.Ytcbeocpllnmcjaa.R3
open Go.RowKit Go.Sort P
theorem below_on {w W w' : World} (h : Below w.heap.size w W) (hb : Below W.heap.size W w') : Below w.heap.size w w' := h.trans (hb.mono h.size)
end Go.Proofs.Ytcbeocpllnmcjaa.R3
/- Plans whose rows a call has made: each in a block of its own, new and free to write. -/
namespace Go.Proofs.Ytcbeocpllnmcjaa.Mm
open Go.RowKit Go.Deep P R6
/-- The rows of a plan. -/
inductive Slot where
  | m
  | f
  | c
  | t (i : Nat)
  | a (i : Nat)
deriving DecidableEq
/-- Where a charge's rows lie. -/
structure Hd where
  ta : Option Addr
  tc : Nat
  aa : Option Addr
  ac : Nat
/-- A row: its elements' type and size, its slice, its cells. -/
structure R where
  e : TypeId
  size : Nat
  a : Option Addr
  n : Nat
  cap : Nat
  xs : List Value
def R.v (r : R) : Value := .slice r.a r.n r.cap
/-- Rows, each owned, each in another block. -/
structure Owns (w : World) (base : Nat) (ρ : Slot → Option R) : Prop where
  own : ∀ s r, ρ s = some r → w.ownsRow base r.e r.size r.v r.n r.xs
  apart : ∀ s t r r' k, ρ s = some r → ρ t = some r' → r.v.ownBlock = some k → r'.v.ownBlock = some k → s = t
theorem Owns.on {w w' : World} {base : Nat} {ρ : Slot → Option R} (h : Owns w base ρ) (b : Below w.heap.size w w') : Owns w' base ρ := ⟨fun s r hs => owns_on (h.own s r hs) b, h.apart⟩
/-- The others, where one row's block is written. -/
theorem Owns.others {w w' : World} {base : Nat} {ρ : Slot → Option R} (h : Owns w base ρ) {s : Slot} {r : R} (hs : ρ s = some r) (hg : w.grownBy w' r.v.ownBlock) : ∀ t r', t ≠ s → ρ t = some r' → w'.ownsRow base r'.e r'.size r'.v r'.n r'.xs := by
  intro t r' hne ht
  refine (h.own t r' ht).kept hg ?_
  cases hb : r'.v.ownBlock with
  | none => exact .inl rfl
  | some k =>
    refine .inr (fun e => hne ?_)
    exact h.apart t s r' r k ht hs hb e.symm
def zC (x : Charge × Hd) : List Value := chargeC x.1 x.2.ta x.2.tc x.2.aa x.2.ac
theorem zC_len (x : Charge × Hd) : (zC x).length = 16 := rfl
/-- A plan's rows. -/
def rowOf (p : Plan) (ma : Option Addr) (mc : Nat) (fa : Option Addr) (fc : Nat) (ca : Option Addr) (cc : Nat) (hs : List Hd) : Slot → Option R
  | .m => some ⟨50, 5, ma, p.meters.length, mc, p.meters.flatMap meterC⟩
  | .f => some ⟨55, 10, fa, p.fees.length, fc, p.fees.flatMap feeC⟩
  | .c => some ⟨59, 16, ca, p.charges.length, cc, (p.charges.zip hs).flatMap zC⟩
  | .t i => ((p.charges.zip hs)[i]?).map fun x => ⟨96, 2, x.2.ta, x.1.tiers.length, x.2.tc, x.1.tiers.flatMap tierC⟩
  | .a i => ((p.charges.zip hs)[i]?).map fun x => ⟨87, 3, x.2.aa, x.1.adjusts.length, x.2.ac, x.1.adjusts.flatMap adjC⟩
/-- What stands in a plan fits into its cells. -/
structure Fits (p : Plan) : Prop where
  meters : ∀ m ∈ p.meters, strOk m.name ∧ strOk m.unit ∧ I64 m.max ∧ I64 m.line ∧ I64 m.col
  fees : ∀ f ∈ p.fees, I64 f.amount ∧ winOk f.win ∧ I64 f.line ∧ I64 f.col
  charges : ∀ c ∈ p.charges, strOk c.meter ∧ winOk c.win ∧ (I64 c.allowance ∧ I64 c.block ∧ I64 c.kind ∧ I64 c.mode ∧ I64 c.line ∧ I64 c.col) ∧ (∀ t ∈ c.tiers, I64 t.upto ∧ I64 t.rate) ∧ ∀ a ∈ c.adjusts, I64 a.kind ∧ I64 a.num ∧ I64 a.mode
  name : strOk p.name ∧ strOk p.cur
  days : dayOk p.a ∧ dayOk p.b
  place : I64 p.line ∧ I64 p.col
theorem row_of_own {α : Type} {n : Nat} {cells : α → List Value} {ok : α → Prop} {hn : ∀ x, (cells x).length = n} {w : World} {base : Nat} {e : TypeId} {ao : Option Addr} {cap : Nat} {xs : List α} (h : w.ownsRow base e n (.slice ao xs.length cap) xs.length (xs.flatMap cells)) (hok : ∀ x ∈ xs, ok x) :
    Row (leaf n cells ok hn) w ao xs.length cap xs := by
  obtain ⟨ao', cap', e, k⟩ := row_own (ok := ok) (hn := hn) h hok
  simp only [Value.slice.injEq] at e
  obtain ⟨rfl, _, rfl⟩ := e
  exact k
theorem zip_get {α β : Type} {l : List α} {m : List β} {i : Nat} {a : α} {b : β} (h : l[i]? = some a) (k : m[i]? = some b) : (l.zip m)[i]? = some (a, b) := by
  rw [List.getElem?_zip_eq_some]; exact ⟨h, k⟩
/-- Where its rows are owned, a plan lies. -/
theorem lies_of {w : World} {base : Nat} {p : Plan} {ma : Option Addr} {mc : Nat} {fa : Option Addr} {fc : Nat} {ca : Option Addr} {cc : Nat} {hs : List Hd} (hl : hs.length = p.charges.length) (ok : Fits p)
    (h : ∀ s r, rowOf p ma mc fa fc ca cc hs s = some r → w.ownsRow base r.e r.size r.v r.n r.xs) : PlanLies w (planC p ma mc fa fc ca cc) p ma mc fa fc ca cc := by
  refine ⟨rfl, row_of_own (h .m _ rfl) ok.meters, row_of_own (h .f _ rfl) ok.fees, ?_, ok.name, ok.days, ok.place⟩
  have hc := h .c _ rfl
  have hz : (p.charges.zip hs).length = p.charges.length := by rw [List.length_zip, hl, Nat.min_self]
  rcases hc.2 with ⟨h1, h2⟩ | ⟨g, cap, cur, h1, _, h3, h4, h5, _, _⟩
  · simp only [R.v, Value.slice.injEq] at h1
    obtain ⟨rfl, h1b, rfl⟩ := h1
    exact ⟨rfl, Nat.le_of_eq h1b, Nat.zero_le _, fun n => absurd (List.eq_nil_of_length_eq_zero h1b) n⟩
  · simp only [R.v, Value.slice.injEq] at h1
    obtain ⟨rfl, _, rfl⟩ := h1
    have hg : g < w.heap.size := by
      rcases Nat.lt_or_ge g w.heap.size with k | k
      · exact k
      · rw [Array.getElem?_eq_none k] at h3; cases h3
    refine ⟨rfl, h4, by unfold maxLen at h5; omega, fun _ => ⟨g, 0, rfl, hg, fun j c hj => ?_⟩⟩
    have hjl := (List.getElem?_eq_some_iff.1 hj).1
    obtain ⟨d, hd⟩ : ∃ d, hs[j]? = some d := ⟨_, List.getElem?_eq_getElem (by omega)⟩
    have hzj := zip_get hj hd
    obtain ⟨o1, o2, o3, o4, o5⟩ := ok.charges c (List.mem_of_getElem? hj)
    have ht := h (.t j) ⟨_, 2, d.ta, c.tiers.length, d.tc, c.tiers.flatMap tierC⟩ (by show Option.map _ ((p.charges.zip hs)[j]?) = _; rw [hzj]; rfl)
    have ha := h (.a j) ⟨_, 3, d.aa, c.adjusts.length, d.ac, c.adjusts.flatMap adjC⟩ (by show Option.map _ ((p.charges.zip hs)[j]?) = _; rw [hzj]; rfl)
    refine ⟨chargeC c d.ta d.tc d.aa d.ac, ⟨d.ta, d.tc, d.aa, d.ac, rfl, row_of_own ht o4, row_of_own ha o5, o1, o2, o3⟩, fun i u hi => ?_⟩
    have hil : i < 16 := (List.getElem?_eq_some_iff.1 hi).1
    have hlt : j * 16 + i < p.charges.length * 16 := by omega
    show w.cell? ⟨g, 0 + j * 16 + i, none⟩ = some u
    rw [Nat.zero_add, World.ownsRow.cellAt hc _ hlt]
    exact flat_get (cells := zC) zC_len _ j (c, d) i u hzj hi
/-- A struct's block. -/
structure Box (W : World) (b : Nat) (cs : List Value) : Prop where
  lt : b < W.heap.size
  cell : ∀ j u, cs[j]? = some u → W.cell? ⟨b, j, none⟩ = some u
  free : ∀ j, W.frozen? ⟨b, j, none⟩ = false
theorem Box.new (w : World) (cs : List Value) (t : TypeId) : Box (w.alloc (.cells cs.toArray t)) w.heap.size cs := by
  refine ⟨by simp, fun j u h => ?_, fun j => ?_⟩
  · rw [World.cell?_alloc_new]
    simpa using h
  · simp
theorem Box.on {W W' : World} {b : Nat} {cs : List Value} (h : Box W b cs) (hb : Below W.heap.size W W') : Box W' b cs :=
  ⟨Nat.lt_of_lt_of_le h.lt hb.size, fun j u k => by rw [hb.cell h.lt]; exact h.cell j u k, fun j => by rw [hb.frozen h.lt]; exact h.free j⟩
theorem Box.grown {W W' : World} {b : Nat} {cs : List Value} (h : Box W b cs) {row : Option Nat} (hg : W.grownBy W' row) (hne : some b ≠ row) : Box W' b cs :=
  ⟨Nat.lt_of_lt_of_le h.lt hg.size, fun j u k => by rw [World.cell?_of_block (w := W) (hg.block b h.lt hne)]; exact h.cell j u k, fun j => by rw [World.frozen?_of_block (w := W) (hg.block b h.lt hne)]; exact h.free j⟩
theorem Box.other {W : World} {b : Nat} {cs : List Value} (h : Box W b cs) {p : Addr} (hp : b ≠ p.block) (u : Value) : Box (W.setCell p u) b cs :=
  ⟨by simpa using h.lt, fun j v k => by rw [World.cell?_of_block (w := W) (Below.heap_setCell _ _ _ _ hp)]; exact h.cell j v k, fun j => by rw [World.frozen?_of_block (w := W) (Below.heap_setCell _ _ _ _ hp)]; exact h.free j⟩
theorem Box.set {W : World} {b : Nat} {cs : List Value} (h : Box W b cs) (i : Nat) (u : Value) : Box (W.setCell ⟨b, i, none⟩ u) b (cs.set i u) := by
  refine ⟨by simpa using h.lt, fun j v k => ?_, fun j => ?_⟩
  · rw [List.getElem?_set] at k
    split at k
    · rename_i e
      subst e
      split at k
      · rename_i hi
        obtain rfl : u = v := by simpa using k
        have := h.cell i (cs[i]'hi) (List.getElem?_eq_getElem hi)
        exact World.cell?_setCell_same (h := this) ..
      · cases k
    · rename_i e
      rw [World.cell?_setCell_other (h := show (⟨b, i, none⟩ : Addr) ≠ ⟨b, j, none⟩ by simp only [ne_eq, Addr.mk.injEq, and_true, true_and]; exact e) ..]
      exact h.cell j v k
  · simpa using h.free j
end Go.Proofs.Ytcbeocpllnmcjaa.Mm
/- Many cells at once: structs loaded and stored whole, rows that are written in the middle, a struct result in a cell. No function of the program is named here. -/
namespace Go.Proofs.Ytcbeocpllnmcjaa.Md
open Go.RowKit Mm
/-- A struct goes into the block that was made last. -/
theorem wpList_store_new {P : Program} {ops : Array Oper} {rest : List Oper} {op : Oper} {a : Act} {Q : Exit → Act → World → Prop} (hgd : op.guard = none) (ty : TypeId) (x y : Operand) (ho : op.op = .store ty x y)
    (W : World) (z cs : Array Value) (hx : a.eval x = .pointer (some ⟨W.heap.size, 0, none⟩)) (hy : a.eval y = .agg cs) (hi : (P.info? ty).map (·.size) = some cs.size) (hz : z.size = cs.size) (h1 : cs.all (·.oneCell') = true)
    (h : wpList P ops Q rest (a.put op.dst undef) (W.alloc (.cells cs ty))) : wpList P ops Q (op :: rest) a (W.alloc (.cells z ty)) :=
  wpList_plain hgd fun K hK => by
    have := hK _ _ h
    unfold Oper.wp execOp
    simp only [ho, hx, hy, Sem.run_bind, run_storeAt_new W ty z cs hi hz h1, Result.andThen_ok]
    exact this
theorem below_setCells {B : Nat} {a : World} {b : Nat} (hb : B ≤ b) : ∀ (vs : List Value) (o : Nat) (w : World), Below B a w → Below B a (w.setCells b o vs)
  | [], _, _, h => h
  | v :: r, o, _, h => below_setCells hb r (o + 1) _ (h.setCell hb v)
theorem owns_setCells_below {base : Nat} {e : TypeId} {size : Nat} {v : Value} {n : Nat} {xs : List Value} {b : Nat} (hb : b < base) : ∀ (vs : List Value) (o : Nat) (w : World), w.ownsRow base e size v n xs → (w.setCells b o vs).ownsRow base e size v n xs
  | [], _, _, h => h
  | u :: r, o, _, h => owns_setCells_below hb r (o + 1) _ (ownsRow_setCell_below h hb u)
/-- A struct result in a cell. -/
theorem results_mid {P : Program} {fn : Func} {p : Tmp} {ty : TypeId} (h : fn.results = #[.cell p ty]) (tmps : Array Value) (w : World) (b : Nat) (cs : List Value) (d : TypeDesc)
    (hp : tmps.getD p undef = .pointer (some ⟨b, 0, none⟩)) (hc : w.rangeAt b 0 cs) (hu : P.underlying ty = some d) (hd : d.isRow = true) (hi : (P.info? ty).map (·.size) = some cs.length) :
    (results fn tmps).run P w = .ok (.agg cs.toArray) w := by
  have hp' : tmps[p]?.getD undef = .pointer (some ⟨b, 0, none⟩) := by simpa using hp
  simp [results, h, hp', asAddr, run_loadVar_mid w b 0 ty cs d hc hu hd hi]
theorem range_of {w : World} {b : Nat} {cs : List Value} (h : ∀ j v, cs[j]? = some v → w.cell? ⟨b, j, none⟩ = some v) : w.rangeAt b 0 cs := fun j v hv => by rw [Nat.zero_add]; exact h j v hv
theorem there_of {w : World} {b : Nat} {cs : List Value} (h : ∀ j v, cs[j]? = some v → w.cell? ⟨b, j, none⟩ = some v) (f : ∀ j, w.frozen? ⟨b, j, none⟩ = false) {n : Nat} (hn : n = cs.length) : w.there b 0 n := fun j hj => by
  subst hn
  rw [Nat.zero_add]
  exact ⟨by rw [h j _ (List.getElem?_eq_getElem hj)]; rfl, f j⟩
theorem setCell_self {w : World} {b o : Nat} {v : Value} (h : w.cell? ⟨b, o, none⟩ = some v) : w.setCell ⟨b, o, none⟩ v = w := by
  have e : (w.setCell ⟨b, o, none⟩ v).heap = w.heap := by
    apply Array.ext_getElem?
    intro i
    by_cases hi : i = b
    · subst hi
      unfold World.cell? at h
      unfold World.setCell
      simp only [Array.getElem?_modify, if_true]
      cases hb : w.heap[i]? with
      | none => rfl
      | some x =>
        rw [hb] at h
        cases x with
        | cells cs t fr =>
          simp at h
          obtain ⟨hl, rfl⟩ := Array.getElem?_eq_some_iff.1 h
          simp only [Option.map_some, Option.some.injEq, Obj.cells.injEq, and_true, Option.isSome_none, Bool.false_eq_true, if_false]
          apply Array.ext_getElem?
          intro j
          rw [Array.getElem?_setIfInBounds]
          by_cases hj : o = j
          · subst hj
            rw [if_pos rfl, if_pos hl, h]
          · rw [if_neg hj]
        | _ => simp at h
    · exact Below.heap_setCell w ⟨b, o, none⟩ v i hi
  unfold World.setCell at e ⊢
  cases w
  simp_all
theorem setCells_self {b : Nat} : ∀ (vs : List Value) (o : Nat) {w : World}, w.rangeAt b o vs → w.setCells b o vs = w
  | [], _, _, _ => rfl
  | v :: r, o, w, h => by
    have h0 := h 0 v rfl
    rw [Nat.add_zero] at h0
    rw [World.setCells, setCell_self h0]
    exact setCells_self r (o + 1) (fun j u hj => by
      have := h (j + 1) u (by simpa using hj)
      rwa [show o + (j + 1) = o + 1 + j by omega] at this)
/-- What lies there already is stored once more: nothing is otherwise. -/
theorem quiet_store {P : Program} {o : Oper} {a : Act} {C : World → Prop} {K : Act → Prop} (ty : TypeId) (x y : Operand) (ho : o.op = .store ty x y) (b i : Nat) (cells : Array Value) (hx : a.eval x = .pointer (some ⟨b, i, none⟩)) (hy : a.eval y = .agg cells)
    (hC : ∀ w, C w → w.rangeAt b i cells.toList ∧ w.there b i cells.size) (hi : (P.info? ty).map (·.size) = some cells.size) (h1 : cells.all (·.oneCell') = true) (h : K (a.put o.dst undef)) : o.quiet P a C K :=
  ⟨undef, fun w hw => by
    obtain ⟨k1, k2⟩ := hC w hw
    unfold Oper.quietAt execOp
    simp only [ho, hx, hy, Sem.run_bind, run_storeAt_mid w b i ty cells k2 hi h1, Result.andThen_ok]
    exact ⟨setCells_self _ _ k1, rfl⟩, h⟩
end Go.Proofs.Ytcbeocpllnmcjaa.Md
/- Numbers with a point, as plain arithmetic on letters: no program is named here. -/
namespace Go.Proofs.Ytcbeocpllnmcjaa.P
open Go.RowKit
/-- A digit, or the point. -/
def isDg (b : UInt8) : Bool := decide (48 ≤ b.toNat ∧ b.toNat ≤ 57)
def isDp (b : UInt8) : Bool := isDg b || b == 46
/-- Whether the first letters say that it is no number. -/
def oddHead (l : List UInt8) : Bool := l.getD 0 0 == 48 && (decide (1 < l.length) && !(l.getD 1 0 == 46))
/-- Whether the letters may stand in a number: digits, at most one point, and that not the last. -/
def evenBody (l : List UInt8) : Bool := l.all isDp && (decide (l.count 46 ≤ 1) && !(l.getLast? == some 46))
/-- A text's form. -/
def fm (l : List UInt8) : Nat := if isDg (l.getD 0 0) && evenBody l && !oddHead l then 1 + l.count 46 else 0
theorem isDg_iff (b : UInt8) : isDg b = true ↔ 48 ≤ b.toNat ∧ b.toNat ≤ 57 := by unfold isDg; rw [decide_eq_true_eq]
theorem isDg_no46 {b : UInt8} (h : isDg b = true) : b ≠ 46 := by
  rintro rfl
  revert h
  decide
theorem fm_empty : fm [] = 0 := by decide
theorem fm_first {l : List UInt8} (h : isDg (l.getD 0 0) = false) : fm l = 0 := by unfold fm; rw [h]; rfl
theorem fm_body {l : List UInt8} (h : evenBody l = false) : fm l = 0 := by unfold fm; rw [h]; simp
theorem fm_head {l : List UInt8} (h : oddHead l = true) : fm l = 0 := by unfold fm; rw [h]; simp
theorem fm_is {l : List UInt8} (h0 : isDg (l.getD 0 0) = true) (h1 : evenBody l = true) (h2 : oddHead l = false) : fm l = 1 + l.count 46 := by unfold fm; rw [h0, h1, h2]; rfl
theorem take_snoc {l : List UInt8} {i : Nat} (h : i < l.length) : l.take (i + 1) = l.take i ++ [l.getD i 0] := by
  rw [List.take_add_one, List.getElem?_eq_getElem h, List.getD_eq_getElem?_getD, List.getElem?_eq_getElem h]
  rfl
theorem mem_getD {l : List UInt8} {i : Nat} (h : i < l.length) : l.getD i 0 ∈ l := by
  rw [List.getD_eq_getElem?_getD, List.getElem?_eq_getElem h]
  exact List.getElem_mem h
theorem last_getD {l : List UInt8} {i : Nat} (h : i + 1 = l.length) : l.getLast? = some (l.getD i 0) := by
  rw [List.getLast?_eq_getElem?, show l.length - 1 = i by omega, List.getD_eq_getElem?_getD, List.getElem?_eq_getElem (by omega)]
  rfl
/-- What a walk along the letters knows so far. -/
structure Seen (l : List UInt8) (i p : Nat) : Prop where
  le : i ≤ l.length
  all : (l.take i).all isDp = true
  count : (l.take i).count 46 = p
  one : p ≤ 1
  last : i = l.length → (l.getLast? == some 46) = false
theorem Seen.start {l : List UInt8} (h : 0 < l.length) : Seen l 0 0 := ⟨Nat.zero_le _, rfl, rfl, Nat.zero_le _, fun e => by omega⟩
theorem Seen.digit {l : List UInt8} {i p : Nat} (S : Seen l i p) (h : i < l.length) (hd : isDg (l.getD i 0) = true) : Seen l (i + 1) p := by
  have hn := isDg_no46 hd
  refine ⟨h, ?_, ?_, S.one, fun e => ?_⟩
  · rw [take_snoc h, List.all_append, S.all]
    generalize l.getD i 0 = b at *
    simp [isDp, hd]
  · rw [take_snoc h, List.count_append, S.count, List.count_singleton]
    generalize l.getD i 0 = b at *
    simp [hn]
  · rw [last_getD e]
    generalize l.getD i 0 = b at *
    simpa using hn
theorem Seen.point {l : List UInt8} {i p : Nat} (S : Seen l i p) (h : i < l.length) (hd : l.getD i 0 = 46) (hp : p = 0) (hi : i + 1 ≠ l.length) : Seen l (i + 1) (p + 1) := by
  refine ⟨h, ?_, ?_, by omega, fun e => absurd e hi⟩
  · rw [take_snoc h, List.all_append, S.all, hd]; rfl
  · rw [take_snoc h, List.count_append, S.count, hd]; rfl
theorem Seen.done {l : List UInt8} {p : Nat} (S : Seen l l.length p) : evenBody l = true ∧ l.count 46 = p := by
  have h1 := S.all
  have h2 := S.count
  rw [List.take_length] at h1 h2
  refine ⟨?_, h2⟩
  unfold evenBody
  rw [h1, h2, S.last rfl, decide_eq_true S.one]
  rfl
theorem Seen.two {l : List UInt8} {i p : Nat} (S : Seen l i p) (h : i < l.length) (hd : l.getD i 0 = 46) (hp : p = 1) : evenBody l = false := by
  have e : (l.take (i + 1)).count 46 = 2 := by rw [take_snoc h, List.count_append, S.count, hd, hp]; rfl
  have k : (l.take (i + 1)).count 46 ≤ l.count 46 := (List.take_sublist _ _).count_le _
  unfold evenBody
  rw [decide_eq_false (by omega)]
  simp
theorem ends_point {l : List UInt8} {i : Nat} (h : i + 1 = l.length) (hd : l.getD i 0 = 46) : evenBody l = false := by
  unfold evenBody
  rw [last_getD h, hd]
  simp
theorem bad_letter {l : List UInt8} {i : Nat} (h : i < l.length) (hd : isDg (l.getD i 0) = false) (hp : l.getD i 0 ≠ 46) : evenBody l = false := by
  have e : l.all isDp = false := by
    rw [Bool.eq_false_iff]
    intro k
    rw [List.all_eq_true] at k
    have := k _ (mem_getD h)
    unfold isDp at this
    rw [hd] at this
    simp at this
    exact hp this
  unfold evenBody
  rw [e]
  rfl
/-- How many digits stand behind the point; -1: there is none. -/
def stB (l : List UInt8) : Int := l.foldl (fun b c => if c = 46 then 0 else if 0 ≤ b then b + 1 else b) (-1)
/-- The digits' number. -/
def stV (l : List UInt8) : Nat := l.foldl (fun v c => if c = 46 then v else 10 * v + (c.toNat - 48)) 0
theorem stB_snoc (l : List UInt8) (c : UInt8) : stB (l ++ [c]) = if c = 46 then 0 else if 0 ≤ stB l then stB l + 1 else stB l := by
  unfold stB
  rw [List.foldl_append]
  rfl
theorem stV_snoc (l : List UInt8) (c : UInt8) : stV (l ++ [c]) = if c = 46 then stV l else 10 * stV l + (c.toNat - 48) := by
  unfold stV
  rw [List.foldl_append]
  rfl
/-- One digit more. -/
theorem acc_step {v d : Int} (hv : 0 ≤ v) (hd : 0 ≤ d) : (ok64 v && ok64 (cut64 v * 10 + d)) = ok64 (v * 10 + d) ∧ (if (ok64 v && ok64 (cut64 v * 10 + d)) = true then cut64 v * 10 + d else 0) = cut64 (v * 10 + d) := by
  by_cases h : I64 v
  · rw [cut64_t h, ok64_t h, Bool.true_and]
    exact ⟨rfl, rfl⟩
  · have h2 : ¬ I64 (v * 10 + d) := by unfold I64 at *; omega
    rw [ok64_f h, ok64_f h2, cut64_f h2]
    exact ⟨rfl, rfl⟩
/-- What Parse comes to: the number, whether the text or the places are bad, whether it is too great. -/
def pK (l : List UInt8) (places : Int) : Nat := (places - max (stB l) 0).toNat
def pV (l : List UInt8) (places : Int) : Int := (stV l : Int) * 10 ^ pK l places
def pBad (l : List UInt8) (places : Int) : Bool := decide (fm l = 0 ∨ places < 0 ∨ 9 < places ∨ places < stB l)
def pGreat (l : List UInt8) (places most : Int) : Bool := !ok64 (pV l places) || decide (most < pV l places)
def pN (l : List UInt8) (places most : Int) : Int := if pBad l places || pGreat l places most then 0 else pV l places
def pW (l : List UInt8) (places most : Int) : Int := if pBad l places then 1 else if pGreat l places most then 2 else 0
theorem fm_all {l : List UInt8} (h : fm l ≠ 0) : l.all isDp = true := by
  cases k : l.all isDp
  · exact absurd (fm_body (by unfold evenBody; rw [k]; rfl)) h
  · rfl
theorem dp_or {l : List UInt8} (h : l.all isDp = true) {i : Nat} (hi : i < l.length) : l.getD i 0 = 46 ∨ isDg (l.getD i 0) = true := by
  rw [List.all_eq_true] at h
  have := h _ (mem_getD hi)
  unfold isDp at this
  simp only [Bool.or_eq_true, beq_iff_eq] at this
  exact this.symm
end Go.Proofs.Ytcbeocpllnmcjaa.P
