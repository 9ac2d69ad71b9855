/- What the document's answers for layer 6 (poundageref06) come to: Row. -/
import Derived.Test.YtnhhhnngocdagaaDoorJRef6d
import Derived.Deep.AppendLies
import Derived.Deep.RegionHeldLaw
namespace Go.Proofs.YtnhhhnngocdagaaDoor.R6
open Go.RowKit Go.Sort P Mm Tl
def rM (m : Meter) : List ByteArray := [m.name, m.unit, t8 m.max]
def rF (f : Fee) : List ByteArray := t8 f.amount :: rW f.win
def rT (t : Tier) : List ByteArray := [t8 t.upto, t8 t.rate]
def rA (a : Adj) : List ByteArray := [t8 a.kind, t8 a.num, t8 a.mode]
def rCh (c : Charge) : List ByteArray := c.meter :: rW c.win ++ [t8 c.allowance, t8 c.block, t8 c.kind, t8 c.mode, t8 c.tiers.length, t8 c.adjusts.length]
def rC (c : Charge) : List ByteArray := rCh c ++ c.tiers.flatMap rT ++ c.adjusts.flatMap rA
def rHead (p : Plan) : List ByteArray := [p.name, p.cur] ++ rW ⟨false, p.a, p.b⟩ ++ [t8 p.meters.length, t8 p.fees.length, t8 p.charges.length]
def row (p : Plan) : List ByteArray := rHead p ++ p.meters.flatMap rM ++ p.fees.flatMap rF ++ p.charges.flatMap rC
theorem strs_len (l : List ByteArray) : (strs l).length = l.length := by unfold strs; rw [flat_len (n := 1) (fun _ => rfl)]; omega
theorem strs_one {l : List ByteArray} : ∀ u ∈ strs l, u.oneCell' = true := by
  intro u hu
  unfold strs at hu
  rw [List.mem_flatMap] at hu
  obtain ⟨s, _, hs⟩ := hu
  simp at hs
  subst hs
  rfl
theorem info_str : (Tryd.prog.info? 9).map (fun i => (i.zero, i.size, i.bytes)) = some (some (.string ⟨#[]⟩), 1, 16) := by kernel_rfl
theorem und_strs : Tryd.prog.underlying 74 = some (.slice 9) := by kernel_rfl
theorem news_new (w : World) (cs : List Value) (t : TypeId) : ∀ j u, cs[j]? = some u → (w.alloc (.cells cs.toArray t)).cell? ((⟨w.heap.size, 0, none⟩ : Addr).add j) = some u := fun j u h => by
  rw [Mm.add_plain, World.cell?_alloc_new]
  simpa using h
/-- What an append to a row of texts of the call's own leaves. -/
structure Appd (W w' : World) (base : Nat) (v : Value) (n m g cap : Nat) (xs news : List Value) : Prop where
  own : w'.ownsRow base 9 1 (.slice (some ⟨g, 0, none⟩) (n + m) cap) (n + m) (xs ++ news)
  grown : W.grownBy w' v.ownBlock
  lies : v.ownBlock = some g ∨ W.heap.size ≤ g
theorem grown_alloc {W w' : World} {o : Obj} {r : Option Nat} (h : (W.alloc o).grownBy w' r) : W.grownBy w' r := by
  have b := bel_alloc W o
  exact ⟨h.os.trans b.os, h.tape.trans b.tape, h.output.trans b.output, Nat.le_trans b.size h.size, fun k hk hr => (h.block k (Nat.lt_of_lt_of_le hk b.size) hr).trans (b.block k hk)⟩
theorem step_built {ops : Array Oper} {o : Oper} {a : Act} {K : Act → World → Prop} {Q : Exit → Act → World → Prop} {E : Prop} {W : World} {base : Nat} (news : List Value) (m : Nat) (d : Tmp) (hd : o.dst = some d) (hgd : o.guard = none) (s x : Operand)
    (ho : o.op = .call { callee := .builtin .append, args := #[s, x], argTypes := #[74, 74] }) (v : Value) (n : Nat) (xs : List Value) (hs : a.eval s = v) (hown : W.ownsRow base 9 1 v n xs)
    (hx : a.eval x = .slice (some ⟨W.heap.size, 0, none⟩) m m) (hl : news.length = m * 1) (h1 : ∀ u ∈ news, u.oneCell' = true) (hm : 0 < m) (hn : n + m ≤ 10000000000) (hbase : base ≤ W.heap.size)
    (h : ∀ g cap w', Appd W w' base v n m g cap xs news → K (a.put (some d) (.slice (some ⟨g, 0, none⟩) (n + m) cap)) w') :
    if Region.wanted o (yielded ops a.tmps) = true then Oper.wp Tryd.prog o a (W.alloc (.cells news.toArray 9)) K Q else E := by
  obtain ⟨i0, hi, hz0, hz1, hz2⟩ := info_parts info_str
  refine step_append_lies _ hgd s x 74 ho base 9 i0 (.string ⟨#[]⟩) 1 16 und_strs hi hz0 hz1 hz2 rfl (by decide) v n xs hs (hown.alloc _) ⟨W.heap.size, 0, none⟩ m m news hx hl (news_new W news _) h1 hm (by unfold maxLen; omega) (by omega) (Nat.le_trans hbase (bel_alloc W _).size) _ rfl ?_
  intro g cap w' k1 k2 k3 _
  rw [hd]
  refine h g cap w' ⟨k1, grown_alloc k2, k3.imp id (fun e => by rw [e]; exact (bel_alloc W _).size)⟩
theorem step_given {ops : Array Oper} {o : Oper} {a : Act} {K : Act → World → Prop} {Q : Exit → Act → World → Prop} {E : Prop} {W : World} {base : Nat} (news : List Value) (m c g0 : Nat) (d : Tmp) (hd : o.dst = some d) (hgd : o.guard = none) (s x : Operand)
    (ho : o.op = .call { callee := .builtin .append, args := #[s, x], argTypes := #[74, 74] }) (v : Value) (n : Nat) (xs : List Value) (hs : a.eval s = v) (hown : W.ownsRow base 9 1 v n xs)
    (hx : a.eval x = .slice (some ⟨g0, 0, none⟩) m c) (hl : news.length = m * 1) (hnews : ∀ j u, news[j]? = some u → W.cell? ((⟨g0, 0, none⟩ : Addr).add j) = some u) (h1 : ∀ u ∈ news, u.oneCell' = true) (hm : 0 < m) (hn : n + m ≤ 10000000000) (hbase : base ≤ W.heap.size)
    (h : ∀ g cap w', Appd W w' base v n m g cap xs news → K (a.put (some d) (.slice (some ⟨g, 0, none⟩) (n + m) cap)) w') :
    if Region.wanted o (yielded ops a.tmps) = true then Oper.wp Tryd.prog o a W K Q else E := by
  obtain ⟨i0, hi, hz0, hz1, hz2⟩ := info_parts info_str
  refine step_append_lies _ hgd s x 74 ho base 9 i0 (.string ⟨#[]⟩) 1 16 und_strs hi hz0 hz1 hz2 rfl (by decide) v n xs hs hown ⟨g0, 0, none⟩ m c news hx hl hnews h1 hm (by unfold maxLen; omega) (by omega) hbase _ rfl ?_
  intro g cap w' k1 k2 k3 _
  rw [hd]
  exact h g cap w' ⟨k1, k2, k3.imp id (fun e => by rw [e]; exact Nat.le_refl _)⟩
/-- What the walk carries from world to world: the row that is built, what was there, blocks of elements' copies. -/
structure Run (w1 W : World) (bx : List (Nat × Option Obj)) (v : Value) (n : Nat) (xs : List Value) : Prop where
  own : W.ownsRow w1.heap.size 9 1 v n xs
  bel : Below w1.heap.size w1 W
  boxes : ∀ k X, (k, X) ∈ bx → W.heap[k]? = X ∧ k < W.heap.size ∧ v.ownBlock ≠ some k
theorem Run.box {w1 W : World} {k : Nat} {X : Option Obj} {bx : List (Nat × Option Obj)} {v : Value} {n : Nat} {xs : List Value} (h : Run w1 W ((k, X) :: bx) v n xs) : W.heap[k]? = X := (h.boxes k X (.head _)).1
theorem Run.drop {w1 W : World} {b : Nat × Option Obj} {bx : List (Nat × Option Obj)} {v : Value} {n : Nat} {xs : List Value} (h : Run w1 W (b :: bx) v n xs) : Run w1 W bx v n xs := ⟨h.own, h.bel, fun k X hk => h.boxes k X (.tail _ hk)⟩
theorem Run.call {w1 W W' : World} {bx : List (Nat × Option Obj)} {v : Value} {n : Nat} {xs : List Value} (h : Run w1 W bx v n xs) (b : Below W.heap.size W W') : Run w1 W' bx v n xs :=
  ⟨owns_on h.own b, h.bel.trans (b.mono h.bel.size), fun k X hk => by
    obtain ⟨h1, h2, h3⟩ := h.boxes k X hk
    exact ⟨(b.block k h2).trans h1, Nat.lt_of_lt_of_le h2 b.size, h3⟩⟩
theorem Run.drew {w1 W : World} {bx : List (Nat × Option Obj)} {v : Value} {n : Nat} {xs : List Value} (h : Run w1 W bx v n xs) : Run w1 W.drew bx v n xs := ⟨h.own.drew, h.bel.drew, h.boxes⟩
theorem Run.appd {w1 W W' : World} {bx : List (Nat × Option Obj)} {v : Value} {n m g cap : Nat} {xs news : List Value} (h : Run w1 W bx v n xs) (k : Appd W W' w1.heap.size v n m g cap xs news) : Run w1 W' bx (.slice (some ⟨g, 0, none⟩) (n + m) cap) (n + m) (xs ++ news) :=
  ⟨k.own, h.bel.grown k.grown h.bel.size (fun j hj => (h.own.lt j hj).1), fun j X hj => by
    obtain ⟨h1, h2, h3⟩ := h.boxes j X hj
    refine ⟨(k.grown.block j h2 (fun e => h3 e.symm)).trans h1, Nat.lt_of_lt_of_le h2 k.grown.size, fun e => ?_⟩
    have e2 : g = j := by simpa [Value.ownBlock] using e
    rcases k.lies with l | l
    · rw [e2] at l; exact h3 l
    · omega⟩
/-- At the beginning of a round: the element's copy has just been laid. -/
theorem Run.start {w1 W : World} {bx : List (Nat × Option Obj)} {v : Value} {n : Nat} {xs : List Value} (o : Obj) (h : Run w1 W bx v n xs) : Run w1 (W.alloc o) ((W.heap.size, (W.alloc o).heap[W.heap.size]?) :: bx) v n xs := by
  have k := h.call (bel_alloc W o)
  refine ⟨k.own, k.bel, fun j X hj => ?_⟩
  rcases List.mem_cons.1 hj with e | e
  · obtain ⟨rfl, rfl⟩ := Prod.mk.inj e
    exact ⟨rfl, by simp, fun e => absurd (h.own.lt _ e).2 (Nat.lt_irrefl _)⟩
  · exact k.boxes j X e
theorem grown_alloc_drew {W w' : World} {o : Obj} {r : Option Nat} (h : (W.alloc o).drew.grownBy w' r) : W.grownBy w' r := grown_alloc (o := o) ⟨h.os, h.tape, h.output, h.size, h.block⟩
/-- The same, where no call stands between the draw and the append. -/
theorem step_built_drew {ops : Array Oper} {o : Oper} {a : Act} {K : Act → World → Prop} {Q : Exit → Act → World → Prop} {E : Prop} {W : World} {base : Nat} (news : List Value) (m : Nat) (d : Tmp) (hd : o.dst = some d) (hgd : o.guard = none) (s x : Operand)
    (ho : o.op = .call { callee := .builtin .append, args := #[s, x], argTypes := #[74, 74] }) (v : Value) (n : Nat) (xs : List Value) (hs : a.eval s = v) (hown : W.ownsRow base 9 1 v n xs)
    (H : Nat) (hH : W.heap.size = H) (hx : a.eval x = .slice (some ⟨H, 0, none⟩) m m) (hl : news.length = m * 1) (h1 : ∀ u ∈ news, u.oneCell' = true) (hm : 0 < m) (hn : n + m ≤ 10000000000) (hbase : base ≤ W.heap.size)
    (h : ∀ g cap w', Appd W w' base v n m g cap xs news → K (a.put (some d) (.slice (some ⟨g, 0, none⟩) (n + m) cap)) w') :
    if Region.wanted o (yielded ops a.tmps) = true then Oper.wp Tryd.prog o a (W.alloc (.cells news.toArray 9)).drew K Q else E := by
  subst hH
  obtain ⟨i0, hi, hz0, hz1, hz2⟩ := info_parts info_str
  refine step_append_lies _ hgd s x 74 ho base 9 i0 (.string ⟨#[]⟩) 1 16 und_strs hi hz0 hz1 hz2 rfl (by decide) v n xs hs (hown.alloc _).drew ⟨W.heap.size, 0, none⟩ m m news hx hl (news_new W news _) h1 hm (by unfold maxLen; omega) (by omega) (Nat.le_trans hbase (bel_alloc W _).size) _ rfl ?_
  intro g cap w' k1 k2 k3 _
  rw [hd]
  refine h g cap w' ⟨k1, grown_alloc_drew k2, k3.imp id (fun e => by rw [e]; exact (bel_alloc W _).size)⟩
theorem ChargeAt.on {w w' : World} {b o : Nat} {c : Charge} {ta : Option Addr} {tc : Nat} {aa : Option Addr} {ac : Nat} (h : ChargeAt w b o c ta tc aa ac) (hb : Below w.heap.size w w') : ChargeAt w' b o c ta tc aa ac := by
  have lt := h.lt
  obtain ⟨_, h0, h1, h2, h3, h4, h5, h6, h7, h8, h9, h10, h11, h12, h13, h14, h15⟩ := h
  constructor
  · exact Nat.lt_of_lt_of_le lt hb.size
  all_goals (rw [hb.cell lt]; assumption)
end Go.Proofs.YtnhhhnngocdagaaDoor.R6
