/- What the document's answers for layer 6 (poundageref06) come to: Row. -/
import Derived.Test.YteelbdcgdkpioaaGreatDoorJRef6d
import Derived.Deep.AppendLies
import Derived.Deep.RegionHeldLaw
namespace Go.Proofs.YteelbdcgdkpioaaGreatDoor.R6
open Go.RowKit Go.Sort P Mm Tl

def rM (m : Meter) : List ByteArray := [m.name, m.unit, t8 m.max]
def rF (f : Fee) : List ByteArray := t8 f.amount :: rW f.win
def rT (t : Tier) : List ByteArray := [t8 t.upto, t8 t.rate]
def rA (a : Adj) : List ByteArray := [t8 a.kind, t8 a.num, t8 a.mode]
def rCh (c : Charge) : List ByteArray := c.meter :: rW c.win ++ [t8 c.allowance, t8 c.block, t8 c.kind, t8 c.mode, t8 c.tiers.length, t8 c.adjusts.length]
def rC (c : Charge) : List ByteArray := rCh c ++ c.tiers.flatMap rT ++ c.adjusts.flatMap rA
def rHead (p : Plan) : List ByteArray := [p.name, p.cur] ++ rW ⟨false, p.a, p.b⟩ ++ [t8 p.meters.length, t8 p.fees.length, t8 p.charges.length]
def row (p : Plan) : List ByteArray := rHead p ++ p.meters.flatMap rM ++ p.fees.flatMap rF ++ p.charges.flatMap rC
theorem strs_len (l : List ByteArray) : (strs l).length = l.length := by unfold strs; rw [flat_len (n := 1) (fun _ => rfl)]; omega
theorem strs_one {l : List ByteArray} : ∀ u ∈ strs l, u.oneCell' = true := by
  intro u hu
  unfold strs at hu
  rw [List.mem_flatMap] at hu
  obtain ⟨s, _, hs⟩ := hu
  simp at hs
  subst hs
  rfl
theorem info_str : (Tryz.prog.info? 9).map (fun i => (i.zero, i.size, i.bytes)) = some (some (.string ⟨#[]⟩), 1, 16) := by kernel_rfl
theorem und_strs : Tryz.prog.underlying 64 = some (.slice 9) := by kernel_rfl
/-- What a window's row of texts looks like. -/
theorem window_own (x : Win) (w : World) : Calls Tryz.prog 66 #[.agg (winC x)] w fun e w' => ∃ g cap, e = .returned (.slice (some ⟨g, 0, none⟩) 7 cap) ∧ w.heap.size ≤ g ∧ g < w'.heap.size ∧
    (∀ j u, (strs (rW x))[j]? = some u → w'.cell? ((⟨g, 0, none⟩ : Addr).add j) = some u) ∧ Below w.heap.size w w' :=
  (window_any x w).mono fun _ _ ⟨v, h1, h2, h3⟩ => by
    obtain ⟨g, cap, e, h4, h5⟩ := h2.form (by omega)
    subst e
    exact ⟨g, cap, h1, h4, h5, h2.cells rfl, h3⟩
theorem news_new (w : World) (cs : List Value) (t : TypeId) : ∀ j u, cs[j]? = some u → (w.alloc (.cells cs.toArray t)).cell? ((⟨w.heap.size, 0, none⟩ : Addr).add j) = some u := fun j u h => by
  rw [Mm.add_plain, World.cell?_alloc_new]
  simpa using h
/-- What an append to a row of texts of the call's own leaves. -/
structure Appd (W w' : World) (base : Nat) (v : Value) (n m g cap : Nat) (xs news : List Value) : Prop where
  own : w'.ownsRow base 9 1 (.slice (some ⟨g, 0, none⟩) (n + m) cap) (n + m) (xs ++ news)
  grown : W.grownBy w' v.ownBlock
  lies : v.ownBlock = some g ∨ W.heap.size ≤ g
theorem grown_alloc {W w' : World} {o : Obj} {r : Option Nat} (h : (W.alloc o).grownBy w' r) : W.grownBy w' r := by
  have b := bel_alloc W o
  exact ⟨h.os.trans b.os, h.tape.trans b.tape, h.output.trans b.output, Nat.le_trans b.size h.size, fun k hk hr => (h.block k (Nat.lt_of_lt_of_le hk b.size) hr).trans (b.block k hk)⟩
theorem step_built {ops : Array Oper} {o : Oper} {a : Act} {K : Act → World → Prop} {Q : Exit → Act → World → Prop} {E : Prop} {W : World} {base : Nat} (news : List Value) (m : Nat) (d : Tmp) (hd : o.dst = some d) (hgd : o.guard = none) (s x : Operand)
    (ho : o.op = .call { callee := .builtin .append, args := #[s, x], argTypes := #[64, 64] }) (v : Value) (n : Nat) (xs : List Value) (hs : a.eval s = v) (hown : W.ownsRow base 9 1 v n xs)
    (hx : a.eval x = .slice (some ⟨W.heap.size, 0, none⟩) m m) (hl : news.length = m * 1) (h1 : ∀ u ∈ news, u.oneCell' = true) (hm : 0 < m) (hn : n + m ≤ 10000000000) (hbase : base ≤ W.heap.size)
    (h : ∀ g cap w', Appd W w' base v n m g cap xs news → K (a.put (some d) (.slice (some ⟨g, 0, none⟩) (n + m) cap)) w') :
    if Region.wanted o (yielded ops a.tmps) = true then Oper.wp Tryz.prog o a (W.alloc (.cells news.toArray 9)) K Q else E := by
  obtain ⟨i0, hi, hz0, hz1, hz2⟩ := info_parts info_str
  refine step_append_lies _ hgd s x 64 ho base 9 i0 (.string ⟨#[]⟩) 1 16 und_strs hi hz0 hz1 hz2 rfl (by decide) v n xs hs (hown.alloc _) ⟨W.heap.size, 0, none⟩ m m news hx hl (news_new W news _) h1 hm (by unfold maxLen; omega) (by omega) (Nat.le_trans hbase (bel_alloc W _).size) _ rfl ?_
  intro g cap w' k1 k2 k3 _
  rw [hd]
  refine h g cap w' ⟨k1, grown_alloc k2, k3.imp id (fun e => by rw [e]; exact (bel_alloc W _).size)⟩
theorem step_given {ops : Array Oper} {o : Oper} {a : Act} {K : Act → World → Prop} {Q : Exit → Act → World → Prop} {E : Prop} {W : World} {base : Nat} (news : List Value) (m c g0 : Nat) (d : Tmp) (hd : o.dst = some d) (hgd : o.guard = none) (s x : Operand)
    (ho : o.op = .call { callee := .builtin .append, args := #[s, x], argTypes := #[64, 64] }) (v : Value) (n : Nat) (xs : List Value) (hs : a.eval s = v) (hown : W.ownsRow base 9 1 v n xs)
    (hx : a.eval x = .slice (some ⟨g0, 0, none⟩) m c) (hl : news.length = m * 1) (hnews : ∀ j u, news[j]? = some u → W.cell? ((⟨g0, 0, none⟩ : Addr).add j) = some u) (h1 : ∀ u ∈ news, u.oneCell' = true) (hm : 0 < m) (hn : n + m ≤ 10000000000) (hbase : base ≤ W.heap.size)
    (h : ∀ g cap w', Appd W w' base v n m g cap xs news → K (a.put (some d) (.slice (some ⟨g, 0, none⟩) (n + m) cap)) w') :
    if Region.wanted o (yielded ops a.tmps) = true then Oper.wp Tryz.prog o a W K Q else E := by
  obtain ⟨i0, hi, hz0, hz1, hz2⟩ := info_parts info_str
  refine step_append_lies _ hgd s x 64 ho base 9 i0 (.string ⟨#[]⟩) 1 16 und_strs hi hz0 hz1 hz2 rfl (by decide) v n xs hs hown ⟨g0, 0, none⟩ m c news hx hl hnews h1 hm (by unfold maxLen; omega) (by omega) hbase _ rfl ?_
  intro g cap w' k1 k2 k3 _
  rw [hd]
  exact h g cap w' ⟨k1, k2, k3.imp id (fun e => by rw [e]; exact Nat.le_refl _)⟩
/-- What the walk carries from world to world: the row that is built, what was there, blocks of elements' copies. -/
structure Run (w1 W : World) (bx : List (Nat × Option Obj)) (v : Value) (n : Nat) (xs : List Value) : Prop where
  own : W.ownsRow w1.heap.size 9 1 v n xs
  bel : Below w1.heap.size w1 W
  boxes : ∀ k X, (k, X) ∈ bx → W.heap[k]? = X ∧ k < W.heap.size ∧ v.ownBlock ≠ some k
theorem Run.box {w1 W : World} {k : Nat} {X : Option Obj} {bx : List (Nat × Option Obj)} {v : Value} {n : Nat} {xs : List Value} (h : Run w1 W ((k, X) :: bx) v n xs) : W.heap[k]? = X := (h.boxes k X (.head _)).1
theorem Run.drop {w1 W : World} {b : Nat × Option Obj} {bx : List (Nat × Option Obj)} {v : Value} {n : Nat} {xs : List Value} (h : Run w1 W (b :: bx) v n xs) : Run w1 W bx v n xs := ⟨h.own, h.bel, fun k X hk => h.boxes k X (.tail _ hk)⟩
theorem Run.call {w1 W W' : World} {bx : List (Nat × Option Obj)} {v : Value} {n : Nat} {xs : List Value} (h : Run w1 W bx v n xs) (b : Below W.heap.size W W') : Run w1 W' bx v n xs :=
  ⟨owns_on h.own b, h.bel.trans (b.mono h.bel.size), fun k X hk => by
    obtain ⟨h1, h2, h3⟩ := h.boxes k X hk
    exact ⟨(b.block k h2).trans h1, Nat.lt_of_lt_of_le h2 b.size, h3⟩⟩
theorem Run.drew {w1 W : World} {bx : List (Nat × Option Obj)} {v : Value} {n : Nat} {xs : List Value} (h : Run w1 W bx v n xs) : Run w1 W.drew bx v n xs := ⟨h.own.drew, h.bel.drew, h.boxes⟩
theorem Run.appd {w1 W W' : World} {bx : List (Nat × Option Obj)} {v : Value} {n m g cap : Nat} {xs news : List Value} (h : Run w1 W bx v n xs) (k : Appd W W' w1.heap.size v n m g cap xs news) : Run w1 W' bx (.slice (some ⟨g, 0, none⟩) (n + m) cap) (n + m) (xs ++ news) :=
  ⟨k.own, h.bel.grown k.grown h.bel.size (fun j hj => (h.own.lt j hj).1), fun j X hj => by
    obtain ⟨h1, h2, h3⟩ := h.boxes j X hj
    refine ⟨(k.grown.block j h2 (fun e => h3 e.symm)).trans h1, Nat.lt_of_lt_of_le h2 k.grown.size, fun e => ?_⟩
    have e2 : g = j := by simpa [Value.ownBlock] using e
    rcases k.lies with l | l
    · rw [e2] at l; exact h3 l
    · omega⟩
/-- At the beginning of a round: the element's copy has just been laid. -/
theorem Run.start {w1 W : World} {bx : List (Nat × Option Obj)} {v : Value} {n : Nat} {xs : List Value} (o : Obj) (h : Run w1 W bx v n xs) : Run w1 (W.alloc o) ((W.heap.size, (W.alloc o).heap[W.heap.size]?) :: bx) v n xs := by
  have k := h.call (bel_alloc W o)
  refine ⟨k.own, k.bel, fun j X hj => ?_⟩
  rcases List.mem_cons.1 hj with e | e
  · obtain ⟨rfl, rfl⟩ := Prod.mk.inj e
    exact ⟨rfl, by simp, fun e => absurd (h.own.lt _ e).2 (Nat.lt_irrefl _)⟩
  · exact k.boxes j X e
theorem grown_alloc_drew {W w' : World} {o : Obj} {r : Option Nat} (h : (W.alloc o).drew.grownBy w' r) : W.grownBy w' r := grown_alloc (o := o) ⟨h.os, h.tape, h.output, h.size, h.block⟩
/-- The same, where no call stands between the draw and the append. -/
theorem step_built_drew {ops : Array Oper} {o : Oper} {a : Act} {K : Act → World → Prop} {Q : Exit → Act → World → Prop} {E : Prop} {W : World} {base : Nat} (news : List Value) (m : Nat) (d : Tmp) (hd : o.dst = some d) (hgd : o.guard = none) (s x : Operand)
    (ho : o.op = .call { callee := .builtin .append, args := #[s, x], argTypes := #[64, 64] }) (v : Value) (n : Nat) (xs : List Value) (hs : a.eval s = v) (hown : W.ownsRow base 9 1 v n xs)
    (H : Nat) (hH : W.heap.size = H) (hx : a.eval x = .slice (some ⟨H, 0, none⟩) m m) (hl : news.length = m * 1) (h1 : ∀ u ∈ news, u.oneCell' = true) (hm : 0 < m) (hn : n + m ≤ 10000000000) (hbase : base ≤ W.heap.size)
    (h : ∀ g cap w', Appd W w' base v n m g cap xs news → K (a.put (some d) (.slice (some ⟨g, 0, none⟩) (n + m) cap)) w') :
    if Region.wanted o (yielded ops a.tmps) = true then Oper.wp Tryz.prog o a (W.alloc (.cells news.toArray 9)).drew K Q else E := by
  subst hH
  obtain ⟨i0, hi, hz0, hz1, hz2⟩ := info_parts info_str
  refine step_append_lies _ hgd s x 64 ho base 9 i0 (.string ⟨#[]⟩) 1 16 und_strs hi hz0 hz1 hz2 rfl (by decide) v n xs hs (hown.alloc _).drew ⟨W.heap.size, 0, none⟩ m m news hx hl (news_new W news _) h1 hm (by unfold maxLen; omega) (by omega) (Nat.le_trans hbase (bel_alloc W _).size) _ rfl ?_
  intro g cap w' k1 k2 k3 _
  rw [hd]
  refine h g cap w' ⟨k1, grown_alloc_drew k2, k3.imp id (fun e => by rw [e]; exact (bel_alloc W _).size)⟩
theorem ChargeAt.on {w w' : World} {b o : Nat} {c : Charge} {ta : Option Addr} {tc : Nat} {aa : Option Addr} {ac : Nat} (h : ChargeAt w b o c ta tc aa ac) (hb : Below w.heap.size w w') : ChargeAt w' b o c ta tc aa ac := by
  have lt := h.lt
  obtain ⟨_, h0, h1, h2, h3, h4, h5, h6, h7, h8, h9, h10, h11, h12, h13, h14, h15⟩ := h
  constructor
  · exact Nat.lt_of_lt_of_le lt hb.size
  all_goals (rw [hb.cell lt]; assumption)
set_option maxHeartbeats 8000000 in
set_option maxRecDepth 100000 in
theorem row_any (p : Plan) (ma : Option Addr) (mc : Nat) (fa : Option Addr) (fc : Nat) (ca : Option Addr) (cc : Nat) (w : World) (hp : PlanLies w (planC p ma mc fa fc ca cc) p ma mc fa fc ca cc)
    (hs1 : p.meters.length ≤ 20000) (hs2 : p.fees.length ≤ 20000) (hs3 : p.charges.length ≤ 20000) (hs4 : ∀ c ∈ p.charges, c.tiers.length ≤ 20000 ∧ c.adjusts.length ≤ 20000) :
    Calls Tryz.prog 37 #[.agg (planC p ma mc fa fc ca cc).toArray] w fun e w' => ∃ v, e = .returned v ∧ w'.ownsRow w.heap.size 9 1 v (row p).length (strs (row p)) ∧ Below w.heap.size w w' := by
  obtain ⟨i0, hi, hz0, hz1, hz2⟩ := info_parts info_str
  obtain ⟨w1, hw1⟩ : ∃ w1, w1 = w.alloc (.cells (planC p ma mc fa fc ca cc).toArray 29) := ⟨_, rfl⟩
  have b1 : Below w.heap.size w w1 := by rw [hw1]; exact bel_alloc _ _
  have s1 := hid (show w1.heap.size = w.heap.size + 1 by rw [hw1]; simp)
  have hM := hid hp.meters
  have hF := hid hp.fees
  have hC := hid hp.charges
  have HS4 := hid hs4
  clear hp hs4
  unfold planC at hw1 ⊢
  have HW := hid hw1
  clear hw1
  have own0 : Hid ((w1.alloc (.cells #[.string p.name, .string p.cur] 9)).ownsRow w1.heap.size 9 1 (.slice (some ⟨w.heap.size + 1, 0, none⟩) 2 2) 2 (strs [p.name, p.cur])) := hid (by rw [← s1.out]; exact World.ownsRow_lit w1 #[.string p.name, .string p.cur] 2 (Nat.le_refl _) (by decide) rfl)
  have cW := fun W => window_own ⟨false, p.a, p.b⟩ W
  unfold winC at cW
  go_enter Tryz.func37, Tryz.ntmps37
  go_wp2_with (first
    | (go_at_call 66; rw [← HW.out]; refine (cW _).mono ?_; rintro e w2 ⟨g2, cap2, rfl, hg2, hl2, hc2, b2⟩; have hO := hid (owns_on own0.out b2); have B2 := hid (Below.trans ((bel_alloc w1 (.cells #[.string p.name, .string p.cur] 9))) (b2.mono (by simp))); have sz2 := B2.out.size)
    | (at_builtin; refine wpList_append_own _ rfl _ _ 64 rfl w1.heap.size 9 i0 (.string ⟨#[]⟩) 1 16 und_strs hi hz0 hz1 hz2 rfl (by decide) _ _ _ rfl hO.out ⟨g2, 0, none⟩ 7 cap2 (strs (rW ⟨false, p.a, p.b⟩)) rfl rfl hc2 strs_one (by decide) (by decide) sz2 ?_; intro v3 w3 hown3 hgrow3 _; have O3 := hid hown3; have B3 := hid (B2.out.grown hgrow3 sz2 (fun k hk => (hO.out.lt k hk).1))))
  have cell : ∀ (k : Nat) (u : Value), (planC p ma mc fa fc ca cc)[k]? = some u → ∀ W, Below w1.heap.size w1 W → W.cell? ⟨w.heap.size, k, none⟩ = some u := fun k u hk W hB => by
    rw [hB.cell (by rw [s1.out]; simp), HW.out, World.cell?_alloc_new]
    simpa [planC] using hk
  have CELL := hid cell
  clear cell own0 cW hO hg2 hl2 hc2 b2 sz2 hown3 hgrow3 B2
  have K : Hid (∀ w', Below w1.heap.size w1 w' → w'.cell? ⟨w.heap.size, 8, none⟩ = some (.slice ma p.meters.length mc) ∧ w'.cell? ⟨w.heap.size, 9, none⟩ = some (.slice fa p.fees.length fc) ∧ w'.cell? ⟨w.heap.size, 10, none⟩ = some (.slice ca p.charges.length cc) ∧ Below w1.heap.size w1 w') :=
    hid fun w' h => ⟨CELL.out 8 _ rfl w' h, CELL.out 9 _ rfl w' h, CELL.out 10 _ rfl w' h, h⟩
  have BB := hid (B3.out.drew)
  have OO : Hid (w3.drew.ownsRow w1.heap.size 9 1 v3 9 (strs [p.name, p.cur] ++ strs (rW ⟨false, p.a, p.b⟩))) := hid O3.out.drew
  clear O3 B3
  go_region_held_law (fun w' => w'.cell? ⟨w.heap.size, 8, none⟩ = some (.slice ma p.meters.length mc) ∧ w'.cell? ⟨w.heap.size, 9, none⟩ = some (.slice fa p.fees.length fc) ∧ w'.cell? ⟨w.heap.size, 10, none⟩ = some (.slice ca p.charges.length cc) ∧ Below w1.heap.size w1 w')
    ((refine K.out _ ?_; first | exact B5.out | exact BB.out | exact BB.out.alloc BB.out.size _))
    (first
      | (go_at_call 67
         refine (text_any _ _).mono ?_
         rintro e w' ⟨rfl, b⟩
         replace OO := hid (owns_on OO.out b)
         replace BB := hid (BB.out.trans (b.mono BB.out.size))
         clear b)
      | (refine step_append_lies _ rfl _ _ 64 rfl w1.heap.size 9 i0 (.string ⟨#[]⟩) 1 16 und_strs hi hz0 hz1 hz2 rfl (by decide) _ _ _ rfl (OO.out.alloc _) ⟨w'.heap.size, 0, none⟩ 3 3 [.string (t8 p.meters.length), .string (t8 p.fees.length), .string (t8 p.charges.length)] rfl rfl (news_new w' [.string (t8 p.meters.length), .string (t8 p.fees.length), .string (t8 p.charges.length)] 9) (by simp [Value.oneCell']) (by decide) (by decide) (by decide) (BB.out.alloc BB.out.size _).size _ rfl ?_
         intro g cap w5 hown hgrow _ _
         have B5 := hid ((BB.out.alloc BB.out.size _).grown hgrow (BB.out.alloc BB.out.size _).size (fun k hk => (OO.out.lt k hk).1))))
  have O5 : Hid (w5.ownsRow w1.heap.size 9 1 (.slice (some ⟨g, 0, none⟩) 12 cap) 12 (strs (rHead p))) := hid (by
    unfold rHead
    rw [strs_app, strs_app]
    exact hown)
  have R5 : Hid (Run w1 w5 [] (.slice (some ⟨g, 0, none⟩) 12 cap) 12 (strs (rHead p))) := hid ⟨O5.out, B5.out, fun _ _ h => by cases h⟩
  clear hown hgrow OO BB K O5
  have cM8 := CELL.out 8 _ rfl w5 B5.out
  have lw5 : w.heap.size < w5.heap.size := by have := B5.out.size; rw [s1.out] at this; omega
  go_wp2
  clear cM8
  go_loopw [3, 45] (fun v i wr => ∃ (i' : Int) (N : Nat) (L : List ByteArray), i = .int .i64 i' ∧ 0 ≤ i' ∧ i' ≤ p.meters.length ∧ N = 12 + 3 * i'.toNat ∧ Hid (L = rHead p ++ (p.meters.take i'.toNat).flatMap rM) ∧ Hid (Run w1 wr [] v N (strs L))) (fun _ i _ => ((p.meters.length : Int) - intOf i).toNat)
  case atStart => exact ⟨0, 12, rHead p, rfl, by omega, by omega, rfl, hid (by simp), R5⟩
  case round =>
    obtain ⟨i', N, L, rfl, i0', i1, hN, hL, hR⟩ := hrel
    by_cases hlt : i' < p.meters.length
    · have hil : i'.toNat < p.meters.length := by omega
      have ht : p.meters[i'.toNat]? = some (p.meters[i'.toNat]'hil) := List.getElem?_eq_getElem hil
      obtain ⟨m, hm⟩ : ∃ m, m = p.meters[i'.toNat]'hil := ⟨_, rfl⟩
      rw [← hm] at ht
      obtain ⟨b, o, e, lb, a0, a1, a2, a3, a4, _⟩ := meter_at (hM.out.on (bel_on b1 hR.out.bel)) ht
      subst e
      have hT := hid ht
      have hNN : N ≤ 70000 := by omega
      have HN := hid hN
      clear hm ht hN
      go_wp2
      obtain ⟨X, hX⟩ : ∃ X, X = (wr.alloc (.cells #[.string m.name, .string m.unit, .int .i64 m.max, .int .i64 m.line, .int .i64 m.col] 44)).heap[wr.heap.size]? := ⟨_, rfl⟩
      have R0 := hid (Run.start (.cells #[.string m.name, .string m.unit, .int .i64 m.max, .int .i64 m.line, .int .i64 m.col] 44) hR.out)
      rw [← hX] at R0
      have RR := hid R0.out.drew
      have cellX : Hid (∀ (w' : World) (j : Nat) (u : Value), w'.heap[wr.heap.size]? = X → #[.string m.name, .string m.unit, .int .i64 m.max, .int .i64 m.line, .int .i64 m.col][j]? = some u → w'.cell? ⟨wr.heap.size, j, none⟩ = some u) := hid fun w' j u h hj => by
        rw [World.cell?_of_block (w := wr.alloc (.cells #[.string m.name, .string m.unit, .int .i64 m.max, .int .i64 m.line, .int .i64 m.col] 44)) (h.trans hX), World.cell?_alloc_new]
        exact hj
      have K : Hid (∀ w' : World, w'.heap[wr.heap.size]? = X → w'.cell? ⟨wr.heap.size, 0, none⟩ = some (.string m.name) ∧ w'.cell? ⟨wr.heap.size, 1, none⟩ = some (.string m.unit) ∧ w'.cell? ⟨wr.heap.size, 2, none⟩ = some (.int .i64 m.max) ∧ w'.heap[wr.heap.size]? = X) := hid fun w' h => ⟨cellX.out w' 0 _ h rfl, cellX.out w' 1 _ h rfl, cellX.out w' 2 _ h rfl, h⟩
      clear hX cellX a0 a1 a2 a3 a4
      go_region_held_law (fun w' => w'.cell? ⟨wr.heap.size, 0, none⟩ = some (.string m.name) ∧ w'.cell? ⟨wr.heap.size, 1, none⟩ = some (.string m.unit) ∧ w'.cell? ⟨wr.heap.size, 2, none⟩ = some (.int .i64 m.max) ∧ w'.heap[wr.heap.size]? = X)
        ((refine K.out _ ?_; first | exact RR.out.box | exact (RR.out.call (bel_alloc _ _)).box | exact R0.out.box | exact (R0.out.call (bel_alloc _ _)).box))
        (first
          | (go_at_call 67
             refine (text_any _ _).mono ?_
             rintro e w' ⟨rfl, b⟩
             replace RR := hid (RR.out.call b)
             clear b)
          | (refine step_built [.string m.name, .string m.unit, .string (t8 m.max)] 3 _ rfl rfl _ _ rfl _ _ _ rfl RR.out.own rfl rfl (by simp [Value.oneCell']) (by decide) (by omega) RR.out.bel.size ?_
             intro g cap w' k
             replace RR := hid (RR.out.appd k)
             clear k))
      go_wp2
      go_roundw
      case rel => exact ⟨i' + 1, N + 3, L ++ rM m, rfl, by omega, by omega, by have := HN.out; omega, hid (by
        rw [show (i' + 1).toNat = i'.toNat + 1 by omega, flat_take hT.out, ← List.append_assoc, ← hL.out]), hid (by
        rw [strs_app]
        have := RR.out.drop
        try simp only [List.append_assoc] at this
        exact this)⟩
      case measure => simp [intOf]; omega
    · obtain rfl : i' = p.meters.length := by omega
      rw [Int.toNat_natCast] at hN
      have hL1 : Hid (L = rHead p ++ p.meters.flatMap rM) := hid (by rw [hL.out, Int.toNat_natCast, flat_whole])
      have N1 : N ≤ 60012 := by omega
      have HN1 := hid hN
      have hsz := hR.out.bel.size
      have lw : w.heap.size < wr.heap.size := by rw [s1.out] at hsz; omega
      have c9 := CELL.out 9 _ rfl wr hR.out.bel
      clear hL hN
      go_wp2
      clear c9 lw hsz
      go_loopw [3, 63] (fun v i wr => ∃ (i' : Int) (M : Nat) (L2 : List ByteArray), i = .int .i64 i' ∧ 0 ≤ i' ∧ i' ≤ p.fees.length ∧ M = N + 8 * i'.toNat ∧ Hid (L2 = L ++ (p.fees.take i'.toNat).flatMap rF) ∧ Hid (Run w1 wr [] v M (strs L2))) (fun _ i _ => ((p.fees.length : Int) - intOf i).toNat)
      case atStart => exact ⟨0, N, L, rfl, by omega, by omega, rfl, hid (by simp), hR⟩
      case round =>
        clear hR
        obtain ⟨i', M, L2, rfl, j0, j1, hM2, hL2, hR⟩ := hrel
        by_cases hlt : i' < p.fees.length
        · have hil : i'.toNat < p.fees.length := by omega
          have ht : p.fees[i'.toNat]? = some (p.fees[i'.toNat]'hil) := List.getElem?_eq_getElem hil
          obtain ⟨m, hm⟩ : ∃ m, m = p.fees[i'.toNat]'hil := ⟨_, rfl⟩
          rw [← hm] at ht
          obtain ⟨b, o, e, lb, a0, a1, a2, a3, a4, a5, a6, a7, a8, a9, _⟩ := fee_at (hF.out.on (bel_on b1 hR.out.bel)) ht
          subst e
          have hT := hid ht
          have hNN : M ≤ 230000 := by omega
          have HM := hid hM2
          have cW := fun W => window_own m.win W
          unfold winC at cW
          clear hm ht hM2
          go_wp2
          obtain ⟨X, hX⟩ : ∃ X, X = (wr.alloc (.cells #[.int .i64 m.amount, .bool m.win.has, .int .i64 m.win.a.y, .int .i64 m.win.a.m, .int .i64 m.win.a.d, .int .i64 m.win.b.y, .int .i64 m.win.b.m, .int .i64 m.win.b.d, .int .i64 m.line, .int .i64 m.col] 48)).heap[wr.heap.size]? := ⟨_, rfl⟩
          have R0 := hid (Run.start (.cells #[.int .i64 m.amount, .bool m.win.has, .int .i64 m.win.a.y, .int .i64 m.win.a.m, .int .i64 m.win.a.d, .int .i64 m.win.b.y, .int .i64 m.win.b.m, .int .i64 m.win.b.d, .int .i64 m.line, .int .i64 m.col] 48) hR.out)
          rw [← hX] at R0
          have RR := hid R0.out.drew
          have cellX : Hid (∀ (w' : World) (j : Nat) (u : Value), w'.heap[wr.heap.size]? = X → #[.int .i64 m.amount, .bool m.win.has, .int .i64 m.win.a.y, .int .i64 m.win.a.m, .int .i64 m.win.a.d, .int .i64 m.win.b.y, .int .i64 m.win.b.m, .int .i64 m.win.b.d, .int .i64 m.line, .int .i64 m.col][j]? = some u → w'.cell? ⟨wr.heap.size, j, none⟩ = some u) := hid fun w' j u h hj => by
            rw [World.cell?_of_block (w := wr.alloc (.cells #[.int .i64 m.amount, .bool m.win.has, .int .i64 m.win.a.y, .int .i64 m.win.a.m, .int .i64 m.win.a.d, .int .i64 m.win.b.y, .int .i64 m.win.b.m, .int .i64 m.win.b.d, .int .i64 m.line, .int .i64 m.col] 48)) (h.trans hX), World.cell?_alloc_new]
            exact hj
          have K : Hid (∀ w' : World, w'.heap[wr.heap.size]? = X → w'.cell? ⟨wr.heap.size, 0, none⟩ = some (.int .i64 m.amount) ∧ w'.cell? ⟨wr.heap.size, 1, none⟩ = some (.bool m.win.has) ∧ w'.cell? ⟨wr.heap.size, 2, none⟩ = some (.int .i64 m.win.a.y) ∧ w'.cell? ⟨wr.heap.size, 3, none⟩ = some (.int .i64 m.win.a.m) ∧ w'.cell? ⟨wr.heap.size, 4, none⟩ = some (.int .i64 m.win.a.d) ∧ w'.cell? ⟨wr.heap.size, 5, none⟩ = some (.int .i64 m.win.b.y) ∧ w'.cell? ⟨wr.heap.size, 6, none⟩ = some (.int .i64 m.win.b.m) ∧ w'.cell? ⟨wr.heap.size, 7, none⟩ = some (.int .i64 m.win.b.d) ∧ w'.heap[wr.heap.size]? = X) := hid fun w' h => ⟨cellX.out w' 0 _ h rfl, cellX.out w' 1 _ h rfl, cellX.out w' 2 _ h rfl, cellX.out w' 3 _ h rfl, cellX.out w' 4 _ h rfl, cellX.out w' 5 _ h rfl, cellX.out w' 6 _ h rfl, cellX.out w' 7 _ h rfl, h⟩
          clear hX cellX a0 a1 a2 a3 a4 a5 a6 a7 a8 a9
          go_region_held_law (fun w' => w'.cell? ⟨wr.heap.size, 0, none⟩ = some (.int .i64 m.amount) ∧ w'.cell? ⟨wr.heap.size, 1, none⟩ = some (.bool m.win.has) ∧ w'.cell? ⟨wr.heap.size, 2, none⟩ = some (.int .i64 m.win.a.y) ∧ w'.cell? ⟨wr.heap.size, 3, none⟩ = some (.int .i64 m.win.a.m) ∧ w'.cell? ⟨wr.heap.size, 4, none⟩ = some (.int .i64 m.win.a.d) ∧ w'.cell? ⟨wr.heap.size, 5, none⟩ = some (.int .i64 m.win.b.y) ∧ w'.cell? ⟨wr.heap.size, 6, none⟩ = some (.int .i64 m.win.b.m) ∧ w'.cell? ⟨wr.heap.size, 7, none⟩ = some (.int .i64 m.win.b.d) ∧ w'.heap[wr.heap.size]? = X)
            ((refine K.out _ ?_; first | exact RR.out.box | exact (RR.out.call (bel_alloc _ _)).box | exact R0.out.box | exact (R0.out.call (bel_alloc _ _)).box))
            (first
              | (go_at_call 67
                 refine (text_any _ _).mono ?_
                 rintro e w' ⟨rfl, b⟩
                 replace RR := hid (RR.out.call b)
                 clear b)
              | (go_at_call 66
                 refine (cW _).mono ?_
                 rintro e w' ⟨g2, cap2, rfl, hg2, hl2, hc2, b⟩
                 replace RR := hid (RR.out.call b)
                 have H2 := hid hc2
                 clear b hg2 hl2 hc2)
              | (refine step_given (strs (rW m.win)) 7 cap2 g2 _ rfl rfl _ _ rfl _ _ _ rfl RR.out.own rfl rfl H2.out strs_one (by decide) (by omega) RR.out.bel.size ?_
                 intro g cap w' k
                 replace RR := hid (RR.out.appd k)
                 clear k)
              | (refine step_built [.string (t8 m.amount)] 1 _ rfl rfl _ _ rfl _ _ _ rfl RR.out.own rfl rfl (by simp [Value.oneCell']) (by decide) (by omega) RR.out.bel.size ?_
                 intro g cap w' k
                 replace RR := hid (RR.out.appd k)
                 clear k))
          go_wp2
          go_roundw
          case rel => exact ⟨i' + 1, M + 8, L2 ++ rF m, rfl, by omega, by omega, by have := HM.out; omega, hid (by
            rw [show (i' + 1).toNat = i'.toNat + 1 by omega, flat_take hT.out, ← List.append_assoc, ← hL2.out]), hid (by
            rw [strs_app]
            have := RR.out.drop
            try simp only [List.append_assoc] at this
            exact this)⟩
          case measure => simp [intOf]; omega
        · obtain rfl : i' = p.fees.length := by omega
          rw [Int.toNat_natCast] at hM2
          have hL3 : Hid (L2 = rHead p ++ p.meters.flatMap rM ++ p.fees.flatMap rF) := hid (by rw [hL2.out, Int.toNat_natCast, flat_whole, hL1.out])
          have N2 : M ≤ 220012 := by omega
          have hsz := hR.out.bel.size
          have lw : w.heap.size < wr.heap.size := by rw [s1.out] at hsz; omega
          have c10 := CELL.out 10 _ rfl wr hR.out.bel
          clear hL2 hM2
          go_wp2
          clear c10 lw hsz
          go_loopw [3, 81] (fun v i wr => ∃ (i' : Int) (M : Nat) (L4 : List ByteArray), i = .int .i64 i' ∧ 0 ≤ i' ∧ i' ≤ p.charges.length ∧ M ≤ 220012 + 100014 * i'.toNat ∧ Hid (L4 = L2 ++ (p.charges.take i'.toNat).flatMap rC) ∧ Hid (Run w1 wr [] v M (strs L4))) (fun _ i _ => ((p.charges.length : Int) - intOf i).toNat)
          case atStart => exact ⟨0, M, L2, rfl, by omega, by omega, by omega, hid (by simp), hR⟩
          case round =>
            clear hR
            obtain ⟨i', M2, L4, rfl, k0, k1, hM3, hL4, hR⟩ := hrel
            by_cases hlt : i' < p.charges.length
            · have hil : i'.toNat < p.charges.length := by omega
              have ht : p.charges[i'.toNat]? = some (p.charges[i'.toNat]'hil) := List.getElem?_eq_getElem hil
              obtain ⟨c, hm⟩ : ∃ m, m = p.charges[i'.toNat]'hil := ⟨_, rfl⟩
              rw [← hm] at ht
              have hc4 := HS4.out c (List.mem_of_getElem? ht)
              obtain ⟨q1, q2⟩ := hc4
              obtain ⟨b, o, ta, tc, aa, ac, e, hat, hcl⟩ := charge_at hC.out ht
              have hTi := hid hcl.tiers
              have hAd := hid hcl.adjusts
              obtain ⟨lb, a0, a1, a2, a3, a4, a5, a6, a7, a8, a9, a10, a11, a12, a13, a14, a15⟩ := hat.on (bel_on b1 hR.out.bel)
              subst e
              have hT := hid ht
              have hNN : M2 ≤ 2000500012 := by omega
              have HM := hid hM3
              have cW := fun W => window_own c.win W
              unfold winC at cW
              clear hm ht hM3 hcl hat
              go_wp2
              obtain ⟨X, hX⟩ : ∃ X, X = (wr.alloc (.cells #[.string c.meter, .bool c.win.has, .int .i64 c.win.a.y, .int .i64 c.win.a.m, .int .i64 c.win.a.d, .int .i64 c.win.b.y, .int .i64 c.win.b.m, .int .i64 c.win.b.d, .int .i64 c.allowance, .int .i64 c.block, .int .i64 c.kind, .slice ta c.tiers.length tc, .int .i64 c.mode, .slice aa c.adjusts.length ac, .int .i64 c.line, .int .i64 c.col] 52)).heap[wr.heap.size]? := ⟨_, rfl⟩
              have R0 := hid (Run.start (.cells #[.string c.meter, .bool c.win.has, .int .i64 c.win.a.y, .int .i64 c.win.a.m, .int .i64 c.win.a.d, .int .i64 c.win.b.y, .int .i64 c.win.b.m, .int .i64 c.win.b.d, .int .i64 c.allowance, .int .i64 c.block, .int .i64 c.kind, .slice ta c.tiers.length tc, .int .i64 c.mode, .slice aa c.adjusts.length ac, .int .i64 c.line, .int .i64 c.col] 52) hR.out)
              rw [← hX] at R0
              skip
              have cellX : Hid (∀ (w' : World) (j : Nat) (u : Value), w'.heap[wr.heap.size]? = X → #[.string c.meter, .bool c.win.has, .int .i64 c.win.a.y, .int .i64 c.win.a.m, .int .i64 c.win.a.d, .int .i64 c.win.b.y, .int .i64 c.win.b.m, .int .i64 c.win.b.d, .int .i64 c.allowance, .int .i64 c.block, .int .i64 c.kind, .slice ta c.tiers.length tc, .int .i64 c.mode, .slice aa c.adjusts.length ac, .int .i64 c.line, .int .i64 c.col][j]? = some u → w'.cell? ⟨wr.heap.size, j, none⟩ = some u) := hid fun w' j u h hj => by
                rw [World.cell?_of_block (w := wr.alloc (.cells #[.string c.meter, .bool c.win.has, .int .i64 c.win.a.y, .int .i64 c.win.a.m, .int .i64 c.win.a.d, .int .i64 c.win.b.y, .int .i64 c.win.b.m, .int .i64 c.win.b.d, .int .i64 c.allowance, .int .i64 c.block, .int .i64 c.kind, .slice ta c.tiers.length tc, .int .i64 c.mode, .slice aa c.adjusts.length ac, .int .i64 c.line, .int .i64 c.col] 52)) (h.trans hX), World.cell?_alloc_new]
                exact hj
              have K : Hid (∀ w' : World, w'.heap[wr.heap.size]? = X → w'.cell? ⟨wr.heap.size, 0, none⟩ = some (.string c.meter) ∧ w'.cell? ⟨wr.heap.size, 1, none⟩ = some (.bool c.win.has) ∧ w'.cell? ⟨wr.heap.size, 2, none⟩ = some (.int .i64 c.win.a.y) ∧ w'.cell? ⟨wr.heap.size, 3, none⟩ = some (.int .i64 c.win.a.m) ∧ w'.cell? ⟨wr.heap.size, 4, none⟩ = some (.int .i64 c.win.a.d) ∧ w'.cell? ⟨wr.heap.size, 5, none⟩ = some (.int .i64 c.win.b.y) ∧ w'.cell? ⟨wr.heap.size, 6, none⟩ = some (.int .i64 c.win.b.m) ∧ w'.cell? ⟨wr.heap.size, 7, none⟩ = some (.int .i64 c.win.b.d) ∧ w'.cell? ⟨wr.heap.size, 8, none⟩ = some (.int .i64 c.allowance) ∧ w'.cell? ⟨wr.heap.size, 9, none⟩ = some (.int .i64 c.block) ∧ w'.cell? ⟨wr.heap.size, 10, none⟩ = some (.int .i64 c.kind) ∧ w'.cell? ⟨wr.heap.size, 11, none⟩ = some (.slice ta c.tiers.length tc) ∧ w'.cell? ⟨wr.heap.size, 12, none⟩ = some (.int .i64 c.mode) ∧ w'.cell? ⟨wr.heap.size, 13, none⟩ = some (.slice aa c.adjusts.length ac) ∧ w'.heap[wr.heap.size]? = X) := hid fun w' h => ⟨cellX.out w' 0 _ h rfl, cellX.out w' 1 _ h rfl, cellX.out w' 2 _ h rfl, cellX.out w' 3 _ h rfl, cellX.out w' 4 _ h rfl, cellX.out w' 5 _ h rfl, cellX.out w' 6 _ h rfl, cellX.out w' 7 _ h rfl, cellX.out w' 8 _ h rfl, cellX.out w' 9 _ h rfl, cellX.out w' 10 _ h rfl, cellX.out w' 11 _ h rfl, cellX.out w' 12 _ h rfl, cellX.out w' 13 _ h rfl, h⟩
              clear hX a0 a1 a2 a3 a4 a5 a6 a7 a8 a9 a10 a11 a12 a13 a14 a15
              go_region_held_law (fun w' => w'.cell? ⟨wr.heap.size, 0, none⟩ = some (.string c.meter) ∧ w'.cell? ⟨wr.heap.size, 1, none⟩ = some (.bool c.win.has) ∧ w'.cell? ⟨wr.heap.size, 2, none⟩ = some (.int .i64 c.win.a.y) ∧ w'.cell? ⟨wr.heap.size, 3, none⟩ = some (.int .i64 c.win.a.m) ∧ w'.cell? ⟨wr.heap.size, 4, none⟩ = some (.int .i64 c.win.a.d) ∧ w'.cell? ⟨wr.heap.size, 5, none⟩ = some (.int .i64 c.win.b.y) ∧ w'.cell? ⟨wr.heap.size, 6, none⟩ = some (.int .i64 c.win.b.m) ∧ w'.cell? ⟨wr.heap.size, 7, none⟩ = some (.int .i64 c.win.b.d) ∧ w'.cell? ⟨wr.heap.size, 8, none⟩ = some (.int .i64 c.allowance) ∧ w'.cell? ⟨wr.heap.size, 9, none⟩ = some (.int .i64 c.block) ∧ w'.cell? ⟨wr.heap.size, 10, none⟩ = some (.int .i64 c.kind) ∧ w'.cell? ⟨wr.heap.size, 11, none⟩ = some (.slice ta c.tiers.length tc) ∧ w'.cell? ⟨wr.heap.size, 12, none⟩ = some (.int .i64 c.mode) ∧ w'.cell? ⟨wr.heap.size, 13, none⟩ = some (.slice aa c.adjusts.length ac) ∧ w'.heap[wr.heap.size]? = X)
                ((refine K.out _ ?_; first | exact RR.out.box | exact (RR.out.call (bel_alloc _ _)).box | exact R0.out.box | exact (R0.out.call (bel_alloc _ _)).box))
                (first
                  | (go_at_call 67
                     refine (text_any _ _).mono ?_
                     rintro e w' ⟨rfl, b⟩
                     replace RR := hid (RR.out.call b)
                     clear b)
                  | (go_at_call 66
                     refine (cW _).mono ?_
                     rintro e w' ⟨g2, cap2, rfl, hg2, hl2, hc2, b⟩
                     replace RR := hid (RR.out.call b)
                     have H2 := hid hc2
                     clear b hg2 hl2 hc2)
                  | (refine step_given (strs (rW c.win)) 7 cap2 g2 _ rfl rfl _ _ rfl _ _ _ rfl RR.out.own rfl rfl H2.out strs_one (by decide) (by omega) RR.out.bel.size ?_
                     intro g cap w' k
                     replace RR := hid (RR.out.appd k)
                     clear k)
                  | (refine step_built_drew [.string c.meter] 1 _ rfl rfl _ _ rfl _ _ _ rfl R0.out.own (wr.heap.size + 1) (by simp) rfl rfl (by simp [Value.oneCell']) (by decide) (by omega) R0.out.bel.size ?_
                     intro g cap w' k
                     have RR := hid (R0.out.appd k)
                     clear k))
              clear R0
              go_wp2
              clear K cW H2
              have K : Hid (∀ w' : World, w'.heap[wr.heap.size]? = X → wr.heap.size < w'.heap.size ∧ w'.cell? ⟨wr.heap.size, 8, none⟩ = some (.int .i64 c.allowance) ∧ w'.cell? ⟨wr.heap.size, 9, none⟩ = some (.int .i64 c.block) ∧ w'.cell? ⟨wr.heap.size, 10, none⟩ = some (.int .i64 c.kind) ∧ w'.cell? ⟨wr.heap.size, 11, none⟩ = some (.slice ta c.tiers.length tc) ∧ w'.cell? ⟨wr.heap.size, 12, none⟩ = some (.int .i64 c.mode) ∧ w'.cell? ⟨wr.heap.size, 13, none⟩ = some (.slice aa c.adjusts.length ac) ∧ w'.heap[wr.heap.size]? = X) := hid fun w' h => ⟨World.block_lt_of_cell? w' _ (cellX.out w' 8 _ h rfl), cellX.out w' 8 _ h rfl, cellX.out w' 9 _ h rfl, cellX.out w' 10 _ h rfl, cellX.out w' 11 _ h rfl, cellX.out w' 12 _ h rfl, cellX.out w' 13 _ h rfl, h⟩
              have lt18 := (K.out _ RR.out.box).1
              have R0 := RR
              replace RR := hid RR.out.drew
              go_region_held_law (fun w' => wr.heap.size < w'.heap.size ∧ w'.cell? ⟨wr.heap.size, 8, none⟩ = some (.int .i64 c.allowance) ∧ w'.cell? ⟨wr.heap.size, 9, none⟩ = some (.int .i64 c.block) ∧ w'.cell? ⟨wr.heap.size, 10, none⟩ = some (.int .i64 c.kind) ∧ w'.cell? ⟨wr.heap.size, 11, none⟩ = some (.slice ta c.tiers.length tc) ∧ w'.cell? ⟨wr.heap.size, 12, none⟩ = some (.int .i64 c.mode) ∧ w'.cell? ⟨wr.heap.size, 13, none⟩ = some (.slice aa c.adjusts.length ac) ∧ w'.heap[wr.heap.size]? = X)
                ((refine K.out _ ?_; first | exact RR.out.box | exact (RR.out.call (bel_alloc _ _)).box | exact R0.out.box | exact (R0.out.call (bel_alloc _ _)).box))
                (first
                  | (go_at_call 67
                     refine (text_any _ _).mono ?_
                     rintro e w' ⟨rfl, b⟩
                     replace RR := hid (RR.out.call b)
                     clear b)
                  | (refine step_built [.string (t8 c.allowance), .string (t8 c.block), .string (t8 c.kind), .string (t8 c.mode), .string (t8 c.tiers.length), .string (t8 c.adjusts.length)] 6 _ rfl rfl _ _ rfl _ _ _ rfl RR.out.own rfl rfl (by simp [Value.oneCell']) (by decide) (by omega) RR.out.bel.size ?_
                     intro g cap w' k
                     replace RR := hid (RR.out.appd k)
                     clear k))
              clear R0 K lt18
              have R18 : Hid (Run w1 w' [(wr.heap.size, X)] (.slice (some ⟨g, 0, none⟩) (M2 + 1 + 7 + 6) cap) (M2 + 14) (strs (L4 ++ rCh c))) := hid (by
                have h := RR.out
                have e : strs (L4 ++ rCh c) = strs L4 ++ [.string c.meter] ++ strs (rW c.win) ++ [.string (t8 c.allowance), .string (t8 c.block), .string (t8 c.kind), .string (t8 c.mode), .string (t8 c.tiers.length), .string (t8 c.adjusts.length)] := by
                  unfold rCh
                  rw [strs_app, strs_app, show c.meter :: rW c.win = [c.meter] ++ rW c.win from rfl, strs_app]
                  simp only [List.append_assoc]
                  rfl
                rw [e]
                exact h)
              clear RR
              obtain ⟨kx, hkx⟩ : ∃ k, wr.heap.size = k := ⟨_, rfl⟩
              rw [hkx] at R18 cellX ⊢
              clear hkx
              have c11 := cellX.out w' 11 _ R18.out.box rfl
              have lk := World.block_lt_of_cell? w' _ c11
              obtain ⟨V, hV⟩ : ∃ V, V = Value.slice (some ⟨g, 0, none⟩) (M2 + 1 + 7 + 6) cap := ⟨_, rfl⟩
              rw [← hV] at R18 ⊢
              clear hV
              go_wp2
              clear c11 lk
              go_loopw [3, 120] (fun v i wi => ∃ (i2 : Int) (M3 : Nat) (L5 : List ByteArray), i = .int .i64 i2 ∧ 0 ≤ i2 ∧ i2 ≤ c.tiers.length ∧ M3 = M2 + 14 + 2 * i2.toNat ∧ Hid (L5 = L4 ++ rCh c ++ (c.tiers.take i2.toNat).flatMap rT) ∧ Hid (Run w1 wi [(kx, X)] v M3 (strs L5))) (fun _ i _ => ((c.tiers.length : Int) - intOf i).toNat)
              case atStart => exact ⟨0, M2 + 14, L4 ++ rCh c, rfl, by omega, by omega, by omega, hid (by simp), R18⟩
              case round =>
                clear R18
                obtain ⟨i2, M3, L5, rfl, l0, l1, hM5, hL5, hR4⟩ := hrel
                by_cases hlt2 : i2 < c.tiers.length
                · have hil2 : i2.toNat < c.tiers.length := by omega
                  have ht2 : c.tiers[i2.toNat]? = some (c.tiers[i2.toNat]'hil2) := List.getElem?_eq_getElem hil2
                  obtain ⟨m, hm⟩ : ∃ m, m = c.tiers[i2.toNat]'hil2 := ⟨_, rfl⟩
                  rw [← hm] at ht2
                  obtain ⟨b2, o2, e2, lb2, a0, a1, _⟩ := tier_at (hTi.out.on (bel_on b1 hR4.out.bel)) ht2
                  subst e2
                  have hT2 := hid ht2
                  have hNN2 : M3 ≤ 2000600000 := by omega
                  have HM5 := hid hM5
                  clear hm ht2 hM5
                  go_wp2
                  obtain ⟨X2, hX⟩ : ∃ X, X = (wr.alloc (.cells #[.int .i64 m.upto, .int .i64 m.rate] 97)).heap[wr.heap.size]? := ⟨_, rfl⟩
                  have R0 := hid (Run.start (.cells #[.int .i64 m.upto, .int .i64 m.rate] 97) hR4.out)
                  rw [← hX] at R0
                  have RR := hid R0.out.drew
                  have cellX2 : Hid (∀ (w' : World) (j : Nat) (u : Value), w'.heap[wr.heap.size]? = X2 → #[.int .i64 m.upto, .int .i64 m.rate][j]? = some u → w'.cell? ⟨wr.heap.size, j, none⟩ = some u) := hid fun w' j u h hj => by
                    rw [World.cell?_of_block (w := wr.alloc (.cells #[.int .i64 m.upto, .int .i64 m.rate] 97)) (h.trans hX), World.cell?_alloc_new]
                    exact hj
                  have K : Hid (∀ w' : World, w'.heap[wr.heap.size]? = X2 → w'.cell? ⟨wr.heap.size, 0, none⟩ = some (.int .i64 m.upto) ∧ w'.cell? ⟨wr.heap.size, 1, none⟩ = some (.int .i64 m.rate) ∧ w'.heap[wr.heap.size]? = X2) := hid fun w' h => ⟨cellX2.out w' 0 _ h rfl, cellX2.out w' 1 _ h rfl, h⟩
                  clear hX cellX2 a0 a1
                  go_region_held_law (fun w' => w'.cell? ⟨wr.heap.size, 0, none⟩ = some (.int .i64 m.upto) ∧ w'.cell? ⟨wr.heap.size, 1, none⟩ = some (.int .i64 m.rate) ∧ w'.heap[wr.heap.size]? = X2)
                    ((refine K.out _ ?_; first | exact RR.out.box | exact (RR.out.call (bel_alloc _ _)).box | exact R0.out.box | exact (R0.out.call (bel_alloc _ _)).box))
                    (first
                      | (go_at_call 67
                         refine (text_any _ _).mono ?_
                         rintro e w' ⟨rfl, b⟩
                         replace RR := hid (RR.out.call b)
                         clear b)
                      | (refine step_built [.string (t8 m.upto), .string (t8 m.rate)] 2 _ rfl rfl _ _ rfl _ _ _ rfl RR.out.own rfl rfl (by simp [Value.oneCell']) (by decide) (by omega) RR.out.bel.size ?_
                         intro g cap w' k
                         replace RR := hid (RR.out.appd k)
                         clear k))
                  go_wp2
                  go_roundw
                  case rel => exact ⟨i2 + 1, M3 + 2, L5 ++ rT m, rfl, by omega, by omega, by have := HM5.out; omega, hid (by
                    rw [show (i2 + 1).toNat = i2.toNat + 1 by omega, flat_take hT2.out, ← List.append_assoc, ← hL5.out]), hid (by
                    rw [strs_app]
                    exact RR.out.drop)⟩
                  case measure => simp [intOf]; omega
                · obtain rfl : i2 = c.tiers.length := by omega
                  rw [Int.toNat_natCast] at hM5
                  have hL6 : Hid (L5 = L4 ++ rCh c ++ c.tiers.flatMap rT) := hid (by rw [hL5.out, Int.toNat_natCast, flat_whole])
                  have HM5 := hid hM5
                  have N5 : M3 ≤ 2000600000 := by omega
                  clear hL5 hM5
                  have c13 := cellX.out wr 13 _ hR4.out.box rfl
                  have lk := World.block_lt_of_cell? wr _ c13
                  go_wp2
                  clear c13 lk
                  go_loopw [3, 137] (fun v i wi => ∃ (i2 : Int) (M4 : Nat) (L7 : List ByteArray), i = .int .i64 i2 ∧ 0 ≤ i2 ∧ i2 ≤ c.adjusts.length ∧ M4 = M3 + 3 * i2.toNat ∧ Hid (L7 = L5 ++ (c.adjusts.take i2.toNat).flatMap rA) ∧ Hid (Run w1 wi [(kx, X)] v M4 (strs L7))) (fun _ i _ => ((c.adjusts.length : Int) - intOf i).toNat)
                  case atStart => exact ⟨0, M3, L5, rfl, by omega, by omega, by omega, hid (by simp), hR4⟩
                  case round =>
                    clear hR4
                    obtain ⟨i2, M4, L7, rfl, m0, m1, hM6, hL7, hR4⟩ := hrel
                    by_cases hlt2 : i2 < c.adjusts.length
                    · have hil2 : i2.toNat < c.adjusts.length := by omega
                      have ht2 : c.adjusts[i2.toNat]? = some (c.adjusts[i2.toNat]'hil2) := List.getElem?_eq_getElem hil2
                      obtain ⟨m, hm⟩ : ∃ m, m = c.adjusts[i2.toNat]'hil2 := ⟨_, rfl⟩
                      rw [← hm] at ht2
                      obtain ⟨b2, o2, e2, lb2, a0, a1, a2, _⟩ := adj_at (hAd.out.on (bel_on b1 hR4.out.bel)) ht2
                      subst e2
                      have hT2 := hid ht2
                      have hNN2 : M4 ≤ 2000700000 := by omega
                      have HM6 := hid hM6
                      clear hm ht2 hM6
                      go_wp2
                      obtain ⟨X2, hX⟩ : ∃ X, X = (wr.alloc (.cells #[.int .i64 m.kind, .int .i64 m.num, .int .i64 m.mode] 100)).heap[wr.heap.size]? := ⟨_, rfl⟩
                      have R0 := hid (Run.start (.cells #[.int .i64 m.kind, .int .i64 m.num, .int .i64 m.mode] 100) hR4.out)
                      rw [← hX] at R0
                      have RR := hid R0.out.drew
                      have cellX2 : Hid (∀ (w' : World) (j : Nat) (u : Value), w'.heap[wr.heap.size]? = X2 → #[.int .i64 m.kind, .int .i64 m.num, .int .i64 m.mode][j]? = some u → w'.cell? ⟨wr.heap.size, j, none⟩ = some u) := hid fun w' j u h hj => by
                        rw [World.cell?_of_block (w := wr.alloc (.cells #[.int .i64 m.kind, .int .i64 m.num, .int .i64 m.mode] 100)) (h.trans hX), World.cell?_alloc_new]
                        exact hj
                      have K : Hid (∀ w' : World, w'.heap[wr.heap.size]? = X2 → w'.cell? ⟨wr.heap.size, 0, none⟩ = some (.int .i64 m.kind) ∧ w'.cell? ⟨wr.heap.size, 1, none⟩ = some (.int .i64 m.num) ∧ w'.cell? ⟨wr.heap.size, 2, none⟩ = some (.int .i64 m.mode) ∧ w'.heap[wr.heap.size]? = X2) := hid fun w' h => ⟨cellX2.out w' 0 _ h rfl, cellX2.out w' 1 _ h rfl, cellX2.out w' 2 _ h rfl, h⟩
                      clear hX cellX2 a0 a1 a2
                      go_region_held_law (fun w' => w'.cell? ⟨wr.heap.size, 0, none⟩ = some (.int .i64 m.kind) ∧ w'.cell? ⟨wr.heap.size, 1, none⟩ = some (.int .i64 m.num) ∧ w'.cell? ⟨wr.heap.size, 2, none⟩ = some (.int .i64 m.mode) ∧ w'.heap[wr.heap.size]? = X2)
                        ((refine K.out _ ?_; first | exact RR.out.box | exact (RR.out.call (bel_alloc _ _)).box | exact R0.out.box | exact (R0.out.call (bel_alloc _ _)).box))
                        (first
                          | (go_at_call 67
                             refine (text_any _ _).mono ?_
                             rintro e w' ⟨rfl, b⟩
                             replace RR := hid (RR.out.call b)
                             clear b)
                          | (refine step_built [.string (t8 m.kind), .string (t8 m.num), .string (t8 m.mode)] 3 _ rfl rfl _ _ rfl _ _ _ rfl RR.out.own rfl rfl (by simp [Value.oneCell']) (by decide) (by omega) RR.out.bel.size ?_
                             intro g cap w' k
                             replace RR := hid (RR.out.appd k)
                             clear k))
                      go_wp2
                      go_roundw
                      case rel => exact ⟨i2 + 1, M4 + 3, L7 ++ rA m, rfl, by omega, by omega, by have := HM6.out; omega, hid (by
                        rw [show (i2 + 1).toNat = i2.toNat + 1 by omega, flat_take hT2.out, ← List.append_assoc, ← hL7.out]), hid (by
                        rw [strs_app]
                        exact RR.out.drop)⟩
                      case measure => simp [intOf]; omega
                    · obtain rfl : i2 = c.adjusts.length := by omega
                      rw [Int.toNat_natCast] at hM6
                      have hL8 : Hid (L7 = L2 ++ (p.charges.take (i' + 1).toNat).flatMap rC) := hid (by
                        rw [hL7.out, Int.toNat_natCast, flat_whole, hL6.out, show (i' + 1).toNat = i'.toNat + 1 by omega, flat_take hT.out, ← List.append_assoc, ← hL4.out]
                        unfold rC
                        simp only [List.append_assoc])
                      have hMM : M4 ≤ 220012 + 100014 * (i' + 1).toNat := by have h1 := HM.out; have h2 := HM5.out; omega
                      have hR9 := hid hR4.out.drop
                      clear hL7 hM6
                      go_wp2
                      go_roundw
                      case rel => exact ⟨i' + 1, M4, L7, rfl, by omega, by omega, hMM, hL8, hR9⟩
                      case measure => simp [intOf]; omega
            · obtain rfl : i' = p.charges.length := by omega
              have hfin : L4 = row p := by rw [hL4.out, Int.toNat_natCast, flat_whole, hL3.out]; rfl
              have Fin := hid hfin
              have Len : Hid ((row p).length = M2) := hid (by
                have := hR.out.own.1
                rw [strs_len, hfin] at this
                omega)
              clear hfin hL4 hM3
              go_wp2
              refine bodyPost_ret (v := u3) (by simp [results, Tryz.results37, go_sem]) rfl ⟨_, rfl, ?_, bel_on b1 hR.out.bel⟩
              rw [Len.out, ← Fin.out]
              exact hR.out.own.mono b1.size
end Go.Proofs.YteelbdcgdkpioaaGreatDoor.R6
