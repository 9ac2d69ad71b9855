/- A plan while a parser makes it: its block, its result's, and its rows, each in a block of its own. -/
import Derived.Test.YtcbeocpllnmcjaaJOwnT
import Derived.Test.YtcbeocpllnmcjaaJRef7f
import Derived.Test.YtcbeocpllnmcjaaJParJ
import Derived.Deep.RegionLaw
import Derived.Maps.AppendAt
namespace Go.Proofs.Ytcbeocpllnmcjaa.R7
open Go.RowKit Go.Sort P Tl Mm Md
/-- A plan in the making. -/
structure Pn (w0 W : World) (b tb cap : Nat) (ts : List Tok) (kr kp base : Nat) (s : St) (p : Plan) (ma : Option Addr) (mc : Nat) (fa : Option Addr) (fc : Nat) (ca : Option Addr) (cc : Nat) (hs : List Hd) : Prop where
  ps : Ps W b tb cap ts s
  box : Bx W kp (planC p ma mc fa fc ca cc)
  res : Bx W kr zeroP
  owns : Owns W base (rowOf p ma mc fa fc ca cc hs)
  hl : hs.length = p.charges.length
  bel : Below w0.heap.size w0 W
  nb : w0.heap.size ≤ b
  nr : w0.heap.size ≤ kr
  np : w0.heap.size ≤ kp
  lb : b < base
  lt : tb < base
  lr : kr < base
  lp : kp < base
  rp : kr ≠ kp
  bp : b ≠ kp
  br : b ≠ kr
  tp : tb ≠ kp
  tr : tb ≠ kr
  bsz : base ≤ W.heap.size
section
variable {w0 W W' : World} {b tb cap : Nat} {ts : List Tok} {kr kp base : Nat} {s s' : St} {p p' : Plan} {ma : Option Addr} {mc : Nat} {fa : Option Addr} {fc : Nat} {ca : Option Addr} {cc : Nat} {hs : List Hd}
theorem Pn.call (h : Pn w0 W b tb cap ts kr kp base s p ma mc fa fc ca cc hs) (q : Ps W' b tb cap ts s') (g : W.grownBy W' (some b)) : Pn w0 W' b tb cap ts kr kp base s' p ma mc fa fc ca cc hs :=
  ⟨q, h.box.grown g (fun e => h.bp (Option.some.inj e).symm), h.res.grown g (fun e => h.br (Option.some.inj e).symm), ⟨fun t r ht => own_call (h.owns.own t r ht) g h.lb, h.owns.apart⟩, h.hl,
    h.bel.grown g h.bel.size (fun k e => by have := Option.some.inj e; have := h.nb; omega), h.nb, h.nr, h.np, h.lb, h.lt, h.lr, h.lp, h.rp, h.bp, h.br, h.tp, h.tr, Nat.le_trans h.bsz g.size⟩
theorem Pn.on (h : Pn w0 W b tb cap ts kr kp base s p ma mc fa fc ca cc hs) (g : Below W.heap.size W W') : Pn w0 W' b tb cap ts kr kp base s p ma mc fa fc ca cc hs := h.call (h.ps.on g) (grown_below g)
theorem Ps.aside (h : Ps W b tb cap ts s) {k : Nat} (h1 : b ≠ k) (h2 : tb ≠ k) (i : Nat) (u : Value) : Ps (W.setCell ⟨k, i, none⟩ u) b tb cap ts s :=
  h.other (grown_set W k i u) (fun e => h1 (Option.some.inj e)) (fun e => h2 (Option.some.inj e))
/-- A field of the plan is written. -/
theorem Pn.put (h : Pn w0 W b tb cap ts kr kp base s p ma mc fa fc ca cc hs) (i : Nat) (u : Value) (e0 : rowOf p' ma mc fa fc ca cc hs = rowOf p ma mc fa fc ca cc hs) (e1 : p'.charges = p.charges) (e : planC p' ma mc fa fc ca cc = (planC p ma mc fa fc ca cc).set i u) :
    Pn w0 (W.setCell ⟨kp, i, none⟩ u) b tb cap ts kr kp base s p' ma mc fa fc ca cc hs :=
  ⟨h.ps.aside h.bp h.tp i u, by rw [e]; exact h.box.set i u, h.res.other (p := ⟨kp, i, none⟩) h.rp u, by rw [e0]; exact ⟨fun t r ht => ownsRow_setCell_below (h.owns.own t r ht) (a := ⟨kp, i, none⟩) h.lp u, h.owns.apart⟩, by rw [e1]; exact h.hl,
    h.bel.setCell (p := ⟨kp, i, none⟩) h.np u, h.nb, h.nr, h.np, h.lb, h.lt, h.lr, h.lp, h.rp, h.bp, h.br, h.tp, h.tr, by simpa using h.bsz⟩
theorem Pn.cells (h : Pn w0 W b tb cap ts kr kp base s p ma mc fa fc ca cc hs) (i : Nat) (u : Value) (hu : (planC p ma mc fa fc ca cc)[i]? = some u) : W.cell? ⟨kp, i, none⟩ = some u ∧ W.frozen? ⟨kp, i, none⟩ = false := ⟨h.box.cell i u hu, h.box.free i⟩
theorem Pn.ne {r : R} {σ : Slot} (h : Pn w0 W b tb cap ts kr kp base s p ma mc fa fc ca cc hs) (hσ : rowOf p ma mc fa fc ca cc hs σ = some r) {k : Nat} (hk : k < base) : some k ≠ r.v.ownBlock := fun e => by
  have := ((h.owns.own σ r hσ).lt k e.symm).1
  omega
/-- A row of the plan is turned, and its slice is written. -/
theorem Pn.turn (h : Pn w0 W b tb cap ts kr kp base s p ma mc fa fc ca cc hs) {σ : Slot} {r r' : R} {H : Nat} {ma' : Option Addr} {mc' : Nat} {fa' : Option Addr} {fc' : Nat} {ca' : Option Addr} {cc' : Nat} {hs' : List Hd} {ρ : Slot → Option R} (hρ : Owns W base ρ)
    (hσ0 : rowOf p ma mc fa fc ca cc hs σ = some r) (hσ : ρ σ = some r) (hσ' : rowOf p' ma' mc' fa' fc' ca' cc' hs' σ = some r') (he : ∀ t, t ≠ σ → rowOf p' ma' mc' fa' fc' ca' cc' hs' t = ρ t) (hg : W.grownBy W' r.v.ownBlock)
    (ho : W'.ownsRow base r'.e r'.size r'.v r'.n r'.xs) (hat : r'.v.ownBlock = r.v.ownBlock ∨ r'.v.ownBlock = some H) (hH : W.heap.size ≤ H) (i : Nat) (u : Value) (e : planC p' ma' mc' fa' fc' ca' cc' = (planC p ma mc fa fc ca cc).set i u) (hl : hs'.length = p'.charges.length) :
    Pn w0 (W'.setCell ⟨kp, i, none⟩ u) b tb cap ts kr kp base s p' ma' mc' fa' fc' ca' cc' hs' := by
  have O := Owns.turn hρ hσ hσ' he hg ho hat hH
  have nk : ∀ k, k < base → some k ≠ r.v.ownBlock := fun k hk => h.ne hσ0 hk
  refine ⟨(h.ps.other hg (nk b h.lb) (nk tb h.lt)).aside h.bp h.tp i u, by rw [e]; exact (h.box.grown hg (nk kp h.lp)).set i u, (h.res.grown hg (nk kr h.lr)).other (p := ⟨kp, i, none⟩) h.rp u, ⟨fun t q ht => ownsRow_setCell_below (O.own t q ht) (a := ⟨kp, i, none⟩) h.lp u, O.apart⟩, hl,
    (h.bel.grown hg h.bel.size (fun k ek => ?_)).setCell (p := ⟨kp, i, none⟩) h.np u, h.nb, h.nr, h.np, h.lb, h.lt, h.lr, h.lp, h.rp, h.bp, h.br, h.tp, h.tr, by have := Nat.le_trans h.bsz hg.size; simpa using this⟩
  have := ((h.owns.own σ r hσ0).lt k ek).1
  have := h.nb
  have := h.lb
  omega
/-- A meter more. -/
theorem Pn.meter (h : Pn w0 W b tb cap ts kr kp base s p ma mc fa fc ca cc hs) {ma' : Option Addr} {mc' H : Nat} {x : Meter} (hg : W.grownBy W' (Value.slice ma p.meters.length mc).ownBlock)
    (ho : W'.ownsRow base 50 5 (.slice ma' (p.meters.length + 1) mc') (p.meters.length + 1) (p.meters.flatMap meterC ++ meterC x))
    (hat : (Value.slice ma' (p.meters.length + 1) mc').ownBlock = (Value.slice ma p.meters.length mc).ownBlock ∨ (Value.slice ma' (p.meters.length + 1) mc').ownBlock = some H) (hH : W.heap.size ≤ H) :
    Pn w0 (W'.setCell ⟨kp, 8, none⟩ (.slice ma' (p.meters.length + 1) mc')) b tb cap ts kr kp base s { p with meters := p.meters ++ [x] } ma' mc' fa fc ca cc hs := by
  refine h.turn (σ := .m) (r' := ⟨50, 5, ma', p.meters.length + 1, mc', p.meters.flatMap meterC ++ meterC x⟩) h.owns rfl rfl ?_ (fun t ht => by cases t <;> first | rfl | exact absurd rfl ht) hg ho hat hH 8 _ ?_ h.hl
  · show some (R.mk _ _ _ _ _ _) = _
    rw [List.length_append, List.flatMap_append]
    simp
  · unfold planC
    simp only [List.length_append, List.length_singleton]
    rfl
/-- A fee more. -/
theorem Pn.fee (h : Pn w0 W b tb cap ts kr kp base s p ma mc fa fc ca cc hs) {fa' : Option Addr} {fc' H : Nat} {x : Fee} (hg : W.grownBy W' (Value.slice fa p.fees.length fc).ownBlock)
    (ho : W'.ownsRow base 55 10 (.slice fa' (p.fees.length + 1) fc') (p.fees.length + 1) (p.fees.flatMap feeC ++ feeC x))
    (hat : (Value.slice fa' (p.fees.length + 1) fc').ownBlock = (Value.slice fa p.fees.length fc).ownBlock ∨ (Value.slice fa' (p.fees.length + 1) fc').ownBlock = some H) (hH : W.heap.size ≤ H) :
    Pn w0 (W'.setCell ⟨kp, 9, none⟩ (.slice fa' (p.fees.length + 1) fc')) b tb cap ts kr kp base s { p with fees := p.fees ++ [x] } ma mc fa' fc' ca cc hs := by
  refine h.turn (σ := .f) (r' := ⟨55, 10, fa', p.fees.length + 1, fc', p.fees.flatMap feeC ++ feeC x⟩) h.owns rfl rfl ?_ (fun t ht => by cases t <;> first | rfl | exact absurd rfl ht) hg ho hat hH 9 _ ?_ h.hl
  · show some (R.mk _ _ _ _ _ _) = _
    rw [List.length_append, List.flatMap_append]
    simp
  · unfold planC
    simp only [List.length_append, List.length_singleton]
    rfl
/-- A charge more, whose rows a call has made at S. -/
theorem Pn.charge (h : Pn w0 W b tb cap ts kr kp base s p ma mc fa fc ca cc hs) {ca' : Option Addr} {cc' H S : Nat} {x : Charge} {hd : Hd} (hS : base ≤ S)
    (old : ∀ t q k, rowOf p ma mc fa fc ca cc hs t = some q → q.v.ownBlock = some k → k < S)
    (ot : W.ownsRow S 96 2 (.slice hd.ta x.tiers.length hd.tc) x.tiers.length (x.tiers.flatMap tierC)) (oa : W.ownsRow S 87 3 (.slice hd.aa x.adjusts.length hd.ac) x.adjusts.length (x.adjusts.flatMap adjC))
    (ap : ∀ k, (Value.slice hd.ta x.tiers.length hd.tc).ownBlock = some k → (Value.slice hd.aa x.adjusts.length hd.ac).ownBlock ≠ some k)
    (hg : W.grownBy W' (Value.slice ca p.charges.length cc).ownBlock)
    (ho : W'.ownsRow base 59 16 (.slice ca' (p.charges.length + 1) cc') (p.charges.length + 1) ((p.charges.zip hs).flatMap zC ++ zC (x, hd)))
    (hat : (Value.slice ca' (p.charges.length + 1) cc').ownBlock = (Value.slice ca p.charges.length cc).ownBlock ∨ (Value.slice ca' (p.charges.length + 1) cc').ownBlock = some H) (hH : W.heap.size ≤ H) :
    Pn w0 (W'.setCell ⟨kp, 10, none⟩ (.slice ca' (p.charges.length + 1) cc')) b tb cap ts kr kp base s { p with charges := p.charges ++ [x] } ma mc fa fc ca' cc' (hs ++ [hd]) := by
  have hz : (p.charges ++ [x]).zip (hs ++ [hd]) = p.charges.zip hs ++ [(x, hd)] := by rw [List.zip_append h.hl.symm]; rfl
  have hzl : (p.charges.zip hs).length = p.charges.length := by rw [List.length_zip, h.hl, Nat.min_self]
  -- the charge's two rows come first
  let ρ1 : Slot → Option R := fun t => if t = .t p.charges.length then some ⟨96, 2, hd.ta, x.tiers.length, hd.tc, x.tiers.flatMap tierC⟩ else rowOf p ma mc fa fc ca cc hs t
  let ρ2 : Slot → Option R := fun t => if t = .a p.charges.length then some ⟨87, 3, hd.aa, x.adjusts.length, hd.ac, x.adjusts.flatMap adjC⟩ else ρ1 t
  have O1 : Owns W base ρ1 := Owns.add h.owns (σ := .t p.charges.length) (if_pos rfl) (fun t ht => if_neg ht) ot hS (fun t q k _ hq hk e => by
    have := old t q k hq hk
    have := (ot.lt k e).1
    omega)
  have O2 : Owns W base ρ2 := Owns.add O1 (σ := .a p.charges.length) (if_pos rfl) (fun t ht => if_neg ht) oa hS (fun t q k _ hq hk e => by
    by_cases e1 : t = .t p.charges.length
    · subst e1
      obtain rfl := Option.some.inj ((if_pos rfl).symm.trans hq)
      exact ap k hk e
    · have := old t q k ((if_neg e1).symm.trans hq) hk
      have := (oa.lt k e).1
      omega)
  refine h.turn (σ := .c) (r' := ⟨59, 16, ca', p.charges.length + 1, cc', (p.charges.zip hs).flatMap zC ++ zC (x, hd)⟩) O2 rfl rfl ?_ (fun t ht => ?_) hg ho hat hH 10 _ ?_ ?_
  · show some (R.mk _ _ _ _ _ _) = _
    rw [List.length_append, hz, List.flatMap_append]
    simp
  · cases t with
    | m => rfl
    | f => rfl
    | c => exact absurd rfl ht
    | t i =>
      show Option.map _ (((p.charges ++ [x]).zip (hs ++ [hd]))[i]?) = ρ2 (.t i)
      rw [hz, List.getElem?_append, hzl]
      show _ = if (Slot.t i) = .t p.charges.length then _ else Option.map _ ((p.charges.zip hs)[i]?)
      by_cases e : i = p.charges.length
      · subst e
        rw [if_neg (show ¬ p.charges.length < p.charges.length by omega), if_pos rfl, Nat.sub_self]
        rfl
      · rw [if_neg (show ¬ Slot.t i = Slot.t p.charges.length by simpa using e)]
        by_cases e2 : i < p.charges.length
        · rw [if_pos e2]
        · rw [if_neg e2, List.getElem?_eq_none (by simp; omega), List.getElem?_eq_none (by omega)]
    | a i =>
      show Option.map _ (((p.charges ++ [x]).zip (hs ++ [hd]))[i]?) = if (Slot.a i) = .a p.charges.length then _ else ρ1 (.a i)
      rw [hz, List.getElem?_append, hzl]
      show _ = if (Slot.a i) = .a p.charges.length then _ else Option.map _ ((p.charges.zip hs)[i]?)
      by_cases e : i = p.charges.length
      · subst e
        rw [if_neg (show ¬ p.charges.length < p.charges.length by omega), if_pos rfl, Nat.sub_self]
        rfl
      · rw [if_neg (show ¬ Slot.a i = Slot.a p.charges.length by simpa using e)]
        by_cases e2 : i < p.charges.length
        · rw [if_pos e2]
        · rw [if_neg e2, List.getElem?_eq_none (by simp; omega), List.getElem?_eq_none (by omega)]
  · unfold planC
    simp only [List.length_append, List.length_singleton]
    rfl
  · rw [List.length_append, List.length_append, h.hl]
    rfl
end
end Go.Proofs.Ytcbeocpllnmcjaa.R7
/- A plan in the making, and beside it one struct more (poundageref07): a block of its own. -/
namespace Go.Proofs.Ytcbeocpllnmcjaa.R7
open Go.RowKit Go.Sort P Tl Mm Md
theorem grown_drew {w W : World} {row : Option Nat} (h : w.grownBy W row) : w.grownBy W.drew row := ⟨h.os, h.tape, h.output, h.size, h.block⟩
theorem grown_alloc {w W : World} {row : Option Nat} (h : w.grownBy W row) (o : Obj) : w.grownBy (W.alloc o) row := grown_trans h (grown_below (bel_alloc W o))
/-- A plan in the making, and a struct's block km. -/
structure Bt (w0 W : World) (b tb cap : Nat) (ts : List Tok) (kr kp base : Nat) (s : St) (p : Plan) (ma : Option Addr) (mc : Nat) (fa : Option Addr) (fc : Nat) (ca : Option Addr) (cc : Nat) (hs : List Hd) (km : Nat) (cs : List Value) : Prop where
  pn : Pn w0 W b tb cap ts kr kp base s p ma mc fa fc ca cc hs
  bx : Bx W km cs
  old : ∀ σ r, rowOf p ma mc fa fc ca cc hs σ = some r → r.v.ownBlock ≠ some km
  ge : base ≤ km
section
variable {w0 W W' : World} {b tb cap : Nat} {ts : List Tok} {kr kp base : Nat} {s s' : St} {p : Plan} {ma : Option Addr} {mc : Nat} {fa : Option Addr} {fc : Nat} {ca : Option Addr} {cc : Nat} {hs : List Hd} {km : Nat} {cs : List Value}
theorem Bt.new (h : Pn w0 W b tb cap ts kr kp base s p ma mc fa fc ca cc hs) (cs : List Value) (t : TypeId) : Bt w0 (W.alloc (.cells cs.toArray t)) b tb cap ts kr kp base s p ma mc fa fc ca cc hs W.heap.size cs :=
  ⟨h.on (bel_alloc _ _), Bx.new _ _ _, fun σ r hr e => Nat.lt_irrefl _ ((h.owns.own σ r hr).lt _ e).2, h.bsz⟩
theorem Bt.call (h : Bt w0 W b tb cap ts kr kp base s p ma mc fa fc ca cc hs km cs) (q : Ps W' b tb cap ts s') (g : W.grownBy W' (some b)) : Bt w0 W' b tb cap ts kr kp base s' p ma mc fa fc ca cc hs km cs :=
  ⟨h.pn.call q g, h.bx.grown g (fun e => by have := Option.some.inj e; have := h.ge; have := h.pn.lb; omega), h.old, h.ge⟩
theorem Bt.on (h : Bt w0 W b tb cap ts kr kp base s p ma mc fa fc ca cc hs km cs) (g : Below W.heap.size W W') : Bt w0 W' b tb cap ts kr kp base s p ma mc fa fc ca cc hs km cs := h.call (h.pn.ps.on g) (grown_below g)
theorem Bt.put (h : Bt w0 W b tb cap ts kr kp base s p ma mc fa fc ca cc hs km cs) (i : Nat) (u : Value) : Bt w0 (W.setCell ⟨km, i, none⟩ u) b tb cap ts kr kp base s p ma mc fa fc ca cc hs km (cs.set i u) := by
  have g := h.ge
  have l1 := h.pn.lb
  have l2 := h.pn.lt
  have l3 := h.pn.lr
  have l4 := h.pn.lp
  have l5 := h.pn.nb
  refine ⟨⟨h.pn.ps.aside (by omega) (by omega) i u, h.pn.box.other (p := ⟨km, i, none⟩) (by show kp ≠ km; omega) u, h.pn.res.other (p := ⟨km, i, none⟩) (by show kr ≠ km; omega) u,
    ⟨fun t r ht => ownsRow_setCell_other (h.pn.owns.own t r ht) (a := ⟨km, i, none⟩) (h.old t r ht) u, h.pn.owns.apart⟩, h.pn.hl, h.pn.bel.setCell (p := ⟨km, i, none⟩) (by show w0.heap.size ≤ km; omega) u, h.pn.nb, h.pn.nr, h.pn.np, h.pn.lb, h.pn.lt, h.pn.lr, h.pn.lp, h.pn.rp, h.pn.bp, h.pn.br, h.pn.tp, h.pn.tr, by simpa using h.pn.bsz⟩, h.bx.set i u, h.old, h.ge⟩
end
theorem item_cnt7 {ts : List Tok} {s : St} {p : Plan} (h : p.meters.length + p.fees.length + p.charges.length ≤ s.i) (ho : goesOn ts s = true) : (itemS ts s p).1.meters.length + (itemS ts s p).1.fees.length + (itemS ts s p).1.charges.length ≤ (itemS ts s p).2.i := by
  rcases item_next ts s p ho with k | ⟨k1, _⟩
  · refine Nat.le_trans ?_ k
    unfold itemS
    simp only
    repeat' split
    all_goals simp only [List.length_append, List.length_singleton]; omega
  · rw [k1, wrg_i]
    exact h
theorem info_meter7 : (Try.prog.info? 50).map (fun i => (i.zero, i.size, i.bytes)) = some (some (.agg (meterC ⟨⟨#[]⟩, ⟨#[]⟩, 0, 0, 0⟩).toArray), 5, 56) := by kernel_rfl
theorem info_fee7 : (Try.prog.info? 55).map (fun i => (i.zero, i.size, i.bytes)) = some (some (.agg (feeC ⟨0, ⟨false, ⟨0, 0, 0⟩, ⟨0, 0, 0⟩⟩, 0, 0⟩).toArray), 10, 80) := by kernel_rfl
theorem info_charge7 : (Try.prog.info? 59).map (fun i => (i.zero, i.size, i.bytes)) = some (some (.agg (chargeC ⟨⟨#[]⟩, ⟨false, ⟨0, 0, 0⟩, ⟨0, 0, 0⟩⟩, 0, 0, 0, [], 0, [], 0, 0⟩ none 0 none 0).toArray), 16, 168) := by kernel_rfl
theorem step_more7 {ops : Array Oper} {o : Oper} {a : Act} {K : Act → World → Prop} {Q : Exit → Act → World → Prop} {E : Prop} {W : World} {base : Nat} (X : List Value) (d : Tmp) (hd : o.dst = some d) (hgd : o.guard = none) (s x : Operand) (t e : TypeId) (z : Value) (size bytes : Nat)
    (ho : o.op = .call { callee := .builtin .append, args := #[s, x], argTypes := #[t, t] }) (hu : Try.prog.underlying t = some (.slice e)) (hinfo : (Try.prog.info? e).map (fun i => (i.zero, i.size, i.bytes)) = some (some z, size, bytes)) (hzs : z.cells.size = size) (hsz : 0 < size) (v : Value) (n : Nat) (xs : List Value) (hs : a.eval s = v) (hown : W.ownsRow base e size v n xs)
    (hX : X.length = 1 * size) (h1 : ∀ u ∈ X, u.oneCell' = true) (hx : a.eval x = .slice (some ⟨W.heap.size, 0, none⟩) 1 1) (hn : n + 1 ≤ 1000000) (hb : bytes ≤ 1000) (hbase : base ≤ W.heap.size)
    (h : ∀ g cap w', w'.ownsRow base e size (.slice (some ⟨g, 0, none⟩) (n + 1) cap) (n + 1) (xs ++ X) → (W.alloc (.cells X.toArray e)).grownBy w' v.ownBlock → (v.ownBlock = some g ∨ g = W.heap.size + 1) → K (a.put (some d) (.slice (some ⟨g, 0, none⟩) (n + 1) cap)) w') :
    if Region.wanted o (yielded ops a.tmps) = true then Oper.wp Try.prog o a (W.alloc (.cells X.toArray e)) K Q else E := by
  obtain ⟨i0, hi, hz0, hz1, hz2⟩ := info_parts hinfo
  have hby : (n + 1) * bytes ≤ 140737488355328 := Nat.le_trans (Nat.mul_le_mul hn hb) (by decide)
  refine step_append_lies _ hgd s x t ho base e i0 z size bytes hu hi hz0 hz1 hz2 hzs hsz v n xs hs (hown.alloc _) ⟨W.heap.size, 0, none⟩ 1 1 X hx hX (news_at W X _) h1 (by decide) (by unfold maxLen; omega) hby (by simp; omega) (W.heap.size + 1) (by simp) ?_
  intro g cap w' k1 k2 k3 _
  rw [hd]
  exact h g cap w' k1 k2 k3
theorem own_at7 {v : Value} {g n cap H : Nat} (h : v.ownBlock = some g ∨ g = H) : (Value.slice (some ⟨g, 0, none⟩) n cap).ownBlock = v.ownBlock ∨ (Value.slice (some ⟨g, 0, none⟩) n cap).ownBlock = some H := by
  rcases h with h | rfl
  · exact .inl h.symm
  · exact .inr rfl
theorem wpList_more7 {ops : Array Oper} {rest : List Oper} {o : Oper} {a : Act} {Q : Exit → Act → World → Prop} {W : World} {base : Nat} (X : List Value) (hgd : o.guard = none) (s x : Operand) (t e : TypeId) (z : Value) (size bytes : Nat)
    (ho : o.op = .call { callee := .builtin .append, args := #[s, x], argTypes := #[t, t] }) (hu : Try.prog.underlying t = some (.slice e)) (hinfo : (Try.prog.info? e).map (fun i => (i.zero, i.size, i.bytes)) = some (some z, size, bytes)) (hzs : z.cells.size = size) (hsz : 0 < size) (v : Value) (n : Nat) (xs : List Value) (hs : a.eval s = v) (hown : W.ownsRow base e size v n xs)
    (hX : X.length = 1 * size) (h1 : ∀ u ∈ X, u.oneCell' = true) (hx : a.eval x = .slice (some ⟨W.heap.size, 0, none⟩) 1 1) (hn : n + 1 ≤ 1000000) (hb : bytes ≤ 1000) (hbase : base ≤ W.heap.size)
    (h : ∀ v' w', w'.ownsRow base e size v' (n + 1) (xs ++ X) → (W.alloc (.cells X.toArray e)).grownBy w' v.ownBlock → (v'.ownBlock = v.ownBlock ∨ v'.ownBlock = some (W.heap.size + 1)) → wpList Try.prog ops Q rest (a.put o.dst v') w') :
    wpList Try.prog ops Q (o :: rest) a (W.alloc (.cells X.toArray e)) := by
  obtain ⟨i0, hi, hz0, hz1, hz2⟩ := info_parts hinfo
  have hby : (n + 1) * bytes ≤ 140737488355328 := Nat.le_trans (Nat.mul_le_mul hn hb) (by decide)
  refine wpList_append_own_at _ hgd s x t ho base e i0 z size bytes hu hi hz0 hz1 hz2 hzs hsz v n xs hs (hown.alloc _) ⟨W.heap.size, 0, none⟩ 1 1 X hx hX (news_at W X _) h1 (by unfold maxLen; omega) hby (by simp; omega) ?_
  intro v' w' k1 k2 _ k3
  refine h v' w' k1 k2 ?_
  simpa using k3
end Go.Proofs.Ytcbeocpllnmcjaa.R7
