/- What package parse does: a plan in the making. -/
import Derived.Test.YtinadkgfhoibkaaDoorJPaB
import Derived.Test.YtinadkgfhoibkaaDoorJParI
namespace Go.Proofs.YtinadkgfhoibkaaDoor.Pa
open Go.RowKit Go.Sort P Tl Mm Md

/-- A plan in the making: its block kp, its result's kr, its rows, which are new, from base on. -/
structure Pq (w0 W : World) (b tb cap : Nat) (ts : List Tok) (kr kp base : Nat) (s : St) (p : Plan) (ma : Option Addr) (mc : Nat) (fa : Option Addr) (fc : Nat) (ca : Option Addr) (cc : Nat) (hs : List Hd) : Prop where
  rd : Rd W b tb cap ts s
  box : Bx W kp (planC p ma mc fa fc ca cc)
  res : Bx W kr zeroP
  owns : Owns W base (rowOf p ma mc fa fc ca cc hs)
  hl : hs.length = p.charges.length
  gr : w0.grownBy W (some b)
  lb : b < w0.heap.size
  nr : w0.heap.size ≤ kr
  np : w0.heap.size ≤ kp
  lr : kr < base
  lp : kp < base
  rp : kr ≠ kp
  bsz : base ≤ W.heap.size
section
variable {w0 W W' : World} {b tb cap : Nat} {ts : List Tok} {kr kp base : Nat} {s s' : St} {p p' : Plan} {ma : Option Addr} {mc : Nat} {fa : Option Addr} {fc : Nat} {ca : Option Addr} {cc : Nat} {hs : List Hd}
theorem Pq.bb (h : Pq w0 W b tb cap ts kr kp base s p ma mc fa fc ca cc hs) : b < base := by have := h.lb; have := h.nr; have := h.lr; omega
theorem Pq.call (h : Pq w0 W b tb cap ts kr kp base s p ma mc fa fc ca cc hs) (q : Rd W' b tb cap ts s') (g : W.grownBy W' (some b)) : Pq w0 W' b tb cap ts kr kp base s' p ma mc fa fc ca cc hs :=
  ⟨q, h.box.grown g (fun e => by have := Option.some.inj e; have := h.lb; have := h.np; omega), h.res.grown g (fun e => by have := Option.some.inj e; have := h.lb; have := h.nr; omega), ⟨fun t r ht => own_call (h.owns.own t r ht) g h.bb, h.owns.apart⟩, h.hl,
    grown_trans h.gr g, h.lb, h.nr, h.np, h.lr, h.lp, h.rp, Nat.le_trans h.bsz g.size⟩
theorem Pq.on (h : Pq w0 W b tb cap ts kr kp base s p ma mc fa fc ca cc hs) (g : Below W.heap.size W W') : Pq w0 W' b tb cap ts kr kp base s p ma mc fa fc ca cc hs := h.call (h.rd.on g) (grown_below g)
/-- Another block of the call's own is written. -/
theorem Pq.aside (h : Pq w0 W b tb cap ts kr kp base s p ma mc fa fc ca cc hs) {k : Nat} (hk : w0.heap.size ≤ k) (h1 : kr ≠ k) (h2 : kp ≠ k) (hr : ∀ σ r, rowOf p ma mc fa fc ca cc hs σ = some r → r.v.ownBlock ≠ some k) (o : Nat) (u : Value) :
    Pq w0 (W.setCell ⟨k, o, none⟩ u) b tb cap ts kr kp base s p ma mc fa fc ca cc hs :=
  ⟨h.rd.far' h.lb hk _ _, h.box.other (p := ⟨k, o, none⟩) h2 u, h.res.other (p := ⟨k, o, none⟩) h1 u, ⟨fun t r ht => ownsRow_setCell_other (h.owns.own t r ht) (a := ⟨k, o, none⟩) (hr t r ht) u, h.owns.apart⟩, h.hl, grown_put h.gr hk _ _, h.lb, h.nr, h.np, h.lr, h.lp, h.rp, by simpa using h.bsz⟩
theorem Pq.cells (h : Pq w0 W b tb cap ts kr kp base s p ma mc fa fc ca cc hs) (i : Nat) (u : Value) (hu : (planC p ma mc fa fc ca cc)[i]? = some u) : W.cell? ⟨kp, i, none⟩ = some u ∧ W.frozen? ⟨kp, i, none⟩ = false := ⟨h.box.cell i u hu, h.box.free i⟩
theorem Pq.ne {r : R} {σ : Slot} (h : Pq w0 W b tb cap ts kr kp base s p ma mc fa fc ca cc hs) (hσ : rowOf p ma mc fa fc ca cc hs σ = some r) {k : Nat} (hk : k < base) : some k ≠ r.v.ownBlock := fun e => by
  have := ((h.owns.own σ r hσ).lt k e.symm).1
  omega
/-- A row of the plan is turned, and its slice is written. -/
theorem Pq.turn (h : Pq w0 W b tb cap ts kr kp base s p ma mc fa fc ca cc hs) {σ : Slot} {r r' : R} {H : Nat} {ma' : Option Addr} {mc' : Nat} {fa' : Option Addr} {fc' : Nat} {ca' : Option Addr} {cc' : Nat} {hs' : List Hd} {ρ : Slot → Option R} (hρ : Owns W base ρ)
    (hσ0 : rowOf p ma mc fa fc ca cc hs σ = some r) (hσ : ρ σ = some r) (hσ' : rowOf p' ma' mc' fa' fc' ca' cc' hs' σ = some r') (he : ∀ t, t ≠ σ → rowOf p' ma' mc' fa' fc' ca' cc' hs' t = ρ t) (hg : W.grownBy W' r.v.ownBlock)
    (ho : W'.ownsRow base r'.e r'.size r'.v r'.n r'.xs) (hat : r'.v.ownBlock = r.v.ownBlock ∨ r'.v.ownBlock = some H) (hH : W.heap.size ≤ H) (i : Nat) (u : Value) (e : planC p' ma' mc' fa' fc' ca' cc' = (planC p ma mc fa fc ca cc).set i u) (hl : hs'.length = p'.charges.length) :
    Pq w0 (W'.setCell ⟨kp, i, none⟩ u) b tb cap ts kr kp base s p' ma' mc' fa' fc' ca' cc' hs' := by
  have O := Owns.turn hρ hσ hσ' he hg ho hat hH
  have nk : ∀ k, k < base → some k ≠ r.v.ownBlock := fun k hk => h.ne hσ0 hk
  have hk : ∀ k, r.v.ownBlock = some k → w0.heap.size ≤ k := fun k ek => by
    have := ((h.owns.own σ r hσ0).lt k ek).1
    have := h.nr
    have := h.lr
    omega
  refine ⟨(h.rd.other hg (fun k ek => by have := hk k ek; have := h.lb; omega)).far' h.lb h.np i u, by rw [e]; exact (h.box.grown hg (nk kp h.lp)).set i u, (h.res.grown hg (nk kr h.lr)).other (p := ⟨kp, i, none⟩) h.rp u, ⟨fun t q ht => ownsRow_setCell_below (O.own t q ht) (a := ⟨kp, i, none⟩) h.lp u, O.apart⟩, hl,
    grown_put (grown_own h.gr hg hk) h.np i u, h.lb, h.nr, h.np, h.lr, h.lp, h.rp, by have := Nat.le_trans h.bsz hg.size; simpa using this⟩
/-- A meter more. -/
theorem Pq.meter (h : Pq w0 W b tb cap ts kr kp base s p ma mc fa fc ca cc hs) {ma' : Option Addr} {mc' H : Nat} {x : Meter} (hg : W.grownBy W' (Value.slice ma p.meters.length mc).ownBlock)
    (ho : W'.ownsRow base 73 5 (.slice ma' (p.meters.length + 1) mc') (p.meters.length + 1) (p.meters.flatMap meterC ++ meterC x))
    (hat : (Value.slice ma' (p.meters.length + 1) mc').ownBlock = (Value.slice ma p.meters.length mc).ownBlock ∨ (Value.slice ma' (p.meters.length + 1) mc').ownBlock = some H) (hH : W.heap.size ≤ H) :
    Pq w0 (W'.setCell ⟨kp, 8, none⟩ (.slice ma' (p.meters.length + 1) mc')) b tb cap ts kr kp base s { p with meters := p.meters ++ [x] } ma' mc' fa fc ca cc hs := by
  refine h.turn (σ := .m) (r' := ⟨73, 5, ma', p.meters.length + 1, mc', p.meters.flatMap meterC ++ meterC x⟩) h.owns rfl rfl ?_ (fun t ht => by cases t <;> first | rfl | exact absurd rfl ht) hg ho hat hH 8 _ ?_ h.hl
  · show some (R.mk _ _ _ _ _ _) = _
    rw [List.length_append, List.flatMap_append]
    simp
  · unfold planC
    simp only [List.length_append, List.length_singleton]
    rfl
/-- A fee more. -/
theorem Pq.fee (h : Pq w0 W b tb cap ts kr kp base s p ma mc fa fc ca cc hs) {fa' : Option Addr} {fc' H : Nat} {x : Fee} (hg : W.grownBy W' (Value.slice fa p.fees.length fc).ownBlock)
    (ho : W'.ownsRow base 47 10 (.slice fa' (p.fees.length + 1) fc') (p.fees.length + 1) (p.fees.flatMap feeC ++ feeC x))
    (hat : (Value.slice fa' (p.fees.length + 1) fc').ownBlock = (Value.slice fa p.fees.length fc).ownBlock ∨ (Value.slice fa' (p.fees.length + 1) fc').ownBlock = some H) (hH : W.heap.size ≤ H) :
    Pq w0 (W'.setCell ⟨kp, 9, none⟩ (.slice fa' (p.fees.length + 1) fc')) b tb cap ts kr kp base s { p with fees := p.fees ++ [x] } ma mc fa' fc' ca cc hs := by
  refine h.turn (σ := .f) (r' := ⟨47, 10, fa', p.fees.length + 1, fc', p.fees.flatMap feeC ++ feeC x⟩) h.owns rfl rfl ?_ (fun t ht => by cases t <;> first | rfl | exact absurd rfl ht) hg ho hat hH 9 _ ?_ h.hl
  · show some (R.mk _ _ _ _ _ _) = _
    rw [List.length_append, List.flatMap_append]
    simp
  · unfold planC
    simp only [List.length_append, List.length_singleton]
    rfl
/-- A charge more, whose rows a call has made at S. -/
theorem Pq.charge (h : Pq w0 W b tb cap ts kr kp base s p ma mc fa fc ca cc hs) {ca' : Option Addr} {cc' H S : Nat} {x : Charge} {hd : Hd} (hS : base ≤ S)
    (old : ∀ t q k, rowOf p ma mc fa fc ca cc hs t = some q → q.v.ownBlock = some k → k < S)
    (ot : W.ownsRow S 79 2 (.slice hd.ta x.tiers.length hd.tc) x.tiers.length (x.tiers.flatMap tierC)) (oa : W.ownsRow S 81 3 (.slice hd.aa x.adjusts.length hd.ac) x.adjusts.length (x.adjusts.flatMap adjC))
    (ap : ∀ k, (Value.slice hd.ta x.tiers.length hd.tc).ownBlock = some k → (Value.slice hd.aa x.adjusts.length hd.ac).ownBlock ≠ some k)
    (hg : W.grownBy W' (Value.slice ca p.charges.length cc).ownBlock)
    (ho : W'.ownsRow base 77 16 (.slice ca' (p.charges.length + 1) cc') (p.charges.length + 1) ((p.charges.zip hs).flatMap zC ++ zC (x, hd)))
    (hat : (Value.slice ca' (p.charges.length + 1) cc').ownBlock = (Value.slice ca p.charges.length cc).ownBlock ∨ (Value.slice ca' (p.charges.length + 1) cc').ownBlock = some H) (hH : W.heap.size ≤ H) :
    Pq w0 (W'.setCell ⟨kp, 10, none⟩ (.slice ca' (p.charges.length + 1) cc')) b tb cap ts kr kp base s { p with charges := p.charges ++ [x] } ma mc fa fc ca' cc' (hs ++ [hd]) := by
  have hz : (p.charges ++ [x]).zip (hs ++ [hd]) = p.charges.zip hs ++ [(x, hd)] := by rw [List.zip_append h.hl.symm]; rfl
  have hzl : (p.charges.zip hs).length = p.charges.length := by rw [List.length_zip, h.hl, Nat.min_self]
  -- the charge's two rows come first
  let ρ1 : Slot → Option R := fun t => if t = .t p.charges.length then some ⟨79, 2, hd.ta, x.tiers.length, hd.tc, x.tiers.flatMap tierC⟩ else rowOf p ma mc fa fc ca cc hs t
  let ρ2 : Slot → Option R := fun t => if t = .a p.charges.length then some ⟨81, 3, hd.aa, x.adjusts.length, hd.ac, x.adjusts.flatMap adjC⟩ else ρ1 t
  have O1 : Owns W base ρ1 := Owns.add h.owns (σ := .t p.charges.length) (if_pos rfl) (fun t ht => if_neg ht) ot hS (fun t q k _ hq hk e => by
    have := old t q k hq hk
    have := (ot.lt k e).1
    omega)
  have O2 : Owns W base ρ2 := Owns.add O1 (σ := .a p.charges.length) (if_pos rfl) (fun t ht => if_neg ht) oa hS (fun t q k _ hq hk e => by
    by_cases e1 : t = .t p.charges.length
    · subst e1
      obtain rfl := Option.some.inj ((if_pos rfl).symm.trans hq)
      exact ap k hk e
    · have := old t q k ((if_neg e1).symm.trans hq) hk
      have := (oa.lt k e).1
      omega)
  refine h.turn (σ := .c) (r' := ⟨77, 16, ca', p.charges.length + 1, cc', (p.charges.zip hs).flatMap zC ++ zC (x, hd)⟩) O2 rfl rfl ?_ (fun t ht => ?_) hg ho hat hH 10 _ ?_ ?_
  · show some (R.mk _ _ _ _ _ _) = _
    rw [List.length_append, hz, List.flatMap_append]
    simp
  · cases t with
    | m => rfl
    | f => rfl
    | c => exact absurd rfl ht
    | t i =>
      show Option.map _ (((p.charges ++ [x]).zip (hs ++ [hd]))[i]?) = ρ2 (.t i)
      rw [hz, List.getElem?_append, hzl]
      show _ = if (Slot.t i) = .t p.charges.length then _ else Option.map _ ((p.charges.zip hs)[i]?)
      by_cases e : i = p.charges.length
      · subst e
        rw [if_neg (show ¬ p.charges.length < p.charges.length by omega), if_pos rfl, Nat.sub_self]
        rfl
      · rw [if_neg (show ¬ Slot.t i = Slot.t p.charges.length by simpa using e)]
        by_cases e2 : i < p.charges.length
        · rw [if_pos e2]
        · rw [if_neg e2, List.getElem?_eq_none (by simp; omega), List.getElem?_eq_none (by omega)]
    | a i =>
      show Option.map _ (((p.charges ++ [x]).zip (hs ++ [hd]))[i]?) = if (Slot.a i) = .a p.charges.length then _ else ρ1 (.a i)
      rw [hz, List.getElem?_append, hzl]
      show _ = if (Slot.a i) = .a p.charges.length then _ else Option.map _ ((p.charges.zip hs)[i]?)
      by_cases e : i = p.charges.length
      · subst e
        rw [if_neg (show ¬ p.charges.length < p.charges.length by omega), if_pos rfl, Nat.sub_self]
        rfl
      · rw [if_neg (show ¬ Slot.a i = Slot.a p.charges.length by simpa using e)]
        by_cases e2 : i < p.charges.length
        · rw [if_pos e2]
        · rw [if_neg e2, List.getElem?_eq_none (by simp; omega), List.getElem?_eq_none (by omega)]
  · unfold planC
    simp only [List.length_append, List.length_singleton]
    rfl
  · rw [List.length_append, List.length_append, h.hl]
    rfl
end
end Go.Proofs.YtinadkgfhoibkaaDoor.Pa
