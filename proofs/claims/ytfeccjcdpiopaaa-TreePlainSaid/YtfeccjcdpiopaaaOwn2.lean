/- The laws of layer 6: plans with one thing otherwise, in memory. -/
import Derived.Test.YtfeccjcdpiopaaaOwn
import Derived.Test.YtfeccjcdpiopaaaL06b
import Derived.Deep.CutBlock
import Derived.Deep.CutRange
import Derived.Deep.DeepCutAuto
import Derived.Deep.RegionHeldLaw
import Derived.Deep.RegionHeld3
namespace Go.Proofs.Ytfeccjcdpiopaaa.L06
open Go.RowKit Go.Sort P Mm R6

/-- What package tree answers of plans, and that Plain's rows are new, each in a block of its own. -/
structure TrO (K : World → Prop) : Prop where
  tr : Tr K
  plain : ∀ (p : Plan) (ma : Option Addr) (mc : Nat) (fa : Option Addr) (fc : Nat) (ca : Option Addr) (cc : Nat) (w : World), K w → Mid p → PlanLies w (planC p ma mc fa fc ca cc) p ma mc fa fc ca cc →
    Calls Try.prog 11 #[.agg (planC p ma mc fa fc ca cc).toArray] w fun e w' => ∃ ma' mc' fa' fc' ca' cc' hs, e = .returned (.agg (planC (noPl p) ma' mc' fa' fc' ca' cc').toArray) ∧
      hs.length = (noPl p).charges.length ∧ Owns w' w.heap.size (rowOf (noPl p) ma' mc' fa' fc' ca' cc' hs) ∧ Below w.heap.size w w'
theorem fits_no {p : Plan} (h : Fits p) : Fits (noPl p) := by
  refine ⟨fun m hm => ?_, fun f hf => ?_, fun c hc => ?_, h.name, h.days, i64_0, i64_0⟩
  · simp only [noPl, List.mem_map] at hm
    obtain ⟨x, hx, rfl⟩ := hm
    obtain ⟨a, b, c, _, _⟩ := h.meters x hx
    exact ⟨a, b, c, i64_0, i64_0⟩
  · simp only [noPl, List.mem_map] at hf
    obtain ⟨x, hx, rfl⟩ := hf
    obtain ⟨a, b, _, _⟩ := h.fees x hx
    exact ⟨a, b, i64_0, i64_0⟩
  · simp only [noPl, List.mem_map] at hc
    obtain ⟨x, hx, rfl⟩ := hc
    obtain ⟨a, b, ⟨c1, c2, c3, c4, _, _⟩, d, e⟩ := h.charges x hx
    exact ⟨a, b, ⟨c1, c2, c3, c4, i64_0, i64_0⟩, d, e⟩
theorem kind_cases (k : Int) : ∃ t : Int, wrap64 ((IntKind.u64.wrap k).tmod 12) = t ∧ (t = 0 ∨ t = 1 ∨ t = 2 ∨ t = 3 ∨ t = 4 ∨ t = 5 ∨ t = 6 ∨ t = 7 ∨ t = 8 ∨ t = 9 ∨ t = 10 ∨ t = 11) := by
  refine ⟨_, rfl, ?_⟩
  have h : IntKind.u64.wrap k = k % 18446744073709551616 := rfl
  rw [h, Int.tmod_eq_emod_of_nonneg (by omega)]
  unfold wrap64
  omega
theorem no_no2 (p : Plan) : noPl (noPl p) = noPl p := by
  unfold noPl
  simp only [List.map_map]
  rfl
def m0 : Meter := ⟨⟨#[]⟩, ⟨#[]⟩, 0, 0, 0⟩
def z0 : Win := ⟨false, ⟨0, 0, 0⟩, ⟨0, 0, 0⟩⟩
def e0 : Fee := ⟨0, z0, 0, 0⟩
def k0 : Charge := ⟨⟨#[]⟩, z0, 0, 0, 0, [], 0, [], 0, 0⟩
theorem info_meter : (Try.prog.info? 38).map (fun i => (i.zero, i.size, i.bytes)) = some (some (.agg (meterC m0).toArray), 5, 56) := by kernel_rfl
theorem info_fee : (Try.prog.info? 42).map (fun i => (i.zero, i.size, i.bytes)) = some (some (.agg (feeC e0).toArray), 10, 80) := by kernel_rfl
theorem info_charge : (Try.prog.info? 46).map (fun i => (i.zero, i.size, i.bytes)) = some (some (.agg (chargeC k0 none 0 none 0).toArray), 16, 168) := by kernel_rfl
theorem info_tier : (Try.prog.info? 49).map (fun i => (i.zero, i.size, i.bytes)) = some (some (.agg (tierC ⟨0, 0⟩).toArray), 2, 16) := by kernel_rfl
theorem info_adj : (Try.prog.info? 51).map (fun i => (i.zero, i.size, i.bytes)) = some (some (.agg (adjC ⟨0, 0, 0⟩).toArray), 3, 24) := by kernel_rfl
theorem form_slice {w : World} {base : Nat} {e : TypeId} {size n : Nat} {v : Value} {xs : List Value} (h : w.ownsRow base e size v n xs) : ∃ a cap, v = .slice a n cap := by
  rcases h.2 with ⟨h1, h2⟩ | ⟨g, cap, cur, h1, _⟩
  · exact ⟨none, 0, by rw [h1, h2]⟩
  · exact ⟨_, cap, h1⟩
theorem news_box (w : World) (cs : List Value) (t : TypeId) : ∀ j u, cs[j]? = some u → (w.alloc (.cells cs.toArray t)).cell? ((⟨w.heap.size, 0, none⟩ : Addr).add j) = some u := fun j u h => by
  rw [add_plain, Nat.zero_add]
  exact (Box.new w cs t).cell j u h
/-- A slice that grew lies in its old block, or in a new one: not in a third one. -/
theorem apart_new {a b : Option Addr} {n m c d n' c' bb H : Nat} (hne : some bb ≠ (Value.slice a n c).ownBlock) (h : (Value.slice b m d).ownBlock = (Value.slice a n c).ownBlock ∨ (Value.slice b m d).ownBlock = some H) (hH : bb < H) (e : (Value.slice b n' c').ownBlock = some bb) : False := by
  have e' : (Value.slice b m d).ownBlock = some bb := by
    cases b
    · cases e
    · exact e
  rw [e'] at h
  rcases h with h | h
  · exact hne h
  · have := Option.some.inj h
    omega
/-- One more meter. -/
theorem more_m {w w' : World} {base : Nat} {r : Plan} {ma : Option Addr} {mc : Nat} {fa : Option Addr} {fc : Nat} {ca : Option Addr} {cc : Nat} {hs : List Hd} (O : Owns w base (rowOf r ma mc fa fc ca cc hs)) {ma' : Option Addr} {mc' : Nat} {x : Meter}
    (hg : w.grownBy w' (Value.slice ma r.meters.length mc).ownBlock) (h : w'.ownsRow base 38 5 (.slice ma' (r.meters.length + 1) mc') (r.meters.length + 1) (r.meters.flatMap meterC ++ meterC x)) :
    ∀ s row, rowOf { r with meters := r.meters ++ [x] } ma' mc' fa fc ca cc hs s = some row → w'.ownsRow base row.e row.size row.v row.n row.xs := by
  intro s row hs'
  cases s with
  | m =>
    obtain rfl := Option.some.inj hs'
    show w'.ownsRow base _ 5 (.slice ma' (r.meters ++ [x]).length mc') (r.meters ++ [x]).length ((r.meters ++ [x]).flatMap meterC)
    rw [List.length_append, List.flatMap_append]
    simpa using h
  | f => exact O.others (s := .m) rfl hg .f row (by decide) hs'
  | c => exact O.others (s := .m) rfl hg .c row (by decide) hs'
  | t i => exact O.others (s := .m) rfl hg (.t i) row (by intro e; cases e) hs'
  | a i => exact O.others (s := .m) rfl hg (.a i) row (by intro e; cases e) hs'
theorem idx_case (a n : Int) (h1 : 1 ≤ n) (h2 : n ≤ 40) : ∃ J : Int, IntKind.u64.wrap n = n ∧ wrap64 ((IntKind.u64.wrap a).tmod n) = J ∧ IntKind.i64.wrap ((IntKind.u64.wrap a).tmod n) = J ∧ 0 ≤ J ∧ J < n := by
  have h : IntKind.u64.wrap a = a % 18446744073709551616 := rfl
  have hn : IntKind.u64.wrap n = n % 18446744073709551616 := rfl
  have e : 0 ≤ a % 18446744073709551616 := by omega
  have e2 := Int.emod_nonneg (a % 18446744073709551616) (b := n) (by omega)
  have e3 := Int.emod_lt_of_pos (a % 18446744073709551616) (b := n) (by omega)
  rw [h, Int.tmod_eq_emod_of_nonneg e]
  have k : wrap64 (a % 18446744073709551616 % n) = a % 18446744073709551616 % n := by unfold wrap64; omega
  exact ⟨_, by omega, k, by rw [IntKind.wrap_i64]; omega, e2, e3⟩
/-- One more fee. -/
theorem more_f {w w' : World} {base : Nat} {r : Plan} {ma : Option Addr} {mc : Nat} {fa : Option Addr} {fc : Nat} {ca : Option Addr} {cc : Nat} {hs : List Hd} (O : Owns w base (rowOf r ma mc fa fc ca cc hs)) {fa' : Option Addr} {fc' : Nat} {x : Fee}
    (hg : w.grownBy w' (Value.slice fa r.fees.length fc).ownBlock) (h : w'.ownsRow base 42 10 (.slice fa' (r.fees.length + 1) fc') (r.fees.length + 1) (r.fees.flatMap feeC ++ feeC x)) :
    ∀ s row, rowOf { r with fees := r.fees ++ [x] } ma mc fa' fc' ca cc hs s = some row → w'.ownsRow base row.e row.size row.v row.n row.xs := by
  intro s row hs'
  cases s with
  | m => exact O.others (s := .f) rfl hg .m row (by decide) hs'
  | f =>
    obtain rfl := Option.some.inj hs'
    show w'.ownsRow base _ 10 (.slice fa' (r.fees ++ [x]).length fc') (r.fees ++ [x]).length ((r.fees ++ [x]).flatMap feeC)
    rw [List.length_append, List.flatMap_append]
    simpa using h
  | c => exact O.others (s := .f) rfl hg .c row (by decide) hs'
  | t i => exact O.others (s := .f) rfl hg (.t i) row (by intro e; cases e) hs'
  | a i => exact O.others (s := .f) rfl hg (.a i) row (by intro e; cases e) hs'
def h0 : Hd := ⟨none, 0, none, 0⟩
/-- One more charge, without tiers and adjustments. -/
theorem more_c {w w' : World} {base : Nat} {r : Plan} {ma : Option Addr} {mc : Nat} {fa : Option Addr} {fc : Nat} {ca : Option Addr} {cc : Nat} {hs : List Hd} (O : Owns w base (rowOf r ma mc fa fc ca cc hs)) (hl : hs.length = r.charges.length) {ca' : Option Addr} {cc' : Nat}
    (hg : w.grownBy w' (Value.slice ca r.charges.length cc).ownBlock) (h : w'.ownsRow base 46 16 (.slice ca' (r.charges.length + 1) cc') (r.charges.length + 1) ((r.charges.zip hs).flatMap zC ++ chargeC k0 none 0 none 0)) :
    ∀ s row, rowOf { r with charges := r.charges ++ [k0] } ma mc fa fc ca' cc' (hs ++ [h0]) s = some row → w'.ownsRow base row.e row.size row.v row.n row.xs := by
  have hz : (r.charges ++ [k0]).zip (hs ++ [h0]) = r.charges.zip hs ++ [(k0, h0)] := by rw [List.zip_append hl.symm]; rfl
  have hzl : (r.charges.zip hs).length = r.charges.length := by rw [List.length_zip, hl, Nat.min_self]
  intro s row hs'
  cases s with
  | m => exact O.others (s := .c) rfl hg .m row (by decide) hs'
  | f => exact O.others (s := .c) rfl hg .f row (by decide) hs'
  | c =>
    obtain rfl := Option.some.inj hs'
    show w'.ownsRow base _ 16 (.slice ca' (r.charges ++ [k0]).length cc') (r.charges ++ [k0]).length (((r.charges ++ [k0]).zip (hs ++ [h0])).flatMap zC)
    rw [List.length_append, hz, List.flatMap_append, List.flatMap_singleton]
    exact h
  | t i =>
    replace hs' : Option.map _ (((r.charges ++ [k0]).zip (hs ++ [h0]))[i]?) = some row := hs'
    rw [hz, List.getElem?_append] at hs'
    split at hs'
    · exact O.others (s := .c) rfl hg (.t i) row (by intro e; cases e) hs'
    · cases hi : ([(k0, h0)] : List (Charge × Hd))[i - (r.charges.zip hs).length]? with
      | none => rw [hi] at hs'; cases hs'
      | some y =>
        have : y = (k0, h0) := by have := List.mem_of_getElem? hi; simpa using this
        subst this
        rw [hi] at hs'
        obtain rfl := Option.some.inj hs'
        exact World.ownsRow_nil _ _ _ _
  | a i =>
    replace hs' : Option.map _ (((r.charges ++ [k0]).zip (hs ++ [h0]))[i]?) = some row := hs'
    rw [hz, List.getElem?_append] at hs'
    split at hs'
    · exact O.others (s := .c) rfl hg (.a i) row (by intro e; cases e) hs'
    · cases hi : ([(k0, h0)] : List (Charge × Hd))[i - (r.charges.zip hs).length]? with
      | none => rw [hi] at hs'; cases hs'
      | some y =>
        have : y = (k0, h0) := by have := List.mem_of_getElem? hi; simpa using this
        subst this
        rw [hi] at hs'
        obtain rfl := Option.some.inj hs'
        exact World.ownsRow_nil _ _ _ _
theorem zip_set1 {α β : Type} : ∀ (l : List α) (m : List β) (j : Nat) (a : α) (b : β), m[j]? = some b → (l.set j a).zip m = (l.zip m).set j (a, b)
  | [], _, _, _, _, _ => by simp
  | _ :: _, [], j, _, _, h => by cases j <;> cases h
  | x :: l, y :: m, 0, a, b, h => by
    obtain rfl : y = b := by simpa using h
    rfl
  | x :: l, y :: m, j + 1, a, b, h => by
    rw [List.set_cons_succ, List.zip_cons_cons, List.zip_cons_cons, List.set_cons_succ, zip_set1 l m j a b (by simpa using h)]
section
variable {w : World} {base : Nat} {r : Plan} {ma : Option Addr} {mc : Nat} {fa : Option Addr} {fc cb cc : Nat} {hs : List Hd} {j : Nat} {c c' : Charge} {d d' : Hd}
theorem own_t (hj : r.charges[j]? = some c) (hd : hs[j]? = some d) : rowOf r ma mc fa fc (some ⟨cb, 0, none⟩) cc hs (.t j) = some ⟨49, 2, d.ta, c.tiers.length, d.tc, c.tiers.flatMap tierC⟩ := by
  show Option.map _ ((r.charges.zip hs)[j]?) = _
  rw [zip_get hj hd]; rfl
theorem own_a (hj : r.charges[j]? = some c) (hd : hs[j]? = some d) : rowOf r ma mc fa fc (some ⟨cb, 0, none⟩) cc hs (.a j) = some ⟨51, 3, d.aa, c.adjusts.length, d.ac, c.adjusts.flatMap adjC⟩ := by
  show Option.map _ ((r.charges.zip hs)[j]?) = _
  rw [zip_get hj hd]; rfl
/-- The rows of a charge that is otherwise. -/
theorem turn_rows (ρ : World) (hj : r.charges[j]? = some c) (hd : hs[j]? = some d) {i : Nat} {u : Value} (hi : i < 16)
    (e : chargeC c' d'.ta d'.tc d'.aa d'.ac = (chargeC c d.ta d.tc d.aa d.ac).set i u)
    (hm : ∀ s row, (s = .m ∨ s = .f) → rowOf r ma mc fa fc (some ⟨cb, 0, none⟩) cc hs s = some row → ρ.ownsRow base row.e row.size row.v row.n row.xs)
    (hc : ρ.ownsRow base 46 16 (.slice (some ⟨cb, 0, none⟩) r.charges.length cc) r.charges.length (((r.charges.zip hs).flatMap zC).set (j * 16 + i) u))
    (ht : ρ.ownsRow base 49 2 (.slice d'.ta c'.tiers.length d'.tc) c'.tiers.length (c'.tiers.flatMap tierC))
    (ha : ρ.ownsRow base 51 3 (.slice d'.aa c'.adjusts.length d'.ac) c'.adjusts.length (c'.adjusts.flatMap adjC))
    (ho : ∀ s row, (∃ i, i ≠ j ∧ (s = .t i ∨ s = .a i)) → rowOf r ma mc fa fc (some ⟨cb, 0, none⟩) cc hs s = some row → ρ.ownsRow base row.e row.size row.v row.n row.xs) :
    ∀ s row, rowOf { r with charges := r.charges.set j c' } ma mc fa fc (some ⟨cb, 0, none⟩) cc (hs.set j d') s = some row → ρ.ownsRow base row.e row.size row.v row.n row.xs := by
  have hz : (r.charges.set j c').zip (hs.set j d') = (r.charges.zip hs).set j (c', d') := zip_set _ _ _ _ _
  have hzj := zip_get hj hd
  have hlt : j < (r.charges.zip hs).length := (List.getElem?_eq_some_iff.1 hzj).1
  intro s row hs'
  cases s with
  | m => exact hm .m row (.inl rfl) hs'
  | f => exact hm .f row (.inr rfl) hs'
  | c =>
    obtain rfl := Option.some.inj hs'
    show ρ.ownsRow base _ 16 (.slice (some ⟨cb, 0, none⟩) (r.charges.set j c').length cc) (r.charges.set j c').length (((r.charges.set j c').zip (hs.set j d')).flatMap zC)
    rw [List.length_set, hz, ← flat_set (cells := zC) zC_len (r.charges.zip hs) j (c, d) (c', d') i u hzj hi e]
    exact hc
  | t k =>
    replace hs' : Option.map _ (((r.charges.set j c').zip (hs.set j d'))[k]?) = some row := hs'
    rw [hz] at hs'
    by_cases hk : k = j
    · subst hk
      rw [List.getElem?_set_self hlt] at hs'
      obtain rfl := Option.some.inj hs'
      exact ht
    · rw [List.getElem?_set_ne (fun e => hk e.symm)] at hs'
      exact ho (.t k) row ⟨k, hk, .inl rfl⟩ hs'
  | a k =>
    replace hs' : Option.map _ (((r.charges.set j c').zip (hs.set j d'))[k]?) = some row := hs'
    rw [hz] at hs'
    by_cases hk : k = j
    · subst hk
      rw [List.getElem?_set_self hlt] at hs'
      obtain rfl := Option.some.inj hs'
      exact ha
    · rw [List.getElem?_set_ne (fun e => hk e.symm)] at hs'
      exact ho (.a k) row ⟨k, hk, .inr rfl⟩ hs'
theorem set_self {α : Type} {l : List α} {j : Nat} {a : α} (h : l[j]? = some a) : l.set j a = l := by
  refine List.ext_getElem? fun i => ?_
  rw [List.getElem?_set]
  split
  · rename_i e
    subst e
    rw [if_pos (List.getElem?_eq_some_iff.1 h).1, h]
  · rfl
/-- One field of a charge is written. -/
theorem set_c (O : Owns w base (rowOf r ma mc fa fc (some ⟨cb, 0, none⟩) cc hs)) (hj : r.charges[j]? = some c) (hd : hs[j]? = some d) {i : Nat} {u : Value} (hi : i < 16) (e1 : c'.tiers = c.tiers) (e2 : c'.adjusts = c.adjusts)
    (e : chargeC c' d.ta d.tc d.aa d.ac = (chargeC c d.ta d.tc d.aa d.ac).set i u) :
    ∀ s row, rowOf { r with charges := r.charges.set j c' } ma mc fa fc (some ⟨cb, 0, none⟩) cc hs s = some row → (w.setCell ⟨cb, j * 16 + i, none⟩ u).ownsRow base row.e row.size row.v row.n row.xs := by
  have oth := fun s row hne hs' => O.others_set (s := .c) rfl (p := ⟨cb, j * 16 + i, none⟩) rfl u s row hne hs'
  have key := turn_rows (base := base) (ma := ma) (mc := mc) (fa := fa) (fc := fc) (cb := cb) (cc := cc) (w.setCell ⟨cb, j * 16 + i, none⟩ u) hj hd hi e (fun s row h => oth s row (by rcases h with rfl | rfl <;> decide))
    (World.ownsRow.stored (O.own .c _ rfl) (j * 16 + i) u).1 (by rw [e1]; exact oth (.t j) _ (by intro e; cases e) (own_t hj hd)) (by rw [e2]; exact oth (.a j) _ (by intro e; cases e) (own_a hj hd))
    (fun s row ⟨k, _, h⟩ => oth s row (by rcases h with rfl | rfl <;> intro e <;> cases e))
  rwa [set_self hd] at key
/-- One more tier. -/
theorem more_t {w' : World} {ta' : Option Addr} {tc' H : Nat} {x : Tier} (O : Owns w base (rowOf r ma mc fa fc (some ⟨cb, 0, none⟩) cc hs)) (hj : r.charges[j]? = some c) (hd : hs[j]? = some d)
    (hg : w.grownBy w' (Value.slice d.ta c.tiers.length d.tc).ownBlock) (h : w'.ownsRow base 49 2 (.slice ta' (c.tiers.length + 1) tc') (c.tiers.length + 1) (c.tiers.flatMap tierC ++ tierC x))
    (hat : (Value.slice ta' (c.tiers.length + 1) tc').ownBlock = (Value.slice d.ta c.tiers.length d.tc).ownBlock ∨ (Value.slice ta' (c.tiers.length + 1) tc').ownBlock = some H) (hH : cb < H) :
    ∀ s row, rowOf { r with charges := r.charges.set j { c with tiers := c.tiers ++ [x] } } ma mc fa fc (some ⟨cb, 0, none⟩) cc (hs.set j { d with ta := ta', tc := tc' }) s = some row →
      (w'.setCell ⟨cb, j * 16 + 11, none⟩ (.slice ta' (c.tiers.length + 1) tc')).ownsRow base row.e row.size row.v row.n row.xs := by
  have oth := O.others (own_t hj hd) hg
  have hne : some cb ≠ (Value.slice d.ta c.tiers.length d.tc).ownBlock := fun e => by
    have := O.apart .c (.t j) _ _ cb rfl (own_t hj hd) rfl e.symm
    cases this
  have far : ∀ s row, s ≠ .c → s ≠ .t j → rowOf r ma mc fa fc (some ⟨cb, 0, none⟩) cc hs s = some row → (w'.setCell ⟨cb, j * 16 + 11, none⟩ (.slice ta' (c.tiers.length + 1) tc')).ownsRow base row.e row.size row.v row.n row.xs := fun s row h1 h2 h3 =>
    ownsRow_setCell_other (oth s row h2 h3) (fun e => h1 (O.apart s .c _ _ cb h3 rfl e rfl)) _
  have e : chargeC { c with tiers := c.tiers ++ [x] } ta' tc' d.aa d.ac = (chargeC c d.ta d.tc d.aa d.ac).set 11 (.slice ta' (c.tiers.length + 1) tc') := by
    unfold chargeC
    simp only [List.length_append, List.length_singleton]
    rfl
  refine turn_rows (d' := { d with ta := ta', tc := tc' }) _ hj hd (i := 11) (by decide) e (fun s row h => far s row (by rcases h with rfl | rfl <;> decide) (by rcases h with rfl | rfl <;> intro e <;> cases e))
    (World.ownsRow.stored (oth .c _ (by intro e; cases e) rfl) (j * 16 + 11) _).1 ?_ (far (.a j) _ (by intro e; cases e) (by intro e; cases e) (own_a hj hd)) (fun s row ⟨k, hk, h⟩ => far s row (by rcases h with rfl | rfl <;> intro e <;> cases e) (by rcases h with rfl | rfl <;> intro e <;> cases e <;> exact hk rfl))
  show (w'.setCell _ _).ownsRow base _ 2 (.slice ta' (c.tiers ++ [x]).length tc') (c.tiers ++ [x]).length ((c.tiers ++ [x]).flatMap tierC)
  rw [List.length_append, List.flatMap_append]
  exact ownsRow_setCell_other (by simpa using h) (fun e => apart_new hne hat hH e) _
/-- One more adjustment. -/
theorem more_a {w' : World} {aa' : Option Addr} {ac' H : Nat} {x : Adj} (O : Owns w base (rowOf r ma mc fa fc (some ⟨cb, 0, none⟩) cc hs)) (hj : r.charges[j]? = some c) (hd : hs[j]? = some d)
    (hg : w.grownBy w' (Value.slice d.aa c.adjusts.length d.ac).ownBlock) (h : w'.ownsRow base 51 3 (.slice aa' (c.adjusts.length + 1) ac') (c.adjusts.length + 1) (c.adjusts.flatMap adjC ++ adjC x))
    (hat : (Value.slice aa' (c.adjusts.length + 1) ac').ownBlock = (Value.slice d.aa c.adjusts.length d.ac).ownBlock ∨ (Value.slice aa' (c.adjusts.length + 1) ac').ownBlock = some H) (hH : cb < H) :
    ∀ s row, rowOf { r with charges := r.charges.set j { c with adjusts := c.adjusts ++ [x] } } ma mc fa fc (some ⟨cb, 0, none⟩) cc (hs.set j { d with aa := aa', ac := ac' }) s = some row →
      (w'.setCell ⟨cb, j * 16 + 13, none⟩ (.slice aa' (c.adjusts.length + 1) ac')).ownsRow base row.e row.size row.v row.n row.xs := by
  have oth := O.others (own_a hj hd) hg
  have hne : some cb ≠ (Value.slice d.aa c.adjusts.length d.ac).ownBlock := fun e => by
    have := O.apart .c (.a j) _ _ cb rfl (own_a hj hd) rfl e.symm
    cases this
  have far : ∀ s row, s ≠ .c → s ≠ .a j → rowOf r ma mc fa fc (some ⟨cb, 0, none⟩) cc hs s = some row → (w'.setCell ⟨cb, j * 16 + 13, none⟩ (.slice aa' (c.adjusts.length + 1) ac')).ownsRow base row.e row.size row.v row.n row.xs := fun s row h1 h2 h3 =>
    ownsRow_setCell_other (oth s row h2 h3) (fun e => h1 (O.apart s .c _ _ cb h3 rfl e rfl)) _
  have e : chargeC { c with adjusts := c.adjusts ++ [x] } d.ta d.tc aa' ac' = (chargeC c d.ta d.tc d.aa d.ac).set 13 (.slice aa' (c.adjusts.length + 1) ac') := by
    unfold chargeC
    simp only [List.length_append, List.length_singleton]
    rfl
  refine turn_rows (d' := { d with aa := aa', ac := ac' }) _ hj hd (i := 13) (by decide) e (fun s row h => far s row (by rcases h with rfl | rfl <;> decide) (by rcases h with rfl | rfl <;> intro e <;> cases e))
    (World.ownsRow.stored (oth .c _ (by intro e; cases e) rfl) (j * 16 + 13) _).1 (far (.t j) _ (by intro e; cases e) (by intro e; cases e) (own_t hj hd)) ?_ (fun s row ⟨k, hk, h⟩ => far s row (by rcases h with rfl | rfl <;> intro e <;> cases e) (by rcases h with rfl | rfl <;> intro e <;> cases e <;> exact hk rfl))
  show (w'.setCell _ _).ownsRow base _ 3 (.slice aa' (c.adjusts ++ [x]).length ac') (c.adjusts ++ [x]).length ((c.adjusts ++ [x]).flatMap adjC)
  rw [List.length_append, List.flatMap_append]
  exact ownsRow_setCell_other (by simpa using h) (fun e => apart_new hne hat hH e) _
end
theorem new_t {r : Plan} {ma : Option Addr} {mc : Nat} {fa : Option Addr} {fc : Nat} {ca ca' : Option Addr} {cc cc' : Nat} {hs : List Hd} {i bb : Nat} {row : R} (hz : (r.charges ++ [k0]).zip (hs ++ [h0]) = r.charges.zip hs ++ [(k0, h0)]) (NB : ∀ row, rowOf r ma mc fa fc ca cc hs (.t i) = some row → row.v.ownBlock ≠ some bb)
    (h : rowOf { r with charges := r.charges ++ [k0] } ma mc fa fc ca' cc' (hs ++ [h0]) (.t i) = some row) (e : row.v.ownBlock = some bb) : False := by
  replace h : Option.map _ (((r.charges ++ [k0]).zip (hs ++ [h0]))[i]?) = some row := h
  rw [hz, List.getElem?_append] at h
  split at h
  · exact NB row h e
  · cases hi : ([(k0, h0)] : List (Charge × Hd))[i - (r.charges.zip hs).length]? with
    | none => rw [hi] at h; cases h
    | some y =>
      have : y = (k0, h0) := by have := List.mem_of_getElem? hi; simpa using this
      subst this
      rw [hi] at h
      obtain rfl := Option.some.inj h
      cases e
theorem new_a {r : Plan} {ma : Option Addr} {mc : Nat} {fa : Option Addr} {fc : Nat} {ca ca' : Option Addr} {cc cc' : Nat} {hs : List Hd} {i bb : Nat} {row : R} (hz : (r.charges ++ [k0]).zip (hs ++ [h0]) = r.charges.zip hs ++ [(k0, h0)]) (NB : ∀ row, rowOf r ma mc fa fc ca cc hs (.a i) = some row → row.v.ownBlock ≠ some bb)
    (h : rowOf { r with charges := r.charges ++ [k0] } ma mc fa fc ca' cc' (hs ++ [h0]) (.a i) = some row) (e : row.v.ownBlock = some bb) : False := by
  replace h : Option.map _ (((r.charges ++ [k0]).zip (hs ++ [h0]))[i]?) = some row := h
  rw [hz, List.getElem?_append] at h
  split at h
  · exact NB row h e
  · cases hi : ([(k0, h0)] : List (Charge × Hd))[i - (r.charges.zip hs).length]? with
    | none => rw [hi] at h; cases h
    | some y =>
      have : y = (k0, h0) := by have := List.mem_of_getElem? hi; simpa using this
      subst this
      rw [hi] at h
      obtain rfl := Option.some.inj h
      cases e
theorem nC_idem (c : Charge) : nC (nC c) = nC c := rfl
theorem ch_at {p r : Plan} (hr : r = noPl p) {j : Nat} {c : Charge} (hj : r.charges[j]? = some c) : nC c = c := by
  rw [hr] at hj
  simp only [noPl, List.getElem?_map, Option.map_eq_some_iff] at hj
  obtain ⟨x, _, rfl⟩ := hj
  rfl
theorem ch_ne {p r : Plan} (hr : r = noPl p) {j : Nat} {c c' : Charge} (hj : r.charges[j]? = some c) (h : nC c' ≠ c) : ¬ noPl p = noPl { r with charges := r.charges.set j c' } := by
  intro e
  rw [← hr] at e
  have e2 := congrArg (fun x : Plan => x.charges[j]?) e
  simp only [noPl, List.getElem?_map, List.getElem?_set_self (List.getElem?_eq_some_iff.1 hj).1, hj, Option.map_some, Option.some.injEq] at e2
  exact h e2.symm
theorem ch_eq {p r : Plan} (hr : r = noPl p) {j : Nat} {c c' : Charge} (hj : r.charges[j]? = some c) (h : nC c' = c) : noPl p = noPl { r with charges := r.charges.set j c' } := by
  have e : (r.charges.set j c').map nC = r.charges.map nC := by
    refine List.ext_getElem? fun i => ?_
    rw [List.getElem?_map, List.getElem?_map, List.getElem?_set]
    split
    · rename_i e
      subst e
      rw [if_pos (List.getElem?_eq_some_iff.1 hj).1, hj, Option.map_some, Option.map_some, h, ch_at hr hj]
    · rfl
  rw [← no_no2 p, ← hr]
  unfold noPl
  rw [e]
theorem fits_set {r : Plan} (F : Fits r) {j : Nat} {c' : Charge} (h : strOk c'.meter ∧ winOk c'.win ∧ (I64 c'.allowance ∧ I64 c'.block ∧ I64 c'.kind ∧ I64 c'.mode ∧ I64 c'.line ∧ I64 c'.col) ∧ (∀ t ∈ c'.tiers, I64 t.upto ∧ I64 t.rate) ∧ ∀ a ∈ c'.adjusts, I64 a.kind ∧ I64 a.num ∧ I64 a.mode) : Fits { r with charges := r.charges.set j c' } :=
  ⟨F.meters, F.fees, fun c hc => by
    rcases List.mem_or_eq_of_mem_set hc with h1 | h1
    · exact F.charges c h1
    · rw [h1]; exact h, F.name, F.days, F.place⟩
theorem append_ne (s : ByteArray) : s ++ ⟨#[122]⟩ ≠ s := by
  intro h
  have := congrArg ByteArray.size h
  rw [ByteArray.size_append] at this
  have e : (⟨#[122]⟩ : ByteArray).size = 1 := rfl
  omega
theorem name_of {p : Plan} (h : great p = false) : p.name.size ≤ 200 := by
  unfold great headGreat at h
  simp only [Bool.or_eq_false_iff, decide_eq_false_iff_not, Nat.not_lt] at h
  omega
theorem owns_box {W : World} {base bb : Nat} {ρ : Slot → Option R} (h : ∀ s row, ρ s = some row → W.ownsRow base row.e row.size row.v row.n row.xs) (hn : ∀ s row, ρ s = some row → row.v.ownBlock ≠ some bb) (j : Nat) (u : Value) :
    ∀ s row, ρ s = some row → (W.setCell ⟨bb, j, none⟩ u).ownsRow base row.e row.size row.v row.n row.xs := fun s row hs => ownsRow_setCell_other (h s row hs) (hn s row hs) u
theorem wrap_ne (d : Int) : wrap64 (d + 1) ≠ d := by unfold wrap64; omega
end Go.Proofs.Ytfeccjcdpiopaaa.L06
