/- Rows put one behind the other: `append` of whole rows, whose elements lie as they lay; and what a store into one block leaves alone. -/
import Derived.Test.YtnhhhnngocdagaaDoorJDecP
import Derived.Deep.AppendLies
namespace Go.Proofs.YtnhhhnngocdagaaDoor.Mm
open Go.RowKit Go.Deep Go.ChangeShapes P
theorem fl_len {β : Type} {n : Nat} : ∀ (css : List (List β)), (∀ cs ∈ css, cs.length = n) → css.flatten.length = css.length * n
  | [], _ => by simp
  | a :: r, h => by
    have e := fl_len r (fun cs hc => h cs (List.mem_cons_of_mem _ hc))
    have ha := h a (List.mem_cons_self ..)
    rw [List.flatten_cons, List.length_append, e, ha, List.length_cons, Nat.succ_mul]
    omega
theorem fl_get {β : Type} {n : Nat} : ∀ (css : List (List β)), (∀ cs ∈ css, cs.length = n) → ∀ (j : Nat) (cs : List β) (i : Nat) (u : β), css[j]? = some cs → cs[i]? = some u → css.flatten[j * n + i]? = some u
  | [], _, j, _, _, _, hj, _ => by cases j <;> cases hj
  | a :: r, h, 0, cs, i, u, hj, hi => by
    obtain rfl : a = cs := by simpa using hj
    rw [List.flatten_cons, Nat.zero_mul, Nat.zero_add, List.getElem?_append_left (List.getElem?_eq_some_iff.1 hi).1]
    exact hi
  | a :: r, h, j + 1, cs, i, u, hj, hi => by
    have ha := h a (List.mem_cons_self ..)
    rw [List.flatten_cons, List.getElem?_append_right (by rw [ha, Nat.succ_mul]; omega), ha, show (j + 1) * n + i - n = j * n + i by rw [Nat.succ_mul]; omega]
    exact fl_get r (fun cs hc => h cs (List.mem_cons_of_mem _ hc)) j cs i u (by simpa using hj) hi
theorem fl_split {β : Type} {n : Nat} : ∀ (css : List (List β)), (∀ cs ∈ css, cs.length = n) → ∀ (j : Nat) (u : β), css.flatten[j]? = some u → ∃ q cs i, css[q]? = some cs ∧ cs[i]? = some u ∧ j = q * n + i
  | [], _, j, u, h => by simp at h
  | a :: r, hh, j, u, h => by
    have ha := hh a (List.mem_cons_self ..)
    rw [List.flatten_cons] at h
    by_cases hj : j < n
    · rw [List.getElem?_append_left (by rw [ha]; exact hj)] at h
      exact ⟨0, a, j, rfl, h, by omega⟩
    · rw [List.getElem?_append_right (by rw [ha]; omega), ha] at h
      obtain ⟨q, x, i, h1, h2, h3⟩ := fl_split r (fun cs hc => hh cs (List.mem_cons_of_mem _ hc)) (j - n) u h
      refine ⟨q + 1, x, i, by simpa using h1, h2, ?_⟩
      rw [Nat.succ_mul]
      omega
/-- Elements' cells, one by one. -/
structure Ch {α : Type} (T : Ty α) (w : World) (css : List (List Value)) (xs : List α) : Prop where
  len : css.length = xs.length
  lies : ∀ (j : Nat) (cs : List Value) (x : α), css[j]? = some cs → xs[j]? = some x → T.lies w cs x
section
variable {α : Type} {T : Ty α} {w w' : World}
theorem Ch.on {css : List (List Value)} {xs : List α} (h : Ch T w css xs) (b : Below w.heap.size w w') : Ch T w' css xs := ⟨h.len, fun j cs x h1 h2 => T.keep (h.lies j cs x h1 h2) b⟩
theorem Ch.sizes {css : List (List Value)} {xs : List α} (h : Ch T w css xs) : ∀ cs ∈ css, cs.length = T.n := fun cs hc => by
  obtain ⟨j, hj, e⟩ := List.getElem_of_mem hc
  have hjx : j < xs.length := by rw [← h.len]; exact hj
  exact T.len (h.lies j cs (xs[j]'hjx) (by rw [List.getElem?_eq_getElem hj, e]) (List.getElem?_eq_getElem hjx))
theorem Ch.app {css ds : List (List Value)} {xs ys : List α} (h : Ch T w css xs) (k : Ch T w ds ys) : Ch T w (css ++ ds) (xs ++ ys) := by
  refine ⟨by rw [List.length_append, List.length_append, h.len, k.len], fun j cs x h1 h2 => ?_⟩
  by_cases hj : j < css.length
  · rw [List.getElem?_append_left hj] at h1
    rw [List.getElem?_append_left (by rw [← h.len]; exact hj)] at h2
    exact h.lies j cs x h1 h2
  · rw [List.getElem?_append_right (by omega)] at h1
    rw [List.getElem?_append_right (by rw [← h.len]; omega), ← h.len] at h2
    exact k.lies _ cs x h1 h2
theorem Ch.ones {css : List (List Value)} {xs : List α} (h : Ch T w css xs) (one : ∀ cs x, T.lies w cs x → ∀ u ∈ cs, u.oneCell' = true) : ∀ u ∈ css.flatten, u.oneCell' = true := fun u hu => by
  obtain ⟨cs, hc, h2⟩ := List.mem_flatten.1 hu
  obtain ⟨j, hj, e⟩ := List.getElem_of_mem hc
  have hjx : j < xs.length := by rw [← h.len]; exact hj
  exact one cs _ (h.lies j cs (xs[j]'hjx) (by rw [List.getElem?_eq_getElem hj, e]) (List.getElem?_eq_getElem hjx)) u h2
theorem choose_list {β : Type} {p : Nat → β → Prop} : ∀ (n : Nat), (∀ i, i < n → ∃ y, p i y) → ∃ l : List β, l.length = n ∧ ∀ i y, l[i]? = some y → p i y
  | 0, _ => ⟨[], rfl, fun i y h => by simp at h⟩
  | n + 1, h => by
    obtain ⟨l, h1, h2⟩ := choose_list n (fun i hi => h i (by omega))
    obtain ⟨y, hy⟩ := h n (by omega)
    refine ⟨l ++ [y], by simp [h1], fun i z hz => ?_⟩
    by_cases hi : i < l.length
    · rw [List.getElem?_append_left hi] at hz
      exact h2 i z hz
    · have hl := (List.getElem?_eq_some_iff.1 hz).1
      simp only [List.length_append, List.length_singleton] at hl
      obtain rfl : i = l.length := by omega
      simp only [List.getElem?_append_right (Nat.le_refl _), Nat.sub_self, List.getElem?_cons_zero, Option.some.injEq] at hz
      subst hz
      rw [h1]
      exact hy
/-- A row's cells. -/
theorem row_chunks {ao : Option Addr} {len cap : Nat} {xs : List α} (h : Row T w ao len cap xs) :
    ∃ css, Ch T w css xs ∧ css.flatten.length = len * T.n ∧ (ao = none → len = 0) ∧ (∀ ad, ao = some ad → 0 < len → ad.block < w.heap.size) ∧ ∀ ad, ao = some ad → ∀ j u, css.flatten[j]? = some u → w.cell? (ad.add j) = some u := by
  by_cases hx : xs = []
  · subst hx
    have hl : len = 0 := by rw [← h.hlen]; rfl
    subst hl
    exact ⟨[], ⟨rfl, fun j cs x h1 _ => by simp at h1⟩, by simp, fun _ => rfl, fun _ _ k => absurd k (Nat.lt_irrefl _), fun _ _ j u h1 => by simp at h1⟩
  · obtain ⟨b, o, rfl, hb, hl⟩ := h.lie hx
    obtain ⟨css, h1, h2⟩ := choose_list (p := fun j cs => ∃ x, xs[j]? = some x ∧ T.lies w cs x ∧ ∀ i v, cs[i]? = some v → w.cell? ⟨b, o + j * T.n + i, none⟩ = some v) xs.length (fun j hj => by
      obtain ⟨cs, h1, h2⟩ := hl j _ (List.getElem?_eq_getElem hj)
      exact ⟨cs, _, List.getElem?_eq_getElem hj, h1, h2⟩)
    have hc : Ch T w css xs := ⟨h1, fun j cs x k1 k2 => by
      obtain ⟨x', e, k3, _⟩ := h2 j cs k1
      rw [k2] at e
      obtain rfl := Option.some.inj e
      exact k3⟩
    refine ⟨css, hc, by rw [fl_len css hc.sizes, h1, h.hlen], (fun e => by cases e), (fun ad e _ => by obtain rfl := Option.some.inj e; exact hb), fun ad e j u hj => ?_⟩
    obtain rfl := Option.some.inj e
    obtain ⟨q, cs, i, k1, k2, rfl⟩ := fl_split css hc.sizes j u hj
    obtain ⟨_, _, _, k3⟩ := h2 q cs k1
    rw [add_plain, ← Nat.add_assoc]
    exact k3 i u k2
/-- A row that is owned, whose elements lie. -/
theorem own_row {base : Nat} {e : TypeId} {ao : Option Addr} {cap n : Nat} {css : List (List Value)} {xs : List α} (h : w.ownsRow base e T.n (.slice ao n cap) n css.flatten) (hn : n = xs.length) (hc : Ch T w css xs) :
    Row T w ao n cap xs := by
  subst hn
  rcases h.2 with ⟨h1, h2⟩ | ⟨g, cap', cur, h1, _, h3, h4, h5, _, _⟩
  · simp only [Value.slice.injEq] at h1
    obtain ⟨rfl, _, rfl⟩ := h1
    exact ⟨rfl, Nat.le_of_eq h2, Nat.zero_le _, fun k => absurd (List.eq_nil_of_length_eq_zero h2) k⟩
  · simp only [Value.slice.injEq] at h1
    obtain ⟨rfl, _, rfl⟩ := h1
    have hg : g < w.heap.size := by
      rcases Nat.lt_or_ge g w.heap.size with k | k
      · exact k
      · rw [Array.getElem?_eq_none k] at h3; cases h3
    refine ⟨rfl, h4, by unfold maxLen at h5; omega, fun _ => ⟨g, 0, rfl, hg, fun j x hj => ?_⟩⟩
    have hjl := (List.getElem?_eq_some_iff.1 hj).1
    obtain ⟨cs, hcs⟩ : ∃ cs, css[j]? = some cs := ⟨_, List.getElem?_eq_getElem (by rw [hc.len]; exact hjl)⟩
    have lie := hc.lies j cs x hcs hj
    refine ⟨cs, lie, fun i u hi => ?_⟩
    have hil : i < T.n := by rw [← T.len lie]; exact (List.getElem?_eq_some_iff.1 hi).1
    have hlt : j * T.n + i < xs.length * T.n := by
      have := Nat.mul_le_mul_right T.n (Nat.succ_le_of_lt hjl)
      rw [Nat.succ_mul] at this
      omega
    show w.cell? ⟨g, 0 + j * T.n + i, none⟩ = some u
    rw [Nat.zero_add, h.cellAt _ hlt]
    exact fl_get css hc.sizes j cs i u hcs hi
end
theorem own_slice {w : World} {base : Nat} {e : TypeId} {size n : Nat} {v : Value} {xs : List Value} (h : w.ownsRow base e size v n xs) : ∃ ao cap, v = .slice ao n cap := by
  rcases h.2 with ⟨rfl, rfl⟩ | ⟨g, cap, cur, rfl, _⟩
  · exact ⟨_, _, rfl⟩
  · exact ⟨_, _, rfl⟩
theorem one_meter : ∀ {w : World} (cs : List Value) (x : Meter), tMeter.lies w cs x → ∀ u ∈ cs, u.oneCell' = true := fun cs x ⟨h, _⟩ u hu => by
  subst h
  simp only [meterC, List.mem_cons, List.not_mem_nil, or_false] at hu
  rcases hu with rfl | rfl | rfl | rfl | rfl <;> rfl
theorem one_fee : ∀ {w : World} (cs : List Value) (x : Fee), tFee.lies w cs x → ∀ u ∈ cs, u.oneCell' = true := fun cs x ⟨h, _⟩ u hu => by
  subst h
  simp only [feeC, List.mem_cons, List.not_mem_nil, or_false] at hu
  rcases hu with rfl | rfl | rfl | rfl | rfl | rfl | rfl | rfl | rfl | rfl <;> rfl
theorem one_charge : ∀ {w : World} (cs : List Value) (x : Charge), tCharge.lies w cs x → ∀ u ∈ cs, u.oneCell' = true := fun cs x ⟨ta, tc, aa, ac, h⟩ u hu => by
  obtain rfl := h.cells
  simp only [chargeC, List.mem_cons, List.not_mem_nil, or_false] at hu
  rcases hu with rfl | rfl | rfl | rfl | rfl | rfl | rfl | rfl | rfl | rfl | rfl | rfl | rfl | rfl | rfl | rfl <;> rfl
/-- Nothing is put behind a row: it is as it was. -/
theorem run_append_none {Pr : Program} {w : World} {base : Nat} {t ty e : TypeId} {i : TypeInfo} {size : Nat} (ht : Pr.underlying t = some (.slice e)) (hi : Pr.info? e = some i)
    {v : Value} {n : Nat} {xs : List Value} (hown : w.ownsRow base e size v n xs) (c : Nat) :
    (Builtin.append_ #[t, t] ty #[v, .slice none 0 c]).run Pr w = .ok v w := by
  rcases hown.2 with ⟨rfl, rfl⟩ | ⟨g, cap, cur, rfl, hbg, hg, hnc, hcm, hcs, htake⟩
  · simp [Builtin.append_, run_underlying ht, sizeOf, typeInfo, hi, Builtin.lenOf, run_firstCells_none]
  · simp [Builtin.append_, run_underlying ht, sizeOf, typeInfo, hi, Builtin.lenOf, hnc, run_firstCells_none, Addr.add_lit, storeCells]
/-- A step of a region that draws its order: a row, whatever it is, behind a row that is owned. -/
theorem step_join {Pr : Program} {ops : Array Oper} {o : Oper} {a : Act} {K : Act → World → Prop} {Q : Exit → Act → World → Prop} {E : Prop} {W : World} {base : Nat} (d : Tmp) (hd : o.dst = some d) (hgd : o.guard = none) (s x : Operand) (t e : TypeId) (z : Value) (size bytes : Nat)
    (ho : o.op = .call { callee := .builtin .append, args := #[s, x], argTypes := #[t, t] }) (hu : Pr.underlying t = some (.slice e)) (hinfo : (Pr.info? e).map (fun i => (i.zero, i.size, i.bytes)) = some (some z, size, bytes)) (hzs : z.cells.size = size) (hsz : 0 < size)
    (v : Value) (n : Nat) (xs : List Value) (hs : a.eval s = v) (hown : W.ownsRow base e size v n xs) (ao : Option Addr) (m c : Nat) (news : List Value) (hx : a.eval x = .slice ao m c) (hl : news.length = m * size)
    (h0 : ao = none → m = 0) (hnews : ∀ ad, ao = some ad → ∀ j u, news[j]? = some u → W.cell? (ad.add j) = some u) (h1 : ∀ u ∈ news, u.oneCell' = true) (hn : n + m ≤ 1000000000) (hb : bytes ≤ 1000) (N : Nat) (hN : n + m = N) (hbase : base ≤ W.heap.size)
    (h : ∀ ao' cap w', w'.ownsRow base e size (.slice ao' N cap) N (xs ++ news) → W.grownBy w' v.ownBlock → K (a.put (some d) (.slice ao' N cap)) w') :
    if Region.wanted o (yielded ops a.tmps) = true then Oper.wp Pr o a W K Q else E := by
  have hw : Region.wanted o (yielded ops a.tmps) = true := by simp [Region.wanted, hgd]
  rw [if_pos hw]
  subst hN
  obtain ⟨i0, hi, hz0, hz1, hz2⟩ := info_parts hinfo
  have hby : (n + m) * bytes ≤ 140737488355328 := Nat.le_trans (Nat.mul_le_mul hn hb) (by decide)
  cases ao with
  | some ad =>
    refine wp_append_own W s x t ho base e i0 z size bytes hu hi hz0 hz1 hz2 hzs hsz v n xs hs hown ad m c news hx hl (hnews ad rfl) h1 (by unfold maxLen; omega) hby hbase ?_
    intro v' w' k1 k2 _
    obtain ⟨ao', cap, rfl⟩ := own_slice k1
    rw [hd]
    exact h ao' cap w' k1 k2
  | none =>
    obtain rfl := h0 rfl
    obtain rfl : news = [] := List.eq_nil_of_length_eq_zero (by rw [hl, Nat.zero_mul])
    have hr := run_append_none (ty := o.type) hu hi hown c
    obtain ⟨ao', cap, rfl⟩ := own_slice hown
    unfold Oper.wp execOp
    simp only [ho, resolve, invoke, builtin, Sem.run_bind, Sem.run_pure, Result.andThen_ok, List.map_toArray, List.map_cons, List.map_nil, hs, hx, hr]
    show K (a.put o.dst (.slice ao' n cap)) W
    rw [hd]
    exact h ao' cap W (by simpa using hown) ⟨rfl, rfl, rfl, Nat.le_refl _, fun _ _ _ => rfl⟩
/-- All blocks of a world but one stand. -/
def Gk (w : World) (k : Nat) (w' : World) : Prop := w.grownBy w' (some k)
section
variable {w w' w2 : World} {k : Nat}
theorem Gk.refl (w : World) (k : Nat) : Gk w k w := ⟨rfl, rfl, rfl, Nat.le_refl _, fun _ _ _ => rfl⟩
theorem Gk.drew (h : Gk w k w') : Gk w k w'.drew := ⟨h.os, h.tape, h.output, h.size, h.block⟩
theorem Gk.alloc (h : Gk w k w') (o : Obj) : Gk w k (w'.alloc o) := ⟨h.os, h.tape, h.output, by have := h.size; simp; omega, fun j hj hne => ((bel_alloc w' o).block j (Nat.lt_of_lt_of_le hj h.size)).trans (h.block j hj hne)⟩
theorem Gk.grown (h : Gk w k w') {v : Value} (g : w'.grownBy w2 v.ownBlock) (hv : ∀ j, v.ownBlock = some j → w.heap.size ≤ j) : Gk w k w2 :=
  ⟨g.os.trans h.os, g.tape.trans h.tape, g.output.trans h.output, Nat.le_trans h.size g.size, fun j hj hne => (g.block j (Nat.lt_of_lt_of_le hj h.size) (fun e => by have := hv j e.symm; omega)).trans (h.block j hj hne)⟩
theorem Gk.set (h : Gk w k w') (i : Nat) (u : Value) : Gk w k (w'.setCell ⟨k, i, none⟩ u) :=
  ⟨h.os, h.tape, h.output, by simpa using h.size, fun j hj hne => (Below.heap_setCell w' ⟨k, i, none⟩ u j (fun e => hne (by rw [e]))).trans (h.block j hj hne)⟩
theorem Gk.cell (h : Gk w k w') {b i : Nat} {v : Value} (hc : w.cell? ⟨b, i, none⟩ = some v) (hne : b ≠ k) : w'.cell? ⟨b, i, none⟩ = some v :=
  (World.cell?_of_block (h.block b (World.block_lt_of_cell? w _ hc) (fun e => hne (Option.some.inj e)))).trans hc
theorem Gk.bel {B : Nat} {w0 : World} (h : Gk w k w') (hb : Below B w0 w) (hB : B ≤ w.heap.size) (hk : B ≤ k) : Below B w0 w' :=
  ⟨h.os.trans hb.os, h.tape.trans hb.tape, h.output.trans hb.output, Nat.le_trans hb.size h.size, fun j hj => (h.block j (Nat.lt_of_lt_of_le hj hB) (fun e => by have := Option.some.inj e; omega)).trans (hb.block j hj)⟩
theorem Gk.own (h : Gk w k w') {base : Nat} {e : TypeId} {size n : Nat} {v : Value} {xs : List Value} (o : w.ownsRow base e size v n xs) (hv : ∀ j, v.ownBlock = some j → j ≠ k) : w'.ownsRow base e size v n xs := by
  refine o.kept h ?_
  cases e : v.ownBlock with
  | none => exact .inl rfl
  | some j => exact .inr (fun e2 => hv j e (Option.some.inj e2))
end
end Go.Proofs.YtnhhhnngocdagaaDoor.Mm
