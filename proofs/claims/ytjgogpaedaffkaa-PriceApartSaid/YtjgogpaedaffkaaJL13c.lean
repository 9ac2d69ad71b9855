/- PriceApart (layer 13): meters don't meddle with one another. -/
import Derived.Test.YtjgogpaedaffkaaJL13b
namespace Go.Proofs.Ytjgogpaedaffkaa.P
end Go.Proofs.Ytjgogpaedaffkaa.P
namespace Go.Proofs.Ytjgogpaedaffkaa.Mm
end Go.Proofs.Ytjgogpaedaffkaa.Mm
namespace Go.Proofs.Ytjgogpaedaffkaa.Md
end Go.Proofs.Ytjgogpaedaffkaa.Md
namespace Go.Proofs.Ytjgogpaedaffkaa.R6
end Go.Proofs.Ytjgogpaedaffkaa.R6
namespace Go.Proofs.Ytjgogpaedaffkaa.Te
end Go.Proofs.Ytjgogpaedaffkaa.Te
namespace Go.Proofs.Ytjgogpaedaffkaa.Co
end Go.Proofs.Ytjgogpaedaffkaa.Co
namespace Go.Proofs.Ytjgogpaedaffkaa.R10
end Go.Proofs.Ytjgogpaedaffkaa.R10
namespace Go.Proofs.Ytjgogpaedaffkaa.R11
end Go.Proofs.Ytjgogpaedaffkaa.R11
namespace Go.Proofs.Ytjgogpaedaffkaa.L13
open Go.RowKit Go.Sort P Mm Md R6 Te Co R10 R11
theorem adjO_nn {a : Adj} {n m : Int} (hb : adjB a = true) (h0 : 0 ≤ n) (h : adjO a n = some m) : 0 ≤ m := by
  unfold adjB at hb
  unfold adjO at h
  by_cases h1 : a.kind = 1
  · rw [if_pos h1] at hb h
    rw [Bool.and_eq_true, inB_iff, inB_iff] at hb
    split at h
    · rename_i k
      obtain rfl := Option.some.inj h
      obtain ⟨_, _, e⟩ := mdb_rnd k
      rw [e]
      have := (rnd_ge (n * a.num) 100000 a.mode).1
      have := Int.ediv_nonneg (Int.mul_nonneg h0 hb.1.1) (by decide : (0 : Int) ≤ 100000)
      omega
    · cases h
  · rw [if_neg h1] at hb h
    by_cases h2 : a.kind = 2 ∨ a.kind = 3 ∨ a.kind = 4
    · rw [if_pos h2, Bool.and_eq_true, inB_iff] at hb
      split at h
      · obtain rfl := Option.some.inj h; omega
      · split at h
        · obtain rfl := Option.some.inj h; omega
        · split at h
          · split at h
            · obtain rfl := Option.some.inj h; omega
            · cases h
          · cases h
    · rw [if_neg h2] at hb
      cases hb
theorem adjsO_nn : ∀ (l : List Adj) (n m : Int), l.all adjB = true → 0 ≤ n → adjsO n l = some m → 0 ≤ m
  | [], n, m, _, h0, h => by
    have h : some n = some m := h
    obtain rfl := Option.some.inj h
    exact h0
  | a :: l, n, m, hl, h0, h => by
    rw [List.all_cons, Bool.and_eq_true] at hl
    have h2 : (match adjO a n with
      | some m => adjsO m l
      | none => none) = some m := h
    cases e : adjO a n with
    | none => rw [e] at h2; cases h2
    | some k =>
      rw [e] at h2
      exact adjsO_nn l k m hl.2 (adjO_nn hl.1 h0 e) h2
theorem partO_nn {x : Prt} (g : GoodT x) (ha : x.adjusts.all adjB = true) {q n : Int} (h : partO x q = some n) : 0 ≤ n := by
  unfold partO at h
  cases e : chargeO x q with
  | none => rw [e] at h; cases h
  | some m =>
    rw [e] at h
    obtain ⟨_, _, rfl⟩ := chargeO_some g e
    have h0 := (rnd_ge (costP x q) 1000000 x.mode).1
    have h1 := Int.ediv_nonneg (costP_pos g q) (by decide : (0 : Int) ≤ 1000000)
    exact adjsO_nn x.adjusts _ n ha (by omega) h
theorem partsO_nn {d : Int} {bk : List Int} : ∀ (l : List Prt) (r : List Int), (∀ x ∈ l, GoodT x ∧ x.adjusts.all adjB = true) → partsO d bk l = some r → ∀ n ∈ r, 0 ≤ n
  | [], r, _, h => by
    have h : some [] = some r := h
    obtain rfl := Option.some.inj h
    intro n hn
    cases hn
  | x :: l, r, hl, h => by
    have hx := hl x (List.mem_cons_self ..)
    have ih := fun r => partsO_nn (d := d) (bk := bk) l r fun z hz => hl z (List.mem_cons_of_mem _ hz)
    unfold partsO at h
    split at h
    · cases e : partO x (qAt bk x.mt) with
      | none => rw [e] at h; cases h
      | some k =>
        rw [e] at h
        obtain ⟨r2, e2, rfl⟩ := Option.map_eq_some_iff.1 h
        intro n hn
        rcases List.mem_cons.1 hn with rfl | hn
        · exact partO_nn hx.1 hx.2 e
        · exact ih r2 e2 n hn
    · exact ih r h
theorem sum_nn : ∀ (l : List Int), (∀ n ∈ l, 0 ≤ n) → 0 ≤ l.sum
  | [], _ => Int.le_refl _
  | x :: l, h => by
    have h1 := h x (List.mem_cons_self ..)
    have h2 := sum_nn l fun z hz => h z (List.mem_cons_of_mem _ hz)
    rw [List.sum_cons]
    omega
theorem sumsL_nn {d : Int} : ∀ (l : List Mm.Sm), (∀ s ∈ l, 0 ≤ s.amt) → ∀ n ∈ sumsL d l, 0 ≤ n
  | [], _, n, h => by cases h
  | s :: l, hl, n, h => by
    have ih := sumsL_nn (d := d) l fun z hz => hl z (List.mem_cons_of_mem _ hz)
    unfold sumsL at h
    split at h
    · rcases List.mem_cons.1 h with rfl | h
      · exact hl s (List.mem_cons_self ..)
      · exact ih n h
    · exact ih n h
theorem goodC_sums {c : Cor} (h : goodC c = true) : ∀ s ∈ c.sums, 0 ≤ s.amt := fun s hs => by
  unfold goodC at h
  simp only [Bool.and_eq_true, decide_eq_true_eq] at h
  have := List.all_eq_true.1 h.2.2.2.1 s hs
  unfold sumB at this
  rw [Bool.and_eq_true, inB_iff] at this
  exact this.1.1
theorem costO_nn {c : Cor} (g : goodC c = true) {d : Int} {bk : List Int} {n : Int} (h : costO c d bk = some n) : 0 ≤ n := by
  have h1 := costO_sum h
  unfold costO at h
  cases e : partsO d bk c.parts with
  | none => rw [e] at h; cases h
  | some l =>
    have h2 := partsO_sum d bk c.parts l e
    have h3 := sum_nn l (partsO_nn c.parts l (fun x hx => ⟨((R13.goodC_parts g).1 x hx).1, ((R13.goodC_parts g).1 x hx).2.1⟩) e)
    have h4 := sum_nn _ (sumsL_nn (d := d) c.sums (goodC_sums g))
    omega
theorem price_ok {c : Cor} {d : Int} {bk : List Int} (h : (priceV c d bk).2 = 0) : goodC c = true ∧ inBk c.meters bk = true ∧ costO c d bk = some (priceV c d bk).1 := by
  unfold priceV at h ⊢
  split at h
  · rename_i g
    split at h
    · rename_i k
      rw [if_pos g, if_pos k]
      rw [Bool.and_eq_true] at k
      cases e : costO c d bk with
      | none => rw [e] at h; exact absurd h (by decide)
      | some n => exact ⟨g, k.2, rfl⟩
    · exact absurd h (by decide)
  · exact absurd h (by decide)
theorem box_own {w : World} {base g n cap : Nat} {e : TypeId} {xs : List Value} (h : w.ownsRow base e 1 (.slice (some ⟨g, 0, none⟩) n cap) n xs) : Box w g xs :=
  ⟨(h.lt g rfl).2, fun j u hj => by
    have hl : j < xs.length := (List.getElem?_eq_some_iff.1 hj).1
    rw [h.cellAt j (by have := h.1; omega)]
    exact hj, fun j => h.frozenAt j⟩
theorem flat_int (l : List Int) : l.flatMap R13.intC = l.map (fun n => Value.int .i64 n) := by
  induction l with
  | nil => rfl
  | cons a l ih => rw [List.flatMap_cons, ih]; rfl
theorem zeros_cells (n : Nat) : (madeCells #[Value.int .i64 0] n).toList = (zeros n).flatMap R13.intC := by
  rw [flat_int]
  unfold zeros
  rw [List.map_replicate]
  apply List.ext_getElem?
  intro j
  unfold madeCells
  simp only [List.getElem?_replicate, Array.toList_map, Array.toList_range, List.getElem?_map]
  by_cases h : j < n
  · rw [List.getElem?_eq_getElem (by rw [List.length_range]; exact h), if_pos h]
    simp [Nat.mod_one]
  · rw [List.getElem?_eq_none (by rw [List.length_range]; omega), if_neg h]
    rfl
theorem row_zero {W : World} {g : Nat} {l : List Int} (X : Box W g (l.flatMap R13.intC)) (h : ∀ n ∈ l, I64 n) (hl : l.length ≤ 1000) : Row tInt W (some ⟨g, 0, none⟩) l.length l.length l :=
  L11.row_box (α := Int) (n := 1) (cells := fun x => [.int .i64 x]) (ok := I64) (hn := fun _ => rfl) (xs := l) X h hl
theorem zeros_i (n : Nat) : ∀ x ∈ zeros n, I64 x := fun x hx => by
  rw [(List.mem_replicate.1 hx).2]
  unfold I64
  omega
theorem zeros_len (n : Nat) : (zeros n).length = n := List.length_replicate
theorem price_row (A : Pr) (c : Cor) (ma : Option Addr) (mc : Nat) (sa : Option Addr) (sc : Nat) (pa : Option Addr) (pc : Nat) (d : Int) (l : List Int) (n g : Nat) (W : World) (hc : CorLies W (corC c ma mc sa sc pa pc) c ma mc sa sc pa pc) (hm : c.meters.length ≤ 100000) (hn : l.length = n) (h4 : n ≤ 4) (X : Box W g (l.flatMap R13.intC)) (hi : ∀ x ∈ l, I64 x) :
    Calls Try.prog 11 #[.agg #[.string c.cur, .int .i64 c.a, .int .i64 c.b, .slice ma c.meters.length mc, .slice sa c.sums.length sc, .slice pa c.parts.length pc], .int .i64 d, .slice (some ⟨g, 0, none⟩) n n] W fun e w' => e = .returned (.tuple #[.int .i64 (priceV c d l).1, .int .i64 (priceV c d l).2]) ∧ Below W.heap.size W w' := by
  subst hn
  exact A.price c ma mc sa sc pa pc d l (some ⟨g, 0, none⟩) l.length W hc (row_zero X hi (by omega)) hm (by omega)
theorem only_cells (bk : List Int) (i : Nat) : ((zeros bk.length).flatMap R13.intC).set i (.int .i64 (bk.getD i 0)) = (onlyAt bk i).flatMap R13.intC := by
  unfold onlyAt
  rw [flat_int, flat_int, List.map_set]
theorem only_len (bk : List Int) (i : Nat) : (onlyAt bk i).length = bk.length := by
  unfold onlyAt
  rw [List.length_set, zeros_len]
theorem only_i {bk : List Int} {i : Nat} (h : I64 (bk.getD i 0)) : ∀ x ∈ onlyAt bk i, I64 x := fun x hx => by
  unfold onlyAt at hx
  rcases List.mem_or_eq_of_mem_set hx with h1 | h1
  · exact zeros_i _ x h1
  · rw [h1]; exact h
set_option maxHeartbeats 16000000 in
set_option maxRecDepth 100000 in
theorem apart_walk (A : Pr) (c : Cor) (ma : Option Addr) (mc : Nat) (sa : Option Addr) (sc : Nat) (pa : Option Addr) (pc : Nat) (d : Int) (bk : List Int) (bo : Option Addr) (bcap : Nat) (w : World) (hc : CorLies w (corC c ma mc sa sc pa pc) c ma mc sa sc pa pc) (hb : Row tInt w bo bk.length bcap bk) :
    Calls Try.prog 4 #[.agg #[.string c.cur, .int .i64 c.a, .int .i64 c.b, .slice ma c.meters.length mc, .slice sa c.sums.length sc, .slice pa c.parts.length pc], .int .i64 d, .slice bo bk.length bcap] w fun e w' => e = .returned (.bool true) ∧ Below w.heap.size w w' := by
  obtain ⟨w1, hw1⟩ : ∃ W, W = w.alloc (.cells ([.string c.cur, .int .i64 c.a, .int .i64 c.b, .slice ma c.meters.length mc, .slice sa c.sums.length sc, .slice pa c.parts.length pc] : List Value).toArray 34) := ⟨_, rfl⟩
  obtain ⟨k1, hk1⟩ : ∃ k, k = w.heap.size := ⟨_, rfl⟩
  have b1 : Below w.heap.size w w1 := by rw [hw1]; exact bel_alloc _ _
  have X1 : Box w1 k1 [.string c.cur, .int .i64 c.a, .int .i64 c.b, .slice ma c.meters.length mc, .slice sa c.sums.length sc, .slice pa c.parts.length pc] := by rw [hw1, hk1]; exact Box.new w _ 34
  have X := hid (fun (W : World) (b : Below w1.heap.size w1 W) => (⟨X1.on b, bel_on b1 b⟩ : Box W k1 [.string c.cur, .int .i64 c.a, .int .i64 c.b, .slice ma c.meters.length mc, .slice sa c.sums.length sc, .slice pa c.parts.length pc] ∧ Below w.heap.size w W))
  have HC := hid (fun (W : World) (b : Below w1.heap.size w1 W) => hc.on (bel_on b1 b))
  have HB := hid (fun (W : World) (b : Below w1.heap.size w1 W) => hb.on (bel_on b1 b))
  have cA := hid (alive_any A w1)
  have HW := hid hw1
  have HK := hid hk1
  have bm := hb.hmax
  have bcl := hb.hcap
  clear hw1 hk1 X1 b1 hc hb
  go_enter Try.func4, Try.ntmps4
  go_upto_region 1 with fail
  rw [← HW.out, ← HK.out]
  clear HW HK
  go_wp2_with fail
  refine cA.out.mono ?_
  rintro e w2 ⟨rfl, b2⟩
  have B2 := hid b2
  have Y := (X.out w2 b2).1
  have f0 := Y.cell 0 _ rfl; have f1 := Y.cell 1 _ rfl; have f2 := Y.cell 2 _ rfl; have f3 := Y.cell 3 _ rfl; have f4 := Y.cell 4 _ rfl; have f5 := Y.cell 5 _ rfl
  have l2 := Y.lt
  have cT := R10.great_any c ma mc sa sc pa pc w2 (HC.out w2 b2)
  clear cA b2 Y
  rcases Bool.eq_false_or_eq_true (R10.greatC c) with hg | hg
  · rw [hg] at cT
    have cT := hid cT
    clear hg
    go_wp2_with fail
    refine cT.out.mono ?_
    rintro e w3 ⟨rfl, b3⟩
    have BF := hid (X.out w3 (bel_on B2.out b3)).2
    clear b3 cT f0 f1 f2 f3 f4 f5 l2
    go_wp2
    go_ret
    exact ⟨rfl, BF.out⟩
  have ml : c.meters.length ≤ 100000 := by
    unfold R10.greatC at hg
    simp only [Bool.or_eq_false_iff, decide_eq_false_iff_not] at hg
    have := hg.1.1
    omega
  rw [hg] at cT
  have cT := hid cT
  have ML := hid ml
  clear hg ml
  go_wp2_with fail
  refine cT.out.mono ?_
  rintro e w3 ⟨rfl, b3⟩
  have B3 := hid (bel_on B2.out b3)
  have Y := (X.out w3 B3.out).1
  have BF := hid (X.out w3 B3.out).2
  have f0 := Y.cell 0 _ rfl; have f1 := Y.cell 1 _ rfl; have f2 := Y.cell 2 _ rfl; have f3 := Y.cell 3 _ rfl; have f4 := Y.cell 4 _ rfl; have f5 := Y.cell 5 _ rfl
  have l3 := Y.lt
  clear b3 cT l2 Y B2
  obtain ⟨n, hn⟩ : ∃ n, n = bk.length := ⟨_, rfl⟩
  rw [← hn] at bcl ⊢
  by_cases h1 : 4 < n
  · have z1 : decide ((4 : Int) < (n : Int)) = true := decide_eq_true (by omega)
    clear f0 f1 f2 f3 f4 f5 l3
    go_wp2
    go_ret
    exact ⟨rfl, BF.out⟩
  have z1 : decide ((4 : Int) < (n : Int)) = false := decide_eq_false (by omega)
  have n4 : n ≤ 4 := by omega
  have HN := hid hn
  have N4 := hid n4
  have c1 := A.price c ma mc sa sc pa pc d bk bo bcap w3 (HC.out w3 B3.out) (HB.out w3 B3.out) ML.out (by omega)
  rw [← hn] at c1
  obtain ⟨v0, hv0⟩ : ∃ v, v = (priceV c d bk).1 := ⟨_, rfl⟩
  obtain ⟨e0, he0⟩ : ∃ v, v = (priceV c d bk).2 := ⟨_, rfl⟩
  have P0 := hid (show e0 = 0 → goodC c = true ∧ inBk c.meters bk = true ∧ costO c d bk = some v0 from fun h => by
    rw [hv0]
    exact price_ok (by rw [← he0]; exact h))
  rw [← hv0, ← he0] at c1
  have c1 := hid c1
  clear hv0 he0 h1 hn BF
  go_wp2_with fail
  refine c1.out.mono ?_
  rintro e w4 ⟨rfl, b4⟩
  have B4 := hid (bel_on B3.out b4)
  have BF := hid (X.out w4 B4.out).2
  clear b4 c1 f0 f1 f2 f3 f4 f5 l3 B3
  by_cases h0 : e0 = 0
  rotate_left
  · go_wp2
    go_ret
    exact ⟨rfl, BF.out⟩
  subst h0
  obtain ⟨g1, g2, g3⟩ := P0.out rfl
  have HG := hid g1
  have HI := hid g2
  have H0 := hid g3
  clear P0 g1 g2 g3
  by_cases h1 : 1152921504606846976 < v0
  · have z2 : decide (1152921504606846976 < v0) = true := decide_eq_true h1
    go_wp2
    go_ret
    exact ⟨rfl, BF.out⟩
  have z2 : decide (1152921504606846976 < v0) = false := decide_eq_false h1
  clear h1 BF
  obtain ⟨ti, hi, hz0, hz1, hz2⟩ := info_parts R13.info_int
  have hb8 : ti.bytes * n ≤ 281474976710656 := by rw [hz2]; omega
  go_wp2_with (at_make; refine wpList_make_full _ rfl _ _ 38 rfl w4.heap.size 3 ti (.int .i64 0) 1 Try.underlying38 hi hz0 hz1 _ _ _ _ n rfl rfl rfl rfl ?b2 ?b3 ?b4 ?_)
  case b2 => exact hb8
  case b3 => unfold maxLen; omega
  case b4 => exact Nat.le_refl _
  intro w5 hown hgrow
  have B5 := hid (bel_on B4.out ((Below.refl _ w4).grown hgrow (Nat.le_refl _) (by intro k hk; cases hk)))
  have X5 := box_own (show w5.ownsRow w4.heap.size 3 1 (.slice (some ⟨w4.heap.size, 0, none⟩) n n) n ((zeros n).flatMap R13.intC) by rw [← zeros_cells]; exact hown)
  obtain ⟨g, hg⟩ : ∃ g, g = w4.heap.size := ⟨_, rfl⟩
  rw [← hg] at X5 ⊢
  have c2 := price_row A c ma mc sa sc pa pc d (zeros n) n g w5 (HC.out w5 B5.out) ML.out (zeros_len n) N4.out X5 (zeros_i n)
  obtain ⟨v1, hv1⟩ : ∃ v, v = (priceV c d (zeros n)).1 := ⟨_, rfl⟩
  obtain ⟨e1, he1⟩ : ∃ v, v = (priceV c d (zeros n)).2 := ⟨_, rfl⟩
  have P1 := hid (show e1 = 0 → costO c d (zeros n) = some v1 ∧ 0 ≤ v1 from fun h => by
    have := price_ok (c := c) (d := d) (bk := zeros n) (by rw [← he1]; exact h)
    rw [hv1]
    exact ⟨this.2.2, costO_nn this.1 this.2.2⟩)
  rw [← hv1, ← he1] at c2
  have c2 := hid c2
  have Y := (X.out w5 B5.out).1
  have f0 := Y.cell 0 _ rfl; have f1 := Y.cell 1 _ rfl; have f2 := Y.cell 2 _ rfl; have f3 := Y.cell 3 _ rfl; have f4 := Y.cell 4 _ rfl; have f5 := Y.cell 5 _ rfl
  have l5 := Y.lt
  clear hown hgrow X5 hg hv1 he1 Y B4
  go_wp2_with fail
  refine c2.out.mono ?_
  rintro e w6 ⟨rfl, b6⟩
  have B6 := hid (bel_on B5.out b6)
  have BF := hid (X.out w6 B6.out).2
  clear b6 c2 f0 f1 f2 f3 f4 f5 l5 B5
  by_cases h0 : e1 = 0
  rotate_left
  · go_wp2
    go_ret
    exact ⟨rfl, BF.out⟩
  subst h0
  obtain ⟨g1, v1p⟩ := P1.out rfl
  have H1 := hid g1
  clear P1 g1
  by_cases h1 : 1152921504606846976 < v1
  · have z3 : decide (1152921504606846976 < v1) = true := decide_eq_true h1
    go_wp2
    go_ret
    exact ⟨rfl, BF.out⟩
  have z3 : decide (1152921504606846976 < v1) = false := decide_eq_false h1
  have v1m : v1 ≤ 1152921504606846976 := by omega
  have V1 := hid (And.intro v1p v1m)
  clear h1 BF v1p v1m
  go_wp2
  clear z1 z2 z3
  go_loopw [12, 59] (fun s i wr => ∃ (i' : Nat) (S : Int), s = .int .i64 S ∧ i = .int .i64 (i' : Int) ∧ i' ≤ n ∧ Hid (S = v1 + sumR (fun j => (priceV c d (onlyAt bk j)).1 - v1) i') ∧ Hid (∀ j, j < i' → costO c d (onlyAt bk j) = some (priceV c d (onlyAt bk j)).1) ∧ Hid (-(1152921504606846976 * (i' : Int)) ≤ S ∧ S ≤ 1152921504606846976 * ((i' : Int) + 1)) ∧ Hid (Below w1.heap.size w1 wr)) (fun _ i _ => n - (intOf i).toNat)
  case atStart => exact ⟨0, v1, rfl, rfl, Nat.zero_le _, hid (by show v1 = v1 + 0; omega), hid (fun j h => absurd h (Nat.not_lt_zero _)), hid (by have := V1.out; omega), B6⟩
  case round =>
    obtain ⟨i', S, rfl, rfl, hi', hS, hA, hB, hb⟩ := hrel
    clear B6
    by_cases hlt : i' < n
    · obtain ⟨bb, ob, eb, lb, q0, qi⟩ := R13.bk_at (HB.out wr hb.out) (i := i') (by rw [← HN.out]; exact hlt)
      subst eb
      obtain ⟨QV, hQV⟩ : ∃ v, v = bk.getD i' 0 := ⟨_, rfl⟩
      rw [← hQV] at q0 qi
      have HQ := hid hQV
      have QI := hid qi
      clear hQV qi
      go_wp2_with (at_make; refine wpList_make_full _ rfl _ _ 38 rfl wr.heap.size 3 ti (.int .i64 0) 1 Try.underlying38 hi hz0 hz1 _ _ _ _ n rfl rfl rfl rfl ?b2 ?b3 ?b4 ?_)
      case b2 => exact hb8
      case b3 => unfold maxLen; omega
      case b4 => exact Nat.le_refl _
      intro wm hown hgrow
      have BM := hid (bel_on hb.out ((Below.refl _ wr).grown hgrow (Nat.le_refl _) (by intro k hk; cases hk)))
      have XM := box_own (show wm.ownsRow wr.heap.size 3 1 (.slice (some ⟨wr.heap.size, 0, none⟩) n n) n ((zeros n).flatMap R13.intC) by rw [← zeros_cells]; exact hown)
      obtain ⟨g, hg⟩ : ∃ g, g = wr.heap.size := ⟨_, rfl⟩
      have hgb : w1.heap.size ≤ g := by rw [hg]; exact hb.out.size
      rw [← hg] at XM ⊢
      obtain ⟨ws, hws⟩ : ∃ W, W = wm.setCell ⟨g, i', none⟩ (.int .i64 QV) := ⟨_, rfl⟩
      have XS : Box ws g ((onlyAt bk i').flatMap R13.intC) := by
        rw [hws, ← only_cells, HQ.out, ← HN.out]
        exact XM.set i' _
      have BS := hid (show Below w1.heap.size w1 ws by rw [hws]; exact BM.out.setCell (p := ⟨g, i', none⟩) hgb _)
      have m0 := XM.cell i' (.int .i64 0) (by rw [flat_int]; unfold zeros; rw [List.map_replicate, List.getElem?_replicate, if_pos hlt])
      have m1 := XM.free i'
      have m2 := XM.lt
      have c3 := price_row A c ma mc sa sc pa pc d (onlyAt bk i') n g ws (HC.out ws BS.out) ML.out (by rw [only_len]; exact HN.out.symm) N4.out XS (only_i (by rw [← HQ.out]; exact QI.out))
      obtain ⟨v2, hv2⟩ : ∃ v, v = (priceV c d (onlyAt bk i')).1 := ⟨_, rfl⟩
      obtain ⟨e2, he2⟩ : ∃ v, v = (priceV c d (onlyAt bk i')).2 := ⟨_, rfl⟩
      have P2 := hid (show e2 = 0 → costO c d (onlyAt bk i') = some (priceV c d (onlyAt bk i')).1 ∧ 0 ≤ v2 from fun h => by
        have := price_ok (c := c) (d := d) (bk := onlyAt bk i') (by rw [← he2]; exact h)
        rw [hv2]
        exact ⟨this.2.2, costO_nn this.1 this.2.2⟩)
      rw [← hv2, ← he2] at c3
      have c3 := hid c3
      have HV2 := hid hv2
      have HWS := hid hws
      clear hown hgrow XM hg XS hws hv2 he2 hb hgb q0 lb
      go_upto_region 18 with fail
      rw [← HWS.out]
      clear HWS m0 m1 m2
      have Y := (X.out ws BS.out).1
      have f0 := Y.cell 0 _ rfl; have f1 := Y.cell 1 _ rfl; have f2 := Y.cell 2 _ rfl; have f3 := Y.cell 3 _ rfl; have f4 := Y.cell 4 _ rfl; have f5 := Y.cell 5 _ rfl
      have l5 := Y.lt
      clear Y
      go_wp2_with fail
      refine c3.out.mono ?_
      rintro e w7 ⟨rfl, b7⟩
      have B7 := hid (bel_on BS.out b7)
      have BF := hid (X.out w7 B7.out).2
      clear b7 c3 f0 f1 f2 f3 f4 f5 l5 BS BM
      by_cases h0 : e2 = 0
      rotate_left
      · go_wp2
        go_ret
        exact ⟨rfl, BF.out⟩
      subst h0
      obtain ⟨g1, v2p⟩ := P2.out rfl
      have H2 := hid g1
      clear P2 g1
      by_cases h1 : 1152921504606846976 < v2
      · have z3 : decide (1152921504606846976 < v2) = true := decide_eq_true h1
        go_wp2
        go_ret
        exact ⟨rfl, BF.out⟩
      have z3 : decide (1152921504606846976 < v2) = false := decide_eq_false h1
      have q1 := V1.out
      have q2 := hB.out
      have q3 := N4.out
      have r1 : IntKind.i64.wrap (S + v2) = S + v2 := wrap_i (by unfold I64; omega)
      have r2 : IntKind.i64.wrap (S + v2 - v1) = S + v2 - v1 := wrap_i (by unfold I64; omega)
      have S2 := hid (show S + v2 - v1 = v1 + sumR (fun j => (priceV c d (onlyAt bk j)).1 - v1) (i' + 1) by
        show _ = v1 + (sumR (fun j => (priceV c d (onlyAt bk j)).1 - v1) i' + ((priceV c d (onlyAt bk i')).1 - v1))
        rw [← HV2.out]
        have := hS.out
        omega)
      have A2 := hid (show ∀ j, j < i' + 1 → costO c d (onlyAt bk j) = some (priceV c d (onlyAt bk j)).1 from fun j hj => by
        rcases Nat.lt_or_ge j i' with k | k
        · exact hA.out j k
        · obtain rfl : j = i' := by omega
          exact H2.out)
      have BD := hid (show -(1152921504606846976 * (((i' + 1 : Nat) : Int))) ≤ S + v2 - v1 ∧ S + v2 - v1 ≤ 1152921504606846976 * (((i' + 1 : Nat) : Int) + 1) by omega)
      clear h1 q1 q2 hS hA hB H2 v2p
      go_wp2
      go_roundw
      case rel => exact ⟨i' + 1, S + v2 - v1, rfl, by simp, by omega, S2, A2, BD, B7⟩
      case measure => simp [intOf]; omega
    · have BF := hid (X.out _ hb.out).2
      have E : S = v0 := by
        have e : i' = bk.length := by rw [← HN.out]; omega
        rw [hS.out, e]
        refine apart (c := c) (d := d) (bk := bk) (n := fun j => (priceV c d (onlyAt bk j)).1) ?_ H0.out (by rw [← HN.out]; exact H1.out) (fun j hj => hA.out j (by rw [e]; exact hj))
        intro x hx
        have hp := (R13.goodC_parts HG.out).1 x hx
        have hl := inBk_len _ _ HI.out
        exact ⟨hp.2.2.1, by have := hp.2.2.2; omega⟩
      have y1 : (S == v0) = true := by rw [E]; simp
      clear E hS hA hB hb
      go_wp2
      go_ret
      exact ⟨rfl, BF.out⟩
end Go.Proofs.Ytjgogpaedaffkaa.L13
