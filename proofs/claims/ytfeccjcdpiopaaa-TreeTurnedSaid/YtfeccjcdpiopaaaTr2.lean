/- Package tree, walked: rows held against each other, one by one. -/
import Derived.Test.YtfeccjcdpiopaaaTr1
import Derived.Test.YtfeccjcdpiopaaaRef6
namespace Go.Proofs.Ytfeccjcdpiopaaa.Te
open Go.RowKit Go.Sort P Mm R6 Tl

/-- Two rows of one length are alike, one by one. -/
def eqL {α : Type} (f : α → α → Bool) : List α → List α → Bool
  | [], [] => true
  | x :: xs, y :: ys => f x y && eqL f xs ys
  | _, _ => false
theorem eqL_len {α : Type} {f : α → α → Bool} : ∀ {xs ys : List α}, xs.length ≠ ys.length → eqL f xs ys = false
  | [], [], h => absurd rfl h
  | [], _ :: _, _ => rfl
  | _ :: _, [], _ => rfl
  | x :: xs, y :: ys, h => by
    rw [eqL, eqL_len (by simpa using h), Bool.and_false]
theorem eqL_drop {α : Type} {f : α → α → Bool} {xs ys : List α} {i : Nat} {x y : α} (hx : xs[i]? = some x) (hy : ys[i]? = some y) : eqL f (xs.drop i) (ys.drop i) = (f x y && eqL f (xs.drop (i + 1)) (ys.drop (i + 1))) := by
  obtain ⟨hl, e⟩ := List.getElem?_eq_some_iff.1 hx
  obtain ⟨hl2, e2⟩ := List.getElem?_eq_some_iff.1 hy
  rw [List.drop_eq_getElem_cons hl, List.drop_eq_getElem_cons hl2, eqL, e, e2]
theorem eqL_end {α : Type} {f : α → α → Bool} {xs ys : List α} {i : Nat} (hx : xs.length ≤ i) (hy : ys.length ≤ i) : eqL f (xs.drop i) (ys.drop i) = true := by
  rw [List.drop_eq_nil_of_le hx, List.drop_eq_nil_of_le hy]; rfl
theorem bel_two {w wr w' : World} (x y : Obj) (h : Below w.heap.size w wr) (b : Below ((wr.alloc x).alloc y).heap.size ((wr.alloc x).alloc y) w') : Below w.heap.size w w' := bel_on (bel_on h (bel_alloc2 wr x y)) b
def beqT (x y : Tier) : Bool := decide (x = y)
def beqA (x y : Adj) : Bool := decide (x = y)
theorem beqT_any (m n : Tier) (w : World) : Calls Try.prog 47 #[.agg (tierC m).toArray, .agg (tierC n).toArray] w fun e w' => e = .returned (.bool (beqT m n)) ∧ Below w.heap.size w w' := equalTier_any m n w
theorem beqA_any (m n : Adj) (w : World) : Calls Try.prog 49 #[.agg (adjC m).toArray, .agg (adjC n).toArray] w fun e w' => e = .returned (.bool (beqA m n)) ∧ Below w.heap.size w w' := equalAdj_any m n w
set_option maxHeartbeats 4000000 in
set_option maxRecDepth 100000 in
theorem eqfM_any (xs ys : List Meter) (ma : Option Addr) (mc : Nat) (fa : Option Addr) (fc : Nat) (w : World) (hx : Row tMeter w ma xs.length mc xs) (hy : Row tMeter w fa ys.length fc ys) :
    Calls Try.prog 43 #[.slice ma xs.length mc, .slice fa ys.length fc, .func (.func 29) #[] #[]] w fun e w' => e = .returned (.bool (eqL sameM xs ys)) ∧ Below w.heap.size w w' := by
  obtain ⟨n, hn⟩ : ∃ n, n = xs.length := ⟨_, rfl⟩
  obtain ⟨m, hm⟩ : ∃ m, m = ys.length := ⟨_, rfl⟩
  have u1 := hx.hcap
  have u2 := hx.hmax
  have u3 := hy.hcap
  have u4 := hy.hmax
  obtain ⟨R, hR⟩ : ∃ R, R = eqL sameM xs ys := ⟨_, rfl⟩
  rw [← hR]
  have HR := hid hR
  rw [← hn] at hx u1 ⊢
  rw [← hm] at hy u3 ⊢
  have HX := hid hx
  have HY := hid hy
  have HN := hid hn
  have HM := hid hm
  clear hR hx hy hn hm
  go_enter Try.func43, Try.ntmps43
  by_cases hl : (n : Int) = (m : Int)
  · obtain rfl : n = m := by omega
    clear hl
    go_wp2
    go_loopw [17] (fun i wr => ∃ i' : Int, i = .int .i64 i' ∧ 0 ≤ i' ∧ i' ≤ n ∧ Hid (R = eqL sameM (xs.drop i'.toNat) (ys.drop i'.toNat)) ∧ Hid (Below w.heap.size w wr)) (fun i _ => ((n : Int) - intOf i).toNat)
    case atStart => exact ⟨0, rfl, by omega, by omega, hid HR.out, hid (Below.refl _ _)⟩
    case round =>
      obtain ⟨i', rfl, i0, i1, hh, hb⟩ := hrel
      by_cases hlt : i' < n
      · obtain ⟨x, tx⟩ : ∃ x, xs[i'.toNat]? = some x := ⟨_, List.getElem?_eq_getElem (by have := HN.out; omega)⟩
        obtain ⟨y, ty⟩ : ∃ y, ys[i'.toNat]? = some y := ⟨_, List.getElem?_eq_getElem (by have := HM.out; omega)⟩
        have K : Hid (R = (sameM x y && eqL sameM (xs.drop (i' + 1).toNat) (ys.drop (i' + 1).toNat))) := hid (by rw [hh.out, eqL_drop tx ty, show (i' + 1).toNat = i'.toNat + 1 by omega])
        obtain ⟨bx, ox, e, lbx, x0, x1, x2, x3, x4, _⟩ := meter_at (HX.out.on hb.out) tx
        obtain ⟨by', oy, e', lby, y0, y1, y2, y3, y4, _⟩ := meter_at (HY.out.on hb.out) ty
        subst e
        subst e'
        have cS := fun W => sameM_any x y W
        unfold meterC at cS
        clear tx ty hh
        go_wp2_with fail
        refine (cS _).mono ?_
        rintro e w' ⟨rfl, b3⟩
        have HB := hid (bel_two _ _ hb.out b3)
        clear cS b3
        rcases Bool.eq_false_or_eq_true (sameM x y) with g | g
        · rw [g]
          have K2 : Hid (R = eqL sameM (xs.drop (i' + 1).toNat) (ys.drop (i' + 1).toNat)) := hid (by rw [K.out, g, Bool.true_and])
          go_wp2
          go_roundw
          case rel => exact ⟨i' + 1, rfl, by omega, by omega, K2, HB⟩
          case measure => simp [intOf]; omega
        · rw [g]
          have K2 : Hid (R = false) := hid (by rw [K.out, g, Bool.false_and])
          go_wp2
          go_ret
          exact ⟨by rw [K2.out]; rfl, HB.out⟩
      · obtain rfl : i' = n := by omega
        have K2 : Hid (R = true) := hid (by rw [hh.out]; exact eqL_end (by have := HN.out; omega) (by have := HM.out; omega))
        go_wp2
        go_ret
        exact ⟨by rw [K2.out]; rfl, hb.out⟩
  · have K2 : Hid (R = false) := hid (by rw [HR.out]; exact eqL_len (by have := HN.out; have := HM.out; omega))
    go_wp2
    go_ret
    exact ⟨by rw [K2.out]; rfl, Below.refl _ _⟩
set_option maxHeartbeats 4000000 in
theorem eachM_any (xs ys : List Meter) (ma : Option Addr) (mc : Nat) (fa : Option Addr) (fc : Nat) (w : World) (hx : Row tMeter w ma xs.length mc xs) (hy : Row tMeter w fa ys.length fc ys) :
    Calls Try.prog 28 #[.slice ma xs.length mc, .slice fa ys.length fc, .func (.func 29) #[] #[]] w fun e w' => e = .returned (.bool (eqL sameM xs ys)) ∧ Below w.heap.size w w' := by
  have c := eqfM_any xs ys ma mc fa fc w hx hy
  clear hx hy
  go_enter Try.func28, Try.ntmps28
  go_wp2_with fail
  refine c.mono ?_
  rintro e w' ⟨rfl, b⟩
  clear c
  go_wp2
  go_ret
  exact ⟨rfl, b⟩
set_option maxHeartbeats 4000000 in
set_option maxRecDepth 100000 in
theorem eqfF_any (xs ys : List Fee) (ma : Option Addr) (mc : Nat) (fa : Option Addr) (fc : Nat) (w : World) (hx : Row tFee w ma xs.length mc xs) (hy : Row tFee w fa ys.length fc ys) :
    Calls Try.prog 44 #[.slice ma xs.length mc, .slice fa ys.length fc, .func (.func 31) #[] #[]] w fun e w' => e = .returned (.bool (eqL sameF xs ys)) ∧ Below w.heap.size w w' := by
  obtain ⟨n, hn⟩ : ∃ n, n = xs.length := ⟨_, rfl⟩
  obtain ⟨m, hm⟩ : ∃ m, m = ys.length := ⟨_, rfl⟩
  have u1 := hx.hcap
  have u2 := hx.hmax
  have u3 := hy.hcap
  have u4 := hy.hmax
  obtain ⟨R, hR⟩ : ∃ R, R = eqL sameF xs ys := ⟨_, rfl⟩
  rw [← hR]
  have HR := hid hR
  rw [← hn] at hx u1 ⊢
  rw [← hm] at hy u3 ⊢
  have HX := hid hx
  have HY := hid hy
  have HN := hid hn
  have HM := hid hm
  clear hR hx hy hn hm
  go_enter Try.func44, Try.ntmps44
  by_cases hl : (n : Int) = (m : Int)
  · obtain rfl : n = m := by omega
    clear hl
    go_wp2
    go_loopw [17] (fun i wr => ∃ i' : Int, i = .int .i64 i' ∧ 0 ≤ i' ∧ i' ≤ n ∧ Hid (R = eqL sameF (xs.drop i'.toNat) (ys.drop i'.toNat)) ∧ Hid (Below w.heap.size w wr)) (fun i _ => ((n : Int) - intOf i).toNat)
    case atStart => exact ⟨0, rfl, by omega, by omega, hid HR.out, hid (Below.refl _ _)⟩
    case round =>
      obtain ⟨i', rfl, i0, i1, hh, hb⟩ := hrel
      by_cases hlt : i' < n
      · obtain ⟨x, tx⟩ : ∃ x, xs[i'.toNat]? = some x := ⟨_, List.getElem?_eq_getElem (by have := HN.out; omega)⟩
        obtain ⟨y, ty⟩ : ∃ y, ys[i'.toNat]? = some y := ⟨_, List.getElem?_eq_getElem (by have := HM.out; omega)⟩
        have K : Hid (R = (sameF x y && eqL sameF (xs.drop (i' + 1).toNat) (ys.drop (i' + 1).toNat))) := hid (by rw [hh.out, eqL_drop tx ty, show (i' + 1).toNat = i'.toNat + 1 by omega])
        obtain ⟨bx, ox, e, lbx, x0, x1, x2, x3, x4, x5, x6, x7, x8, x9, _⟩ := fee_at (HX.out.on hb.out) tx
        obtain ⟨by', oy, e', lby, y0, y1, y2, y3, y4, y5, y6, y7, y8, y9, _⟩ := fee_at (HY.out.on hb.out) ty
        subst e
        subst e'
        have cS := fun W => sameF_any x y W
        unfold feeC at cS
        clear tx ty hh
        go_wp2_with fail
        refine (cS _).mono ?_
        rintro e w' ⟨rfl, b3⟩
        have HB := hid (bel_two _ _ hb.out b3)
        clear cS b3
        rcases Bool.eq_false_or_eq_true (sameF x y) with g | g
        · rw [g]
          have K2 : Hid (R = eqL sameF (xs.drop (i' + 1).toNat) (ys.drop (i' + 1).toNat)) := hid (by rw [K.out, g, Bool.true_and])
          go_wp2
          go_roundw
          case rel => exact ⟨i' + 1, rfl, by omega, by omega, K2, HB⟩
          case measure => simp [intOf]; omega
        · rw [g]
          have K2 : Hid (R = false) := hid (by rw [K.out, g, Bool.false_and])
          go_wp2
          go_ret
          exact ⟨by rw [K2.out]; rfl, HB.out⟩
      · obtain rfl : i' = n := by omega
        have K2 : Hid (R = true) := hid (by rw [hh.out]; exact eqL_end (by have := HN.out; omega) (by have := HM.out; omega))
        go_wp2
        go_ret
        exact ⟨by rw [K2.out]; rfl, hb.out⟩
  · have K2 : Hid (R = false) := hid (by rw [HR.out]; exact eqL_len (by have := HN.out; have := HM.out; omega))
    go_wp2
    go_ret
    exact ⟨by rw [K2.out]; rfl, Below.refl _ _⟩
set_option maxHeartbeats 4000000 in
theorem eachF_any (xs ys : List Fee) (ma : Option Addr) (mc : Nat) (fa : Option Addr) (fc : Nat) (w : World) (hx : Row tFee w ma xs.length mc xs) (hy : Row tFee w fa ys.length fc ys) :
    Calls Try.prog 30 #[.slice ma xs.length mc, .slice fa ys.length fc, .func (.func 31) #[] #[]] w fun e w' => e = .returned (.bool (eqL sameF xs ys)) ∧ Below w.heap.size w w' := by
  have c := eqfF_any xs ys ma mc fa fc w hx hy
  clear hx hy
  go_enter Try.func30, Try.ntmps30
  go_wp2_with fail
  refine c.mono ?_
  rintro e w' ⟨rfl, b⟩
  clear c
  go_wp2
  go_ret
  exact ⟨rfl, b⟩
set_option maxHeartbeats 4000000 in
set_option maxRecDepth 100000 in
theorem eqfT_any (xs ys : List Tier) (ma : Option Addr) (mc : Nat) (fa : Option Addr) (fc : Nat) (w : World) (hx : Row tTier w ma xs.length mc xs) (hy : Row tTier w fa ys.length fc ys) :
    Calls Try.prog 55 #[.slice ma xs.length mc, .slice fa ys.length fc, .func (.func 47) #[] #[]] w fun e w' => e = .returned (.bool (eqL beqT xs ys)) ∧ Below w.heap.size w w' := by
  obtain ⟨n, hn⟩ : ∃ n, n = xs.length := ⟨_, rfl⟩
  obtain ⟨m, hm⟩ : ∃ m, m = ys.length := ⟨_, rfl⟩
  have u1 := hx.hcap
  have u2 := hx.hmax
  have u3 := hy.hcap
  have u4 := hy.hmax
  obtain ⟨R, hR⟩ : ∃ R, R = eqL beqT xs ys := ⟨_, rfl⟩
  rw [← hR]
  have HR := hid hR
  rw [← hn] at hx u1 ⊢
  rw [← hm] at hy u3 ⊢
  have HX := hid hx
  have HY := hid hy
  have HN := hid hn
  have HM := hid hm
  clear hR hx hy hn hm
  go_enter Try.func55, Try.ntmps55
  by_cases hl : (n : Int) = (m : Int)
  · obtain rfl : n = m := by omega
    clear hl
    go_wp2
    go_loopw [17] (fun i wr => ∃ i' : Int, i = .int .i64 i' ∧ 0 ≤ i' ∧ i' ≤ n ∧ Hid (R = eqL beqT (xs.drop i'.toNat) (ys.drop i'.toNat)) ∧ Hid (Below w.heap.size w wr)) (fun i _ => ((n : Int) - intOf i).toNat)
    case atStart => exact ⟨0, rfl, by omega, by omega, hid HR.out, hid (Below.refl _ _)⟩
    case round =>
      obtain ⟨i', rfl, i0, i1, hh, hb⟩ := hrel
      by_cases hlt : i' < n
      · obtain ⟨x, tx⟩ : ∃ x, xs[i'.toNat]? = some x := ⟨_, List.getElem?_eq_getElem (by have := HN.out; omega)⟩
        obtain ⟨y, ty⟩ : ∃ y, ys[i'.toNat]? = some y := ⟨_, List.getElem?_eq_getElem (by have := HM.out; omega)⟩
        have K : Hid (R = (beqT x y && eqL beqT (xs.drop (i' + 1).toNat) (ys.drop (i' + 1).toNat))) := hid (by rw [hh.out, eqL_drop tx ty, show (i' + 1).toNat = i'.toNat + 1 by omega])
        obtain ⟨bx, ox, e, lbx, x0, x1, _⟩ := tier_at (HX.out.on hb.out) tx
        obtain ⟨by', oy, e', lby, y0, y1, _⟩ := tier_at (HY.out.on hb.out) ty
        subst e
        subst e'
        have cS := fun W => beqT_any x y W
        unfold tierC at cS
        clear tx ty hh
        go_wp2_with fail
        refine (cS _).mono ?_
        rintro e w' ⟨rfl, b3⟩
        have HB := hid (bel_two _ _ hb.out b3)
        clear cS b3
        rcases Bool.eq_false_or_eq_true (beqT x y) with g | g
        · rw [g]
          have K2 : Hid (R = eqL beqT (xs.drop (i' + 1).toNat) (ys.drop (i' + 1).toNat)) := hid (by rw [K.out, g, Bool.true_and])
          go_wp2
          go_roundw
          case rel => exact ⟨i' + 1, rfl, by omega, by omega, K2, HB⟩
          case measure => simp [intOf]; omega
        · rw [g]
          have K2 : Hid (R = false) := hid (by rw [K.out, g, Bool.false_and])
          go_wp2
          go_ret
          exact ⟨by rw [K2.out]; rfl, HB.out⟩
      · obtain rfl : i' = n := by omega
        have K2 : Hid (R = true) := hid (by rw [hh.out]; exact eqL_end (by have := HN.out; omega) (by have := HM.out; omega))
        go_wp2
        go_ret
        exact ⟨by rw [K2.out]; rfl, hb.out⟩
  · have K2 : Hid (R = false) := hid (by rw [HR.out]; exact eqL_len (by have := HN.out; have := HM.out; omega))
    go_wp2
    go_ret
    exact ⟨by rw [K2.out]; rfl, Below.refl _ _⟩
set_option maxHeartbeats 4000000 in
theorem eachT_any (xs ys : List Tier) (ma : Option Addr) (mc : Nat) (fa : Option Addr) (fc : Nat) (w : World) (hx : Row tTier w ma xs.length mc xs) (hy : Row tTier w fa ys.length fc ys) :
    Calls Try.prog 46 #[.slice ma xs.length mc, .slice fa ys.length fc, .func (.func 47) #[] #[]] w fun e w' => e = .returned (.bool (eqL beqT xs ys)) ∧ Below w.heap.size w w' := by
  have c := eqfT_any xs ys ma mc fa fc w hx hy
  clear hx hy
  go_enter Try.func46, Try.ntmps46
  go_wp2_with fail
  refine c.mono ?_
  rintro e w' ⟨rfl, b⟩
  clear c
  go_wp2
  go_ret
  exact ⟨rfl, b⟩
set_option maxHeartbeats 4000000 in
set_option maxRecDepth 100000 in
theorem eqfA_any (xs ys : List Adj) (ma : Option Addr) (mc : Nat) (fa : Option Addr) (fc : Nat) (w : World) (hx : Row tAdj w ma xs.length mc xs) (hy : Row tAdj w fa ys.length fc ys) :
    Calls Try.prog 56 #[.slice ma xs.length mc, .slice fa ys.length fc, .func (.func 49) #[] #[]] w fun e w' => e = .returned (.bool (eqL beqA xs ys)) ∧ Below w.heap.size w w' := by
  obtain ⟨n, hn⟩ : ∃ n, n = xs.length := ⟨_, rfl⟩
  obtain ⟨m, hm⟩ : ∃ m, m = ys.length := ⟨_, rfl⟩
  have u1 := hx.hcap
  have u2 := hx.hmax
  have u3 := hy.hcap
  have u4 := hy.hmax
  obtain ⟨R, hR⟩ : ∃ R, R = eqL beqA xs ys := ⟨_, rfl⟩
  rw [← hR]
  have HR := hid hR
  rw [← hn] at hx u1 ⊢
  rw [← hm] at hy u3 ⊢
  have HX := hid hx
  have HY := hid hy
  have HN := hid hn
  have HM := hid hm
  clear hR hx hy hn hm
  go_enter Try.func56, Try.ntmps56
  by_cases hl : (n : Int) = (m : Int)
  · obtain rfl : n = m := by omega
    clear hl
    go_wp2
    go_loopw [17] (fun i wr => ∃ i' : Int, i = .int .i64 i' ∧ 0 ≤ i' ∧ i' ≤ n ∧ Hid (R = eqL beqA (xs.drop i'.toNat) (ys.drop i'.toNat)) ∧ Hid (Below w.heap.size w wr)) (fun i _ => ((n : Int) - intOf i).toNat)
    case atStart => exact ⟨0, rfl, by omega, by omega, hid HR.out, hid (Below.refl _ _)⟩
    case round =>
      obtain ⟨i', rfl, i0, i1, hh, hb⟩ := hrel
      by_cases hlt : i' < n
      · obtain ⟨x, tx⟩ : ∃ x, xs[i'.toNat]? = some x := ⟨_, List.getElem?_eq_getElem (by have := HN.out; omega)⟩
        obtain ⟨y, ty⟩ : ∃ y, ys[i'.toNat]? = some y := ⟨_, List.getElem?_eq_getElem (by have := HM.out; omega)⟩
        have K : Hid (R = (beqA x y && eqL beqA (xs.drop (i' + 1).toNat) (ys.drop (i' + 1).toNat))) := hid (by rw [hh.out, eqL_drop tx ty, show (i' + 1).toNat = i'.toNat + 1 by omega])
        obtain ⟨bx, ox, e, lbx, x0, x1, x2, _⟩ := adj_at (HX.out.on hb.out) tx
        obtain ⟨by', oy, e', lby, y0, y1, y2, _⟩ := adj_at (HY.out.on hb.out) ty
        subst e
        subst e'
        have cS := fun W => beqA_any x y W
        unfold adjC at cS
        clear tx ty hh
        go_wp2_with fail
        refine (cS _).mono ?_
        rintro e w' ⟨rfl, b3⟩
        have HB := hid (bel_two _ _ hb.out b3)
        clear cS b3
        rcases Bool.eq_false_or_eq_true (beqA x y) with g | g
        · rw [g]
          have K2 : Hid (R = eqL beqA (xs.drop (i' + 1).toNat) (ys.drop (i' + 1).toNat)) := hid (by rw [K.out, g, Bool.true_and])
          go_wp2
          go_roundw
          case rel => exact ⟨i' + 1, rfl, by omega, by omega, K2, HB⟩
          case measure => simp [intOf]; omega
        · rw [g]
          have K2 : Hid (R = false) := hid (by rw [K.out, g, Bool.false_and])
          go_wp2
          go_ret
          exact ⟨by rw [K2.out]; rfl, HB.out⟩
      · obtain rfl : i' = n := by omega
        have K2 : Hid (R = true) := hid (by rw [hh.out]; exact eqL_end (by have := HN.out; omega) (by have := HM.out; omega))
        go_wp2
        go_ret
        exact ⟨by rw [K2.out]; rfl, hb.out⟩
  · have K2 : Hid (R = false) := hid (by rw [HR.out]; exact eqL_len (by have := HN.out; have := HM.out; omega))
    go_wp2
    go_ret
    exact ⟨by rw [K2.out]; rfl, Below.refl _ _⟩
set_option maxHeartbeats 4000000 in
theorem eachA_any (xs ys : List Adj) (ma : Option Addr) (mc : Nat) (fa : Option Addr) (fc : Nat) (w : World) (hx : Row tAdj w ma xs.length mc xs) (hy : Row tAdj w fa ys.length fc ys) :
    Calls Try.prog 48 #[.slice ma xs.length mc, .slice fa ys.length fc, .func (.func 49) #[] #[]] w fun e w' => e = .returned (.bool (eqL beqA xs ys)) ∧ Below w.heap.size w w' := by
  have c := eqfA_any xs ys ma mc fa fc w hx hy
  clear hx hy
  go_enter Try.func48, Try.ntmps48
  go_wp2_with fail
  refine c.mono ?_
  rintro e w' ⟨rfl, b⟩
  clear c
  go_wp2
  go_ret
  exact ⟨rfl, b⟩
end Go.Proofs.Ytfeccjcdpiopaaa.Te
