/- Package tree, walked: what Each and Find answer when the rows' law asks them. -/
import Derived.Test.YtfeccjcdpiopaaaTr2
import Derived.Test.YtfeccjcdpiopaaaL06e
namespace Go.Proofs.Ytfeccjcdpiopaaa.Te
open Go.RowKit Go.Sort P Mm R6 Tl L06

theorem int_at {w : World} {ao : Option Addr} {len cap : Nat} {xs : List Int} (h : Row tI w ao len cap xs) {j : Nat} {x : Int} (hj : xs[j]? = some x) :
    ∃ b o, ao = some ⟨b, o, none⟩ ∧ b < w.heap.size ∧ w.cell? ⟨b, o + j, none⟩ = some (.int .i64 x) := by
  obtain ⟨b, o, cs, h1, h2, ⟨h3, _⟩, h4⟩ := h.at hj
  subst h3
  have := h4 0 _ rfl
  exact ⟨b, o, h1, h2, by simpa [show tI.n = 1 from rfl] using this⟩
def ltI (x y : Int) : Bool := decide (x < y)
theorem want_eq (xs ys : List Int) : wantU xs ys xs.length = eqL ltI xs ys := by
  by_cases h : xs.length = ys.length
  · have key : ∀ k, k ≤ xs.length → eqL ltI xs ys = (wantU xs ys k && eqL ltI (xs.drop k) (ys.drop k)) := by
      intro k
      induction k with
      | zero =>
        intro _
        have : wantU xs ys 0 = true := by unfold wantU; simp [h]
        rw [this]; rfl
      | succ k ih =>
        intro hk
        rw [ih (by omega)]
        obtain ⟨x, hx⟩ : ∃ x, xs[k]? = some x := ⟨_, List.getElem?_eq_getElem (by omega)⟩
        obtain ⟨y, hy⟩ : ∃ y, ys[k]? = some y := ⟨_, List.getElem?_eq_getElem (by omega)⟩
        rw [eqL_drop hx hy, wantU_next]
        have e1 : xs.getD k 0 = x := by rw [List.getD, hx]; rfl
        have e2 : ys.getD k 0 = y := by rw [List.getD, hy]; rfl
        rw [e1, e2, show decide (k < ys.length) = true by simp; omega, Bool.true_and, Bool.and_assoc]
        rfl
    rw [key xs.length (Nat.le_refl _), eqL_end (Nat.le_refl _) (by omega), Bool.and_true]
  · rw [eqL_len h]
    unfold wantU
    rw [show ((xs.length : Int) == (ys.length : Int)) = false by simp; omega]
    rfl
theorem lt_any (x y : Int) (w : World) : Calls Try.prog 19 #[.int .i64 x, .int .i64 y] w fun e w' => e = .returned (.bool (ltI x y)) ∧ Below w.heap.size w w' := by
  have c := above_any y x w
  go_enter Try.func19, Try.ntmps19
  go_wp2_with fail
  refine c.mono ?_
  rintro e w' ⟨rfl, b⟩
  clear c
  go_wp2
  go_ret
  exact ⟨rfl, b⟩
theorem gt_any (x kk : Int) (b : Nat) (w : World) (hk : w.cell? ⟨b, 0, none⟩ = some (.int .i64 kk)) : Calls Try.prog 21 #[.int .i64 x, .pointer (some ⟨b, 0, none⟩)] w fun e w' => e = .returned (.bool (decide (kk < x))) ∧ Below w.heap.size w w' := by
  have c := above_any x kk w
  go_enter Try.func21, Try.ntmps21
  go_wp2_with fail
  refine c.mono ?_
  rintro e w' ⟨rfl, b⟩
  clear c
  go_wp2
  go_ret
  exact ⟨rfl, b⟩
set_option maxHeartbeats 4000000 in
set_option maxRecDepth 100000 in
theorem eqfI_any (xs ys : List Int) (ma : Option Addr) (mc : Nat) (fa : Option Addr) (fc : Nat) (w : World) (hx : Row tI w ma xs.length mc xs) (hy : Row tI w fa ys.length fc ys) :
    Calls Try.prog 39 #[.slice ma xs.length mc, .slice fa ys.length fc, .func (.func 19) #[] #[]] w fun e w' => e = .returned (.bool (eqL ltI xs ys)) ∧ Below w.heap.size w w' := by
  obtain ⟨n, hn⟩ : ∃ n, n = xs.length := ⟨_, rfl⟩
  obtain ⟨m, hm⟩ : ∃ m, m = ys.length := ⟨_, rfl⟩
  have u1 := hx.hcap
  have u2 := hx.hmax
  have u3 := hy.hcap
  have u4 := hy.hmax
  obtain ⟨R, hR⟩ : ∃ R, R = eqL ltI xs ys := ⟨_, rfl⟩
  rw [← hR]
  have HR := hid hR
  rw [← hn] at hx u1 ⊢
  rw [← hm] at hy u3 ⊢
  have HX := hid hx
  have HY := hid hy
  have HN := hid hn
  have HM := hid hm
  clear hR hx hy hn hm
  go_enter Try.func39, Try.ntmps39
  by_cases hl : (n : Int) = (m : Int)
  · obtain rfl : n = m := by omega
    clear hl
    go_wp2
    go_loopw [17] (fun i wr => ∃ i' : Int, i = .int .i64 i' ∧ 0 ≤ i' ∧ i' ≤ n ∧ Hid (R = eqL ltI (xs.drop i'.toNat) (ys.drop i'.toNat)) ∧ Hid (Below w.heap.size w wr)) (fun i _ => ((n : Int) - intOf i).toNat)
    case atStart => exact ⟨0, rfl, by omega, by omega, hid HR.out, hid (Below.refl _ _)⟩
    case round =>
      obtain ⟨i', rfl, i0, i1, hh, hb⟩ := hrel
      by_cases hlt : i' < n
      · obtain ⟨x, tx⟩ : ∃ x, xs[i'.toNat]? = some x := ⟨_, List.getElem?_eq_getElem (by have := HN.out; omega)⟩
        obtain ⟨y, ty⟩ : ∃ y, ys[i'.toNat]? = some y := ⟨_, List.getElem?_eq_getElem (by have := HM.out; omega)⟩
        have K : Hid (R = (ltI x y && eqL ltI (xs.drop (i' + 1).toNat) (ys.drop (i' + 1).toNat))) := hid (by rw [hh.out, eqL_drop tx ty, show (i' + 1).toNat = i'.toNat + 1 by omega])
        obtain ⟨bx, ox, e, lbx, x0⟩ := int_at (HX.out.on hb.out) tx
        obtain ⟨by', oy, e', lby, y0⟩ := int_at (HY.out.on hb.out) ty
        subst e
        subst e'
        have cS := fun W => lt_any x y W
        clear tx ty hh
        go_wp2_with fail
        refine (cS _).mono ?_
        rintro e w' ⟨rfl, b3⟩
        have HB := hid (bel_on hb.out b3)
        clear cS b3
        rcases Bool.eq_false_or_eq_true (ltI x y) with g | g
        · rw [g]
          have K2 : Hid (R = eqL ltI (xs.drop (i' + 1).toNat) (ys.drop (i' + 1).toNat)) := hid (by rw [K.out, g, Bool.true_and])
          go_wp2
          go_roundw
          case rel => exact ⟨i' + 1, rfl, by omega, by omega, K2, HB⟩
          case measure => simp [intOf]; omega
        · rw [g]
          have K2 : Hid (R = false) := hid (by rw [K.out, g, Bool.false_and])
          go_wp2
          go_ret
          exact ⟨by rw [K2.out]; rfl, HB.out⟩
      · obtain rfl : i' = n := by omega
        have K2 : Hid (R = true) := hid (by rw [hh.out]; exact eqL_end (by have := HN.out; omega) (by have := HM.out; omega))
        go_wp2
        go_ret
        exact ⟨by rw [K2.out]; rfl, hb.out⟩
  · have K2 : Hid (R = false) := hid (by rw [HR.out]; exact eqL_len (by have := HN.out; have := HM.out; omega))
    go_wp2
    go_ret
    exact ⟨by rw [K2.out]; rfl, Below.refl _ _⟩
set_option maxHeartbeats 4000000 in
set_option maxRecDepth 100000 in
theorem idxI_any (xs : List Int) (ma : Option Addr) (mc : Nat) (kk : Int) (b : Nat) (w : World) (hx : Row tI w ma xs.length mc xs) (hb : b < w.heap.size) (hk : w.cell? ⟨b, 0, none⟩ = some (.int .i64 kk)) :
    Calls Try.prog 40 #[.slice ma xs.length mc, .func (.func 21) #[] #[.pointer (some ⟨b, 0, none⟩)]] w fun e w' => e = .returned (.int .i64 (scanK kk xs 0)) ∧ Below w.heap.size w w' := by
  obtain ⟨n, hn⟩ : ∃ n, n = xs.length := ⟨_, rfl⟩
  have u1 := hx.hcap
  have u2 := hx.hmax
  obtain ⟨R, hR⟩ : ∃ R, R = scanK kk xs 0 := ⟨_, rfl⟩
  rw [← hR]
  have HR := hid hR
  rw [← hn] at hx u1 ⊢
  have HX := hid hx
  have HN := hid hn
  have HL := hid hb
  have HK := hid hk
  clear hR hx hn hb hk
  go_enter Try.func40, Try.ntmps40
  go_wp2
  go_loopw [8] (fun i wr => ∃ i' : Int, i = .int .i64 i' ∧ 0 ≤ i' ∧ i' ≤ n ∧ Hid (R = scanK kk (xs.drop i'.toNat) i') ∧ Hid (Below w.heap.size w wr)) (fun i _ => ((n : Int) - intOf i).toNat)
  case atStart => exact ⟨0, rfl, by omega, by omega, hid HR.out, hid (Below.refl _ _)⟩
  case round =>
    obtain ⟨i', rfl, i0, i1, hh, hb⟩ := hrel
    by_cases hlt : i' < n
    · obtain ⟨x, tx⟩ : ∃ x, xs[i'.toNat]? = some x := ⟨_, List.getElem?_eq_getElem (by have := HN.out; omega)⟩
      have K : Hid (R = if kk < x then i' else scanK kk (xs.drop (i' + 1).toNat) (i' + 1)) := hid (by
        have := scanK_drop (kk := kk) tx
        rw [show ((i'.toNat : Nat) : Int) = i' by omega] at this
        rw [hh.out, this, show (i' + 1).toNat = i'.toNat + 1 by omega])
      obtain ⟨bx, ox, e, lbx, x0⟩ := int_at (HX.out.on hb.out) tx
      subst e
      have cS := gt_any x kk b wr (by rw [hb.out.cell HL.out]; exact HK.out)
      clear tx hh
      go_wp2_with fail
      refine cS.mono ?_
      rintro e w' ⟨rfl, b3⟩
      have HB := hid (bel_on hb.out b3)
      clear cS b3
      by_cases g : kk < x
      · have K2 : Hid (R = i') := hid (by rw [K.out, if_pos g])
        go_wp2
        go_ret
        exact ⟨by rw [K2.out]; rfl, HB.out⟩
      · have K2 : Hid (R = scanK kk (xs.drop (i' + 1).toNat) (i' + 1)) := hid (by rw [K.out, if_neg g])
        go_wp2
        go_roundw
        case rel => exact ⟨i' + 1, rfl, by omega, by omega, K2, HB⟩
        case measure => simp [intOf]; omega
    · obtain rfl : i' = n := by omega
      have K2 : Hid (R = -1) := hid (by rw [hh.out, List.drop_eq_nil_of_le (by have := HN.out; omega)]; rfl)
      go_wp2
      go_ret
      exact ⟨by rw [K2.out]; rfl, hb.out⟩
theorem eachI_any (xs ys : List Int) (ma : Option Addr) (mc : Nat) (fa : Option Addr) (fc : Nat) (w : World) (hx : Row tI w ma xs.length mc xs) (hy : Row tI w fa ys.length fc ys) :
    Calls Try.prog 18 #[.slice ma xs.length mc, .slice fa ys.length fc, .func (.func 19) #[] #[]] w fun e w' => e = .returned (.bool (wantU xs ys xs.length)) ∧ Below w.heap.size w w' := by
  have c := eqfI_any xs ys ma mc fa fc w hx hy
  rw [want_eq]
  clear hx hy
  go_enter Try.func18, Try.ntmps18
  go_wp2_with fail
  refine c.mono ?_
  rintro e w' ⟨rfl, b⟩
  clear c
  go_wp2
  go_ret
  exact ⟨rfl, b⟩
theorem findI_any (xs : List Int) (ma : Option Addr) (mc : Nat) (kk : Int) (b : Nat) (w : World) (hx : Row tI w ma xs.length mc xs) (hb : b < w.heap.size) (hk : w.cell? ⟨b, 0, none⟩ = some (.int .i64 kk)) :
    Calls Try.prog 20 #[.slice ma xs.length mc, .func (.func 21) #[] #[.pointer (some ⟨b, 0, none⟩)]] w fun e w' => e = .returned (.int .i64 (scanK kk xs 0)) ∧ Below w.heap.size w w' := by
  have c := idxI_any xs ma mc kk b w hx hb hk
  clear hx hb hk
  go_enter Try.func20, Try.ntmps20
  go_wp2_with fail
  refine c.mono ?_
  rintro e w' ⟨rfl, b⟩
  clear c
  go_wp2
  go_ret
  exact ⟨rfl, b⟩
/-- What Each and Find answer, in all worlds. -/
theorem ew : Ew fun _ => True :=
  ⟨fun xs ys ma mc fa fc w _ _ _ hx hy => eachI_any xs ys ma mc fa fc w hx hy, fun xs ma mc kk b w _ _ hx hb hk => findI_any xs ma mc kk b w hx hb hk⟩
end Go.Proofs.Ytfeccjcdpiopaaa.Te
