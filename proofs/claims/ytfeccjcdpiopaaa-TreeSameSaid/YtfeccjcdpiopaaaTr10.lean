/- Package tree, walked: rows without places. -/
import Derived.Test.YtfeccjcdpiopaaaTr9
namespace Go.Proofs.Ytfeccjcdpiopaaa.Te
open Go.RowKit Go.Sort P Mm R6 Tl L06

/-- One element more is laid in a row of the call's own. -/
theorem own_push {α : Type} {C : α → List Value} {size : Nat} (hn : ∀ x, (C x).length = size) {w : World} {base : Nat} {e : TypeId} {n cap g : Nat} {zs : List α} {Z : List Value}
    (h : w.ownsRow base e size (.slice (some ⟨g, 0, none⟩) n cap) n (zs.flatMap C ++ Z)) (hi : zs.length < n) (y : α) :
    ∃ Z', (w.setCells g (zs.length * size) (C y)).ownsRow base e size (.slice (some ⟨g, 0, none⟩) n cap) n ((zs ++ [y]).flatMap C ++ Z') ∧ w.grownBy (w.setCells g (zs.length * size) (C y)) (some g) := by
  obtain ⟨h1, h2⟩ := owns_setCells (C y) (zs.length * size) w _ h
  have hl := h.1
  have hA : (zs.flatMap C).length = zs.length * size := flat_len (f := C) (n := size) hn _
  rw [List.length_append, hA] at hl
  have hm : (zs.length + 1) * size ≤ n * size := Nat.mul_le_mul_right _ hi
  rw [Nat.succ_mul] at hm
  refine ⟨Z.drop size, ?_, h2⟩
  have e1 : setAt (zs.flatMap C ++ Z) (zs.length * size) (C y) = (zs ++ [y]).flatMap C ++ Z.drop size := by
    have := setAt_mid (C y) (zs.flatMap C) (Z.take size) (Z.drop size) (by rw [List.length_take, hn]; omega)
    rw [List.append_assoc, List.take_append_drop, hA] at this
    rw [this, List.flatMap_append]
    simp
  rw [← e1]
  exact h1
theorem own_full {α : Type} {C : α → List Value} {size : Nat} (hn : ∀ x, (C x).length = size) {w : World} {base : Nat} {e : TypeId} {n cap g : Nat} {zs : List α} {Z : List Value}
    (h : w.ownsRow base e size (.slice (some ⟨g, 0, none⟩) n cap) n (zs.flatMap C ++ Z)) (hi : zs.length = n) : w.ownsRow base e size (.slice (some ⟨g, 0, none⟩) n cap) n (zs.flatMap C) := by
  have hl := h.1
  have hA : (zs.flatMap C).length = zs.length * size := flat_len (f := C) (n := size) hn _
  rw [List.length_append, hA, hi] at hl
  obtain rfl : Z = [] := List.eq_nil_of_length_eq_zero (by omega)
  simpa using h
theorem there_push {α : Type} {C : α → List Value} {size : Nat} {w : World} {base : Nat} {e : TypeId} {n cap g : Nat} {zs : List α} {Z : List Value}
    (h : w.ownsRow base e size (.slice (some ⟨g, 0, none⟩) n cap) n (zs.flatMap C ++ Z)) (hi : zs.length < n) : w.there g (zs.length * size) size := by
  refine there_own h ?_
  have hm : (zs.length + 1) * size ≤ n * size := Nat.mul_le_mul_right _ hi
  rw [Nat.succ_mul] at hm
  exact hm
set_option maxHeartbeats 4000000 in
set_option maxRecDepth 100000 in
theorem turnedM_any (xs : List Meter) (ma : Option Addr) (mc : Nat) (w : World) (hx : Row tMeter w ma xs.length mc xs) (hl : xs.length ≤ 100000) :
    Calls Try.prog 22 #[.slice ma xs.length mc, .func (.func 23) #[] #[]] w fun e w' => ∃ v, e = .returned v ∧ w'.ownsRow w.heap.size 38 5 v xs.length ((xs.map nM).flatMap meterC) ∧ Below w.heap.size w w' := by
  obtain ⟨n, hn⟩ : ∃ n, n = xs.length := ⟨_, rfl⟩
  rw [← hn] at hx hl ⊢
  have HX := hid hx
  have HN := hid hn
  clear hx hn
  obtain ⟨ti, hi, hz0, hz1, hz2⟩ := info_parts info_meter
  go_enter Try.func22, Try.ntmps22
  go_wp2_with (at_make; refine wpList_make_full _ rfl _ _ 24 rfl w.heap.size 38 ti (.agg (meterC m0).toArray) 5 Try.underlying24 hi hz0 hz1 _ _ _ _ n rfl rfl rfl rfl ?b2 ?b3 ?b4 ?_)
  case b2 => rw [hz2]; omega
  case b3 => unfold maxLen; omega
  case b4 => exact Nat.le_refl _
  intro w1 hown hgrow
  have hb1 : Below w.heap.size w w1 := (Below.refl _ w).grown hgrow (Nat.le_refl _) (by intro k hk; cases hk)
  obtain ⟨g, hg⟩ : ∃ g, g = w.heap.size := ⟨_, rfl⟩
  have HO : Hid (∃ Z, w1.ownsRow g 38 5 (.slice (some ⟨g, 0, none⟩) n n) n (((xs.take 0).map nM).flatMap meterC ++ Z)) := hid ⟨_, by rw [hg]; simpa using hown⟩
  rw [← hg]
  have HG := hid hg
  have HB1 := hid hb1
  clear hown hgrow hg hb1 hi hz0 hz1 hz2
  go_wp2
  go_loopw [13] (fun i wr => ∃ i' : Int, i = .int .i64 i' ∧ 0 ≤ i' ∧ i' ≤ n ∧ Hid (∃ Z, wr.ownsRow g 38 5 (.slice (some ⟨g, 0, none⟩) n n) n (((xs.take i'.toNat).map nM).flatMap meterC ++ Z)) ∧ Hid (Below w.heap.size w wr)) (fun i _ => ((n : Int) - intOf i).toNat)
  case atStart => exact ⟨0, rfl, by omega, by omega, HO, HB1⟩
  case round =>
    obtain ⟨i', rfl, i0, i1, ho, hb⟩ := hrel
    clear HO HB1
    by_cases hlt : i' < n
    · obtain ⟨x, tx⟩ : ∃ x, xs[i'.toNat]? = some x := ⟨_, List.getElem?_eq_getElem (by have := HN.out; omega)⟩
      obtain ⟨bx, ox, e, lbx, x0, x1, x2, x3, x4, _⟩ := meter_at (HX.out.on hb.out) tx
      subst e
      have cS := fun W => plainMeter_any x W
      unfold meterC at cS
      have TX := hid tx
      have LN : Hid (((xs.take i'.toNat).map nM).length = i'.toNat) := hid (by have := HN.out; simp; omega)
      clear tx
      go_wp2_with fail
      refine (cS _).mono ?_
      rintro e w2 ⟨rfl, b2⟩
      have b3 := bel_on (bel_alloc wr _) b2
      obtain ⟨Z, ho⟩ := ho.out
      have o2 := owns_on ho b3
      have th := there_push o2 (by rw [LN.out]; omega)
      rw [LN.out] at th
      have TH := hid th
      have O2 := hid o2
      have HB := hid (bel_on hb.out b3)
      clear cS b2 b3 ho o2 th x0 x1 x2 x3 x4 hb lbx
      go_wp2_with (first
        | (with_reducible refine wpList_store_mid (op := Oper.mk none (Op.store 38 (Operand.tmp 23) (Operand.tmp 22)) _ _ _ _) ?_ 38 (.tmp 23) (.tmp 22) ?_ g (i'.toNat * 5) #[.string x.name, .string x.unit, .int .i64 x.max, .int .i64 0, .int .i64 0] ?_ ?_ ?_ ?_ ?_ ?_; rfl; rfl; go_simp; go_simp; (simpa using TH.out); kernel_rfl; (simp [Value.oneCell']))
        | fail)
      have key : ∃ Z, (w2.setCells g (i'.toNat * 5) [.string x.name, .string x.unit, .int .i64 x.max, .int .i64 0, .int .i64 0]).ownsRow g 38 5 (.slice (some ⟨g, 0, none⟩) n n) n (((xs.take (i' + 1).toNat).map nM).flatMap meterC ++ Z) := by
        obtain ⟨Z', k1, _⟩ := own_push (C := meterC) (size := 5) (fun _ => rfl) O2.out (by rw [LN.out]; omega) (nM x)
        rw [LN.out] at k1
        refine ⟨Z', ?_⟩
        rw [show (i' + 1).toNat = i'.toNat + 1 by omega, List.take_add_one, TX.out, List.map_append]
        exact k1
      have HB2 : Hid (Below w.heap.size w (w2.setCells g (i'.toNat * 5) [.string x.name, .string x.unit, .int .i64 x.max, .int .i64 0, .int .i64 0])) := hid (Below.setRow _ _ _ HB.out (by rw [HG.out]; exact Nat.le_refl _))
      have KEY := hid key
      clear key
      go_wp2
      go_roundw
      case rel => exact ⟨i' + 1, rfl, by omega, by omega, KEY, HB2⟩
      case measure => simp [intOf]; omega
    · obtain rfl : i' = n := by omega
      go_wp2
      go_ret
      refine ⟨_, rfl, ?_, hb.out⟩
      obtain ⟨Z, ho⟩ := ho.out
      have hn := HN.out
      have := own_full (C := meterC) (size := 5) (fun _ => rfl) ho (by rw [List.length_map, List.length_take]; omega)
      rw [← HG.out]
      rw [List.take_of_length_le (by omega)] at this
      exact this
set_option maxHeartbeats 4000000 in
set_option maxRecDepth 100000 in
theorem turnedF_any (xs : List Fee) (ma : Option Addr) (mc : Nat) (w : World) (hx : Row tFee w ma xs.length mc xs) (hl : xs.length ≤ 100000) :
    Calls Try.prog 24 #[.slice ma xs.length mc, .func (.func 25) #[] #[]] w fun e w' => ∃ v, e = .returned v ∧ w'.ownsRow w.heap.size 42 10 v xs.length ((xs.map nF).flatMap feeC) ∧ Below w.heap.size w w' := by
  obtain ⟨n, hn⟩ : ∃ n, n = xs.length := ⟨_, rfl⟩
  rw [← hn] at hx hl ⊢
  have HX := hid hx
  have HN := hid hn
  clear hx hn
  obtain ⟨ti, hi, hz0, hz1, hz2⟩ := info_parts info_fee
  go_enter Try.func24, Try.ntmps24
  go_wp2_with (at_make; refine wpList_make_full _ rfl _ _ 25 rfl w.heap.size 42 ti (.agg (feeC e0).toArray) 10 Try.underlying25 hi hz0 hz1 _ _ _ _ n rfl rfl rfl rfl ?b2 ?b3 ?b4 ?_)
  case b2 => rw [hz2]; omega
  case b3 => unfold maxLen; omega
  case b4 => exact Nat.le_refl _
  intro w1 hown hgrow
  have hb1 : Below w.heap.size w w1 := (Below.refl _ w).grown hgrow (Nat.le_refl _) (by intro k hk; cases hk)
  obtain ⟨g, hg⟩ : ∃ g, g = w.heap.size := ⟨_, rfl⟩
  have HO : Hid (∃ Z, w1.ownsRow g 42 10 (.slice (some ⟨g, 0, none⟩) n n) n (((xs.take 0).map nF).flatMap feeC ++ Z)) := hid ⟨_, by rw [hg]; simpa using hown⟩
  rw [← hg]
  have HG := hid hg
  have HB1 := hid hb1
  clear hown hgrow hg hb1 hi hz0 hz1 hz2
  go_wp2
  go_loopw [13] (fun i wr => ∃ i' : Int, i = .int .i64 i' ∧ 0 ≤ i' ∧ i' ≤ n ∧ Hid (∃ Z, wr.ownsRow g 42 10 (.slice (some ⟨g, 0, none⟩) n n) n (((xs.take i'.toNat).map nF).flatMap feeC ++ Z)) ∧ Hid (Below w.heap.size w wr)) (fun i _ => ((n : Int) - intOf i).toNat)
  case atStart => exact ⟨0, rfl, by omega, by omega, HO, HB1⟩
  case round =>
    obtain ⟨i', rfl, i0, i1, ho, hb⟩ := hrel
    clear HO HB1
    by_cases hlt : i' < n
    · obtain ⟨x, tx⟩ : ∃ x, xs[i'.toNat]? = some x := ⟨_, List.getElem?_eq_getElem (by have := HN.out; omega)⟩
      obtain ⟨bx, ox, e, lbx, x0, x1, x2, x3, x4, x5, x6, x7, x8, x9, _⟩ := fee_at (HX.out.on hb.out) tx
      subst e
      have cS := fun W => plainFee_any x W
      unfold feeC at cS
      have TX := hid tx
      have LN : Hid (((xs.take i'.toNat).map nF).length = i'.toNat) := hid (by have := HN.out; simp; omega)
      clear tx
      go_wp2_with fail
      refine (cS _).mono ?_
      rintro e w2 ⟨rfl, b2⟩
      have b3 := bel_on (bel_alloc wr _) b2
      obtain ⟨Z, ho⟩ := ho.out
      have o2 := owns_on ho b3
      have th := there_push o2 (by rw [LN.out]; omega)
      rw [LN.out] at th
      have TH := hid th
      have O2 := hid o2
      have HB := hid (bel_on hb.out b3)
      clear cS b2 b3 ho o2 th x0 x1 x2 x3 x4 x5 x6 x7 x8 x9 hb lbx
      go_wp2_with (first
        | (with_reducible refine wpList_store_mid (op := Oper.mk none (Op.store 42 (Operand.tmp 23) (Operand.tmp 22)) _ _ _ _) ?_ 42 (.tmp 23) (.tmp 22) ?_ g (i'.toNat * 10) #[.int .i64 x.amount, .bool x.win.has, .int .i64 x.win.a.y, .int .i64 x.win.a.m, .int .i64 x.win.a.d, .int .i64 x.win.b.y, .int .i64 x.win.b.m, .int .i64 x.win.b.d, .int .i64 0, .int .i64 0] ?_ ?_ ?_ ?_ ?_ ?_; rfl; rfl; go_simp; go_simp; (simpa using TH.out); kernel_rfl; (simp [Value.oneCell']))
        | fail)
      have key : ∃ Z, (w2.setCells g (i'.toNat * 10) [.int .i64 x.amount, .bool x.win.has, .int .i64 x.win.a.y, .int .i64 x.win.a.m, .int .i64 x.win.a.d, .int .i64 x.win.b.y, .int .i64 x.win.b.m, .int .i64 x.win.b.d, .int .i64 0, .int .i64 0]).ownsRow g 42 10 (.slice (some ⟨g, 0, none⟩) n n) n (((xs.take (i' + 1).toNat).map nF).flatMap feeC ++ Z) := by
        obtain ⟨Z', k1, _⟩ := own_push (C := feeC) (size := 10) (fun _ => rfl) O2.out (by rw [LN.out]; omega) (nF x)
        rw [LN.out] at k1
        refine ⟨Z', ?_⟩
        rw [show (i' + 1).toNat = i'.toNat + 1 by omega, List.take_add_one, TX.out, List.map_append]
        exact k1
      have HB2 : Hid (Below w.heap.size w (w2.setCells g (i'.toNat * 10) [.int .i64 x.amount, .bool x.win.has, .int .i64 x.win.a.y, .int .i64 x.win.a.m, .int .i64 x.win.a.d, .int .i64 x.win.b.y, .int .i64 x.win.b.m, .int .i64 x.win.b.d, .int .i64 0, .int .i64 0])) := hid (Below.setRow _ _ _ HB.out (by rw [HG.out]; exact Nat.le_refl _))
      have KEY := hid key
      clear key
      go_wp2
      go_roundw
      case rel => exact ⟨i' + 1, rfl, by omega, by omega, KEY, HB2⟩
      case measure => simp [intOf]; omega
    · obtain rfl : i' = n := by omega
      go_wp2
      go_ret
      refine ⟨_, rfl, ?_, hb.out⟩
      obtain ⟨Z, ho⟩ := ho.out
      have hn := HN.out
      have := own_full (C := feeC) (size := 10) (fun _ => rfl) ho (by rw [List.length_map, List.length_take]; omega)
      rw [← HG.out]
      rw [List.take_of_length_le (by omega)] at this
      exact this
end Go.Proofs.Ytfeccjcdpiopaaa.Te
