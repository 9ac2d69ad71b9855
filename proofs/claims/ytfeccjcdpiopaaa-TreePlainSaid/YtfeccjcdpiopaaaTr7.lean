/- Package tree, walked: Meter. -/
import Derived.Test.YtfeccjcdpiopaaaTr5
import Derived.Test.YtfeccjcdpiopaaaL06d
namespace Go.Proofs.Ytfeccjcdpiopaaa.Te
open Go.RowKit Go.Sort P Mm R6 Tl L06

theorem named_any (m : Meter) (name : ByteArray) (b : Nat) (w : World) (hk : w.cell? ⟨b, 0, none⟩ = some (.string name)) (hb : b < w.heap.size) :
    Calls Try.prog 38 #[.agg (meterC m).toArray, .pointer (some ⟨b, 0, none⟩)] w fun e w' => e = .returned (.bool (m.name.toList == name.toList)) ∧ Below w.heap.size w w' := by
  obtain ⟨w1, hw1⟩ : ∃ w1, w1 = w.alloc (.cells (meterC m).toArray 38) := ⟨_, rfl⟩
  have b1 : Below w.heap.size w w1 := by rw [hw1]; exact bel_alloc ..
  unfold meterC at hw1 ⊢
  rcases Bool.eq_false_or_eq_true (m.name.toList == name.toList) with h | h <;> rw [h]
  all_goals
    go_enter Try.func38, Try.ntmps38
    go_wp2
    go_ret
    rw [← hw1]
    exact ⟨rfl, b1⟩
set_option maxHeartbeats 4000000 in
set_option maxRecDepth 100000 in
theorem idxM_any (xs : List Meter) (ma : Option Addr) (mc : Nat) (name : ByteArray) (b : Nat) (w : World) (hx : Row tMeter w ma xs.length mc xs) (hb : b < w.heap.size) (hk : w.cell? ⟨b, 0, none⟩ = some (.string name)) :
    Calls Try.prog 54 #[.slice ma xs.length mc, .func (.func 38) #[] #[.pointer (some ⟨b, 0, none⟩)]] w fun e w' => e = .returned (.int .i64 (scan name xs 0)) ∧ Below w.heap.size w w' := by
  obtain ⟨n, hn⟩ : ∃ n, n = xs.length := ⟨_, rfl⟩
  have u1 := hx.hcap
  have u2 := hx.hmax
  obtain ⟨R, hR⟩ : ∃ R, R = scan name xs 0 := ⟨_, rfl⟩
  rw [← hR]
  have HR := hid hR
  rw [← hn] at hx u1 ⊢
  have HX := hid hx
  have HN := hid hn
  have HL := hid hb
  have HK := hid hk
  clear hR hx hn hb hk
  go_enter Try.func54, Try.ntmps54
  go_wp2
  go_loopw [8] (fun i wr => ∃ i' : Int, i = .int .i64 i' ∧ 0 ≤ i' ∧ i' ≤ n ∧ Hid (R = scan name (xs.drop i'.toNat) i') ∧ Hid (Below w.heap.size w wr)) (fun i _ => ((n : Int) - intOf i).toNat)
  case atStart => exact ⟨0, rfl, by omega, by omega, hid HR.out, hid (Below.refl _ _)⟩
  case round =>
    obtain ⟨i', rfl, i0, i1, hh, hb⟩ := hrel
    by_cases hlt : i' < n
    · obtain ⟨x, tx⟩ : ∃ x, xs[i'.toNat]? = some x := ⟨_, List.getElem?_eq_getElem (by have := HN.out; omega)⟩
      have K : Hid (R = if x.name = name then i' else scan name (xs.drop (i' + 1).toNat) (i' + 1)) := hid (by
        have := scan_drop (name := name) tx
        rw [show ((i'.toNat : Nat) : Int) = i' by omega] at this
        rw [hh.out, this, show (i' + 1).toNat = i'.toNat + 1 by omega])
      obtain ⟨bx, ox, e, lbx, x0, x1, x2, x3, x4, _⟩ := meter_at (HX.out.on hb.out) tx
      subst e
      have cS := named_any x name b wr (by rw [hb.out.cell HL.out]; exact HK.out) (Nat.lt_of_lt_of_le HL.out hb.out.size)
      unfold meterC at cS
      clear tx hh
      go_wp2_with fail
      refine cS.mono ?_
      rintro e w' ⟨rfl, b3⟩
      have HB := hid (bel_on hb.out b3)
      clear cS b3
      rcases Bool.eq_false_or_eq_true (x.name.toList == name.toList) with g | g
      · have K2 : Hid (R = i') := hid (by rw [K.out, if_pos (str_eq.1 (eq_of_beq g))])
        rw [g]
        go_wp2
        go_ret
        exact ⟨by rw [K2.out]; rfl, HB.out⟩
      · have K2 : Hid (R = scan name (xs.drop (i' + 1).toNat) (i' + 1)) := hid (by rw [K.out, if_neg (fun e => by rw [e] at g; simp at g)])
        rw [g]
        go_wp2
        go_roundw
        case rel => exact ⟨i' + 1, rfl, by omega, by omega, K2, HB⟩
        case measure => simp [intOf]; omega
    · obtain rfl : i' = n := by omega
      have K2 : Hid (R = -1) := hid (by rw [hh.out, List.drop_eq_nil_of_le (by have := HN.out; omega)]; rfl)
      go_wp2
      go_ret
      exact ⟨by rw [K2.out]; rfl, hb.out⟩
theorem findMt_any (xs : List Meter) (ma : Option Addr) (mc : Nat) (name : ByteArray) (b : Nat) (w : World) (hx : Row tMeter w ma xs.length mc xs) (hb : b < w.heap.size) (hk : w.cell? ⟨b, 0, none⟩ = some (.string name)) :
    Calls Try.prog 37 #[.slice ma xs.length mc, .func (.func 38) #[] #[.pointer (some ⟨b, 0, none⟩)]] w fun e w' => e = .returned (.int .i64 (scan name xs 0)) ∧ Below w.heap.size w w' := by
  have c := idxM_any xs ma mc name b w hx hb hk
  clear hx hb hk
  go_enter Try.func37, Try.ntmps37
  go_wp2_with fail
  refine c.mono ?_
  rintro e w' ⟨rfl, b⟩
  clear c
  go_wp2
  go_ret
  exact ⟨rfl, b⟩
set_option maxHeartbeats 4000000 in
set_option maxRecDepth 100000 in
theorem meter_any (p : Plan) (name : ByteArray) (ma : Option Addr) (mc : Nat) (fa : Option Addr) (fc : Nat) (ca : Option Addr) (cc : Nat) (w : World) (hp : PlanLies w (planC p ma mc fa fc ca cc) p ma mc fa fc ca cc) :
    Calls Try.prog 16 #[.agg (planC p ma mc fa fc ca cc).toArray, .string name] w fun e w' => e = .returned (.int .i64 (findM p name)) ∧ Below w.heap.size w w' := by
  obtain ⟨w1, hw1⟩ : ∃ w1, w1 = (w.alloc (.cells (planC p ma mc fa fc ca cc).toArray 28)).alloc (.cells #[.string name] 9) := ⟨_, rfl⟩
  have b1 : Below w.heap.size w w1 := by rw [hw1]; exact bel_alloc2 ..
  have s1 : w1.heap.size = w.heap.size + 2 := by rw [hw1]; simp
  have c := findMt_any p.meters ma mc name (w.heap.size + 1) w1 (hp.meters.on b1) (by omega) (by rw [hw1]; exact cell2b (b := [.string name]) rfl)
  rw [scan_all] at c
  have HW1 := hid hw1
  clear hw1 s1 hp
  unfold planC at HW1 ⊢
  go_enter Try.func16, Try.ntmps16
  go_wp2_with fail
  rw [← HW1.out]
  refine c.mono ?_
  rintro e w' ⟨rfl, b⟩
  clear c
  go_wp2
  go_ret
  exact ⟨rfl, bel_on b1 b⟩
end Go.Proofs.Ytfeccjcdpiopaaa.Te
