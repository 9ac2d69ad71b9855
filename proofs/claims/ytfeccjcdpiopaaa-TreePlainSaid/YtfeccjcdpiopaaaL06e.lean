/- The laws of layer 6: TreeRows. -/
import Derived.Test.YtfeccjcdpiopaaaL06d
namespace Go.Proofs.Ytfeccjcdpiopaaa.L06
open Go.RowKit Go.Sort P Mm R6

theorem above_any (n k : Int) (w : World) : Calls Try.prog 17 #[.int .i64 n, .int .i64 k] w fun e w' => e = .returned (.bool (decide (k < n))) ∧ Below w.heap.size w w' := by
  go_enter Try.func17, Try.ntmps17
  go_wp2
  go_ret
  exact ⟨rfl, Below.refl _ _⟩
/-- What the rows' walk wants after its first k places. -/
def wantU (xs ys : List Int) (k : Nat) : Bool := ((xs.length : Int) == (ys.length : Int)) && (List.range k).all fun j => decide (j < ys.length) && decide (xs.getD j 0 < ys.getD j 0)
theorem wantU_next (xs ys : List Int) (k : Nat) : wantU xs ys (k + 1) = (wantU xs ys k && (decide (k < ys.length) && decide (xs.getD k 0 < ys.getD k 0))) := by
  unfold wantU
  rw [List.range_succ, List.all_append, Bool.and_assoc]
  simp
theorem wantU_len {xs ys : List Int} {k : Nat} (h : true = wantU xs ys k) : xs.length = ys.length := by
  unfold wantU at h
  simp only [Bool.true_eq, Bool.and_eq_true, beq_iff_eq] at h
  omega
/-- The first number above kk, counted on from k. -/
def scanK (kk : Int) : List Int → Int → Int
  | [], _ => -1
  | x :: t, k => if kk < x then k else scanK kk t (k + 1)
theorem scanK_drop {kk : Int} {l : List Int} {i : Nat} {x : Int} (h : l[i]? = some x) : scanK kk (l.drop i) i = if kk < x then (i : Int) else scanK kk (l.drop (i + 1)) ((i : Int) + 1) := by
  obtain ⟨hl, e⟩ := List.getElem?_eq_some_iff.1 h
  rw [List.drop_eq_getElem_cons hl, scanK, e]
/-- What Each and Find answer when the rows' law asks them. -/
structure Ew (K : World → Prop) : Prop where
  each : ∀ (xs ys : List Int) (ma : Option Addr) (mc : Nat) (fa : Option Addr) (fc : Nat) (w : World), K w → xs.length ≤ 200 → ys.length ≤ 200 → Row tI w ma xs.length mc xs → Row tI w fa ys.length fc ys →
    Calls Try.prog 18 #[.slice ma xs.length mc, .slice fa ys.length fc, .func (.func 19) #[] #[]] w fun e w' => e = .returned (.bool (wantU xs ys xs.length)) ∧ Below w.heap.size w w'
  find : ∀ (xs : List Int) (ma : Option Addr) (mc : Nat) (kk : Int) (b : Nat) (w : World), K w → xs.length ≤ 200 → Row tI w ma xs.length mc xs → b < w.heap.size → w.cell? ⟨b, 0, none⟩ = some (.int .i64 kk) →
    Calls Try.prog 20 #[.slice ma xs.length mc, .func (.func 21) #[] #[.pointer (some ⟨b, 0, none⟩)]] w fun e w' => e = .returned (.int .i64 (scanK kk xs 0)) ∧ Below w.heap.size w w'
set_option maxHeartbeats 4000000 in
set_option maxRecDepth 100000 in
theorem rows_walk {K : World → Prop} (D : Tr K) (E : Ew K) (xs ys : List Int) (ma : Option Addr) (mc : Nat) (fa : Option Addr) (fc : Nat) (kk : Int) (w : World) (k : K w)
    (hp : Row tI w ma xs.length mc xs) (hq : Row tI w fa ys.length fc ys) :
    Calls Try.prog 6 #[.slice ma xs.length mc, .slice fa ys.length fc, .int .i64 kk] w fun e w' => e = .returned (.bool true) ∧ Below w.heap.size w w' := by
  go_enter Try.func6, Try.ntmps6
  obtain ⟨w1, hw1⟩ : ∃ w1, w1 = w.alloc (.cells #[.int .i64 kk] 3) := ⟨_, rfl⟩
  have b1 : Below w.heap.size w w1 := by rw [hw1]; exact bel_alloc _ _
  have s1 : w1.heap.size = w.heap.size + 1 := by rw [hw1]; simp
  have ck : ∀ W, Below w1.heap.size w1 W → W.cell? ⟨w.heap.size, 0, none⟩ = some (.int .i64 kk) := fun W hb => by
    rw [hb.cell (by show w.heap.size < w1.heap.size; omega), hw1]
    simp
  have HCK := hid ck
  have HW1 := hid hw1
  have HB1 := hid b1
  have lt1 := hid (show w.heap.size < w1.heap.size by omega)
  have cA := alive_any D w1 (D.keep k b1)
  clear hw1 b1 s1 ck
  go_wp2_with fail
  rw [← HW1.out]
  refine cA.mono ?_
  rintro e w3 ⟨rfl, b3⟩
  have b3' := bel_on HB1.out b3
  have l3 : w.heap.size < w3.heap.size := Nat.lt_of_lt_of_le lt1.out b3.size
  clear cA
  by_cases g1 : (200 : Int) < (xs.length : Int)
  · go_wp2
    go_ret
    exact ⟨rfl, b3'⟩
  by_cases g2 : (200 : Int) < (ys.length : Int)
  · go_wp2
    go_ret
    exact ⟨rfl, b3'⟩
  have HP := hid (hp.on b3')
  have HQ := hid (hq.on b3')
  have ck := HCK.out w3 b3
  clear ck
  go_wp2
  go_loopw [7, 28] (fun wa i wr => ∃ (i' : Int) (W : Bool), wa = .bool W ∧ i = .int .i64 i' ∧ 0 ≤ i' ∧ i' ≤ xs.length ∧ Hid (W = wantU xs ys i'.toNat) ∧ Hid (Below w3.heap.size w3 wr)) (fun _ i _ => ((xs.length : Int) - intOf i).toNat)
  case atStart => exact ⟨0, _, rfl, rfl, by omega, by omega, hid (by simp [wantU]), hid (Below.refl _ _)⟩
  case round =>
    obtain ⟨i', W, rfl, rfl, i0, i1, hW, hb⟩ := hrel
    have hbb := hid (bel_on b3 hb.out)
    by_cases hlt : i' < xs.length
    · have tn := hid (show (i' + 1).toNat = i'.toNat + 1 by omega)
      have B2 := fun d os => hid (bel_on hb.out (below_regrown wr d os))
      cases W with
      | false =>
        have hN := hid (show false = wantU xs ys (i' + 1).toNat by rw [tn.out, wantU_next, ← hW.out, Bool.false_and])
        go_wp2_with fail
        refine wp_region_quiet_below (by kernel_rfl) (by kernel_rfl) ?_
        repeat (go_big_quiet_step (fail))
        refine wpQuiet_nil ?_
        intro _ hw'
        obtain ⟨⟨dq, osq⟩, hw''⟩ := hw'
        subst hw''
        have B3 := B2 dq osq
        clear B2
        go_wp2
        go_roundw
        case rel => exact ⟨i' + 1, _, rfl, rfl, by omega, by omega, hN, B3⟩
        case measure => simp [intOf]; omega
      | true =>
        have hle := wantU_len hW.out
        obtain ⟨x, hx⟩ : ∃ x, xs[i'.toNat]? = some x := ⟨_, List.getElem?_eq_getElem (by omega)⟩
        obtain ⟨y, hy⟩ : ∃ y, ys[i'.toNat]? = some y := ⟨_, List.getElem?_eq_getElem (by omega)⟩
        obtain ⟨bx, ox, e, lx, c1⟩ := int_at (HP.out.on hb.out) hx
        subst e
        obtain ⟨bY, oy, e, ly, c2⟩ := int_at (HQ.out.on hb.out) hy
        subst e
        have hN := hid (show decide (x < y) = wantU xs ys (i' + 1).toNat by
          rw [tn.out, wantU_next, ← hW.out, List.getD_eq_getElem?_getD, List.getD_eq_getElem?_getD, hx, hy, decide_eq_true (show i'.toNat < ys.length by omega)]
          rfl)
        have hly : i' < (ys.length : Int) := by omega
        have k0 := cell_regrown c1
        have k1 := cell_regrown c2
        have qA := fun b c => Calls.regrown_of (above_any y x (grow (redrawn wr b) c))
        clear hx hy c1 c2
        go_wp2_with fail
        refine wp_region_quiet_below (by kernel_rfl) (by kernel_rfl) ?_
        repeat (go_big_quiet_step (first | (go_at_call 17; exact qA _ _)))
        refine wpQuiet_nil ?_
        intro _ hw'
        obtain ⟨⟨dq, osq⟩, hw''⟩ := hw'
        subst hw''
        have B3 := B2 dq osq
        clear B2 qA k0 k1
        go_wp2
        go_roundw
        case rel => exact ⟨i' + 1, _, rfl, rfl, by omega, by omega, hN, B3⟩
        case measure => simp [intOf]; omega
    · obtain rfl : i' = xs.length := by omega
      clear hlt i0 i1
      have l4 : w.heap.size < wr.heap.size := Nat.lt_of_lt_of_le l3 hb.out.size
      have HP4 := hid (HP.out.on hb.out)
      have HQ4 := hid (HQ.out.on hb.out)
      obtain ⟨wq, hwq⟩ : ∃ wq, wq = wr := ⟨_, rfl⟩
      subst hwq
      go_wp2
      go_loopw [9, 10] (fun fi i wr => ∃ i' F : Int, fi = .int .i64 F ∧ i = .int .i64 i' ∧ -1 ≤ i' ∧ i' < xs.length ∧ Hid (F = scanK kk (xs.drop (i' + 1).toNat) (i' + 1)) ∧ Hid (Below wq.heap.size wq wr)) (fun _ i _ => (intOf i + 1).toNat)
      case atStart => exact ⟨(xs.length : Int) - 1, -1, rfl, rfl, by omega, by omega, hid (by rw [show ((xs.length : Int) - 1 + 1).toNat = xs.length by omega, List.drop_length]; rfl), hid (Below.refl _ _)⟩
      case round =>
        obtain ⟨i', F, rfl, rfl, i0, i1, hF, hc⟩ := hrel
        have hcc := hid (bel_on hbb.out hc.out)
        have l5 : w.heap.size < wr.heap.size := Nat.lt_of_lt_of_le l4 hc.out.size
        by_cases hge : 0 ≤ i'
        · obtain ⟨x, hx⟩ : ∃ x, xs[i'.toNat]? = some x := ⟨_, List.getElem?_eq_getElem (by omega)⟩
          obtain ⟨bx, ox, e, lx, c1⟩ := int_at (HP4.out.on hc.out) hx
          subst e
          have hS := hid (scanK_drop (kk := kk) hx)
          have tn := hid (show (i' + 1).toNat = i'.toNat + 1 ∧ ((i'.toNat : Nat) : Int) = i' by omega)
          have k0 := cell_regrown c1
          have k1 := cell_regrown (HCK.out wr hcc.out)
          have B2 := fun d os => hid (bel_on hc.out (below_regrown wr d os))
          clear hx c1
          by_cases e2 : kk < x
          · have qA := fun b c => by
              have h := Calls.regrown_of (above_any x kk (grow (redrawn wr b) c))
              rw [show decide (kk < x) = true by simp [e2]] at h
              exact h
            have f2 := hid e2
            clear e2
            go_wp2_with fail
            refine wp_region_quiet_below (by kernel_rfl) (by kernel_rfl) ?_
            repeat (go_big_quiet_step (first | (go_at_call 17; exact qA _ _)))
            refine wpQuiet_nil ?_
            intro _ hw'
            obtain ⟨⟨dq, osq⟩, hw''⟩ := hw'
            subst hw''
            have B3 := B2 dq osq
            clear B2 qA k0 k1
            go_wp2
            go_roundw
            case rel => exact ⟨i' - 1, i', rfl, rfl, by omega, by omega, hid (by
              rw [show i' - 1 + 1 = i' by omega]
              have := hS.out
              rw [if_pos f2.out, tn.out.2] at this
              exact this.symm), B3⟩
            case measure => simp [intOf]; omega
          · have qA := fun b c => by
              have h := Calls.regrown_of (above_any x kk (grow (redrawn wr b) c))
              rw [show decide (kk < x) = false by simp [e2]] at h
              exact h
            have f2 := hid e2
            clear e2
            go_wp2_with fail
            refine wp_region_quiet_below (by kernel_rfl) (by kernel_rfl) ?_
            repeat (go_big_quiet_step (first | (go_at_call 17; exact qA _ _)))
            refine wpQuiet_nil ?_
            intro _ hw'
            obtain ⟨⟨dq, osq⟩, hw''⟩ := hw'
            subst hw''
            have B3 := B2 dq osq
            clear B2 qA k0 k1
            go_wp2
            go_roundw
            case rel => exact ⟨i' - 1, F, rfl, rfl, by omega, by omega, hid (by
              rw [show i' - 1 + 1 = i' by omega]
              have := hS.out
              rw [if_neg (Int.not_lt.2 f2.out), tn.out.2, ← tn.out.1] at this
              rw [this]
              exact hF.out), B3⟩
            case measure => simp [intOf]; omega
        · obtain rfl : i' = -1 := by omega
          have kr := D.keep k (bel_on HB1.out hcc.out)
          have ck := HCK.out wr hcc.out
          have cE := E.each xs ys ma mc fa fc wr kr (by omega) (by omega) (HP4.out.on hc.out) (HQ4.out.on hc.out)
          obtain rfl : W = wantU xs ys xs.length := by rw [hW.out, Int.toNat_natCast]
          obtain ⟨R, hR⟩ : ∃ R, R = wantU xs ys xs.length := ⟨_, rfl⟩
          rw [← hR] at cE ⊢
          obtain rfl : F = scanK kk xs 0 := by rw [hF.out]; rfl
          obtain ⟨G, hG⟩ : ∃ G, G = scanK kk xs 0 := ⟨_, rfl⟩
          rw [← hG]
          have HG := hid hG
          clear hR hG hF hW
          go_wp2_with fail
          refine cE.mono ?_
          rintro e w6 ⟨rfl, b6⟩
          have b6' := bel_on hcc.out b6
          have cF := E.find xs ma mc kk w.heap.size w6 (D.keep k (bel_on HB1.out b6')) (by omega) ((HP4.out.on hc.out).on b6) (Nat.lt_of_lt_of_le l5 b6.size) (HCK.out w6 b6')
          rw [← HG.out] at cF
          go_wp2_with fail
          refine cF.mono ?_
          rintro e w7 ⟨rfl, b7⟩
          go_wp2_with fail
          go_ret
          exact ⟨rfl, bel_on HB1.out (bel_on b6' b7)⟩
end Go.Proofs.Ytfeccjcdpiopaaa.L06
