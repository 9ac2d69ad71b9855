/- The laws of layer 6: TreeNames (pure part and walk). -/
import Derived.Test.YtfeccjcdpiopaaaL06b
namespace Go.Proofs.Ytfeccjcdpiopaaa.L06
open Go.RowKit Go.Sort P Mm R6

theorem bl_tri : ∀ x y : List UInt8, Op.bytesLess x y = false → (Op.bytesLess y x || y == x) = true
  | [], [], _ => by simp
  | [], b :: y, h => by simp [Op.bytesLess] at h
  | a :: x, [], _ => by simp [Op.bytesLess]
  | a :: x, b :: y, h => by
    rw [Op.bytesLess] at h ⊢
    simp only [Bool.or_eq_false_iff, Bool.and_eq_false_iff, decide_eq_false_iff_not, beq_eq_false_iff_ne] at h
    obtain ⟨h1, h2⟩ := h
    by_cases e : a = b
    · subst e
      have h3 : Op.bytesLess x y = false := by
        rcases h2 with h | h
        · exact absurd rfl h
        · exact h
      have := bl_tri x y h3
      simp only [Bool.or_eq_true, beq_iff_eq] at this ⊢
      rcases this with h | h
      · left; right; simp [h]
      · right; rw [h]
    · have : b < a := by
        rw [UInt8.lt_iff_toNat_lt] at h1 ⊢
        have : a.toNat ≠ b.toNat := fun h => e (UInt8.toNat_inj.1 h)
        omega
      simp [this]
/-- How often a text stands among the first k. -/
def cnt (l : List ByteArray) (s : ByteArray) (k : Nat) : Int := ((l.take k).countP fun x => decide (x = s) : Nat)
theorem cnt_bnd (l : List ByteArray) (s : ByteArray) (k : Nat) : 0 ≤ cnt l s k ∧ cnt l s k ≤ k := by
  have h : (l.take k).countP (fun x => decide (x = s)) ≤ (l.take k).length := List.countP_le_length
  have := List.length_take_le k l
  unfold cnt
  omega
theorem cnt_next {l : List ByteArray} {s x : ByteArray} {k : Nat} (h : l[k]? = some x) : cnt l s (k + 1) = cnt l s k + (if x = s then 1 else 0) := by
  unfold cnt
  rw [List.take_add_one, h, List.countP_append]
  by_cases e : x = s <;> simp [e]
theorem cnt_all {l m : List ByteArray} {s : ByteArray} (h : l.Perm m) : cnt l s l.length = cnt m s l.length := by
  unfold cnt
  rw [List.take_length, List.take_of_length_le (by rw [h.length_eq]; exact Nat.le_refl _), h.countP_eq]
/-- The first place of a name, counted on from k. -/
def scan (name : ByteArray) : List Meter → Int → Int
  | [], _ => -1
  | m :: t, k => if m.name = name then k else scan name t (k + 1)
theorem scan_find (name : ByteArray) : ∀ (l : List Meter) (k : Int), scan name l k = (match l.findIdx? (fun m => decide (m.name = name)) with
  | some i => (i : Int) + k
  | none => -1)
  | [], k => by simp [scan]
  | m :: t, k => by
    rw [scan, List.findIdx?_cons, scan_find name t (k + 1)]
    by_cases e : m.name = name
    · simp [e]
    · simp only [e, if_false, decide_false, Bool.false_eq_true]
      cases t.findIdx? (fun m => decide (m.name = name)) with
      | none => rfl
      | some i => show (i : Int) + (k + 1) = ((i + 1 : Nat) : Int) + k; omega
theorem scan_all (p : Plan) (name : ByteArray) : scan name p.meters 0 = findM p name := by
  rw [scan_find]
  unfold findM
  cases p.meters.findIdx? (fun m => decide (m.name = name)) with
  | none => rfl
  | some i => simp
theorem scan_drop {name : ByteArray} {l : List Meter} {i : Nat} {m : Meter} (h : l[i]? = some m) : scan name (l.drop i) i = if m.name = name then (i : Int) else scan name (l.drop (i + 1)) ((i : Int) + 1) := by
  obtain ⟨hl, e⟩ := List.getElem?_eq_some_iff.1 h
  rw [List.drop_eq_getElem_cons hl, scan, e]
set_option maxHeartbeats 4000000 in
set_option maxRecDepth 100000 in
theorem names_walk {K : World → Prop} (D : Tr K) (p : Plan) (name : ByteArray) (ma : Option Addr) (mc : Nat) (fa : Option Addr) (fc : Nat) (ca : Option Addr) (cc : Nat) (w : World) (k : K w)
    (hp : PlanLies w (planC p ma mc fa fc ca cc) p ma mc fa fc ca cc) :
    Calls Try.prog 5 #[.agg (planC p ma mc fa fc ca cc).toArray, .string name] w fun e w' => e = .returned (.bool true) ∧ Below w.heap.size w w' := by
  obtain ⟨w1, hw1⟩ : ∃ w1, w1 = w.alloc (.cells (planC p ma mc fa fc ca cc).toArray 28) := ⟨_, rfl⟩
  have b1 : Below w.heap.size w w1 := by rw [hw1]; exact bel_alloc _ _
  have s1 : w1.heap.size = w.heap.size + 1 := by rw [hw1]; simp
  have cp : ∀ (j : Nat) (u : Value), (planC p ma mc fa fc ca cc)[j]? = some u → ∀ W, Below w1.heap.size w1 W → W.cell? ⟨w.heap.size, j, none⟩ = some u := fun j u h W hb => by
    rw [hb.cell (by show w.heap.size < w1.heap.size; omega), hw1]
    exact box13 h
  have cA := alive_any D w1 (D.keep k b1)
  have gP := fun W (hb : Below w.heap.size w W) => great_any p ma mc fa fc ca cc W (hp.on hb)
  have CP : Hid (∀ W, Below w1.heap.size w1 W → W.cell? ⟨w.heap.size, 0, none⟩ = some (.string p.name) ∧ W.cell? ⟨w.heap.size, 1, none⟩ = some (.string p.cur) ∧ W.cell? ⟨w.heap.size, 2, none⟩ = some (.int .i64 p.a.y) ∧ W.cell? ⟨w.heap.size, 3, none⟩ = some (.int .i64 p.a.m) ∧ W.cell? ⟨w.heap.size, 4, none⟩ = some (.int .i64 p.a.d) ∧ W.cell? ⟨w.heap.size, 5, none⟩ = some (.int .i64 p.b.y) ∧ W.cell? ⟨w.heap.size, 6, none⟩ = some (.int .i64 p.b.m) ∧ W.cell? ⟨w.heap.size, 7, none⟩ = some (.int .i64 p.b.d) ∧ W.cell? ⟨w.heap.size, 8, none⟩ = some (.slice ma p.meters.length mc) ∧ W.cell? ⟨w.heap.size, 9, none⟩ = some (.slice fa p.fees.length fc) ∧ W.cell? ⟨w.heap.size, 10, none⟩ = some (.slice ca p.charges.length cc) ∧ W.cell? ⟨w.heap.size, 11, none⟩ = some (.int .i64 p.line) ∧ W.cell? ⟨w.heap.size, 12, none⟩ = some (.int .i64 p.col)) := hid fun W h => ⟨cp 0 _ rfl W h, cp 1 _ rfl W h, cp 2 _ rfl W h, cp 3 _ rfl W h, cp 4 _ rfl W h, cp 5 _ rfl W h, cp 6 _ rfl W h, cp 7 _ rfl W h, cp 8 _ rfl W h, cp 9 _ rfl W h, cp 10 _ rfl W h, cp 11 _ rfl W h, cp 12 _ rfl W h⟩
  have HW1 := hid hw1
  have HB1 := hid b1
  have lt1 := hid (show w.heap.size < w1.heap.size by omega)
  clear hw1 b1 s1 cp
  unfold planC at HW1 gP ⊢
  have GP := hid gP
  clear gP
  go_enter Try.func5, Try.ntmps5
  go_wp2_with fail
  rw [← HW1.out]
  refine cA.mono ?_
  rintro e w3 ⟨rfl, b3⟩
  have P3 := CP.out w3 b3
  have l3 : w.heap.size < w3.heap.size := Nat.lt_of_lt_of_le lt1.out b3.size
  go_wp2_with fail
  refine (GP.out _ (bel_on HB1.out b3)).mono ?_
  rintro e w4 ⟨rfl, b4x⟩
  have b4 := bel_on b3 b4x
  have P4 := CP.out w4 b4
  have l4 : w.heap.size < w4.heap.size := Nat.lt_of_lt_of_le l3 b4x.size
  clear P3 l3
  rcases Bool.eq_false_or_eq_true (great p) with g1 | g1
  · rw [g1]
    clear P4
    go_wp2
    go_ret
    exact ⟨rfl, bel_on HB1.out b4⟩
  · rw [g1]
    by_cases g2 : (200 : Int) < (name.size : Int)
    · clear P4
      go_wp2
      go_ret
      exact ⟨rfl, bel_on HB1.out b4⟩
    · have sp := small_of g1
      have sm : p.meters.length ≤ 1000 := by have := sp.meters; omega
      go_wp2_with fail
      refine (D.names p ma mc fa fc ca cc w4 (D.keep k (bel_on HB1.out b4)) sm (hp.on (bel_on HB1.out b4))).mono ?_
      rintro e w5 ⟨ao, cap, l, rfl, hl, hpm, hris, b5x⟩
      have b5 := bel_on b4 b5x
      have hlen : l.length = p.meters.length := by rw [hpm.length_eq, List.length_map]
      have P5 := CP.out w5 b5
      have l5 : w.heap.size < w5.heap.size := Nat.lt_of_lt_of_le l4 b5x.size
      obtain ⟨n, hn⟩ : ∃ n, n = p.meters.length := ⟨_, rfl⟩
      rw [hlen, ← hn]
      rw [← hn] at P5
      have HN := hid hn
      have HL := hid hl
      have HPM := hid hpm
      have HR := hid hris
      have HLEN := hid hlen
      have HM := hid hp.meters
      have hn20 : n ≤ 20 := by rw [hn]; exact sp.meters
      clear P4 l4 hl hpm hris hlen hn sm
      go_wp2_with fail
      have HM5 := hid (HM.out.on (bel_on HB1.out b5))
      go_loop [32] (fun i => ∃ i' : Int, i = .int .i64 i' ∧ 0 ≤ i' ∧ i' ≤ n) (fun i => ((n : Int) - intOf i).toNat)
      case atStart => exact ⟨0, rfl, by omega, by omega⟩
      case round =>
        obtain ⟨i', rfl, i0, i1⟩ := hrel
        by_cases hlt : i' < n
        · obtain ⟨s, ht⟩ : ∃ s, l[i'.toNat]? = some s := ⟨_, List.getElem?_eq_getElem (by rw [HLEN.out, ← HN.out]; omega)⟩
          obtain ⟨b, o, e, lb, a0⟩ := str_at HL.out ht
          subst e
          have HT := hid ht
          by_cases hz' : 0 < i'
          · obtain ⟨t, ht1⟩ : ∃ t, l[(i' - 1).toNat]? = some t := ⟨_, List.getElem?_eq_getElem (by rw [HLEN.out, ← HN.out]; omega)⟩
            obtain ⟨b2, o2, e, _, a1⟩ := str_at HL.out ht1
            simp only [Option.some.injEq, Addr.mk.injEq, and_true] at e
            obtain ⟨rfl, rfl⟩ := e
            have hcmp : (!(Op.bytesLess t.toList s.toList || t.toList == s.toList)) = false := by
              have h1 := HR.out (i' - 1).toNat t s ht1 (by rw [show (i' - 1).toNat + 1 = i'.toNat by omega]; exact ht)
              have := bl_tri _ _ h1
              rw [this]; rfl
            rw [show (i' - 1).toNat = i'.toNat - 1 by omega] at a1
            clear ht ht1
            go_wp2
            clear a0 a1 hcmp
            go_loop [8, 9, 50] (fun a b k => ∃ k' A B : Int, a = .int .i64 A ∧ b = .int .i64 B ∧ k = .int .i64 k' ∧ 0 ≤ k' ∧ k' ≤ n ∧ 0 ≤ A ∧ A ≤ k' ∧ 0 ≤ B ∧ B ≤ k' ∧ Hid (A = cnt l s k'.toNat ∧ B = cnt (p.meters.map fun m => m.name) s k'.toNat)) (fun _ _ k => ((n : Int) - intOf k).toNat)
            case atStart => exact ⟨0, 0, 0, rfl, rfl, rfl, by omega, by omega, by omega, by omega, by omega, by omega, hid ⟨by simp [cnt], by simp [cnt]⟩⟩
            case round =>
              obtain ⟨k', A, B, rfl, rfl, rfl, k0, k1, A0, A1, B0, B1, hc⟩ := hrel
              by_cases hkn : k' < n
              · obtain ⟨x, hx⟩ : ∃ x, l[k'.toNat]? = some x := ⟨_, List.getElem?_eq_getElem (by rw [HLEN.out, ← HN.out]; omega)⟩
                obtain ⟨m, hm⟩ : ∃ m, p.meters[k'.toNat]? = some m := ⟨_, List.getElem?_eq_getElem (by rw [← HN.out]; omega)⟩
                obtain ⟨b3, o3, e, _, c0⟩ := str_at HL.out hx
                simp only [Option.some.injEq, Addr.mk.injEq, and_true] at e
                obtain ⟨rfl, rfl⟩ := e
                obtain ⟨bm, om, e, lm, c1, _⟩ := meter_at HM5.out hm
                subst e
                have hA := hid (cnt_next (s := s) hx)
                have hB := hid (cnt_next (s := s) (l := p.meters.map fun m => m.name) (x := m.name) (k := k'.toNat) (by rw [List.getElem?_map, hm]; rfl))
                have kk := hid (show (k' + 1).toNat = k'.toNat + 1 by omega)
                clear hx hm
                rcases Bool.eq_false_or_eq_true (x.toList == s.toList) with e1 | e1 <;> rcases Bool.eq_false_or_eq_true (m.name.toList == s.toList) with e2 | e2
                · have f1 := hid (beq_str.1 e1)
                  have f2 := hid (beq_str.1 e2)
                  go_wp2
                  go_round
                  case rel => exact ⟨k' + 1, A + 1, B + 1, rfl, rfl, rfl, by omega, by omega, by omega, by omega, by omega, by omega, hid ⟨by rw [kk.out, hA.out, if_pos f1.out, hc.out.1], by rw [kk.out, hB.out, if_pos f2.out, hc.out.2]⟩⟩
                  case measure => simp [intOf]; omega
                · have f1 := hid (beq_str.1 e1)
                  have f2 := hid (show ¬ m.name = s from fun h => by rw [beq_str.2 h] at e2; cases e2)
                  go_wp2
                  go_round
                  case rel => exact ⟨k' + 1, A + 1, B, rfl, rfl, rfl, by omega, by omega, by omega, by omega, by omega, by omega, hid ⟨by rw [kk.out, hA.out, if_pos f1.out, hc.out.1], by rw [kk.out, hB.out, if_neg f2.out, hc.out.2, Int.add_zero]⟩⟩
                  case measure => simp [intOf]; omega
                · have f1 := hid (show ¬ x = s from fun h => by rw [beq_str.2 h] at e1; cases e1)
                  have f2 := hid (beq_str.1 e2)
                  go_wp2
                  go_round
                  case rel => exact ⟨k' + 1, A, B + 1, rfl, rfl, rfl, by omega, by omega, by omega, by omega, by omega, by omega, hid ⟨by rw [kk.out, hA.out, if_neg f1.out, hc.out.1, Int.add_zero], by rw [kk.out, hB.out, if_pos f2.out, hc.out.2]⟩⟩
                  case measure => simp [intOf]; omega
                · have f1 := hid (show ¬ x = s from fun h => by rw [beq_str.2 h] at e1; cases e1)
                  have f2 := hid (show ¬ m.name = s from fun h => by rw [beq_str.2 h] at e2; cases e2)
                  go_wp2
                  go_round
                  case rel => exact ⟨k' + 1, A, B, rfl, rfl, rfl, by omega, by omega, by omega, by omega, by omega, by omega, hid ⟨by rw [kk.out, hA.out, if_neg f1.out, hc.out.1, Int.add_zero], by rw [kk.out, hB.out, if_neg f2.out, hc.out.2, Int.add_zero]⟩⟩
                  case measure => simp [intOf]; omega
              · obtain rfl : k' = n := by omega
                obtain rfl : A = B := by
                  rw [hc.out.1, hc.out.2, show (n : Int).toNat = l.length by rw [HLEN.out, ← HN.out]; omega]
                  exact cnt_all HPM.out
                go_wp2
                go_round
                case rel => exact ⟨i' + 1, rfl, by omega, by omega⟩
                case measure => simp [intOf]; omega
          · clear ht
            go_wp2
            clear a0
            go_loop [8, 9, 50] (fun a b k => ∃ k' A B : Int, a = .int .i64 A ∧ b = .int .i64 B ∧ k = .int .i64 k' ∧ 0 ≤ k' ∧ k' ≤ n ∧ 0 ≤ A ∧ A ≤ k' ∧ 0 ≤ B ∧ B ≤ k' ∧ Hid (A = cnt l s k'.toNat ∧ B = cnt (p.meters.map fun m => m.name) s k'.toNat)) (fun _ _ k => ((n : Int) - intOf k).toNat)
            case atStart => exact ⟨0, 0, 0, rfl, rfl, rfl, by omega, by omega, by omega, by omega, by omega, by omega, hid ⟨by simp [cnt], by simp [cnt]⟩⟩
            case round =>
              obtain ⟨k', A, B, rfl, rfl, rfl, k0, k1, A0, A1, B0, B1, hc⟩ := hrel
              by_cases hkn : k' < n
              · obtain ⟨x, hx⟩ : ∃ x, l[k'.toNat]? = some x := ⟨_, List.getElem?_eq_getElem (by rw [HLEN.out, ← HN.out]; omega)⟩
                obtain ⟨m, hm⟩ : ∃ m, p.meters[k'.toNat]? = some m := ⟨_, List.getElem?_eq_getElem (by rw [← HN.out]; omega)⟩
                obtain ⟨b3, o3, e, _, c0⟩ := str_at HL.out hx
                simp only [Option.some.injEq, Addr.mk.injEq, and_true] at e
                obtain ⟨rfl, rfl⟩ := e
                obtain ⟨bm, om, e, lm, c1, _⟩ := meter_at HM5.out hm
                subst e
                have hA := hid (cnt_next (s := s) hx)
                have hB := hid (cnt_next (s := s) (l := p.meters.map fun m => m.name) (x := m.name) (k := k'.toNat) (by rw [List.getElem?_map, hm]; rfl))
                have kk := hid (show (k' + 1).toNat = k'.toNat + 1 by omega)
                clear hx hm
                rcases Bool.eq_false_or_eq_true (x.toList == s.toList) with e1 | e1 <;> rcases Bool.eq_false_or_eq_true (m.name.toList == s.toList) with e2 | e2
                · have f1 := hid (beq_str.1 e1)
                  have f2 := hid (beq_str.1 e2)
                  go_wp2
                  go_round
                  case rel => exact ⟨k' + 1, A + 1, B + 1, rfl, rfl, rfl, by omega, by omega, by omega, by omega, by omega, by omega, hid ⟨by rw [kk.out, hA.out, if_pos f1.out, hc.out.1], by rw [kk.out, hB.out, if_pos f2.out, hc.out.2]⟩⟩
                  case measure => simp [intOf]; omega
                · have f1 := hid (beq_str.1 e1)
                  have f2 := hid (show ¬ m.name = s from fun h => by rw [beq_str.2 h] at e2; cases e2)
                  go_wp2
                  go_round
                  case rel => exact ⟨k' + 1, A + 1, B, rfl, rfl, rfl, by omega, by omega, by omega, by omega, by omega, by omega, hid ⟨by rw [kk.out, hA.out, if_pos f1.out, hc.out.1], by rw [kk.out, hB.out, if_neg f2.out, hc.out.2, Int.add_zero]⟩⟩
                  case measure => simp [intOf]; omega
                · have f1 := hid (show ¬ x = s from fun h => by rw [beq_str.2 h] at e1; cases e1)
                  have f2 := hid (beq_str.1 e2)
                  go_wp2
                  go_round
                  case rel => exact ⟨k' + 1, A, B + 1, rfl, rfl, rfl, by omega, by omega, by omega, by omega, by omega, by omega, hid ⟨by rw [kk.out, hA.out, if_neg f1.out, hc.out.1, Int.add_zero], by rw [kk.out, hB.out, if_pos f2.out, hc.out.2]⟩⟩
                  case measure => simp [intOf]; omega
                · have f1 := hid (show ¬ x = s from fun h => by rw [beq_str.2 h] at e1; cases e1)
                  have f2 := hid (show ¬ m.name = s from fun h => by rw [beq_str.2 h] at e2; cases e2)
                  go_wp2
                  go_round
                  case rel => exact ⟨k' + 1, A, B, rfl, rfl, rfl, by omega, by omega, by omega, by omega, by omega, by omega, hid ⟨by rw [kk.out, hA.out, if_neg f1.out, hc.out.1, Int.add_zero], by rw [kk.out, hB.out, if_neg f2.out, hc.out.2, Int.add_zero]⟩⟩
                  case measure => simp [intOf]; omega
              · obtain rfl : k' = n := by omega
                obtain rfl : A = B := by
                  rw [hc.out.1, hc.out.2, show (n : Int).toNat = l.length by rw [HLEN.out, ← HN.out]; omega]
                  exact cnt_all HPM.out
                go_wp2
                go_round
                case rel => exact ⟨i' + 1, rfl, by omega, by omega⟩
                case measure => simp [intOf]; omega
        · obtain rfl : i' = n := by omega
          clear hlt i0 i1
          go_wp2
          go_loop [11, 12] (fun wa i => ∃ i' W : Int, wa = .int .i64 W ∧ i = .int .i64 i' ∧ -1 ≤ i' ∧ i' < n ∧ Hid (W = scan name (p.meters.drop (i' + 1).toNat) (i' + 1))) (fun _ i => (intOf i + 1).toNat)
          case atStart => exact ⟨(n : Int) - 1, -1, rfl, rfl, by omega, by omega, hid (by rw [show ((n : Int) - 1 + 1).toNat = p.meters.length by rw [← HN.out]; omega, List.drop_length]; rfl)⟩
          case round =>
            obtain ⟨i', W, rfl, rfl, i0, i1, hW⟩ := hrel
            by_cases hge : 0 ≤ i'
            · obtain ⟨m, hm⟩ : ∃ m, p.meters[i'.toNat]? = some m := ⟨_, List.getElem?_eq_getElem (by rw [← HN.out]; omega)⟩
              obtain ⟨bm, om, e, lm, c1, _⟩ := meter_at HM5.out hm
              subst e
              have hS := hid (scan_drop (name := name) hm)
              have kk := hid (show (i' + 1).toNat = i'.toNat + 1 ∧ ((i'.toNat : Nat) : Int) = i' by omega)
              clear hm
              rcases Bool.eq_false_or_eq_true (m.name.toList == name.toList) with e2 | e2
              · have f2 := hid (beq_str.1 e2)
                go_wp2
                go_round
                case rel => exact ⟨i' - 1, i', rfl, rfl, by omega, by omega, hid (by
                  rw [show i' - 1 + 1 = i' by omega]
                  have := hS.out
                  rw [if_pos f2.out, kk.out.2] at this
                  exact this.symm)⟩
                case measure => simp [intOf]; omega
              · have f2 := hid (show ¬ m.name = name from fun h => by rw [beq_str.2 h] at e2; cases e2)
                go_wp2
                go_round
                case rel => exact ⟨i' - 1, W, rfl, rfl, by omega, by omega, hid (by
                  rw [show i' - 1 + 1 = i' by omega]
                  have := hS.out
                  rw [if_neg f2.out, kk.out.2, ← kk.out.1] at this
                  rw [this]
                  exact hW.out)⟩
                case measure => simp [intOf]; omega
            · obtain rfl : i' = -1 := by omega
              obtain rfl : W = findM p name := by rw [hW.out, ← scan_all]; rfl
              have CM := D.meter p name ma mc fa fc ca cc w5 (D.keep k (bel_on HB1.out b5)) (hp.on (bel_on HB1.out b5))
              unfold planC at CM
              rw [← HN.out] at CM
              go_wp2_with fail
              refine CM.mono ?_
              rintro e w6 ⟨rfl, b6⟩
              go_wp2
              go_ret
              exact ⟨rfl, bel_on HB1.out (bel_on b5 b6)⟩
end Go.Proofs.Ytfeccjcdpiopaaa.L06
