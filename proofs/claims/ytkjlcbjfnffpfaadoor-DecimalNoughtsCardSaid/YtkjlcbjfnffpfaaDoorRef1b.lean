/- What the document's answers for layer 1 come to, the second half: back from a wide number, and the product. -/
import Derived.Test.YtkjlcbjfnffpfaaDoorRef1
import Derived.LoopN
namespace Go.Proofs.YtkjlcbjfnffpfaaDoor.R1
open Go.RowKit P

theorem int_neg (l : Int) (w : World) (h1 : 1 ≤ l) (h2 : ¬ 9223372036854775808 < l) :
    Calls Tryd.prog 27 #[.agg #[.bool true, .int .u64 0, .int .u64 l]] w fun e w' => e = .returned (.tuple #[.int .i64 (-l), .bool true]) ∧ Below w.heap.size w w' := by
  have ht : decide (9223372036854775808 < l) = false := by simpa using h2
  have h0 : (l == 0) = false := by simp; omega
  have E : Hid (wrap64 (wrap64 (-wrap64 (IntKind.u64.wrap (l - 1))) - 1) = -l) := by
    show _ = _
    rw [u64_mod]; unfold wrap64; omega
  clear h1 h2
  go_enter Tryd.func27, Tryd.ntmps27
  go_wp2
  go_ret2
  exact ⟨Ex.ret_2 E.out rfl, (Below.refl _ _).alloc (Nat.le_refl _) _⟩
theorem int_pos (l : Int) (w : World) (h1 : 0 ≤ l) (h2 : ¬ 9223372036854775808 ≤ l) :
    Calls Tryd.prog 27 #[.agg #[.bool false, .int .u64 0, .int .u64 l]] w fun e w' => e = .returned (.tuple #[.int .i64 l, .bool true]) ∧ Below w.heap.size w w' := by
  have ht : decide (9223372036854775808 ≤ l) = false := by simpa using h2
  have E : Hid (wrap64 l = l) := by show _ = _; unfold wrap64; omega
  clear h1 h2
  go_enter Tryd.func27, Tryd.ntmps27
  go_wp2
  go_ret2
  exact ⟨Ex.ret_2 E.out rfl, (Below.refl _ _).alloc (Nat.le_refl _) _⟩
theorem int_past (s : Bool) (l : Int) (w : World) (h2 : if s = true then 9223372036854775808 < l else 9223372036854775808 ≤ l) :
    Calls Tryd.prog 27 #[.agg #[.bool s, .int .u64 0, .int .u64 l]] w fun e w' => e = .returned (.tuple #[.int .i64 0, .bool false]) ∧ Below w.heap.size w w' := by
  cases s
  · have ht : decide (9223372036854775808 ≤ l) = true := by simpa using h2
    clear h2
    go_enter Tryd.func27, Tryd.ntmps27
    go_wp2
    go_ret2
    exact ⟨rfl, (Below.refl _ _).alloc (Nat.le_refl _) _⟩
  · have ht : decide (9223372036854775808 < l) = true := by simpa using h2
    clear h2
    go_enter Tryd.func27, Tryd.ntmps27
    go_wp2
    go_ret2
    exact ⟨rfl, (Below.refl _ _).alloc (Nat.le_refl _) _⟩
theorem int_high (s : Bool) (m : Nat) (w : World) (ht : (((hiN m : Nat) : Int) == 0) = false) :
    Calls Tryd.prog 27 #[wide s m] w fun e w' => e = .returned (.tuple #[.int .i64 0, .bool false]) ∧ Below w.heap.size w w' := by
  unfold wide
  go_enter Tryd.func27, Tryd.ntmps27
  go_wp2
  go_ret2
  exact ⟨rfl, (Below.refl _ _).alloc (Nat.le_refl _) _⟩
theorem int_any (v : Int) (w : World) :
    Calls Tryd.prog 27 #[W v] w fun e w' => e = .returned (.tuple #[.int .i64 (cut64 v), .bool (ok64 v)]) ∧ Below w.heap.size w w' := by
  by_cases hh : hiN v.natAbs = 0
  · have hl : ((loN v.natAbs : Nat) : Int) = (v.natAbs : Int) := by unfold loN; unfold hiN at hh; omega
    have e : W v = .agg #[.bool (decide (v < 0)), .int .u64 0, .int .u64 (v.natAbs : Int)] := by
      unfold W wide; rw [hh, hl]; rfl
    rw [e]
    by_cases hi : I64 v
    · rw [cut64_t hi, ok64_t hi]
      unfold I64 at hi
      by_cases h0 : v < 0
      · rw [decide_eq_true h0]
        have := int_neg (v.natAbs : Int) w (by omega) (by omega)
        rw [show -(v.natAbs : Int) = v by omega] at this
        exact this
      · rw [decide_eq_false h0]
        have := int_pos (v.natAbs : Int) w (by omega) (by omega)
        rw [show (v.natAbs : Int) = v by omega] at this ⊢
        exact this
    · rw [cut64_f hi, ok64_f hi]
      unfold I64 at hi
      refine int_past _ _ w ?_
      by_cases h0 : v < 0
      · rw [decide_eq_true h0, if_pos rfl]; omega
      · rw [decide_eq_false h0, if_neg (by simp)]; omega
  · have ht : (((hiN v.natAbs : Nat) : Int) == 0) = false := by simp; omega
    have hn : ¬ I64 v := by unfold I64; unfold hiN at hh; omega
    rw [cut64_f hn, ok64_f hn]
    exact int_high _ _ w ht
theorem of_small (a : Int) (w : World) (ha : I64 a) :
    Calls Tryd.prog 30 #[.int .i64 a] w fun e w' => e = .returned (.agg #[.bool (decide (a < 0)), .int .u64 0, .int .u64 (a.natAbs : Int)]) ∧ Below w.heap.size w w' := by
  have h := of_any a w ha
  have hh : hiN a.natAbs = 0 := hiN_small (by unfold I64 at ha; omega)
  have hl : loN a.natAbs = a.natAbs := loN_small (by unfold I64 at ha; omega)
  unfold W wide at h
  rw [hh, hl] at h
  exact h
theorem plus_eq {s t : Bool} {m n : Nat} {h1 l1 h2 l2 : Int} (w : World) (e1 : h1 = hiN m) (e2 : l1 = loN m) (e3 : h2 = hiN n) (e4 : l2 = loN n) (hs : m + n < two128) :
    Calls Tryd.prog 38 #[.agg #[.bool s, .int .u64 h1, .int .u64 l1], .agg #[.bool t, .int .u64 h2, .int .u64 l2]] w
      fun e w' => e = .returned (.agg #[.bool false, .int .u64 (hiN (m + n)), .int .u64 (loN (m + n))]) ∧ Below w.heap.size w w' := by
  subst e1 e2 e3 e4
  exact plus_any s t m n w hs
theorem mul_sign {a b : Int} : (decide (a * b < 0)) = (!(decide (a < 0) == decide (b < 0)) && !((a.natAbs * b.natAbs) == 0)) := by
  rw [← Int.natAbs_mul]
  by_cases ha : a < 0
  · by_cases hb : b < 0
    · have : 0 < a * b := Int.mul_pos_of_neg_of_neg ha hb
      simp [ha, hb]; omega
    · by_cases h0 : b = 0
      · subst h0; simp
      · have : a * b < 0 := Int.mul_neg_of_neg_of_pos ha (by omega)
        simp [ha, hb, this]; omega
  · by_cases hb : b < 0
    · by_cases h0 : a = 0
      · subst h0; simp
      · have : a * b < 0 := Int.mul_neg_of_pos_of_neg (by omega) hb
        simp [ha, hb, this]; omega
    · have : 0 ≤ a * b := Int.mul_nonneg (by omega) (by omega)
      simp [ha, hb]; omega
set_option maxHeartbeats 1000000 in
set_option maxRecDepth 100000 in
theorem mul_walk (a b : Int) (w : World) (ha : I64 a) (hb : I64 b) (t z : Bool) (ht : (decide (a < 0) == decide (b < 0)) = !t) (hz : t = true → (M0 a.natAbs b.natAbs + M1 a.natAbs b.natAbs + M2 a.natAbs b.natAbs == 0) = z) :
    Calls Tryd.prog 29 #[.int .i64 a, .int .i64 b] w fun e w' => e = .returned (wide (t && !z) (M0 a.natAbs b.natAbs + M1 a.natAbs b.natAbs + M2 a.natAbs b.natAbs)) ∧ Below w.heap.size w w' := by
  have hx : a.natAbs ≤ 9223372036854775808 := by unfold I64 at ha; omega
  have hy : b.natAbs ≤ 9223372036854775808 := by unfold I64 at hb; omega
  have E1 := hid (m0_hi hx hy)
  have E2 := hid (@m0_lo a.natAbs b.natAbs)
  have E3 := hid (@m1_hi a.natAbs b.natAbs hy)
  have E4 := hid (@m1_lo a.natAbs b.natAbs)
  have E5 := hid (@m2_hi a.natAbs b.natAbs hx)
  have E6 := hid (@m2_lo a.natAbs b.natAbs)
  have S2 : Hid (M0 a.natAbs b.natAbs + M1 a.natAbs b.natAbs + M2 a.natAbs b.natAbs < two128) := by show _ < _; rw [mul_parts]; exact prod_lt hx hy
  have S1 : Hid (M0 a.natAbs b.natAbs + M1 a.natAbs b.natAbs < two128) := by have := S2.out; show _ < _; omega
  have HA := hid ha
  have HB := hid hb
  have HT := hid ht
  have HZ := hid hz
  clear ha hb hx hy ht hz
  go_enter Tryd.func29, Tryd.ntmps29
  go_wp2_with fail
  refine (of_small _ _ HA.out).mono ?_; rintro e w1 ⟨rfl, hb1⟩
  obtain ⟨hc1, hf1⟩ := bcell hb1
  have k0 : w.heap.size < w1.heap.size := by have := hb1.size; simp at this; omega
  go_wp2_with fail
  refine (of_small _ _ HB.out).mono ?_; rintro e w2 ⟨rfl, hb2⟩
  obtain ⟨hc2, hf2⟩ := bcell hb2
  have j0 : w1.heap.size ≤ w2.heap.size := hb2.size
  have j1 : w.heap.size < w2.heap.size := by omega
  generalize hx : a.natAbs = x at *
  generalize hy : b.natAbs = y at *
  have HX := hid hx.symm
  have HY := hid hy.symm
  clear hx hy
  generalize decide (a < 0) = sa at *
  generalize decide (b < 0) = sb at *
  have hbel : Below w.heap.size w w2 := below_via (below_via ((Below.refl _ _).alloc (Nat.le_refl _) _) hb1 (by simp)) hb2 (by omega)
  have hc : w2.cell? ⟨w.heap.size, 0, none⟩ = some (.bool false) ∧ w2.cell? ⟨w.heap.size, 1, none⟩ = some (.int .u64 0) ∧ w2.cell? ⟨w.heap.size, 2, none⟩ = some (.int .u64 0) := by
    refine ⟨?_, ?_, ?_⟩ <;> (rw [hc2 _ _ (by omega), hc1 _ _ (by simp)]; simp)
  obtain ⟨c0, c1, c2⟩ := hc
  have hf : ∀ o, w2.frozen? ⟨w.heap.size, o, none⟩ = false := by
    intro o; rw [hf2 _ _ (by omega), hf1 _ _ (by simp)]; simp
  have BEL := hid hbel
  clear hc1 hf1 hc2 hf2 hb1 hb2 j0 k0 hbel
  go_wp2
  go_quiet (fail)
  go_wp2
  go_quiet (fail)
  go_wp2
  refine wp_loop_rounds 3 ?_
  rw [rounds_succ]
  go_wp2_with fail
  refine (plus_eq _ E1.out E2.out E3.out E4.out S1.out).mono ?_; rintro e w3 ⟨rfl, hb3⟩
  have q0 : w.heap.size < w2.heap.size + 1 := by omega
  have q1 : w.heap.size < w2.heap.size + 1 + 1 := by omega
  have q2 : w.heap.size < w2.heap.size + 1 + 1 + 1 := by omega
  obtain ⟨hc3, hf3⟩ := bcell hb3
  obtain ⟨p30, p31, p32, p33, p34⟩ : w.heap.size < w3.heap.size ∧ w2.heap.size < w3.heap.size ∧ w2.heap.size + 1 < w3.heap.size ∧ w2.heap.size + 1 + 1 < w3.heap.size ∧ w2.heap.size + 1 + 1 + 1 < w3.heap.size := by
    have := hb3.size; simp at this; omega
  have ra3 : w3.cell? ⟨w.heap.size, 0, none⟩ = some (.bool false) := by rw [hc3 _ _ (by first | omega | (simp <;> omega))]; go_simp
  have rb3 : w3.cell? ⟨w.heap.size, 1, none⟩ = some (.int .u64 0) := by rw [hc3 _ _ (by first | omega | (simp <;> omega))]; go_simp
  have rc3 : w3.cell? ⟨w.heap.size, 2, none⟩ = some (.int .u64 0) := by rw [hc3 _ _ (by first | omega | (simp <;> omega))]; go_simp
  have xa3 : w3.cell? ⟨w2.heap.size, 0, none⟩ = some (.bool sa) := by rw [hc3 _ _ (by first | omega | (simp <;> omega))]; go_simp
  have ya3 : w3.cell? ⟨w2.heap.size + 1, 0, none⟩ = some (.bool sb) := by rw [hc3 _ _ (by first | omega | (simp <;> omega))]; go_simp
  have oa3 : w3.cell? ⟨w2.heap.size + 1 + 1, 0, none⟩ = some (.bool false) := by rw [hc3 _ _ (by first | omega | (simp <;> omega))]; go_simp
  have ob3 : w3.cell? ⟨w2.heap.size + 1 + 1, 1, none⟩ = some (.int .u64 (IntKind.u64.wrap ((x : Int) / 4294967296 * ((y : Int) / 4294967296)))) := by rw [hc3 _ _ (by first | omega | (simp <;> omega))]; go_simp
  have oc3 : w3.cell? ⟨w2.heap.size + 1 + 1, 2, none⟩ = some (.int .u64 (IntKind.u64.wrap ((x : Int) % 4294967296 * ((y : Int) % 4294967296)))) := by rw [hc3 _ _ (by first | omega | (simp <;> omega))]; go_simp
  have ta3 : w3.cell? ⟨w2.heap.size + 1 + 1 + 1, 0, none⟩ = some (.int .u64 (IntKind.u64.wrap ((x : Int) % 4294967296 * ((y : Int) / 4294967296)))) := by rw [hc3 _ _ (by first | omega | (simp <;> omega))]; go_simp
  have tb3 : w3.cell? ⟨w2.heap.size + 1 + 1 + 1, 1, none⟩ = some (.int .u64 (IntKind.u64.wrap ((x : Int) / 4294967296 * ((y : Int) % 4294967296)))) := by rw [hc3 _ _ (by first | omega | (simp <;> omega))]; go_simp
  have fr3 : ∀ o, w3.frozen? ⟨w.heap.size, o, none⟩ = false := by intro o; rw [hf3 _ _ (by first | omega | (simp <;> omega))]; go_simp
  have fo3 : ∀ o, w3.frozen? ⟨w2.heap.size + 1 + 1, o, none⟩ = false := by intro o; rw [hf3 _ _ (by first | omega | (simp <;> omega))]; go_simp
  have B3 : Hid (Below w.heap.size w w3) := by
    refine below_via ?_ hb3 (by first | omega | (simp <;> omega))
    repeat (first | (refine Below.setCell ?_ (by first | omega | (simp <;> omega)) _) | (refine Below.alloc ?_ (by first | omega | (simp <;> omega)) _) | (refine below_drewN ?_ _) | exact BEL.out)
  clear hc3 hf3 hb3 BEL c0 c1 c2 hf
  go_wp2
  rw [rounds_succ]
  go_wp2_with fail
  refine (plus_eq _ rfl rfl E5.out E6.out S2.out).mono ?_; rintro e w4 ⟨rfl, hb4⟩
  obtain ⟨hc4, hf4⟩ := bcell hb4
  obtain ⟨p40, p41, p42, p43, p44⟩ : w.heap.size < w4.heap.size ∧ w2.heap.size < w4.heap.size ∧ w2.heap.size + 1 < w4.heap.size ∧ w2.heap.size + 1 + 1 < w4.heap.size ∧ w2.heap.size + 1 + 1 + 1 < w4.heap.size := by
    have := hb4.size; simp at this; omega
  have ra4 : w4.cell? ⟨w.heap.size, 0, none⟩ = some (.bool false) := by rw [hc4 _ _ (by first | omega | (simp <;> omega))]; go_simp
  have rb4 : w4.cell? ⟨w.heap.size, 1, none⟩ = some (.int .u64 0) := by rw [hc4 _ _ (by first | omega | (simp <;> omega))]; go_simp
  have rc4 : w4.cell? ⟨w.heap.size, 2, none⟩ = some (.int .u64 0) := by rw [hc4 _ _ (by first | omega | (simp <;> omega))]; go_simp
  have xa4 : w4.cell? ⟨w2.heap.size, 0, none⟩ = some (.bool sa) := by rw [hc4 _ _ (by first | omega | (simp <;> omega))]; go_simp
  have ya4 : w4.cell? ⟨w2.heap.size + 1, 0, none⟩ = some (.bool sb) := by rw [hc4 _ _ (by first | omega | (simp <;> omega))]; go_simp
  have oa4 : w4.cell? ⟨w2.heap.size + 1 + 1, 0, none⟩ = some (.bool false) := by rw [hc4 _ _ (by first | omega | (simp <;> omega))]; go_simp
  have ob4 : w4.cell? ⟨w2.heap.size + 1 + 1, 1, none⟩ = some (.int .u64 (hiN (M0 x y + M1 x y))) := by rw [hc4 _ _ (by first | omega | (simp <;> omega))]; go_simp
  have oc4 : w4.cell? ⟨w2.heap.size + 1 + 1, 2, none⟩ = some (.int .u64 (loN (M0 x y + M1 x y))) := by rw [hc4 _ _ (by first | omega | (simp <;> omega))]; go_simp
  have fr4 : ∀ o, w4.frozen? ⟨w.heap.size, o, none⟩ = false := by intro o; rw [hf4 _ _ (by first | omega | (simp <;> omega))]; go_simp
  have fo4 : ∀ o, w4.frozen? ⟨w2.heap.size + 1 + 1, o, none⟩ = false := by intro o; rw [hf4 _ _ (by first | omega | (simp <;> omega))]; go_simp
  have B4 : Hid (Below w.heap.size w w4) := by
    refine below_via ?_ hb4 (by first | omega | (simp <;> omega))
    repeat (first | (refine Below.setCell ?_ (by first | omega | (simp <;> omega)) _) | (refine Below.alloc ?_ (by first | omega | (simp <;> omega)) _) | (refine below_drewN ?_ _) | exact B3.out)
  clear hc4 hf4 hb4 B3 ra3 rb3 rc3 xa3 ya3 oa3 ob3 oc3 fr3 fo3 ta3 tb3 p30 p31 p32 p33 p34
  go_wp2
  rw [rounds_succ]
  cases t
  · have HS : (sa == sb) = true := HT.out
    go_wp2
    refine bodyPost_ret (v := .agg #[.bool false, .int .u64 (hiN (M0 x y + M1 x y + M2 x y)), .int .u64 (loN (M0 x y + M1 x y + M2 x y))])
      (by simp only [results, Tryd.results29]; go_simp) rfl ⟨by simp only [wide, Bool.false_and]; rw [HX.out, HY.out], ?_⟩
    repeat (first | (refine Below.setCell ?_ (by first | omega | (simp <;> omega)) _) | (refine Below.alloc ?_ (by first | omega | (simp <;> omega)) _) | (refine below_drewN ?_ _) | exact B4.out)
  · have HS : (sa == sb) = false := HT.out
    have hz := HZ.out rfl
    have HZ1 := hid hz
    clear hz
    go_wp2_with fail
    refine (zero_any _ _ _).mono ?_; rintro e w5 ⟨rfl, hb5⟩; rw [HZ1.out]
    obtain ⟨hc5, hf5⟩ := bcell hb5
    obtain ⟨p50, p51, p52, p53, p54⟩ : w.heap.size < w5.heap.size ∧ w2.heap.size < w5.heap.size ∧ w2.heap.size + 1 < w5.heap.size ∧ w2.heap.size + 1 + 1 < w5.heap.size ∧ w2.heap.size + 1 + 1 + 1 < w5.heap.size := by
      have := hb5.size; simp at this; omega
    have ra5 : w5.cell? ⟨w.heap.size, 0, none⟩ = some (.bool false) := by rw [hc5 _ _ (by first | omega | (simp <;> omega))]; go_simp
    have rb5 : w5.cell? ⟨w.heap.size, 1, none⟩ = some (.int .u64 0) := by rw [hc5 _ _ (by first | omega | (simp <;> omega))]; go_simp
    have rc5 : w5.cell? ⟨w.heap.size, 2, none⟩ = some (.int .u64 0) := by rw [hc5 _ _ (by first | omega | (simp <;> omega))]; go_simp
    have oa5 : w5.cell? ⟨w2.heap.size + 1 + 1, 0, none⟩ = some (.bool false) := by rw [hc5 _ _ (by first | omega | (simp <;> omega))]; go_simp
    have ob5 : w5.cell? ⟨w2.heap.size + 1 + 1, 1, none⟩ = some (.int .u64 (hiN (M0 x y + M1 x y + M2 x y))) := by rw [hc5 _ _ (by first | omega | (simp <;> omega))]; go_simp
    have oc5 : w5.cell? ⟨w2.heap.size + 1 + 1, 2, none⟩ = some (.int .u64 (loN (M0 x y + M1 x y + M2 x y))) := by rw [hc5 _ _ (by first | omega | (simp <;> omega))]; go_simp
    have fr5 : ∀ o, w5.frozen? ⟨w.heap.size, o, none⟩ = false := by intro o; rw [hf5 _ _ (by first | omega | (simp <;> omega))]; go_simp
    have fo5 : ∀ o, w5.frozen? ⟨w2.heap.size + 1 + 1, o, none⟩ = false := by intro o; rw [hf5 _ _ (by first | omega | (simp <;> omega))]; go_simp
    have B5 : Hid (Below w.heap.size w w5) := by
      refine below_via ?_ hb5 (by first | omega | (simp <;> omega))
      repeat (first | (refine Below.setCell ?_ (by first | omega | (simp <;> omega)) _) | exact B4.out)
    clear hc5 hf5 hb5 B4 ra4 rb4 rc4 xa4 ya4 oa4 ob4 oc4 fr4 fo4
    go_wp2
    refine bodyPost_ret (v := .agg #[.bool (!z), .int .u64 (hiN (M0 x y + M1 x y + M2 x y)), .int .u64 (loN (M0 x y + M1 x y + M2 x y))])
      (by simp only [results, Tryd.results29]; go_simp) rfl ⟨by simp only [wide, Bool.true_and]; rw [HX.out, HY.out], ?_⟩
    repeat (first | (refine Below.setCell ?_ (by first | omega | (simp <;> omega)) _) | exact B5.out)
theorem mul_any (a b : Int) (w : World) (ha : I64 a) (hb : I64 b) :
    Calls Tryd.prog 29 #[.int .i64 a, .int .i64 b] w fun e w' => e = .returned (W (a * b)) ∧ Below w.heap.size w w' := by
  have h := mul_walk a b w ha hb (!(decide (a < 0) == decide (b < 0))) (M0 a.natAbs b.natAbs + M1 a.natAbs b.natAbs + M2 a.natAbs b.natAbs == 0) (by simp) (fun _ => rfl)
  rw [mul_parts] at h
  unfold W
  rw [mul_sign, Int.natAbs_mul]
  exact h
end Go.Proofs.YtkjlcbjfnffpfaaDoor.R1
