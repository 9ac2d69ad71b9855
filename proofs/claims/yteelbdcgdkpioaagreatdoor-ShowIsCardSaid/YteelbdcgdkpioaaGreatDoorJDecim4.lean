/- What the document's answers for layer 1 come to, the second half: back from a wide number, and the product. -/
import Derived.Test.YteelbdcgdkpioaaGreatDoorJRef1
import Derived.LoopN
import Derived.Test.YteelbdcgdkpioaaGreatDoorJShT
import Derived.Lib.AppendIntMem
import Derived.Test.YteelbdcgdkpioaaGreatDoorJDecim
import Derived.Deep.RegionWith
namespace Go.Proofs.YteelbdcgdkpioaaGreatDoor.R1
open Go.RowKit P

theorem int_neg (l : Int) (w : World) (h1 : 1 ≤ l) (h2 : ¬ 9223372036854775808 < l) :
    Calls Tryz.prog 96 #[.agg #[.bool true, .int .u64 0, .int .u64 l]] w fun e w' => e = .returned (.tuple #[.int .i64 (-l), .bool true]) ∧ Below w.heap.size w w' := by
  have ht : decide (9223372036854775808 < l) = false := by simpa using h2
  have h0 : (l == 0) = false := by simp; omega
  have E : Hid (wrap64 (wrap64 (-wrap64 (IntKind.u64.wrap (l - 1))) - 1) = -l) := by
    show _ = _
    rw [u64_mod]; unfold wrap64; omega
  clear h1 h2
  go_enter Tryz.func96, Tryz.ntmps96
  go_wp2
  go_ret2
  exact ⟨Ex.ret_2 E.out rfl, (Below.refl _ _).alloc (Nat.le_refl _) _⟩
theorem int_pos (l : Int) (w : World) (h1 : 0 ≤ l) (h2 : ¬ 9223372036854775808 ≤ l) :
    Calls Tryz.prog 96 #[.agg #[.bool false, .int .u64 0, .int .u64 l]] w fun e w' => e = .returned (.tuple #[.int .i64 l, .bool true]) ∧ Below w.heap.size w w' := by
  have ht : decide (9223372036854775808 ≤ l) = false := by simpa using h2
  have E : Hid (wrap64 l = l) := by show _ = _; unfold wrap64; omega
  clear h1 h2
  go_enter Tryz.func96, Tryz.ntmps96
  go_wp2
  go_ret2
  exact ⟨Ex.ret_2 E.out rfl, (Below.refl _ _).alloc (Nat.le_refl _) _⟩
theorem int_past (s : Bool) (l : Int) (w : World) (h2 : if s = true then 9223372036854775808 < l else 9223372036854775808 ≤ l) :
    Calls Tryz.prog 96 #[.agg #[.bool s, .int .u64 0, .int .u64 l]] w fun e w' => e = .returned (.tuple #[.int .i64 0, .bool false]) ∧ Below w.heap.size w w' := by
  cases s
  · have ht : decide (9223372036854775808 ≤ l) = true := by simpa using h2
    clear h2
    go_enter Tryz.func96, Tryz.ntmps96
    go_wp2
    go_ret2
    exact ⟨rfl, (Below.refl _ _).alloc (Nat.le_refl _) _⟩
  · have ht : decide (9223372036854775808 < l) = true := by simpa using h2
    clear h2
    go_enter Tryz.func96, Tryz.ntmps96
    go_wp2
    go_ret2
    exact ⟨rfl, (Below.refl _ _).alloc (Nat.le_refl _) _⟩
theorem int_high (s : Bool) (m : Nat) (w : World) (ht : (((hiN m : Nat) : Int) == 0) = false) :
    Calls Tryz.prog 96 #[wide s m] w fun e w' => e = .returned (.tuple #[.int .i64 0, .bool false]) ∧ Below w.heap.size w w' := by
  unfold wide
  go_enter Tryz.func96, Tryz.ntmps96
  go_wp2
  go_ret2
  exact ⟨rfl, (Below.refl _ _).alloc (Nat.le_refl _) _⟩
theorem int_any (v : Int) (w : World) :
    Calls Tryz.prog 96 #[W v] w fun e w' => e = .returned (.tuple #[.int .i64 (cut64 v), .bool (ok64 v)]) ∧ Below w.heap.size w w' := by
  by_cases hh : hiN v.natAbs = 0
  · have hl : ((loN v.natAbs : Nat) : Int) = (v.natAbs : Int) := by unfold loN; unfold hiN at hh; omega
    have e : W v = .agg #[.bool (decide (v < 0)), .int .u64 0, .int .u64 (v.natAbs : Int)] := by
      unfold W wide; rw [hh, hl]; rfl
    rw [e]
    by_cases hi : I64 v
    · rw [cut64_t hi, ok64_t hi]
      unfold I64 at hi
      by_cases h0 : v < 0
      · rw [decide_eq_true h0]
        have := int_neg (v.natAbs : Int) w (by omega) (by omega)
        rw [show -(v.natAbs : Int) = v by omega] at this
        exact this
      · rw [decide_eq_false h0]
        have := int_pos (v.natAbs : Int) w (by omega) (by omega)
        rw [show (v.natAbs : Int) = v by omega] at this ⊢
        exact this
    · rw [cut64_f hi, ok64_f hi]
      unfold I64 at hi
      refine int_past _ _ w ?_
      by_cases h0 : v < 0
      · rw [decide_eq_true h0, if_pos rfl]; omega
      · rw [decide_eq_false h0, if_neg (by simp)]; omega
  · have ht : (((hiN v.natAbs : Nat) : Int) == 0) = false := by simp; omega
    have hn : ¬ I64 v := by unfold I64; unfold hiN at hh; omega
    rw [cut64_f hn, ok64_f hn]
    exact int_high _ _ w ht
theorem of_small (a : Int) (w : World) (ha : I64 a) :
    Calls Tryz.prog 99 #[.int .i64 a] w fun e w' => e = .returned (.agg #[.bool (decide (a < 0)), .int .u64 0, .int .u64 (a.natAbs : Int)]) ∧ Below w.heap.size w w' := by
  have h := of_any a w ha
  have hh : hiN a.natAbs = 0 := hiN_small (by unfold I64 at ha; omega)
  have hl : loN a.natAbs = a.natAbs := loN_small (by unfold I64 at ha; omega)
  unfold W wide at h
  rw [hh, hl] at h
  exact h
theorem plus_eq {s t : Bool} {m n : Nat} {h1 l1 h2 l2 : Int} (w : World) (e1 : h1 = hiN m) (e2 : l1 = loN m) (e3 : h2 = hiN n) (e4 : l2 = loN n) (hs : m + n < two128) :
    Calls Tryz.prog 128 #[.agg #[.bool s, .int .u64 h1, .int .u64 l1], .agg #[.bool t, .int .u64 h2, .int .u64 l2]] w
      fun e w' => e = .returned (.agg #[.bool false, .int .u64 (hiN (m + n)), .int .u64 (loN (m + n))]) ∧ Below w.heap.size w w' := by
  subst e1 e2 e3 e4
  exact plus_any s t m n w hs
theorem mul_sign {a b : Int} : (decide (a * b < 0)) = (!(decide (a < 0) == decide (b < 0)) && !((a.natAbs * b.natAbs) == 0)) := by
  rw [← Int.natAbs_mul]
  by_cases ha : a < 0
  · by_cases hb : b < 0
    · have : 0 < a * b := Int.mul_pos_of_neg_of_neg ha hb
      simp [ha, hb]; omega
    · by_cases h0 : b = 0
      · subst h0; simp
      · have : a * b < 0 := Int.mul_neg_of_neg_of_pos ha (by omega)
        simp [ha, hb, this]; omega
  · by_cases hb : b < 0
    · by_cases h0 : a = 0
      · subst h0; simp
      · have : a * b < 0 := Int.mul_neg_of_pos_of_neg (by omega) hb
        simp [ha, hb, this]; omega
    · have : 0 ≤ a * b := Int.mul_nonneg (by omega) (by omega)
      simp [ha, hb]; omega
set_option maxHeartbeats 1000000 in
set_option maxRecDepth 100000 in
theorem mul_walk (a b : Int) (w : World) (ha : I64 a) (hb : I64 b) (t z : Bool) (ht : (decide (a < 0) == decide (b < 0)) = !t) (hz : t = true → (M0 a.natAbs b.natAbs + M1 a.natAbs b.natAbs + M2 a.natAbs b.natAbs == 0) = z) :
    Calls Tryz.prog 98 #[.int .i64 a, .int .i64 b] w fun e w' => e = .returned (wide (t && !z) (M0 a.natAbs b.natAbs + M1 a.natAbs b.natAbs + M2 a.natAbs b.natAbs)) ∧ Below w.heap.size w w' := by
  have hx : a.natAbs ≤ 9223372036854775808 := by unfold I64 at ha; omega
  have hy : b.natAbs ≤ 9223372036854775808 := by unfold I64 at hb; omega
  have E1 := hid (m0_hi hx hy)
  have E2 := hid (@m0_lo a.natAbs b.natAbs)
  have E3 := hid (@m1_hi a.natAbs b.natAbs hy)
  have E4 := hid (@m1_lo a.natAbs b.natAbs)
  have E5 := hid (@m2_hi a.natAbs b.natAbs hx)
  have E6 := hid (@m2_lo a.natAbs b.natAbs)
  have S2 : Hid (M0 a.natAbs b.natAbs + M1 a.natAbs b.natAbs + M2 a.natAbs b.natAbs < two128) := by show _ < _; rw [mul_parts]; exact prod_lt hx hy
  have S1 : Hid (M0 a.natAbs b.natAbs + M1 a.natAbs b.natAbs < two128) := by have := S2.out; show _ < _; omega
  have HA := hid ha
  have HB := hid hb
  have HT := hid ht
  have HZ := hid hz
  clear ha hb hx hy ht hz
  go_enter Tryz.func98, Tryz.ntmps98
  go_wp2_with fail
  refine (of_small _ _ HA.out).mono ?_; rintro e w1 ⟨rfl, hb1⟩
  obtain ⟨hc1, hf1⟩ := bcell hb1
  have k0 : w.heap.size < w1.heap.size := by have := hb1.size; simp at this; omega
  go_wp2_with fail
  refine (of_small _ _ HB.out).mono ?_; rintro e w2 ⟨rfl, hb2⟩
  obtain ⟨hc2, hf2⟩ := bcell hb2
  have j0 : w1.heap.size ≤ w2.heap.size := hb2.size
  have j1 : w.heap.size < w2.heap.size := by omega
  generalize hx : a.natAbs = x at *
  generalize hy : b.natAbs = y at *
  have HX := hid hx.symm
  have HY := hid hy.symm
  clear hx hy
  generalize decide (a < 0) = sa at *
  generalize decide (b < 0) = sb at *
  have hbel : Below w.heap.size w w2 := below_via (below_via ((Below.refl _ _).alloc (Nat.le_refl _) _) hb1 (by simp)) hb2 (by omega)
  have hc : w2.cell? ⟨w.heap.size, 0, none⟩ = some (.bool false) ∧ w2.cell? ⟨w.heap.size, 1, none⟩ = some (.int .u64 0) ∧ w2.cell? ⟨w.heap.size, 2, none⟩ = some (.int .u64 0) := by
    refine ⟨?_, ?_, ?_⟩ <;> (rw [hc2 _ _ (by omega), hc1 _ _ (by simp)]; simp)
  obtain ⟨c0, c1, c2⟩ := hc
  have hf : ∀ o, w2.frozen? ⟨w.heap.size, o, none⟩ = false := by
    intro o; rw [hf2 _ _ (by omega), hf1 _ _ (by simp)]; simp
  have BEL := hid hbel
  clear hc1 hf1 hc2 hf2 hb1 hb2 j0 k0 hbel
  go_wp2
  go_quiet (fail)
  go_wp2
  go_quiet (fail)
  go_wp2
  refine wp_loop_rounds 3 ?_
  rw [rounds_succ]
  go_wp2_with fail
  refine (plus_eq _ E1.out E2.out E3.out E4.out S1.out).mono ?_; rintro e w3 ⟨rfl, hb3⟩
  have q0 : w.heap.size < w2.heap.size + 1 := by omega
  have q1 : w.heap.size < w2.heap.size + 1 + 1 := by omega
  have q2 : w.heap.size < w2.heap.size + 1 + 1 + 1 := by omega
  obtain ⟨hc3, hf3⟩ := bcell hb3
  obtain ⟨p30, p31, p32, p33, p34⟩ : w.heap.size < w3.heap.size ∧ w2.heap.size < w3.heap.size ∧ w2.heap.size + 1 < w3.heap.size ∧ w2.heap.size + 1 + 1 < w3.heap.size ∧ w2.heap.size + 1 + 1 + 1 < w3.heap.size := by
    have := hb3.size; simp at this; omega
  have ra3 : w3.cell? ⟨w.heap.size, 0, none⟩ = some (.bool false) := by rw [hc3 _ _ (by first | omega | (simp <;> omega))]; go_simp
  have rb3 : w3.cell? ⟨w.heap.size, 1, none⟩ = some (.int .u64 0) := by rw [hc3 _ _ (by first | omega | (simp <;> omega))]; go_simp
  have rc3 : w3.cell? ⟨w.heap.size, 2, none⟩ = some (.int .u64 0) := by rw [hc3 _ _ (by first | omega | (simp <;> omega))]; go_simp
  have xa3 : w3.cell? ⟨w2.heap.size, 0, none⟩ = some (.bool sa) := by rw [hc3 _ _ (by first | omega | (simp <;> omega))]; go_simp
  have ya3 : w3.cell? ⟨w2.heap.size + 1, 0, none⟩ = some (.bool sb) := by rw [hc3 _ _ (by first | omega | (simp <;> omega))]; go_simp
  have oa3 : w3.cell? ⟨w2.heap.size + 1 + 1, 0, none⟩ = some (.bool false) := by rw [hc3 _ _ (by first | omega | (simp <;> omega))]; go_simp
  have ob3 : w3.cell? ⟨w2.heap.size + 1 + 1, 1, none⟩ = some (.int .u64 (IntKind.u64.wrap ((x : Int) / 4294967296 * ((y : Int) / 4294967296)))) := by rw [hc3 _ _ (by first | omega | (simp <;> omega))]; go_simp
  have oc3 : w3.cell? ⟨w2.heap.size + 1 + 1, 2, none⟩ = some (.int .u64 (IntKind.u64.wrap ((x : Int) % 4294967296 * ((y : Int) % 4294967296)))) := by rw [hc3 _ _ (by first | omega | (simp <;> omega))]; go_simp
  have ta3 : w3.cell? ⟨w2.heap.size + 1 + 1 + 1, 0, none⟩ = some (.int .u64 (IntKind.u64.wrap ((x : Int) % 4294967296 * ((y : Int) / 4294967296)))) := by rw [hc3 _ _ (by first | omega | (simp <;> omega))]; go_simp
  have tb3 : w3.cell? ⟨w2.heap.size + 1 + 1 + 1, 1, none⟩ = some (.int .u64 (IntKind.u64.wrap ((x : Int) / 4294967296 * ((y : Int) % 4294967296)))) := by rw [hc3 _ _ (by first | omega | (simp <;> omega))]; go_simp
  have fr3 : ∀ o, w3.frozen? ⟨w.heap.size, o, none⟩ = false := by intro o; rw [hf3 _ _ (by first | omega | (simp <;> omega))]; go_simp
  have fo3 : ∀ o, w3.frozen? ⟨w2.heap.size + 1 + 1, o, none⟩ = false := by intro o; rw [hf3 _ _ (by first | omega | (simp <;> omega))]; go_simp
  have B3 : Hid (Below w.heap.size w w3) := by
    refine below_via ?_ hb3 (by first | omega | (simp <;> omega))
    repeat (first | (refine Below.setCell ?_ (by first | omega | (simp <;> omega)) _) | (refine Below.alloc ?_ (by first | omega | (simp <;> omega)) _) | (refine below_drewN ?_ _) | exact BEL.out)
  clear hc3 hf3 hb3 BEL c0 c1 c2 hf
  go_wp2
  rw [rounds_succ]
  go_wp2_with fail
  refine (plus_eq _ rfl rfl E5.out E6.out S2.out).mono ?_; rintro e w4 ⟨rfl, hb4⟩
  obtain ⟨hc4, hf4⟩ := bcell hb4
  obtain ⟨p40, p41, p42, p43, p44⟩ : w.heap.size < w4.heap.size ∧ w2.heap.size < w4.heap.size ∧ w2.heap.size + 1 < w4.heap.size ∧ w2.heap.size + 1 + 1 < w4.heap.size ∧ w2.heap.size + 1 + 1 + 1 < w4.heap.size := by
    have := hb4.size; simp at this; omega
  have ra4 : w4.cell? ⟨w.heap.size, 0, none⟩ = some (.bool false) := by rw [hc4 _ _ (by first | omega | (simp <;> omega))]; go_simp
  have rb4 : w4.cell? ⟨w.heap.size, 1, none⟩ = some (.int .u64 0) := by rw [hc4 _ _ (by first | omega | (simp <;> omega))]; go_simp
  have rc4 : w4.cell? ⟨w.heap.size, 2, none⟩ = some (.int .u64 0) := by rw [hc4 _ _ (by first | omega | (simp <;> omega))]; go_simp
  have xa4 : w4.cell? ⟨w2.heap.size, 0, none⟩ = some (.bool sa) := by rw [hc4 _ _ (by first | omega | (simp <;> omega))]; go_simp
  have ya4 : w4.cell? ⟨w2.heap.size + 1, 0, none⟩ = some (.bool sb) := by rw [hc4 _ _ (by first | omega | (simp <;> omega))]; go_simp
  have oa4 : w4.cell? ⟨w2.heap.size + 1 + 1, 0, none⟩ = some (.bool false) := by rw [hc4 _ _ (by first | omega | (simp <;> omega))]; go_simp
  have ob4 : w4.cell? ⟨w2.heap.size + 1 + 1, 1, none⟩ = some (.int .u64 (hiN (M0 x y + M1 x y))) := by rw [hc4 _ _ (by first | omega | (simp <;> omega))]; go_simp
  have oc4 : w4.cell? ⟨w2.heap.size + 1 + 1, 2, none⟩ = some (.int .u64 (loN (M0 x y + M1 x y))) := by rw [hc4 _ _ (by first | omega | (simp <;> omega))]; go_simp
  have fr4 : ∀ o, w4.frozen? ⟨w.heap.size, o, none⟩ = false := by intro o; rw [hf4 _ _ (by first | omega | (simp <;> omega))]; go_simp
  have fo4 : ∀ o, w4.frozen? ⟨w2.heap.size + 1 + 1, o, none⟩ = false := by intro o; rw [hf4 _ _ (by first | omega | (simp <;> omega))]; go_simp
  have B4 : Hid (Below w.heap.size w w4) := by
    refine below_via ?_ hb4 (by first | omega | (simp <;> omega))
    repeat (first | (refine Below.setCell ?_ (by first | omega | (simp <;> omega)) _) | (refine Below.alloc ?_ (by first | omega | (simp <;> omega)) _) | (refine below_drewN ?_ _) | exact B3.out)
  clear hc4 hf4 hb4 B3 ra3 rb3 rc3 xa3 ya3 oa3 ob3 oc3 fr3 fo3 ta3 tb3 p30 p31 p32 p33 p34
  go_wp2
  rw [rounds_succ]
  cases t
  · have HS : (sa == sb) = true := HT.out
    go_wp2
    refine bodyPost_ret (v := .agg #[.bool false, .int .u64 (hiN (M0 x y + M1 x y + M2 x y)), .int .u64 (loN (M0 x y + M1 x y + M2 x y))])
      (by simp only [results, Tryz.results98]; go_simp) rfl ⟨by simp only [wide, Bool.false_and]; rw [HX.out, HY.out], ?_⟩
    repeat (first | (refine Below.setCell ?_ (by first | omega | (simp <;> omega)) _) | (refine Below.alloc ?_ (by first | omega | (simp <;> omega)) _) | (refine below_drewN ?_ _) | exact B4.out)
  · have HS : (sa == sb) = false := HT.out
    have hz := HZ.out rfl
    have HZ1 := hid hz
    clear hz
    go_wp2_with fail
    refine (zero_any _ _ _).mono ?_; rintro e w5 ⟨rfl, hb5⟩; rw [HZ1.out]
    obtain ⟨hc5, hf5⟩ := bcell hb5
    obtain ⟨p50, p51, p52, p53, p54⟩ : w.heap.size < w5.heap.size ∧ w2.heap.size < w5.heap.size ∧ w2.heap.size + 1 < w5.heap.size ∧ w2.heap.size + 1 + 1 < w5.heap.size ∧ w2.heap.size + 1 + 1 + 1 < w5.heap.size := by
      have := hb5.size; simp at this; omega
    have ra5 : w5.cell? ⟨w.heap.size, 0, none⟩ = some (.bool false) := by rw [hc5 _ _ (by first | omega | (simp <;> omega))]; go_simp
    have rb5 : w5.cell? ⟨w.heap.size, 1, none⟩ = some (.int .u64 0) := by rw [hc5 _ _ (by first | omega | (simp <;> omega))]; go_simp
    have rc5 : w5.cell? ⟨w.heap.size, 2, none⟩ = some (.int .u64 0) := by rw [hc5 _ _ (by first | omega | (simp <;> omega))]; go_simp
    have oa5 : w5.cell? ⟨w2.heap.size + 1 + 1, 0, none⟩ = some (.bool false) := by rw [hc5 _ _ (by first | omega | (simp <;> omega))]; go_simp
    have ob5 : w5.cell? ⟨w2.heap.size + 1 + 1, 1, none⟩ = some (.int .u64 (hiN (M0 x y + M1 x y + M2 x y))) := by rw [hc5 _ _ (by first | omega | (simp <;> omega))]; go_simp
    have oc5 : w5.cell? ⟨w2.heap.size + 1 + 1, 2, none⟩ = some (.int .u64 (loN (M0 x y + M1 x y + M2 x y))) := by rw [hc5 _ _ (by first | omega | (simp <;> omega))]; go_simp
    have fr5 : ∀ o, w5.frozen? ⟨w.heap.size, o, none⟩ = false := by intro o; rw [hf5 _ _ (by first | omega | (simp <;> omega))]; go_simp
    have fo5 : ∀ o, w5.frozen? ⟨w2.heap.size + 1 + 1, o, none⟩ = false := by intro o; rw [hf5 _ _ (by first | omega | (simp <;> omega))]; go_simp
    have B5 : Hid (Below w.heap.size w w5) := by
      refine below_via ?_ hb5 (by first | omega | (simp <;> omega))
      repeat (first | (refine Below.setCell ?_ (by first | omega | (simp <;> omega)) _) | exact B4.out)
    clear hc5 hf5 hb5 B4 ra4 rb4 rc4 xa4 ya4 oa4 ob4 oc4 fr4 fo4
    go_wp2
    refine bodyPost_ret (v := .agg #[.bool (!z), .int .u64 (hiN (M0 x y + M1 x y + M2 x y)), .int .u64 (loN (M0 x y + M1 x y + M2 x y))])
      (by simp only [results, Tryz.results98]; go_simp) rfl ⟨by simp only [wide, Bool.true_and]; rw [HX.out, HY.out], ?_⟩
    repeat (first | (refine Below.setCell ?_ (by first | omega | (simp <;> omega)) _) | exact B5.out)
theorem mul_any (a b : Int) (w : World) (ha : I64 a) (hb : I64 b) :
    Calls Tryz.prog 98 #[.int .i64 a, .int .i64 b] w fun e w' => e = .returned (W (a * b)) ∧ Below w.heap.size w w' := by
  have h := mul_walk a b w ha hb (!(decide (a < 0) == decide (b < 0))) (M0 a.natAbs b.natAbs + M1 a.natAbs b.natAbs + M2 a.natAbs b.natAbs == 0) (by simp) (fun _ => rfl)
  rw [mul_parts] at h
  unfold W
  rw [mul_sign, Int.natAbs_mul]
  exact h
end Go.Proofs.YteelbdcgdkpioaaGreatDoor.R1
/- What the document's answers for layer 4 (poundageref04) come to: more. -/
namespace Go.Proofs.YteelbdcgdkpioaaGreatDoor.R4
open Go.RowKit P Ex

theorem more_any (n d : Int) (ok : Bool) (w : World) (hn : I64 n) (hd : I64 d) :
    Calls Tryz.prog 71 #[.int .i64 n, .int .i64 d, .bool ok] w fun e w' => e = .returned (.tuple #[.int .i64 (if ok && ok64 (n * 10 + d) then n * 10 + d else 0), .bool (ok && ok64 (n * 10 + d))]) ∧ Below w.heap.size w w' := by
  have cM := fun W => R1.mul_any n 10 W hn (by unfold I64; omega)
  have cO := fun W => R1.of_any d W hd
  have h1 : (n * 10).natAbs < two127 := by unfold I64 at hn; unfold two127; omega
  have h2 : d.natAbs < two127 := by unfold I64 at hd; unfold two127; omega
  have cA := fun W => R1.add_any (n * 10) d W h1 h2
  have cI := fun W => R1.int_any (n * 10 + d) W
  obtain ⟨V, hV⟩ : ∃ V, V = n * 10 + d := ⟨_, rfl⟩
  rw [← hV]
  simp only [← hV] at cA cI
  obtain ⟨A, hA⟩ : ∃ A, A = R1.W (n * 10) := ⟨_, rfl⟩
  obtain ⟨D, hD⟩ : ∃ D, D = R1.W d := ⟨_, rfl⟩
  obtain ⟨S, hS⟩ : ∃ S, S = R1.W V := ⟨_, rfl⟩
  simp only [← hA] at cM cA
  simp only [← hD] at cO cA
  simp only [← hS] at cA cI
  obtain ⟨K, hK⟩ : ∃ K, K = ok64 V := ⟨_, rfl⟩
  have hc : cut64 V = if K = true then V else 0 := by unfold cut64; rw [hK]
  rw [← hK]
  simp only [← hK, hc] at cI
  clear hn hd h1 h2 hV hA hD hS hK hc
  cases ok <;> cases K
  all_goals
    go_enter Tryz.func71, Tryz.ntmps71
    go_wp2_with (first
      | (go_at_call 98; refine (cM _).mono ?_; rintro e w1 ⟨rfl, b1⟩)
      | (go_at_call 99; refine (cO _).mono ?_; rintro e w2 ⟨rfl, b2⟩; have B2 := b1.trans (b2.mono b1.size))
      | (go_at_call 97; refine (cA _).mono ?_; rintro e w3 ⟨rfl, b3⟩; have B3 := B2.trans (b3.mono B2.size))
      | (go_at_call 96; refine (cI _).mono ?_; rintro e w4 ⟨rfl, b4⟩; have B4 := B3.trans (b4.mono B3.size)))
    go_ret2
    exact ⟨Ex.ret_2 rfl rfl, B4⟩
end Go.Proofs.YteelbdcgdkpioaaGreatDoor.R4
/- What the document's answers for layer 4 (poundageref04) come to: Parse. -/
namespace Go.Proofs.YteelbdcgdkpioaaGreatDoor.R4
open Go.RowKit P Ex

theorem below_on {w W w' : World} (h : Below w.heap.size w W) (hb : Below W.heap.size W w') : Below w.heap.size w w' := h.trans (hb.mono h.size)
theorem i64_acc (v : Int) : I64 (cut64 v) := i64_cut v
/-- A digit more, as the walk meets it. -/
theorem more_acc (v d : Int) (w : World) (hv : 0 ≤ v) (hd : 0 ≤ d) (hd1 : d ≤ 9) :
    Calls Tryz.prog 71 #[.int .i64 (cut64 v), .int .i64 d, .bool (ok64 v)] w fun e w' => e = .returned (.tuple #[.int .i64 (cut64 (v * 10 + d)), .bool (ok64 (v * 10 + d))]) ∧ Below w.heap.size w w' := by
  have h := more_any (cut64 v) d (ok64 v) w (i64_cut v) (by unfold I64; omega)
  obtain ⟨e1, e2⟩ := acc_step hv hd
  rw [e2, e1] at h
  exact h
set_option maxHeartbeats 4000000 in
theorem parse_any (s : ByteArray) (places most : Int) (w : World) (hs : s.size ≤ 4611686018427387904) :
    Calls Tryz.prog 42 #[.string s, .int .i64 places, .int .i64 most] w fun e w' => e = .returned (.tuple #[.int .i64 (pN s.data.toList places most), .int .i64 (pW s.data.toList places most)]) ∧ Below w.heap.size w w' := by
  have cO := fun W => of_any s W (by omega)
  obtain ⟨l, hl⟩ : ∃ l, l = s.data.toList := ⟨_, rfl⟩
  have hbyte := byte_at s
  have hz : l.length = s.size := by rw [hl]; simp
  rw [← hl]
  rw [← hl] at hbyte
  simp only [← hl] at cO
  clear hl
  obtain ⟨F, hF⟩ : ∃ F : Int, F = (fm l : Int) := ⟨_, rfl⟩
  simp only [← hF] at cO
  by_cases h : F = 0 ∨ places < 0 ∨ 9 < places
  · have hb : pBad l places = true := by unfold pBad; rw [decide_eq_true_eq]; omega
    have e1 := hid (show pN l places most = 0 by unfold pN; rw [hb]; rfl)
    have e2 := hid (show pW l places most = 1 by unfold pW; rw [hb]; rfl)
    clear hb hF hz hbyte
    have h' : F = 0 ∨ (F ≠ 0 ∧ places < 0) ∨ (F ≠ 0 ∧ ¬ places < 0 ∧ 9 < places) := by omega
    clear h
    go_enter Tryz.func42, Tryz.ntmps42
    rcases h' with h | ⟨h0, h⟩ | ⟨h0, h, h1⟩
    · have b0 : (F == 0) = true := by simpa using h
      go_wp2_with (go_at_call 69; refine (cO _).mono ?_; rintro e w' ⟨rfl, h'⟩; rw [h'])
      go_ret2
      exact ⟨ret_2 (vi e1.out.symm) (vi e2.out.symm), Below.refl _ _⟩
    · have b0 : (F == 0) = false := by simpa using h0
      go_wp2_with (go_at_call 69; refine (cO _).mono ?_; rintro e w' ⟨rfl, h'⟩; rw [h'])
      go_ret2
      exact ⟨ret_2 (vi e1.out.symm) (vi e2.out.symm), Below.refl _ _⟩
    · have b0 : (F == 0) = false := by simpa using h0
      go_wp2_with (go_at_call 69; refine (cO _).mono ?_; rintro e w' ⟨rfl, h'⟩; rw [h'])
      go_ret2
      exact ⟨ret_2 (vi e1.out.symm) (vi e2.out.symm), Below.refl _ _⟩
  · have b0 : (F == 0) = false := by simp; omega
    have hfm : fm l ≠ 0 := by omega
    have hall := fm_all hfm
    have h0 : 0 ≤ places := by omega
    have h9 : places ≤ 9 := by omega
    have hBad : pBad l places = decide (places < stB l) := by unfold pBad; rw [decide_eq_decide]; omega
    clear h hF
    go_enter Tryz.func42, Tryz.ntmps42
    go_wp2_with (go_at_call 69; refine (cO _).mono ?_; rintro e w' ⟨rfl, h'⟩; rw [h'])
    clear cO
    go_loopw [8, 9, 10, 11] (fun b n ok i wr => ∃ (b' v' i' : Int), b = .int .i64 b' ∧ n = .int .i64 (cut64 v') ∧ ok = .bool (ok64 v') ∧ i = .int .i64 i' ∧ 0 ≤ i' ∧ i' ≤ s.size ∧ -1 ≤ b' ∧ b' ≤ i' ∧ 0 ≤ v' ∧
      Hid (b' = stB (l.take i'.toNat) ∧ v' = (stV (l.take i'.toNat) : Int)) ∧ Below w.heap.size w wr) (fun _ _ _ i _ => ((s.size : Int) - intOf i).toNat)
    case atStart => exact ⟨-1, 0, 0, rfl, rfl, rfl, rfl, by omega, by omega, by omega, by omega, by omega, hid ⟨rfl, rfl⟩, Below.refl _ _⟩
    case round =>
      obtain ⟨b', v', i', rfl, rfl, rfl, rfl, i0, i1, bl, bu, v0, hst, hbw⟩ := hrel
      by_cases hi : i' < s.size
      · have hil : i'.toNat < l.length := by omega
        have hb := hbyte i' i0 hi
        have e1 : (i' + 1).toNat = i'.toNat + 1 := by omega
        have hdp := dp_or hall hil
        have hts := take_snoc hil
        obtain ⟨hB, hV⟩ := hst.out
        have sB := stB_snoc (l.take i'.toNat) (l.getD i'.toNat 0)
        have sV := stV_snoc (l.take i'.toNat) (l.getD i'.toNat 0)
        rw [← hts] at sB sV
        obtain ⟨c, hc⟩ : ∃ c, c = l.getD i'.toNat 0 := ⟨_, rfl⟩
        rw [← hc] at sB sV hdp
        simp only [← hc] at hb
        obtain ⟨z, hz'⟩ : ∃ z : Int, z = (c.toNat : Int) := ⟨_, rfl⟩
        simp only [← hz'] at hb
        clear hc hts hbyte hst
        rcases hdp with hp46 | hdg
        · have b1 : (z == 46) = true := by rw [hz', hp46]; rfl
          rw [if_pos hp46] at sB sV
          have H : Hid ((0 : Int) = stB (l.take (i' + 1).toNat) ∧ v' = (stV (l.take (i' + 1).toNat) : Int)) := hid (by rw [e1, sB, sV]; exact ⟨rfl, hV⟩)
          clear sB sV hz' hp46 hB hV e1
          go_wp2
          go_roundw
          case rel => exact ⟨0, v', i' + 1, rfl, rfl, rfl, rfl, by omega, by omega, by omega, by omega, v0, H, hbw⟩
          case measure => simp [intOf]; omega
        · have hne := isDg_no46 hdg
          rw [isDg_iff] at hdg
          have b1 : (z == 46) = false := by simp; omega
          rw [if_neg hne] at sB sV
          have z0 : 48 ≤ z := by omega
          have z1 : z ≤ 57 := by omega
          have cM := fun W => more_acc v' (z - 48) W v0 (by omega) (by omega)
          by_cases hb0 : 0 ≤ b'
          · rw [if_pos (by omega)] at sB
            have H : Hid (b' + 1 = stB (l.take (i' + 1).toNat) ∧ v' * 10 + (z - 48) = (stV (l.take (i' + 1).toNat) : Int)) := hid (by rw [e1, sB, sV]; omega)
            clear sB sV hz' hne hB hV e1 hdg
            go_wp2_with (go_at_call 71; refine (cM _).mono ?_; rintro e w2 ⟨rfl, b2⟩; have B2 := below_on hbw b2)
            go_roundw
            case rel => exact ⟨b' + 1, _, i' + 1, rfl, rfl, rfl, rfl, by omega, by omega, by omega, by omega, by omega, H, B2⟩
            case measure => simp [intOf]; omega
          · rw [if_neg (by omega)] at sB
            have H : Hid (b' = stB (l.take (i' + 1).toNat) ∧ v' * 10 + (z - 48) = (stV (l.take (i' + 1).toNat) : Int)) := hid (by rw [e1, sB, sV]; omega)
            clear sB sV hz' hne hB hV e1 hdg
            go_wp2_with (go_at_call 71; refine (cM _).mono ?_; rintro e w2 ⟨rfl, b2⟩; have B2 := below_on hbw b2)
            go_roundw
            case rel => exact ⟨b', _, i' + 1, rfl, rfl, rfl, rfl, by omega, by omega, by omega, by omega, by omega, H, B2⟩
            case measure => simp [intOf]; omega
      · obtain rfl : i' = s.size := by omega
        obtain ⟨hB, hV⟩ := hst.out
        rw [show ((s.size : Int)).toNat = l.length by omega, List.take_length] at hB hV
        rw [← hB] at hBad
        by_cases hgt : places < b'
        · have e1 := hid (show pN l places most = 0 by unfold pN; rw [hBad, decide_eq_true hgt]; rfl)
          have e2 := hid (show pW l places most = 1 by unfold pW; rw [hBad, decide_eq_true hgt]; rfl)
          clear hBad hB hV hst hbyte
          go_wp2
          go_ret2
          exact ⟨ret_2 (vi e1.out.symm) (vi e2.out.symm), hbw⟩
        · rw [decide_eq_false hgt] at hBad
          have hk : pK l places = (places - max b' 0).toNat := by unfold pK; rw [← hB]
          have hpv : pV l places = v' * 10 ^ (places - max b' 0).toNat := by unfold pV; rw [hk, ← hV]
          obtain ⟨k0, hk0⟩ : ∃ k0, k0 = max b' 0 := ⟨_, rfl⟩
          have k00 : 0 ≤ k0 := by omega
          have k01 : k0 ≤ places := by omega
          rw [← hk0] at hpv
          have hmx : (if b' < 0 then 0 else b') = k0 := by rw [hk0]; split <;> omega
          have HP := hid hpv
          have HB := hid hBad
          clear hBad hB hst hbyte hk hpv hV
          go_wp2
          go_loopw [9, 10, 12] (fun n ok k wx => ∃ u k' : Int, n = .int .i64 (cut64 u) ∧ ok = .bool (ok64 u) ∧ k = .int .i64 k' ∧ k0 ≤ k' ∧ k' ≤ places ∧ 0 ≤ u ∧ Hid (u = v' * 10 ^ (k' - k0).toNat) ∧ Below w.heap.size w wx) (fun _ _ k _ => (places - intOf k).toNat)
          case atStart => exact ⟨v', k0, rfl, rfl, vi hk0.symm, by omega, k01, v0, hid (by simp), hbw⟩
          case round =>
            obtain ⟨u, k', rfl, rfl, rfl, q0, q1, u0, hu, hb2⟩ := hrel
            by_cases hlt : k' < places
            · have cM := fun W => more_acc u 0 W u0 (by omega) (by omega)
              have H : Hid (u * 10 = v' * 10 ^ (k' + 1 - k0).toNat) := hid (by
                rw [show (k' + 1 - k0).toNat = (k' - k0).toNat + 1 by omega, Int.pow_succ, ← Int.mul_assoc, ← hu.out])
              clear hu hmx hk0
              go_wp2_with (go_at_call 71; refine (cM _).mono ?_; rintro e w2 ⟨rfl, b2⟩; have B2 := below_on hb2 b2)
              go_roundw
              case rel => exact ⟨_, k' + 1, rfl, rfl, rfl, by omega, by omega, by omega, H, B2⟩
              case measure => simp [intOf]; omega
            · obtain rfl : k' = places := by omega
              have hpu : pV l k' = u := by rw [HP.out, hu.out]
              have hb := HB.out
              clear hmx hk0
              cases hk : ok64 u
              · have e1 := hid (show pN l k' most = 0 by unfold pN pGreat; rw [hb, hpu, hk]; rfl)
                have e2 := hid (show pW l k' most = 2 by unfold pW pGreat; rw [hb, hpu, hk]; rfl)
                clear hpu hb hu
                go_wp2
                go_ret2
                exact ⟨ret_2 (vi e1.out.symm) (vi e2.out.symm), hb2⟩
              · have hI := (ok64_iff u).1 hk
                have hcu : cut64 u = u := cut64_t hI
                rw [hcu]
                by_cases hm : most < u
                · have e1 := hid (show pN l k' most = 0 by unfold pN pGreat; rw [hb, hpu, hk, decide_eq_true hm]; rfl)
                  have e2 := hid (show pW l k' most = 2 by unfold pW pGreat; rw [hb, hpu, hk, decide_eq_true hm]; rfl)
                  clear hpu hb hu
                  go_wp2
                  go_ret2
                  exact ⟨ret_2 (vi e1.out.symm) (vi e2.out.symm), hb2⟩
                · have e1 := hid (show pN l k' most = u by unfold pN pGreat; rw [hb, hpu, hk, decide_eq_false hm]; rfl)
                  have e2 := hid (show pW l k' most = 0 by unfold pW pGreat; rw [hb, hpu, hk, decide_eq_false hm]; rfl)
                  clear hpu hb hu
                  go_wp2
                  go_ret2
                  exact ⟨ret_2 (vi e1.out.symm) (vi e2.out.symm), hb2⟩
end Go.Proofs.YteelbdcgdkpioaaGreatDoor.R4
/- What the document's answers for layer 4 (poundageref04) come to: Text. -/
namespace Go.Proofs.YteelbdcgdkpioaaGreatDoor.R4
open Go.RowKit P Ex

theorem ba_list (l : List UInt8) : (⟨l.toArray⟩ : ByteArray).toList = l := by rw [Lib.toList_data]
/-- 'string([]byte{byte('0' + n%10)})'. -/
theorem digit_text (q : Int) (w : World) (h : 0 ≤ q) : ∃ B : ByteArray, B = ⟨[dch (q.toNat % 10)].toArray⟩ ∧
    (convert 71 9 (.slice (some ⟨w.heap.size, 0, none⟩) 1 1)).run Tryz.prog (w.alloc (.cells #[.int .u8 (48 + q % 10)] 5)) = .ok (.string B) (w.alloc (.cells #[.int .u8 (48 + q % 10)] 5)) := by
  have hc : q.toNat % 10 < 10 := Nat.mod_lt _ (by decide)
  have hx : ((dch (q.toNat % 10)).toNat : Int) = 48 + q % 10 := by rw [dig_toNat hc]; omega
  refine ⟨_, rfl, ?_⟩
  exact run_convert_bytes_back (P := Tryz.prog) (w.alloc (.cells #[.int .u8 (48 + q % 10)] 5)) 71 9 5 ⟨w.heap.size, 0, none⟩ 1 [dch (q.toNat % 10)] Tryz.underlying71 Tryz.underlying5 Tryz.underlying9 (fun j hj => by
    obtain rfl : j = 0 := by simpa using hj
    rw [Lib.add_plain, World.cell?_alloc_new]
    show some (Value.int .u8 (48 + q % 10)) = some (Value.int .u8 (((dch (q.toNat % 10)).toNat : Nat) : Int))
    rw [hx])
theorem text_no (n places : Int) (w : World) (h : n < 0 ∨ places < 0 ∨ 9 < places) :
    Calls Tryz.prog 58 #[.int .i64 n, .int .i64 places] w fun e w' => e = .returned (.string ⟨#[]⟩) ∧ Below w.heap.size w w' := by
  have h' : n < 0 ∨ (¬ n < 0 ∧ places < 0) ∨ (¬ n < 0 ∧ ¬ places < 0 ∧ 9 < places) := by omega
  clear h
  go_enter Tryz.func58, Tryz.ntmps58
  rcases h' with h | ⟨h0, h⟩ | ⟨h0, h, h1⟩
  all_goals
    go_wp2
    go_ret
    exact ⟨rfl, Below.refl _ _⟩
set_option maxHeartbeats 4000000 in
theorem text_yes (n places : Int) (w : World) (h0 : 0 ≤ n) (hn : I64 n) (p0 : 0 ≤ places) (p9 : places ≤ 9) :
    Calls Tryz.prog 58 #[.int .i64 n, .int .i64 places] w fun e w' => e = .returned (.string ⟨(tx n.toNat places.toNat).toArray⟩) ∧ Below w.heap.size w w' := by
  have hTl : (tx n.toNat places.toNat).length ≤ 30 := tx_length (by unfold I64 at hn; omega) (by omega)
  have hn1 : n ≤ 9223372036854775807 := hn.2
  clear hn
  obtain ⟨T, hT⟩ : ∃ T, T = tx n.toNat places.toNat := ⟨_, rfl⟩
  rw [← hT] at hTl ⊢
  replace hT := hid hT
  go_enter Tryz.func58, Tryz.ntmps58
  go_wp2
  go_loopw [0, 5, 6] (fun q s k wr => ∃ (q' k' : Int) (S : ByteArray), q = .int .i64 q' ∧ s = .string S ∧ k = .int .i64 k' ∧ 0 ≤ q' ∧ q' ≤ 9223372036854775807 ∧ 0 ≤ k' ∧ k' ≤ places ∧ Hid (q'.toNat = n.toNat / 10 ^ k'.toNat ∧ S = ⟨(fs n.toNat k'.toNat).toArray⟩) ∧ Below w.heap.size w wr) (fun _ _ k _ => (places - intOf k).toNat)
  case atStart => exact ⟨n, 0, ⟨#[]⟩, rfl, rfl, rfl, h0, hn1, by omega, p0, hid ⟨by simp, rfl⟩, Below.refl _ _⟩
  case round =>
    obtain ⟨q', k', S, rfl, rfl, rfl, q0, q1, k0, k1, hq, hb⟩ := hrel
    obtain ⟨hqe, hS⟩ := hq.out
    have hSl : S.toList = fs n.toNat k'.toNat := by rw [hS, ba_list]
    have hSz : S.size = (fs n.toNat k'.toNat).length := by rw [hS, ba_size]
    have hfl := fs_length n.toNat k'.toNat
    by_cases hlt : k' < places
    · have e1 : (k' + 1).toNat = k'.toNat + 1 := by omega
      have hq2 : (q' / 10).toNat = n.toNat / 10 ^ (k' + 1).toNat := by rw [e1, Nat.pow_succ, ← Nat.div_div_eq_div_mul, ← hqe]; omega
      obtain ⟨B, hB, hcv⟩ := digit_text q' wr q0
      have hBz : B.size = 1 := by rw [hB, ba_size]; rfl
      have hs1 : ¬ 9223372036854775807 < B.size + S.size := by omega
      have put : (fs n.toNat k'.toNat ≠ [] ∨ q'.toNat % 10 ≠ 0) → Hid ((q' / 10).toNat = n.toNat / 10 ^ (k' + 1).toNat ∧ B ++ S = ⟨(fs n.toNat (k' + 1).toNat).toArray⟩) := fun h => hid ⟨hq2, by
        rw [e1, fs_yes (by rw [← hqe]; exact h), hB, hS, ba_append, ← hqe]
        rfl⟩
      have skp : fs n.toNat k'.toNat = [] → q'.toNat % 10 = 0 → Hid ((q' / 10).toNat = n.toNat / 10 ^ (k' + 1).toNat ∧ S = ⟨(fs n.toNat (k' + 1).toNat).toArray⟩) := fun h h2 => hid ⟨hq2, by
        rw [e1, fs_no h (by rw [← hqe]; exact h2), hS, h]⟩
      have hb2 := fun o => hb.alloc hb.size o
      by_cases hf : fs n.toNat k'.toNat = []
      · have c1 : (S.toList == []) = true := by rw [hSl, hf]; rfl
        by_cases hz : q' % 10 = 0
        · have H := skp hf (by omega)
          have c2 : (q' % 10 != 0) = false := by rw [hz]; rfl
          clear put skp hqe hS hSl hq2 hB hq e1
          go_wp2
          go_roundw
          case rel => exact ⟨q' / 10, k' + 1, S, rfl, rfl, rfl, by omega, by omega, by omega, by omega, H, hb⟩
          case measure => simp [intOf]; omega
        · have H := put (.inr (by omega))
          have c2 : (q' % 10 != 0) = true := by simpa using hz
          clear put skp hqe hS hSl hq2 hB hq e1
          go_wp2
          go_roundw
          case rel => exact ⟨q' / 10, k' + 1, _, rfl, rfl, rfl, by omega, by omega, by omega, by omega, H, hb2 _⟩
          case measure => simp [intOf]; omega
      · have H := put (.inl hf)
        have c1 : (S.toList == []) = false := by rw [hSl, beq_eq_false_iff_ne]; exact hf
        clear put skp hqe hS hSl hq2 hB hq e1
        go_wp2
        go_roundw
        case rel => exact ⟨q' / 10, k' + 1, _, rfl, rfl, rfl, by omega, by omega, by omega, by omega, H, hb2 _⟩
        case measure => simp [intOf]; omega
    · obtain rfl : k' = places := by omega
      have htl : (⟨(tail n.toNat k'.toNat).toArray⟩ : ByteArray) = if fs n.toNat k'.toNat = [] then S else ⟨#[46]⟩ ++ S := by
        rw [hS]
        unfold tail
        split
        · rename_i h; rw [h]
        · rw [show (⟨#[46]⟩ : ByteArray) = ⟨([46] : List UInt8).toArray⟩ from rfl, ba_append]; rfl
      have hfull : Lib.decDigits q'.toNat ++ tail n.toNat k'.toNat = T := by rw [hT.out, tx, hqe]
      have hone : (⟨#[46]⟩ : ByteArray).size = 1 := rfl
      have hs2 : ¬ 9223372036854775807 < 1 + S.size := by omega
      by_cases hf : fs n.toNat k'.toNat = []
      · rw [if_pos hf] at htl
        have c1 : (S.toList == []) = true := by rw [hSl, hf]; rfl
        have HF := hid hfull
        have HT := hid htl
        clear hfull htl hqe hS hSl hq
        go_wp2
        go_loopw [0, 5] (fun q s wx => ∃ (q2 : Int) (S2 : ByteArray), q = .int .i64 q2 ∧ s = .string S2 ∧ 0 ≤ q2 ∧ q2 ≤ 9223372036854775807 ∧ Hid (∃ sl : List UInt8, S2 = ⟨sl.toArray⟩ ∧ Lib.decDigits q2.toNat ++ sl = T) ∧ Below w.heap.size w wx) (fun q _ _ => (intOf q).toNat)
        case atStart => exact ⟨q', _, rfl, rfl, q0, q1, hid ⟨_, HT.out.symm, HF.out⟩, hb⟩
        case round =>
          obtain ⟨q2, S2, rfl, rfl, r0, r1, hsl, hb2⟩ := hrel
          obtain ⟨sl, hS2, hTT⟩ := hsl.out
          obtain ⟨B, hB, hcv⟩ := digit_text q2 wr r0
          have hBz : B.size = 1 := by rw [hB, ba_size]; rfl
          have hS2z : S2.size = sl.length := by rw [hS2, ba_size]
          have hll : (Lib.decDigits q2.toNat ++ sl).length ≤ 30 := by rw [hTT]; exact hTl
          rw [List.length_append] at hll
          have hs3 : ¬ 9223372036854775807 < B.size + S2.size := by omega
          have hb3 := fun o => hb2.alloc hb2.size o
          have hBS : B ++ S2 = ⟨(dch (q2.toNat % 10) :: sl).toArray⟩ := by rw [hB, hS2, ba_append]; rfl
          by_cases hl : q2 < 10
          · have hz : q2 / 10 = 0 := by omega
            have hfin : Hid (B ++ S2 = ⟨T.toArray⟩) := hid (by rw [hBS, ← hTT, dec_last (by omega), show q2.toNat % 10 = q2.toNat by omega]; rfl)
            clear hB hS2 hTT hBS hll hsl
            go_wp2
            go_ret
            exact ⟨ret_s hfin.out, hb3 _⟩
          · have hz : (q2 / 10 == 0) = false := by simp; omega
            have H : Hid (∃ sl : List UInt8, B ++ S2 = ⟨sl.toArray⟩ ∧ Lib.decDigits (q2 / 10).toNat ++ sl = T) := hid ⟨_, hBS, by
              rw [← hTT, dec_more (q := q2.toNat) (by omega), show (q2 / 10).toNat = q2.toNat / 10 by omega, List.append_assoc]
              rfl⟩
            clear hB hS2 hTT hBS hll hsl
            go_wp2
            go_roundw
            case rel => exact ⟨_, _, rfl, rfl, by omega, by omega, H, hb3 _⟩
            case measure => simp [intOf]; omega
      · rw [if_neg hf] at htl
        have c1 : (S.toList == []) = false := by rw [hSl, beq_eq_false_iff_ne]; exact hf
        have HF := hid hfull
        have HT := hid htl
        clear hfull htl hqe hS hSl hq
        go_wp2
        go_loopw [0, 5] (fun q s wx => ∃ (q2 : Int) (S2 : ByteArray), q = .int .i64 q2 ∧ s = .string S2 ∧ 0 ≤ q2 ∧ q2 ≤ 9223372036854775807 ∧ Hid (∃ sl : List UInt8, S2 = ⟨sl.toArray⟩ ∧ Lib.decDigits q2.toNat ++ sl = T) ∧ Below w.heap.size w wx) (fun q _ _ => (intOf q).toNat)
        case atStart => exact ⟨q', _, rfl, rfl, q0, q1, hid ⟨_, HT.out.symm, HF.out⟩, hb⟩
        case round =>
          obtain ⟨q2, S2, rfl, rfl, r0, r1, hsl, hb2⟩ := hrel
          obtain ⟨sl, hS2, hTT⟩ := hsl.out
          obtain ⟨B, hB, hcv⟩ := digit_text q2 wr r0
          have hBz : B.size = 1 := by rw [hB, ba_size]; rfl
          have hS2z : S2.size = sl.length := by rw [hS2, ba_size]
          have hll : (Lib.decDigits q2.toNat ++ sl).length ≤ 30 := by rw [hTT]; exact hTl
          rw [List.length_append] at hll
          have hs3 : ¬ 9223372036854775807 < B.size + S2.size := by omega
          have hb3 := fun o => hb2.alloc hb2.size o
          have hBS : B ++ S2 = ⟨(dch (q2.toNat % 10) :: sl).toArray⟩ := by rw [hB, hS2, ba_append]; rfl
          by_cases hl : q2 < 10
          · have hz : q2 / 10 = 0 := by omega
            have hfin : Hid (B ++ S2 = ⟨T.toArray⟩) := hid (by rw [hBS, ← hTT, dec_last (by omega), show q2.toNat % 10 = q2.toNat by omega]; rfl)
            clear hB hS2 hTT hBS hll hsl
            go_wp2
            go_ret
            exact ⟨ret_s hfin.out, hb3 _⟩
          · have hz : (q2 / 10 == 0) = false := by simp; omega
            have H : Hid (∃ sl : List UInt8, B ++ S2 = ⟨sl.toArray⟩ ∧ Lib.decDigits (q2 / 10).toNat ++ sl = T) := hid ⟨_, hBS, by
              rw [← hTT, dec_more (q := q2.toNat) (by omega), show (q2 / 10).toNat = q2.toNat / 10 by omega, List.append_assoc]
              rfl⟩
            clear hB hS2 hTT hBS hll hsl
            go_wp2
            go_roundw
            case rel => exact ⟨_, _, rfl, rfl, by omega, by omega, H, hb3 _⟩
            case measure => simp [intOf]; omega
end Go.Proofs.YteelbdcgdkpioaaGreatDoor.R4
/- The laws of layer 4, out of what package decimal answers ('Dec'): alive, DecimalIs, DecimalBack, DecimalPlaces. -/
namespace Go.Proofs.YteelbdcgdkpioaaGreatDoor.L04
open Go.RowKit P R4

/-- What package decimal answers, in the worlds that K tells. -/
structure Dec (K : World → Prop) : Prop where
  keep : ∀ {w w' : World}, K w → Below w.heap.size w w' → K w'
  of : ∀ (s : ByteArray) (w : World), K w → s.size ≤ 1000000 → Calls Tryz.prog 85 #[.string s] w fun e w' => e = .returned (.int .i64 (fm s.data.toList)) ∧ Below w.heap.size w w'
  parse : ∀ (s : ByteArray) (places most : Int) (w : World), K w → s.size ≤ 1000000 → I64 places → I64 most → Calls Tryz.prog 159 #[.string s, .int .i64 places, .int .i64 most] w fun e w' =>
    e = .returned (.tuple #[.int .i64 (pN s.data.toList places most), .int .i64 (pW s.data.toList places most)]) ∧ Below w.heap.size w w'
  no : ∀ (n places : Int) (w : World), K w → I64 n → I64 places → (n < 0 ∨ places < 0 ∨ 9 < places) → Calls Tryz.prog 78 #[.int .i64 n, .int .i64 places] w fun e w' => e = .returned (.string ⟨#[]⟩) ∧ Below w.heap.size w w'
  yes : ∀ (n places : Int) (w : World), K w → 0 ≤ n → I64 n → 0 ≤ places → places ≤ 9 → Calls Tryz.prog 78 #[.int .i64 n, .int .i64 places] w fun e w' => e = .returned (.string ⟨(tx n.toNat places.toNat).toArray⟩) ∧ Below w.heap.size w w'
theorem list_of (l : List UInt8) : (⟨l.toArray⟩ : ByteArray).data.toList = l := by simp
theorem text_both {K : World → Prop} (D : Dec K) (n places : Int) (hn : I64 n) (hp : I64 places) : ∃ X : ByteArray,
    (∀ W, K W → Calls Tryz.prog 78 #[.int .i64 n, .int .i64 places] W fun e w' => e = .returned (.string X) ∧ Below W.heap.size W w') ∧
    (∀ W, Calls Tryz.prog 58 #[.int .i64 n, .int .i64 places] W fun e w' => e = .returned (.string X) ∧ Below W.heap.size W w') := by
  by_cases h : n < 0 ∨ places < 0 ∨ 9 < places
  · exact ⟨_, fun W k => D.no n places W k hn hp h, fun W => R4.text_no n places W h⟩
  · exact ⟨_, fun W k => D.yes n places W k (by omega) hn (by omega) (by omega), fun W => R4.text_yes n places W (by omega) hn (by omega) (by omega)⟩
end Go.Proofs.YteelbdcgdkpioaaGreatDoor.L04
/- What package decimal does: Text; all that the laws of layer 4 ask of it. -/
namespace Go.Proofs.YteelbdcgdkpioaaGreatDoor.Dc
open Go.RowKit Go.Sort P Ex

theorem text_no (n places : Int) (w : World) (h : n < 0 ∨ places < 0 ∨ 9 < places) :
    Calls Tryz.prog 78 #[.int .i64 n, .int .i64 places] w fun e w' => e = .returned (.string ⟨#[]⟩) ∧ Below w.heap.size w w' := by
  have cG := fun W => good_any places W
  by_cases hn : n < 0
  · clear h cG
    go_enter Tryz.func78, Tryz.ntmps78
    go_wp2
    go_ret
    exact ⟨rfl, Below.refl _ _⟩
  · rw [decide_eq_false (by omega)] at cG
    clear h
    go_enter Tryz.func78, Tryz.ntmps78
    go_wp2_with (go_at_call 110; refine (cG _).mono ?_; rintro e w1 ⟨rfl, rfl⟩)
    go_ret
    exact ⟨rfl, Below.refl _ _⟩
/-- The quotient and the rest of a number by so many tens. -/
theorem div_tens {n : Int} {k : Nat} (hn : 0 ≤ n) : n.tdiv (10 ^ k) = ((n.toNat / 10 ^ k : Nat) : Int) ∧ n.tmod (10 ^ k) = ((n.toNat % 10 ^ k : Nat) : Int) := by
  obtain ⟨m, rfl⟩ : ∃ m : Nat, n = m := ⟨n.toNat, by omega⟩
  rw [Int.toNat_natCast, show ((10 : Int) ^ k) = ((10 ^ k : Nat) : Int) by norm_cast]
  exact ⟨by rw [Int.ofNat_tdiv], by rw [Int.ofNat_tmod]⟩
set_option maxHeartbeats 1000000 in
theorem text_yes (n places : Int) (w : World) (k : K w) (hn : 0 ≤ n) (hI : I64 n) (hp0 : 0 ≤ places) (hp1 : places ≤ 9) :
    Calls Tryz.prog 78 #[.int .i64 n, .int .i64 places] w fun e w' => e = .returned (.string ⟨(tx n.toNat places.toNat).toArray⟩) ∧ Below w.heap.size w w' := by
  have cG := fun W => good_any places W
  rw [decide_eq_true ⟨hp0, hp1⟩] at cG
  obtain ⟨p, rfl⟩ : ∃ p : Nat, places = p := ⟨places.toNat, by omega⟩
  have cT := fun W => tens_any 1 p W (by omega) (by unfold I64; omega) (by omega)
  have hpos : (0 : Int) < 10 ^ p := Int.pow_pos (by decide)
  have hle : (10 : Int) ^ p ≤ 1000000000 := by
    have : (10 : Nat) ^ p ≤ 10 ^ 9 := Nat.pow_le_pow_right (by decide) (by omega)
    have h2 : ((10 ^ p : Nat) : Int) ≤ ((10 ^ 9 : Nat) : Int) := by exact_mod_cast this
    simpa using h2
  rw [Int.one_mul] at cT
  have hoI : I64 ((10 : Int) ^ p) := by unfold I64; omega
  rw [cut64_t hoI, ok64_t hoI] at cT
  obtain ⟨hq, hr⟩ := @div_tens n p hn
  have hqn : n.toNat / 10 ^ p ≤ n.toNat := Nat.div_le_self _ _
  have hrn : n.toNat % 10 ^ p < 10 ^ p := Nat.mod_lt _ (Nat.pow_pos (by decide))
  have cast : ((10 ^ p : Nat) : Int) = (10 : Int) ^ p := by norm_cast
  rw [Int.toNat_natCast]
  obtain ⟨o, ho⟩ : ∃ o : Int, o = 10 ^ p := ⟨_, rfl⟩
  have hoN : 10 ^ p = o.toNat := by omega
  have fin1 := @tx_whole n.toNat p
  have fin2 := @tx_rest n.toNat p
  rw [hoN] at hq hr hqn hrn fin1 fin2
  rw [← ho] at cT hpos hle hq hr
  obtain ⟨q, hqq⟩ : ∃ q : Nat, q = n.toNat / o.toNat := ⟨_, rfl⟩
  obtain ⟨r, hrr⟩ : ∃ r : Nat, r = n.toNat % o.toNat := ⟨_, rfl⟩
  obtain ⟨X, hX⟩ : ∃ X, X = tx n.toNat p := ⟨_, rfl⟩
  rw [← hqq] at hq hqn fin1 fin2
  rw [← hrr] at hr hrn fin1 fin2
  rw [← hX] at fin1 fin2 ⊢
  unfold I64 at hI
  obtain ⟨qi, hqi⟩ : ∃ x : Int, x = (q : Int) := ⟨_, rfl⟩
  obtain ⟨ri, hri⟩ : ∃ x : Int, x = (r : Int) := ⟨_, rfl⟩
  rw [← hqi] at hq
  rw [← hri] at hr
  have hq0 : 0 ≤ qi := by omega
  have hq1 : qi ≤ 9223372036854775807 := by omega
  have hr0 : 0 ≤ ri := by omega
  have hr1 : ri ≤ 1000000000 := by omega
  have cI : ∀ W, K W → Calls Tryz.prog 27 #[.int .i64 qi] W fun e w' => e = .returned (.string ⟨(Lib.decDigits q).toArray⟩) ∧ Below W.heap.size W w' := fun W kW => by
    have := itoa_any qi W hq0 (by unfold I64; omega) kW.2
    rwa [show qi.toNat = q by omega] at this
  have cI2 : ∀ W, K W → Calls Tryz.prog 27 #[.int .i64 (o + ri)] W fun e w' => e = .returned (.string ⟨(Lib.decDigits (o.toNat + r)).toArray⟩) ∧ Below W.heap.size W w' := fun W kW => by
    have := itoa_any (o + ri) W (by omega) (by unfold I64; omega) kW.2
    rwa [show (o + ri).toNat = o.toNat + r by omega] at this
  obtain ⟨S, hS⟩ : ∃ S : ByteArray, S = ⟨(Lib.decDigits q).toArray⟩ := ⟨_, rfl⟩
  obtain ⟨R, hR⟩ : ∃ R : ByteArray, R = ⟨(Lib.decDigits (o.toNat + r)).toArray⟩ := ⟨_, rfl⟩
  simp only [← hS] at cI
  simp only [← hR] at cI2
  have hSz : S.size ≤ 20 := by rw [hS, ba_size, Lib.decDigits_length]; exact Lib.nDigits_le20 _ (by omega)
  have hRz : R.size ≤ 20 := by rw [hR, ba_size, Lib.decDigits_length]; exact Lib.nDigits_le20 _ (by omega)
  have hR1 : 1 ≤ R.size := by rw [hR, ba_size, Lib.decDigits_length]; exact Lib.nDigits_pos _
  obtain ⟨B, hB⟩ : ∃ B : ByteArray, B = R.extract 1 R.size := ⟨_, rfl⟩
  have hBl : B.data.toList = (Lib.decDigits (o.toNat + r)).drop 1 := by rw [hB, Lib.extract_from, hR, mk_list, mk_list]
  have hBz : B.size ≤ 20 := by rw [hB, ByteArray.size_extract]; omega
  have cR := fun W => trim_any B W (by omega)
  rw [hBl] at cR
  obtain ⟨T, hT⟩ : ∃ T : ByteArray, T = ⟨(Lib.trimRightB ((Lib.decDigits (o.toNat + r)).drop 1) 48).toArray⟩ := ⟨_, rfl⟩
  rw [← hT] at cR
  have e0 : (o == 0) = false := by simp; omega
  have hTz : T.size ≤ 20 := by
    rw [hT, ba_size]
    unfold Lib.trimRightB
    rw [List.length_reverse]
    have := (List.dropWhile_sublist (· == (48 : UInt8)) (l := ((Lib.decDigits (o.toNat + r)).drop 1).reverse)).length_le
    rw [List.length_reverse, List.length_drop] at this
    have h2 := Lib.decDigits_length (o.toNat + r)
    have h3 := Lib.nDigits_le20 (o.toNat + r) (by omega)
    omega
  by_cases h0 : r = 0
  · have F : Hid (S = ⟨X.toArray⟩) := hid (by rw [hS, fin1 h0])
    obtain rfl : ri = 0 := by omega
    clear hS hR hRz hR1 hB hBl hBz cR hT hTz fin1 fin2 hX hqq hrr hI cI2 hoN cast ho hoI hqn hrn hqi hri h0
    go_enter Tryz.func78, Tryz.ntmps78
    go_wp2_with (first
      | (go_at_call 110; refine (cG _).mono ?_; rintro e w1 ⟨rfl, rfl⟩)
      | (go_at_call 111; refine (cT _).mono ?_; rintro e w1 ⟨rfl, rfl⟩))
    have qI := fun d os => Calls.regrown_of (cI _ (k.later (below_regrown w d os)))
    refine wp_region_quiet_below (by kernel_rfl) (by kernel_rfl) ?_
    repeat (go_big_quiet_step (first | (go_at_call 27; exact qI _ _)))
    refine wpQuiet_nil ?_
    intro _ hw'
    obtain ⟨⟨dq, osq⟩, hw''⟩ := hw'
    subst hw''
    go_wp2
    go_ret
    exact ⟨ret_s F.out, below_regrown w dq osq⟩
  · have F : Hid (S ++ ⟨#[46]⟩ ++ T = ⟨X.toArray⟩) := hid (by
      rw [hS, hT, show (⟨#[46]⟩ : ByteArray) = ⟨([46] : List UInt8).toArray⟩ from rfl, ba_append, ba_append, fin2 h0])
    have hrE : (ri == 0) = false := by simp; omega
    have hB' := hB.symm
    have hn1 : ¬ 9223372036854775807 < S.size + 1 := by omega
    have hn2 : ¬ 9223372036854775807 < S.size + 1 + T.size := by omega
    clear hS hR hB hBl hT fin1 fin2 hX hqq hrr hI hoN cast ho hoI hqn hrn hqi hri h0
    go_enter Tryz.func78, Tryz.ntmps78
    go_wp2_with (first
      | (go_at_call 110; refine (cG _).mono ?_; rintro e w1 ⟨rfl, rfl⟩)
      | (go_at_call 111; refine (cT _).mono ?_; rintro e w1 ⟨rfl, rfl⟩))
    have qI := fun d os => Calls.regrown_of (cI _ (k.later (below_regrown w d os)))
    refine wp_region_quiet_below (by kernel_rfl) (by kernel_rfl) ?_
    repeat (go_big_quiet_step (first | (go_at_call 27; exact qI _ _)))
    refine wpQuiet_nil ?_
    intro _ hw'
    obtain ⟨⟨dq, osq⟩, hw''⟩ := hw'
    subst hw''
    have b1 := below_regrown w dq osq
    have k1 := k.later b1
    go_wp2_with (first
      | (go_at_call 27; refine (cI2 _ k1).mono ?_; rintro e w2 ⟨rfl, b2⟩; have B2 := b1.trans (b2.mono b1.size))
      | (go_at_call 112; refine (cR _).mono ?_; rintro e w3 ⟨rfl, b3⟩; have B3 := B2.trans (b3.mono B2.size)))
    go_ret
    exact ⟨ret_s F.out, B3⟩
theorem dec : L04.Dec K where
  keep := fun k b => k.later b
  of := fun s w k hs => of_any s w k hs
  parse := fun s places most w k hs _ _ => parse_any s places most w k hs
  no := fun n places w _ _ _ h => text_no n places w h
  yes := fun n places w k h0 hI hp0 hp1 => text_yes n places w k h0 hI hp0 hp1
end Go.Proofs.YteelbdcgdkpioaaGreatDoor.Dc
