/- What package date does. -/
import Derived.Test.YteelbdcgdkpioaaGreatDoorJLexQ
import Derived.Test.YteelbdcgdkpioaaGreatDoorJDatB
import Derived.Test.YteelbdcgdkpioaaGreatDoorJLays
import Derived.Lib.AppendIntMem
import Derived.Test.YteelbdcgdkpioaaGreatDoorRows
import Derived.WalkKit
import Derived.ProofKit
import Derived.BigQuiet
import Derived.Deep.QuietTactic
import Derived.Test.YteelbdcgdkpioaaGreatDoorJShT
import Derived.Lib.IndexMore
import Derived.Lib.TrimByte
import Derived.Lib.OthersKept
import Derived.Laws.RangeAny
namespace Go.Proofs.YteelbdcgdkpioaaGreatDoor.Dt
open Go.RowKit Go.Sort P

theorem leap_any (y : Int) (w : World) :
    Calls Tryz.prog 102 #[.int .i64 y] w fun e w' => e = .returned (.bool (leap y)) ∧ w' = w := by
  go_enter Tryz.func102, Tryz.ntmps102
  go_wp2
  all_goals
    go_ret
    refine ⟨ret_b ?_, rfl⟩
    unfold leap
    simp_all [tm0]
    try exact tmb _ _
theorem days_any (y m : Int) (w : World) :
    Calls Tryz.prog 75 #[.int .i64 y, .int .i64 m] w fun e w' => e = .returned (.int .i64 (days y m)) ∧ w' = w := by
  go_enter Tryz.func75, Tryz.ntmps75
  go_wp2_with (go_at_call 102; refine (leap_any _ _).mono ?_; rintro e w' ⟨rfl, rfl⟩)
  all_goals
    go_ret
    refine ⟨ret_i ?_, rfl⟩
    unfold days lp
    simp_all
    try omega
theorem good_any (y m d : Int) (w : World) :
    Calls Tryz.prog 46 #[dv y m d] w fun e w' => e = .returned (.bool (good y m d)) ∧ Below w.heap.size w w' := by
  unfold dv
  by_cases h : 1 ≤ y ∧ y ≤ 9999 ∧ 1 ≤ d
  · obtain ⟨h1, h2, h3⟩ := h
    have b1 : decide (1 ≤ y) = true := decide_eq_true h1
    have b2 : decide (y ≤ 9999) = true := decide_eq_true h2
    have b3 : decide (1 ≤ d) = true := decide_eq_true h3
    have g : good y m d = decide (d ≤ days y m) := by unfold good; rw [decide_eq_decide]; omega
    have G := hid g
    clear g
    go_enter Tryz.func46, Tryz.ntmps46
    go_wp2
    go_quiet ((go_at_call 75; exact Calls.quiet_of_same (days_any _ _ _)))
    go_wp2
    go_ret
    exact ⟨ret_b G.out.symm, bel_drewN ((Below.refl _ _).alloc (Nat.le_refl _) _) _⟩
  · have g : good y m d = false := by unfold good; rw [decide_eq_false_iff_not]; omega
    have G := hid g
    clear g
    rcases Decidable.em (1 ≤ y) with h1 | h1
    · rcases Decidable.em (y ≤ 9999) with h2 | h2
      · have h3 : ¬ 1 ≤ d := fun h3 => h ⟨h1, h2, h3⟩
        have b1 : decide (1 ≤ y) = true := decide_eq_true h1
        have b2 : decide (y ≤ 9999) = true := decide_eq_true h2
        have b3 : decide (1 ≤ d) = false := decide_eq_false h3
        clear h
        go_enter Tryz.func46, Tryz.ntmps46
        go_wp2
        go_quiet (fail)
        go_wp2
        go_ret
        exact ⟨ret_b G.out.symm, bel_drewN ((Below.refl _ _).alloc (Nat.le_refl _) _) _⟩
      · have b1 : decide (1 ≤ y) = true := decide_eq_true h1
        have b2 : decide (y ≤ 9999) = false := decide_eq_false h2
        clear h
        go_enter Tryz.func46, Tryz.ntmps46
        go_wp2
        go_quiet (fail)
        go_wp2
        go_ret
        exact ⟨ret_b G.out.symm, bel_drewN ((Below.refl _ _).alloc (Nat.le_refl _) _) _⟩
    · have b1 : decide (1 ≤ y) = false := decide_eq_false h1
      clear h
      go_enter Tryz.func46, Tryz.ntmps46
      go_wp2
      go_quiet (fail)
      go_wp2
      go_ret
      exact ⟨ret_b G.out.symm, bel_drewN ((Below.refl _ _).alloc (Nat.le_refl _) _) _⟩
end Go.Proofs.YteelbdcgdkpioaaGreatDoor.Dt
/- What package date does: the texts of days. -/
namespace Go.Proofs.YteelbdcgdkpioaaGreatDoor.Dt
open Go.RowKit Go.Sort P

/-- The library's table of powers of ten stands as the program's text lays it. -/
def Tab (w : World) : Prop := Lib.TabIs Tryz.prog w "internal/strconv.uint64pow10" .u64 Lib.pow10Tab
theorem Tab.later {w w' : World} (h : Tab w) (b : Below w.heap.size w w') : Tab w' := Lib.tabBelow_of_tabIs h _ b
theorem itoa_any (n : Int) (w : World) (h0 : 0 ≤ n) (h1 : n ≤ 9999) (T : Tab w) :
    Calls Tryz.prog 27 #[.int .i64 n] w fun e w' => e = .returned (.string ⟨(Lib.decDigits n.toNat).toArray⟩) ∧ Below w.heap.size w w' := by
  refine (Any.strconv_Itoa Tryz.laysM171 n (by omega) (by omega) w T).mono ?_
  rintro e w' ⟨rfl, k, os, rfl⟩
  refine ⟨?_, Lib.below_grow _ _ (Nat.le_refl _) _ _⟩
  have e : n = (n.toNat : Int) := by omega
  rw [e, Lib.itoa_nonneg]
  rfl
theorem rep_any (c : Int) (w : World) (h0 : 0 ≤ c) (h1 : c ≤ 9) :
    Calls Tryz.prog 76 #[.string ⟨#[48]⟩, .int .i64 c] w fun e w' => e = .returned (.string ⟨(Lib.repeatL [48] c.toNat).toArray⟩) ∧ Below w.heap.size w w' := by
  have h := Any.strings_Repeat Tryz.lays105 Tryz.Builder_Extra_105 ⟨#[48]⟩ c.toNat w (by omega) (by show 1 * c.toNat ≤ _; omega)
  rw [show ((c.toNat : Nat) : Int) = c by omega] at h
  exact h
/-- 'padded': a number in so many digits. -/
theorem padded_any (n k : Int) (w : World) (h0 : 0 ≤ n) (k0 : 1 ≤ k) (k1 : k ≤ 4) (hn : n.toNat < 10 ^ k.toNat) (T : Tab w) :
    Calls Tryz.prog 47 #[.int .i64 n, .int .i64 k] w fun e w' => e = .returned (.string ⟨(pad k.toNat n.toNat).toArray⟩) ∧ Below w.heap.size w w' := by
  have hp : (10 : Nat) ^ k.toNat ≤ 10 ^ 4 := Nat.pow_le_pow_right (by decide) (by omega)
  have hd : Lib.nDigits n.toNat ≤ k.toNat := by
    have := nDigits_le (k.toNat - 1) n.toNat (by rwa [show k.toNat - 1 + 1 = k.toNat by omega])
    omega
  have hd0 := Lib.nDigits_pos n.toNat
  have e := pad_dec k.toNat n.toNat hd
  have ci := itoa_any n w h0 (by omega) T
  obtain ⟨S, hS⟩ : ∃ S : ByteArray, S = ⟨(Lib.decDigits n.toNat).toArray⟩ := ⟨_, rfl⟩
  have hSz : S.size = Lib.nDigits n.toNat := by rw [hS, ba_size, Lib.decDigits_length]
  obtain ⟨c, hc⟩ : ∃ c : Int, c = k - (S.size : Int) := ⟨_, rfl⟩
  have hcn : c.toNat = k.toNat - Lib.nDigits n.toNat := by omega
  have hc0 : 0 ≤ c := by omega
  have hc1 : c ≤ 3 := by omega
  have hcw : (k - (S.size : Int)) = c := hc.symm
  have cr := fun W => rep_any c W hc0 (by omega)
  obtain ⟨R, hR⟩ : ∃ R : ByteArray, R = ⟨(Lib.repeatL [48] c.toNat).toArray⟩ := ⟨_, rfl⟩
  have hRz : R.size = c.toNat := by rw [hR, ba_size, Lib.repeatL_length]; simp
  rw [← hS] at ci
  rw [← hR] at cr
  have fin : Hid (R ++ S = ⟨(pad k.toNat n.toNat).toArray⟩) := hid (by rw [hR, hS, ba_append, hcn, e])
  have hk4 : S.size ≤ 4 := by omega
  have n1 : ¬ 9223372036854775807 < R.size + S.size := by omega
  clear e hn hp hd hd0 hcn hR hS hRz T hSz hc
  go_enter Tryz.func47, Tryz.ntmps47
  go_wp2_with (go_at_call 27; refine ci.mono ?_; rintro e w1 ⟨rfl, b1⟩)
  go_wp2_with (go_at_call 76; refine (cr _).mono ?_; rintro e w2 ⟨rfl, b2⟩)
  go_ret
  exact ⟨ret_s fin.out, b1.trans (b2.mono b1.size)⟩
theorem text_no (y m d : Int) (w : World) (g : good y m d = false) :
    Calls Tryz.prog 26 #[dv y m d] w fun e w' => e = .returned (.string ⟨#[]⟩) ∧ Below w.heap.size w w' := by
  unfold dv
  have cG := good_any y m d (w.alloc (.cells #[.int .i64 y, .int .i64 m, .int .i64 d] 24))
  rw [g] at cG
  go_enter Tryz.func26, Tryz.ntmps26
  go_wp2_with (go_at_call 46; refine cG.mono ?_; rintro e w1 ⟨rfl, bel⟩)
  go_ret
  exact ⟨rfl, (box3 bel).2.2.2.2⟩
set_option maxHeartbeats 1000000 in
theorem text_yes (y m d : Int) (w : World) (g : good y m d = true) (T : Tab w) :
    Calls Tryz.prog 26 #[dv y m d] w fun e w' => e = .returned (.string ⟨(txt y m d).toArray⟩) ∧ Below w.heap.size w w' := by
  have cG := good_any y m d (w.alloc (.cells #[.int .i64 y, .int .i64 m, .int .i64 d] 24))
  rw [g] at cG
  obtain ⟨h0, h1, h2, h3, h4, h5⟩ := good_small g
  have cY : ∀ W, Below w.heap.size w W → Calls Tryz.prog 47 #[.int .i64 y, .int .i64 4] W fun e w' => e = .returned (.string ⟨(pad 4 y.toNat).toArray⟩) ∧ Below W.heap.size W w' :=
    fun W b => padded_any y 4 W h0 (by omega) (by omega) (by show _ < 10000; omega) (T.later b)
  have cM : ∀ W, Below w.heap.size w W → Calls Tryz.prog 47 #[.int .i64 m, .int .i64 2] W fun e w' => e = .returned (.string ⟨(pad 2 m.toNat).toArray⟩) ∧ Below W.heap.size W w' :=
    fun W b => padded_any m 2 W h2 (by omega) (by omega) (by show _ < 100; omega) (T.later b)
  have cD : ∀ W, Below w.heap.size w W → Calls Tryz.prog 47 #[.int .i64 d, .int .i64 2] W fun e w' => e = .returned (.string ⟨(pad 2 d.toNat).toArray⟩) ∧ Below W.heap.size W w' :=
    fun W b => padded_any d 2 W h4 (by omega) (by omega) (by show _ < 100; omega) (T.later b)
  obtain ⟨Y, hY⟩ : ∃ S : ByteArray, S = ⟨(pad 4 y.toNat).toArray⟩ := ⟨_, rfl⟩
  obtain ⟨M, hM⟩ : ∃ S : ByteArray, S = ⟨(pad 2 m.toNat).toArray⟩ := ⟨_, rfl⟩
  obtain ⟨D, hD⟩ : ∃ S : ByteArray, S = ⟨(pad 2 d.toNat).toArray⟩ := ⟨_, rfl⟩
  have zY : Y.size = 4 := by rw [hY, ba_size, pad_length]
  have zM : M.size = 2 := by rw [hM, ba_size, pad_length]
  have zD : D.size = 2 := by rw [hD, ba_size, pad_length]
  rw [← hY] at cY; rw [← hM] at cM; rw [← hD] at cD
  have fin : Hid (Y ++ ⟨#[45]⟩ ++ M ++ ⟨#[45]⟩ ++ D = ⟨(txt y m d).toArray⟩) := hid (by
    rw [hY, hM, hD, show (⟨#[45]⟩ : ByteArray) = ⟨([45] : List UInt8).toArray⟩ from rfl, ba_append, ba_append, ba_append, ba_append]
    rfl)
  clear hY hM hD h0 h1 h2 h3 h4 h5 g T
  unfold dv
  unfold dv at cG
  go_enter Tryz.func26, Tryz.ntmps26
  go_wp2_with (go_at_call 46; refine cG.mono ?_; rintro e w1 ⟨rfl, bel⟩; have M3 := box3 bel; obtain ⟨c0, c1, c2, hlt, b1⟩ := M3)
  clear cG bel
  have k0 := cell_regrown c0
  have k1 := cell_regrown c1
  have k2 := cell_regrown c2
  have qY := fun d os => Calls.regrown_of (cY _ (b1.trans ((below_regrown w1 d os).mono b1.size)))
  have qM := fun d os => Calls.regrown_of (cM _ (b1.trans ((below_regrown w1 d os).mono b1.size)))
  have qD := fun d os => Calls.regrown_of (cD _ (b1.trans ((below_regrown w1 d os).mono b1.size)))
  clear cY cM cD
  refine wp_region_quiet_below (by kernel_rfl) (by kernel_rfl) ?_
  repeat (quiet_step (first | (go_at_call_of 47 (Value.int IntKind.i64 y); exact qY _ _) | (go_at_call_of 47 (Value.int IntKind.i64 m); exact qM _ _) | (go_at_call_of 47 (Value.int IntKind.i64 d); exact qD _ _)))
  refine wpQuiet_nil ?_
  intro _ hw'
  obtain ⟨⟨dq, osq⟩, hw''⟩ := hw'
  subst hw''
  go_wp2
  go_ret
  exact ⟨ret_s fin.out, b1.trans ((below_regrown w1 dq osq).mono b1.size)⟩
end Go.Proofs.YteelbdcgdkpioaaGreatDoor.Dt
/- What each call of package exact answers, for all numbers of 64 bits: contracts over the walked program. -/
namespace Go.Proofs.YteelbdcgdkpioaaGreatDoor.Ex
open Go.RowKit P

theorem ret_2 {k : IntKind} {a b : Int} {p q : Bool} (h : a = b) (h' : p = q) : Ending.returned (.tuple #[.int k a, .bool p]) = .returned (.tuple #[.int k b, .bool q]) := by rw [h, h']
theorem ret_3 {k l : IntKind} {a b c d : Int} {p q : Bool} (h : a = b) (h1 : c = d) (h' : p = q) : Ending.returned (.tuple #[.int k a, .int l c, .bool p]) = .returned (.tuple #[.int k b, .int l d, .bool q]) := by rw [h, h1, h']

theorem add_yes (a b : Int) (w : World) (h : I64 (a + b)) :
    Calls Tryz.prog 173 #[.int .i64 a, .int .i64 b] w fun e w' => e = .returned (.tuple #[.int .i64 (a + b), .bool true]) ∧ w = w' := by
  have ht := add_test_yes h
  have H := hid (wrap_in h)
  clear h
  go_enter Tryz.func173, Tryz.ntmps173
  go_wp2
  go_ret2
  exact ⟨ret_2 H.out rfl, rfl⟩
theorem add_no (a b : Int) (w : World) (ha : I64 a) (hb : I64 b) (h : ¬ I64 (a + b)) :
    Calls Tryz.prog 173 #[.int .i64 a, .int .i64 b] w fun e w' => e = .returned (.tuple #[.int .i64 0, .bool false]) ∧ w = w' := by
  have ht := add_test_no ha hb h
  clear ha hb h
  go_enter Tryz.func173, Tryz.ntmps173
  go_wp2
  go_ret2
  exact ⟨rfl, rfl⟩
theorem add_any (a b : Int) (w : World) (ha : I64 a) (hb : I64 b) :
    Calls Tryz.prog 173 #[.int .i64 a, .int .i64 b] w fun e w' => e = .returned (.tuple #[.int .i64 (cut64 (a + b)), .bool (ok64 (a + b))]) ∧ w = w' := by
  by_cases h : I64 (a + b)
  · rw [cut64_t h, ok64_t h]; exact add_yes a b w h
  · rw [cut64_f h, ok64_f h]; exact add_no a b w ha hb h
theorem sub_yes (a b : Int) (w : World) (h : I64 (a - b)) :
    Calls Tryz.prog 154 #[.int .i64 a, .int .i64 b] w fun e w' => e = .returned (.tuple #[.int .i64 (a - b), .bool true]) ∧ w = w' := by
  have ht := sub_test_yes h
  have H := hid (wrap_in h)
  clear h
  go_enter Tryz.func154, Tryz.ntmps154
  go_wp2
  go_ret2
  exact ⟨ret_2 H.out rfl, rfl⟩
theorem sub_no (a b : Int) (w : World) (ha : I64 a) (hb : I64 b) (h : ¬ I64 (a - b)) :
    Calls Tryz.prog 154 #[.int .i64 a, .int .i64 b] w fun e w' => e = .returned (.tuple #[.int .i64 0, .bool false]) ∧ w = w' := by
  have ht := sub_test_no ha hb h
  clear ha hb h
  go_enter Tryz.func154, Tryz.ntmps154
  go_wp2
  go_ret2
  exact ⟨rfl, rfl⟩
theorem sub_any (a b : Int) (w : World) (ha : I64 a) (hb : I64 b) :
    Calls Tryz.prog 154 #[.int .i64 a, .int .i64 b] w fun e w' => e = .returned (.tuple #[.int .i64 (cut64 (a - b)), .bool (ok64 (a - b))]) ∧ w = w' := by
  by_cases h : I64 (a - b)
  · rw [cut64_t h, ok64_t h]; exact sub_yes a b w h
  · rw [cut64_f h, ok64_f h]; exact sub_no a b w ha hb h
theorem mul_any (a b : Int) (w : World) (ha : I64 a) (hb : I64 b) :
    Calls Tryz.prog 142 #[.int .i64 a, .int .i64 b] w fun e w' => e = .returned (.tuple #[.int .i64 (cut64 (a * b)), .bool (ok64 (a * b))]) ∧ w = w' := by
  by_cases h0 : a = 0
  · subst h0
    rw [Int.zero_mul, cut64_t i64_0, ok64_t i64_0]
    clear ha hb
    go_enter Tryz.func142, Tryz.ntmps142
    go_wp2
    go_ret2
    exact ⟨rfl, rfl⟩
  · by_cases h1 : a = -1
    · subst h1
      have e : (-1 : Int) * b = -b := by omega
      rw [e]
      clear e h0 ha
      have hb' : Hid (I64 b) := hid hb
      clear hb
      go_enter Tryz.func142, Tryz.ntmps142
      go_wp2_with (go_at_call 154; refine (sub_any _ _ _ i64_0 hb'.out).mono ?_; rintro e w' ⟨rfl, rfl⟩; simp only [Int.zero_sub])
      go_ret2
      exact ⟨rfl, rfl⟩
    · have e0 : (a == 0) = false := by simpa using h0
      have e1 : (a == -1) = false := by simpa using h1
      by_cases h : I64 (a * b)
      · have ht : (wrap64 ((wrap64 (a * b)).tdiv a) != b) = false := by rw [mul_test_yes hb h0 h]; simp
        have H := hid (wrap_in h)
        have H2 := hid h
        clear ha hb h h1
        go_enter Tryz.func142, Tryz.ntmps142
        go_wp2
        go_ret2
        exact ⟨ret_2 (by rw [H.out, cut64_t H2.out]) (by rw [ok64_t H2.out]), rfl⟩
      · have ht : (wrap64 ((wrap64 (a * b)).tdiv a) != b) = true := by
          rcases mul_test_no ha h0 h with h2 | h2
          · simpa using h2
          · exact absurd h2 h1
        rw [cut64_f h, ok64_f h]
        clear ha hb h h1
        go_enter Tryz.func142, Tryz.ntmps142
        go_wp2
        go_ret2
        exact ⟨rfl, rfl⟩
end Go.Proofs.YteelbdcgdkpioaaGreatDoor.Ex
/- What a number's shortest text tells, as plain arithmetic: no program is named here. -/
namespace Go.Proofs.YteelbdcgdkpioaaGreatDoor.P
open Go.RowKit

theorem isDg_dch {k : Nat} (h : k < 10) : isDg (dch k) = true := by rw [isDg_iff, dig_toNat h]; omega
/-- Digits behind letters. -/
theorem stB_digits : ∀ (b a : List UInt8), b.all isDg = true → stB (a ++ b) = if 0 ≤ stB a then stB a + b.length else stB a
  | [], a, _ => by simp
  | c :: t, a, h => by
    rw [List.all_cons, Bool.and_eq_true] at h
    have hc := isDg_no46 h.1
    rw [show a ++ c :: t = (a ++ [c]) ++ t by simp, stB_digits t (a ++ [c]) h.2, stB_snoc, if_neg hc]
    by_cases h0 : 0 ≤ stB a
    · rw [if_pos h0, if_pos h0, if_pos (by omega), List.length_cons]; omega
    · rw [if_neg h0, if_neg h0, if_neg h0]
theorem stV_digits : ∀ (b a : List UInt8), b.all isDg = true → stV (a ++ b) = stV a * 10 ^ b.length + stV b
  | [], a, _ => by simp [stV]
  | c :: t, a, h => by
    rw [List.all_cons, Bool.and_eq_true] at h
    have hc := isDg_no46 h.1
    have e := stV_digits t [c] h.2
    rw [show a ++ c :: t = (a ++ [c]) ++ t by simp, stV_digits t (a ++ [c]) h.2, stV_snoc, if_neg hc, show c :: t = [c] ++ t from rfl, e, show stV [c] = 10 * 0 + (c.toNat - 48) by
      have := stV_snoc [] c
      rw [if_neg hc] at this
      exact this]
    rw [List.length_append, List.length_singleton, Nat.add_comm 1, Nat.pow_succ]
    generalize 10 ^ t.length = y
    generalize c.toNat - 48 = d
    generalize stV a = x
    generalize stV t = z
    grind
theorem stV_point (a : List UInt8) : stV (a ++ [46]) = stV a := by rw [stV_snoc, if_pos rfl]
theorem stB_point (a : List UInt8) : stB (a ++ [46]) = 0 := by rw [stB_snoc, if_pos rfl]
theorem dec_digits (q : Nat) : (Lib.decDigits q).all isDg = true := by
  induction q using Nat.strongRecOn with
  | _ q ih =>
    by_cases h : q < 10
    · rw [dec_last h]; simp [isDg_dch h]
    · rw [dec_more h, List.all_append, ih (q / 10) (by omega)]
      simp [isDg_dch (Nat.mod_lt q (by decide : 0 < 10))]
theorem dec_value (q : Nat) : stV (Lib.decDigits q) = q := by
  induction q using Nat.strongRecOn with
  | _ q ih =>
    have s1 : ∀ k, k < 10 → ∀ a, stV (a ++ [dch k]) = 10 * stV a + k := fun k hk a => by
      rw [stV_snoc, if_neg (isDg_no46 (isDg_dch hk)), dig_toNat hk]; omega
    by_cases h : q < 10
    · rw [dec_last h]
      have := s1 q h []
      simpa [stV] using this
    · rw [dec_more h, s1 (q % 10) (Nat.mod_lt q (by decide)), ih (q / 10) (by omega)]
      omega
theorem dec_ne (q : Nat) : Lib.decDigits q ≠ [] := by
  intro h
  have := Lib.decDigits_length q
  rw [h] at this
  have := Lib.nDigits_pos q
  simp at *
  omega
theorem dec_head (q : Nat) : (Lib.decDigits q).getD 0 0 = 48 → q = 0 := by
  induction q using Nat.strongRecOn with
  | _ q ih =>
    intro h
    by_cases hq : q < 10
    · rw [dec_last hq] at h
      have : (dch q).toNat = 48 := by rw [show dch q = 48 from h]; rfl
      rw [dig_toNat hq] at this
      omega
    · rw [dec_more hq] at h
      have hn := dec_ne (q / 10)
      have e : (Lib.decDigits (q / 10) ++ [dch (q % 10)]).getD 0 0 = (Lib.decDigits (q / 10)).getD 0 0 := by
        cases hl : Lib.decDigits (q / 10) with
        | nil => exact absurd hl hn
        | cons a t => rfl
      rw [e] at h
      have := ih (q / 10) (by omega) h
      omega
theorem fs_digits (n : Nat) : ∀ k, (fs n k).all isDg = true
  | 0 => rfl
  | k + 1 => by
    rw [fs]
    split
    · rw [List.all_cons, fs_digits n k, isDg_dch (Nat.mod_lt _ (by decide))]; rfl
    · rfl
theorem fs_value (n : Nat) : ∀ k, stV (fs n k) * 10 ^ (k - (fs n k).length) = n % 10 ^ k
  | 0 => by simp [fs, stV, Nat.mod_one]
  | k + 1 => by
    have ih := fs_value n k
    have hl := fs_length n k
    have hm : n % 10 ^ (k + 1) = n / 10 ^ k % 10 * 10 ^ k + n % 10 ^ k := by
      rw [Nat.pow_succ, Nat.mod_mul]
      rw [Nat.mul_comm (10 ^ k), Nat.add_comm]
    by_cases h : fs n k ≠ [] ∨ n / 10 ^ k % 10 ≠ 0
    · have hc : n / 10 ^ k % 10 < 10 := Nat.mod_lt _ (by decide)
      rw [fs_yes h, show dch (n / 10 ^ k % 10) :: fs n k = [dch (n / 10 ^ k % 10)] ++ fs n k from rfl, stV_digits _ _ (fs_digits n k), List.length_append, List.length_singleton, hm, ← ih,
        show k + 1 - (1 + (fs n k).length) = k - (fs n k).length by omega,
        show stV [dch (n / 10 ^ k % 10)] = n / 10 ^ k % 10 by
          have := stV_snoc [] (dch (n / 10 ^ k % 10))
          rw [if_neg (isDg_no46 (isDg_dch hc)), dig_toNat hc] at this
          simpa [stV] using this, Nat.add_mul, Nat.mul_assoc, ← Nat.pow_add, show (fs n k).length + (k - (fs n k).length) = k by omega]
    · have h1 : fs n k = [] := by
        rcases Decidable.em (fs n k = []) with a | a
        · exact a
        · exact absurd (.inl a) h
      have h2 : n / 10 ^ k % 10 = 0 := by
        rcases Decidable.em (n / 10 ^ k % 10 = 0) with a | a
        · exact a
        · exact absurd (.inr a) h
      rw [h1] at ih
      rw [fs_no h1 h2, hm, h2, ← ih]
      simp [stV]
theorem fs_last (n : Nat) : ∀ k, fs n k ≠ [] → ∃ a c, fs n k = a ++ [c] ∧ c ≠ 48
  | 0, h => absurd rfl h
  | k + 1, h => by
    have hc : n / 10 ^ k % 10 < 10 := Nat.mod_lt _ (by decide)
    by_cases h1 : fs n k = []
    · have h2 : n / 10 ^ k % 10 ≠ 0 := fun e => h (fs_no h1 e)
      rw [fs_yes (.inr h2), h1]
      refine ⟨[], _, rfl, fun e => ?_⟩
      have := congrArg UInt8.toNat e
      rw [dig_toNat hc] at this
      have e48 : (48 : UInt8).toNat = 48 := rfl
      omega
    · obtain ⟨a, c, e, hc2⟩ := fs_last n k h1
      rw [fs_yes (.inl h1), e]
      exact ⟨_ :: a, c, rfl, hc2⟩
theorem dg_dp {l : List UInt8} (h : l.all isDg = true) : l.all isDp = true := by
  rw [List.all_eq_true] at h ⊢
  intro x hx
  unfold isDp
  rw [h x hx]
  rfl
theorem dg_count {l : List UInt8} (h : l.all isDg = true) : l.count 46 = 0 := by
  rw [List.count_eq_zero]
  intro k
  rw [List.all_eq_true] at h
  exact isDg_no46 (h _ k) rfl
theorem dg_last {l : List UInt8} (h : l.all isDg = true) : (l.getLast? == some 46) = false := by
  rw [beq_eq_false_iff_ne]
  intro k
  rw [List.all_eq_true] at h
  exact isDg_no46 (h _ (List.mem_of_getLast? k)) rfl
theorem dg_first {l : List UInt8} (h : l.all isDg = true) (hne : l ≠ []) : isDg (l.getD 0 0) = true := by
  cases l with
  | nil => exact absurd rfl hne
  | cons a t => rw [List.all_cons, Bool.and_eq_true] at h; exact h.1
/-- Digits ahead, then the point, then digits: the form of a text. -/
theorem fm_whole {a : List UInt8} (ha : a.all isDg = true) (hne : a ≠ []) (hh : oddHead a = false) : fm a = 1 := by
  rw [fm_is (dg_first ha hne) (by unfold evenBody; rw [dg_dp ha, dg_count ha, dg_last ha]; rfl) hh, dg_count ha]
theorem getD_app {a b : List UInt8} {i : Nat} (h : i < a.length) : (a ++ b).getD i 0 = a.getD i 0 := by
  rw [List.getD_eq_getElem?_getD, List.getElem?_append_left h, ← List.getD_eq_getElem?_getD]
theorem getD_len {a b : List UInt8} : (a ++ b).getD a.length 0 = b.getD 0 0 := by
  rw [List.getD_eq_getElem?_getD, List.getElem?_append_right (Nat.le_refl _), Nat.sub_self, ← List.getD_eq_getElem?_getD]
theorem head_point {a b : List UInt8} (hne : a ≠ []) (hh : oddHead a = false) : oddHead (a ++ 46 :: b) = false := by
  have hl : 0 < a.length := List.length_pos_iff.2 hne
  unfold oddHead at hh ⊢
  rw [getD_app hl]
  by_cases h1 : 1 < a.length
  · rw [getD_app h1]
    rw [decide_eq_true h1] at hh
    rw [decide_eq_true (by simp; omega)]
    exact hh
  · have e : a.length = 1 := by omega
    have := getD_len (a := a) (b := 46 :: b)
    rw [e] at this
    rw [this]
    simp
theorem fm_point {a b : List UInt8} (ha : a.all isDg = true) (hne : a ≠ []) (hh : oddHead a = false) (hb : b.all isDg = true) (hb0 : b ≠ []) : fm (a ++ 46 :: b) = 2 := by
  have hl : 0 < a.length := List.length_pos_iff.2 hne
  have hc : (a ++ 46 :: b).count 46 = 1 := by rw [List.count_append, dg_count ha, List.count_cons_self, dg_count hb]
  have hlast : (a ++ 46 :: b).getLast? = b.getLast? := by
    rw [List.getLast?_append, List.getLast?_cons]
    cases h : b.getLast? with
    | none => exact absurd (List.getLast?_eq_none_iff.1 h) hb0
    | some x => rfl
  rw [fm_is (by rw [getD_app hl]; exact dg_first ha hne) (by
    unfold evenBody
    rw [hc, hlast, dg_last hb, List.all_append, dg_dp ha, List.all_cons, dg_dp hb]
    rfl) (head_point hne hh), hc]
theorem dec_oddHead (q : Nat) : oddHead (Lib.decDigits q) = false := by
  unfold oddHead
  by_cases h : (Lib.decDigits q).getD 0 0 = 48
  · have hq := dec_head q h
    subst hq
    rw [dec_last (by omega)]
    rfl
  · rw [beq_eq_false_iff_ne.2 h]; rfl
theorem tail_no {n p : Nat} (h : fs n p = []) : tail n p = [] := by unfold tail; rw [if_pos h]
theorem tail_yes {n p : Nat} (h : fs n p ≠ []) : tail n p = 46 :: fs n p := by unfold tail; rw [if_neg h]
theorem tx_fm (n p : Nat) : fm (tx n p) = if fs n p = [] then 1 else 2 := by
  unfold tx
  by_cases h : fs n p = []
  · rw [tail_no h, List.append_nil, if_pos h]
    exact fm_whole (dec_digits _) (dec_ne _) (dec_oddHead _)
  · rw [tail_yes h, if_neg h]
    exact fm_point (dec_digits _) (dec_ne _) (dec_oddHead _) (fs_digits n p) h
theorem stB_dec (q : Nat) : stB (Lib.decDigits q) = -1 := by
  have := stB_digits (Lib.decDigits q) [] (dec_digits q)
  simpa [stB] using this
theorem tx_stB (n p : Nat) : stB (tx n p) = if fs n p = [] then -1 else ((fs n p).length : Int) := by
  unfold tx
  by_cases h : fs n p = []
  · rw [tail_no h, List.append_nil, if_pos h, stB_dec]
  · rw [tail_yes h, if_neg h, show Lib.decDigits (n / 10 ^ p) ++ 46 :: fs n p = (Lib.decDigits (n / 10 ^ p) ++ [46]) ++ fs n p by simp, stB_digits _ _ (fs_digits n p), stB_point, if_pos (by omega)]
    omega
theorem tx_stV (n p : Nat) : stV (tx n p) * 10 ^ (p - (fs n p).length) = n := by
  have hv := fs_value n p
  have hl := fs_length n p
  unfold tx
  by_cases h : fs n p = []
  · rw [h] at hv
    rw [tail_no h, List.append_nil, dec_value, h]
    have h0 : n % 10 ^ p = 0 := by rw [← hv]; simp [stV]
    have := Nat.div_add_mod n (10 ^ p)
    rw [h0, Nat.mul_comm] at this
    simpa using this
  · rw [tail_yes h, show Lib.decDigits (n / 10 ^ p) ++ 46 :: fs n p = (Lib.decDigits (n / 10 ^ p) ++ [46]) ++ fs n p by simp, stV_digits _ _ (fs_digits n p), stV_point, dec_value, Nat.add_mul, hv, Nat.mul_assoc, ← Nat.pow_add,
      show (fs n p).length + (p - (fs n p).length) = p by omega, Nat.mul_comm]
    exact Nat.div_add_mod n (10 ^ p)
theorem tx_pK (n p : Nat) : pK (tx n p) p = p - (fs n p).length := by
  have hl := fs_length n p
  unfold pK
  rw [tx_stB]
  by_cases h : fs n p = []
  · rw [if_pos h, h]; simp; omega
  · rw [if_neg h]; omega
theorem tx_pV (n p : Nat) : pV (tx n p) p = (n : Int) := by
  unfold pV
  rw [tx_pK]
  have := tx_stV n p
  exact_mod_cast this
theorem tx_pBad {n p : Nat} (hp : p ≤ 9) : pBad (tx n p) p = false := by
  have hl := fs_length n p
  unfold pBad
  rw [decide_eq_false_iff_not, tx_fm, tx_stB]
  by_cases h : fs n p = []
  · rw [if_pos h, if_pos h]; omega
  · rw [if_neg h, if_neg h]; omega
/-- A number's text is read as it. -/
theorem tx_back {n p : Nat} (hp : p ≤ 9) (most : Int) (hI : I64 (n : Int)) (hm : (n : Int) ≤ most) : pN (tx n p) p most = n ∧ pW (tx n p) p most = 0 := by
  unfold pN pW pGreat
  rw [tx_pBad hp, tx_pV, ok64_t hI, decide_eq_false (by omega)]
  exact ⟨rfl, rfl⟩
theorem tx_last {n p : Nat} (h : fm (tx n p) ≠ 1) : ∃ a c, tx n p = a ++ [c] ∧ c ≠ 48 := by
  have hf : fs n p ≠ [] := fun e => h (by rw [tx_fm, if_pos e])
  obtain ⟨a, c, e, hc⟩ := fs_last n p hf
  refine ⟨Lib.decDigits (n / 10 ^ p) ++ 46 :: a, c, ?_, hc⟩
  unfold tx
  rw [tail_yes hf, e]
  simp
/-- With a place more. -/
theorem pV_more {l : List UInt8} {p : Int} (h : max (stB l) 0 ≤ p) : pV l (p + 1) = 10 * pV l p := by
  unfold pV pK
  rw [show (p + 1 - max (stB l) 0).toNat = (p - max (stB l) 0).toNat + 1 by omega, Int.pow_succ, ← Int.mul_assoc, Int.mul_comm]

/-! Noughts more behind the point. -/
/-- The digits behind the point, at least one. -/
def f0 (n p : Nat) : List UInt8 := if fs n p = [] then [48] else fs n p
def bs (n p : Nat) : List UInt8 := Lib.decDigits (n / 10 ^ p) ++ 46 :: f0 n p
def zs (k : Nat) : List UInt8 := List.replicate k 48
theorem f0_digits (n p : Nat) : (f0 n p).all isDg = true := by
  unfold f0
  split
  · decide
  · exact fs_digits n p
theorem f0_ne (n p : Nat) : f0 n p ≠ [] := by
  unfold f0
  split
  · simp
  · assumption
theorem f0_le {n p : Nat} (hp : 1 ≤ p) : (f0 n p).length ≤ p := by
  have := fs_length n p
  unfold f0
  split
  · simpa using hp
  · exact this
theorem f0_value {n p : Nat} : stV (f0 n p) * 10 ^ (p - (f0 n p).length) = n % 10 ^ p := by
  have h := fs_value n p
  unfold f0
  split
  · rename_i e
    rw [e] at h
    rw [← h]
    simp [stV]
  · exact h
theorem tx_bs_whole {n p : Nat} (h : fs n p = []) : tx n p ++ [46, 48] = bs n p := by unfold tx bs f0; rw [tail_no h, if_pos h, List.append_nil]
theorem tx_bs {n p : Nat} (h : fs n p ≠ []) : tx n p = bs n p := by unfold tx bs f0; rw [tail_yes h, if_neg h]
theorem zs_digits (k : Nat) : (zs k).all isDg = true := by
  rw [List.all_eq_true]
  intro x hx
  rw [List.eq_of_mem_replicate hx]
  decide
theorem zs_value : ∀ k, stV (zs k) = 0
  | 0 => rfl
  | k + 1 => by
    have := stV_digits (zs k) [48] (zs_digits k)
    rw [show zs (k + 1) = [48] ++ zs k from rfl, this, zs_value k, show stV [48] = 0 from rfl]
    simp
theorem zs_snoc (k : Nat) : zs (k + 1) = zs k ++ [48] := List.replicate_succ'
theorem bz_split (n p k : Nat) : bs n p ++ zs k = Lib.decDigits (n / 10 ^ p) ++ 46 :: (f0 n p ++ zs k) := by unfold bs; simp
theorem bz_digits (n p k : Nat) : (f0 n p ++ zs k).all isDg = true := by rw [List.all_append, f0_digits, zs_digits]; rfl
theorem bz_fm (n p k : Nat) : fm (bs n p ++ zs k) = 2 := by
  rw [bz_split]
  exact fm_point (dec_digits _) (dec_ne _) (dec_oddHead _) (bz_digits n p k) (by simp [f0_ne])
theorem bz_stB (n p k : Nat) : stB (bs n p ++ zs k) = ((f0 n p).length + k : Nat) := by
  rw [bz_split, show Lib.decDigits (n / 10 ^ p) ++ 46 :: (f0 n p ++ zs k) = (Lib.decDigits (n / 10 ^ p) ++ [46]) ++ (f0 n p ++ zs k) by simp, stB_digits _ _ (bz_digits n p k), stB_point, if_pos (by omega), List.length_append,
    show (zs k).length = k by simp [zs]]
  omega
theorem bz_stV (n p k : Nat) : stV (bs n p ++ zs k) = n / 10 ^ p * 10 ^ ((f0 n p).length + k) + stV (f0 n p) * 10 ^ k := by
  rw [bz_split, show Lib.decDigits (n / 10 ^ p) ++ 46 :: (f0 n p ++ zs k) = (Lib.decDigits (n / 10 ^ p) ++ [46]) ++ (f0 n p ++ zs k) by simp, stV_digits _ _ (bz_digits n p k), stV_point, dec_value, stV_digits _ _ (zs_digits k), zs_value,
    List.length_append, show (zs k).length = k by simp [zs]]
  omega
theorem bz_pV {n p k : Nat} (h : (f0 n p).length + k ≤ p) : pV (bs n p ++ zs k) p = (n : Int) := by
  unfold pV pK
  rw [bz_stB, show ((p : Int) - max (((f0 n p).length + k : Nat) : Int) 0).toNat = p - ((f0 n p).length + k) by omega]
  have hv := f0_value (n := n) (p := p)
  have e : stV (bs n p ++ zs k) * 10 ^ (p - ((f0 n p).length + k)) = n := by
    rw [bz_stV, Nat.add_mul, Nat.mul_assoc, Nat.mul_assoc, ← Nat.pow_add, ← Nat.pow_add, show (f0 n p).length + k + (p - ((f0 n p).length + k)) = p by omega, show k + (p - ((f0 n p).length + k)) = p - (f0 n p).length by omega, hv, Nat.mul_comm]
    exact Nat.div_add_mod n (10 ^ p)
  exact_mod_cast e
theorem bz_fine {n p k : Nat} (hp : p ≤ 9) (h : (f0 n p).length + k ≤ p) (most : Int) (hI : I64 (n : Int)) (hm : (n : Int) ≤ most) : pN (bs n p ++ zs k) p most = n ∧ pW (bs n p ++ zs k) p most = 0 := by
  have hb : pBad (bs n p ++ zs k) p = false := by
    unfold pBad
    rw [decide_eq_false_iff_not, bz_fm, bz_stB]
    omega
  unfold pN pW pGreat
  rw [hb, bz_pV h, ok64_t hI, decide_eq_false (by omega)]
  exact ⟨rfl, rfl⟩
theorem bz_bad {n p k : Nat} (h : p < (f0 n p).length + k) (most : Int) : pN (bs n p ++ zs k) p most = 0 ∧ pW (bs n p ++ zs k) p most = 1 := by
  have hb : pBad (bs n p ++ zs k) p = true := by
    unfold pBad
    rw [decide_eq_true_eq, bz_stB]
    omega
  unfold pN pW
  rw [hb]
  exact ⟨rfl, rfl⟩
/-- Where the point stands. -/
theorem bs_point (n p i : Nat) (hi : i < (bs n p).length) : (bs n p).getD i 0 = 46 ↔ i = (Lib.decDigits (n / 10 ^ p)).length := by
  have hd := dec_digits (n / 10 ^ p)
  have hf := f0_digits n p
  unfold bs at hi ⊢
  rcases Nat.lt_trichotomy i (Lib.decDigits (n / 10 ^ p)).length with h | h | h
  · constructor
    · intro e
      rw [getD_app h] at e
      rw [List.all_eq_true] at hd
      exact absurd e (isDg_no46 (hd _ (mem_getD h)))
    · omega
  · subst h
    rw [getD_len]
    simp
  · constructor
    · intro e
      rw [List.getD_eq_getElem?_getD, List.getElem?_append_right (by omega), ← List.getD_eq_getElem?_getD] at e
      obtain ⟨j, hj⟩ : ∃ j, i - (Lib.decDigits (n / 10 ^ p)).length = j + 1 := ⟨i - (Lib.decDigits (n / 10 ^ p)).length - 1, by omega⟩
      rw [hj, List.getD_cons_succ] at e
      have hjl : j < (f0 n p).length := by rw [List.length_append, List.length_cons] at hi; omega
      rw [List.all_eq_true] at hf
      exact absurd e (isDg_no46 (hf _ (mem_getD hjl)))
    · omega
end Go.Proofs.YteelbdcgdkpioaaGreatDoor.P
/- A number's text cut at its point, and a rest's digits without the noughts at their end, as plain arithmetic: no program is named here. -/
namespace Go.Proofs.YteelbdcgdkpioaaGreatDoor.P
open Go.RowKit

theorem occ_one (l : List UInt8) (c : UInt8) (j : Nat) : Lib.occAt l [c] j = (l[j]? == some c) := by
  unfold Lib.occAt
  cases h : l.drop j with
  | nil =>
    have : l.length ≤ j := List.drop_eq_nil_iff.1 h
    rw [List.getElem?_eq_none this]
    rfl
  | cons a t =>
    have e : l[j]? = some a := by
      have := congrArg (·[0]?) h
      simpa using this
    rw [e]
    simp [List.isPrefixOf, BEq.comm]
/-- What a cut at one letter answers. -/
theorem cut_one (l : List UInt8) (c : UInt8) : (c ∉ l ∧ Lib.cut l [c] = (l, [], false)) ∨ (∃ a b, l = a ++ c :: b ∧ c ∉ a ∧ Lib.cut l [c] = (a, b, true)) := by
  rcases Lib.index_spec l [c] with ⟨h1, h2⟩ | ⟨i, h1, h2, h3, h4⟩
  · refine .inl ⟨fun hm => ?_, by unfold Lib.cut; rw [h1]; rfl⟩
    obtain ⟨j, hj, e⟩ := List.getElem_of_mem hm
    have := h2 j (by omega)
    rw [occ_one, List.getElem?_eq_getElem hj, e] at this
    simp at this
  · rw [occ_one] at h3
    have h3' : l[i]? = some c := by simpa using h3
    obtain ⟨hi, e⟩ := List.getElem?_eq_some_iff.1 h3'
    refine .inr ⟨l.take i, l.drop (i + 1), ?_, fun hm => ?_, ?_⟩
    · conv => lhs; rw [← List.take_append_drop i l, List.drop_eq_getElem_cons hi, e]
    · obtain ⟨j, hj, e2⟩ := List.getElem_of_mem hm
      rw [List.length_take] at hj
      have h5 := h4 j (by omega)
      rw [occ_one, List.getElem?_eq_getElem (by omega)] at h5
      rw [List.getElem_take] at e2
      rw [e2] at h5
      simp at h5
    · unfold Lib.cut
      rw [h1, if_pos (by omega)]
      rfl
/-- Whether letters are of the form Whole. -/
def pl (a : List UInt8) : Bool := a.all isDg && !a.isEmpty && (decide (a.length = 1) || !(a.getD 0 0 == 48))
theorem pl_oddHead {a : List UInt8} (h : pl a = true) : a.all isDg = true ∧ a ≠ [] ∧ oddHead a = false := by
  unfold pl at h
  simp only [Bool.and_eq_true, Bool.or_eq_true, Bool.not_eq_true', decide_eq_true_eq, List.isEmpty_eq_false_iff] at h
  refine ⟨h.1.1, h.1.2, ?_⟩
  unfold oddHead
  rcases h.2 with k | k
  · rw [decide_eq_false (by omega : ¬ 1 < a.length)]; simp
  · rw [k]; rfl
theorem pl_of {a : List UInt8} (h1 : a.all isDg = true) (h2 : a ≠ []) (h3 : a.length = 1 ∨ a.getD 0 0 ≠ 48) : pl a = true := by
  unfold pl
  simp only [Bool.and_eq_true, Bool.or_eq_true, Bool.not_eq_true', decide_eq_true_eq, List.isEmpty_eq_false_iff]
  exact ⟨⟨h1, h2⟩, h3.imp id (fun h => by simpa using h)⟩
theorem dp_dg {l : List UInt8} (h : l.all isDp = true) (hn : (46 : UInt8) ∉ l) : l.all isDg = true := by
  rw [List.all_eq_true] at *
  intro b hb
  have := h b hb
  unfold isDp at this
  simp only [Bool.or_eq_true, beq_iff_eq] at this
  rcases this with k | k
  · exact k
  · subst k; exact absurd hb hn
theorem fm_facts {l : List UInt8} (h : fm l ≠ 0) : isDg (l.getD 0 0) = true ∧ l.all isDp = true ∧ l.count 46 ≤ 1 ∧ (l.getLast? == some 46) = false ∧ oddHead l = false := by
  have h0 : isDg (l.getD 0 0) = true := by
    cases k : isDg (l.getD 0 0)
    · exact absurd (fm_first k) h
    · rfl
  have h1 : evenBody l = true := by
    cases k : evenBody l
    · exact absurd (fm_body k) h
    · rfl
  have h2 : oddHead l = false := by
    cases k : oddHead l
    · rfl
    · exact absurd (fm_head k) h
  unfold evenBody at h1
  simp only [Bool.and_eq_true, decide_eq_true_eq, Bool.not_eq_true'] at h1
  exact ⟨h0, h1.1, h1.2.1, h1.2.2, h2⟩
theorem odd_at {a : List UInt8} (h : oddHead a = false) : a.length ≤ 1 ∨ a.getD 0 0 ≠ 48 ∨ a.getD 1 0 = 46 := by
  unfold oddHead at h
  by_cases h1 : a.getD 0 0 = 48
  · by_cases h2 : 1 < a.length
    · rw [h1, decide_eq_true h2] at h
      simp at h
      exact .inr (.inr (by simpa using h))
    · exact .inl (by omega)
  · exact .inr (.inl h1)
theorem fm_cut_no {l : List UInt8} (h : (46 : UInt8) ∉ l) : fm l = if pl l then 1 else 0 := by
  cases k : pl l
  · rw [if_neg (by simp)]
    by_cases hf : fm l = 0
    · exact hf
    · exfalso
      obtain ⟨f0, f1, _, _, f4⟩ := fm_facts hf
      have hne : l ≠ [] := by rintro rfl; rw [getD_nil0] at f0; cases f0
      have hlen : 0 < l.length := List.length_pos_iff.2 hne
      have := pl_of (dp_dg f1 h) hne (by
        rcases odd_at f4 with k | k | k
        · left; omega
        · exact .inr k
        · by_cases h1 : 1 < l.length
          · exact absurd (k ▸ mem_getD h1) h
          · left; omega)
      rw [k] at this
      cases this
  · obtain ⟨a, b, c⟩ := pl_oddHead k
    rw [fm_whole a b c]; rfl
theorem fm_cut_yes {a b : List UInt8} (h : (46 : UInt8) ∉ a) : fm (a ++ 46 :: b) = if pl a && (b.all isDg && !b.isEmpty) then 2 else 0 := by
  cases k : pl a && (b.all isDg && !b.isEmpty)
  · rw [if_neg (by simp)]
    by_cases hf : fm (a ++ 46 :: b) = 0
    · exact hf
    · exfalso
      obtain ⟨f0, f1, f2, f3, f4⟩ := fm_facts hf
      have hne : a ≠ [] := by
        rintro rfl
        revert f0
        simp
        decide
      have hlen : 0 < a.length := List.length_pos_iff.2 hne
      rw [List.all_append, List.all_cons, Bool.and_eq_true, Bool.and_eq_true] at f1
      rw [List.count_append, List.count_cons_self] at f2
      have hb : (46 : UInt8) ∉ b := by rw [← List.count_eq_zero]; omega
      have hbne : b ≠ [] := by
        rintro rfl
        simp at f3
      have hp := pl_of (dp_dg f1.1 h) hne (by
        rcases odd_at f4 with q | q | q
        · simp at q; left; omega
        · rw [getD_app hlen] at q; exact .inr q
        · by_cases h1 : 1 < a.length
          · rw [getD_app h1] at q; exact absurd (q ▸ mem_getD h1) h
          · left; omega)
      rw [hp, dp_dg f1.2.2 hb] at k
      cases b
      · exact hbne rfl
      · cases k
  · simp only [Bool.and_eq_true, Bool.not_eq_true', List.isEmpty_eq_false_iff] at k
    obtain ⟨x, y, z⟩ := pl_oddHead k.1
    rw [fm_point x y z k.2.1 k.2.2]; rfl
theorem stV_cut {a b : List UInt8} (hb : b.all isDg = true) : stV (a ++ 46 :: b) = stV (a ++ b) := by
  rw [show a ++ 46 :: b = (a ++ [46]) ++ b by simp, stV_digits _ _ hb, stV_point, stV_digits _ _ hb]
theorem stB_cut {a b : List UInt8} (hb : b.all isDg = true) : stB (a ++ 46 :: b) = b.length := by
  rw [show a ++ 46 :: b = (a ++ [46]) ++ b by simp, stB_digits _ _ hb, stB_point, if_pos (by omega)]; omega
theorem stB_plain {a : List UInt8} (ha : a.all isDg = true) : stB a = -1 := by
  have := stB_digits a [] ha
  rw [List.nil_append] at this
  rw [this]; rfl

/-! The rest's digits. -/
/-- So many last digits of a number. -/
def dgs (n : Nat) : Nat → List UInt8
  | 0 => []
  | k + 1 => dch (n / 10 ^ k % 10) :: dgs n k
theorem dgs_length (n : Nat) : ∀ k, (dgs n k).length = k
  | 0 => rfl
  | k + 1 => by rw [dgs, List.length_cons, dgs_length n k]
theorem dgs_snoc (n : Nat) : ∀ k, dgs n (k + 1) = dgs (n / 10) k ++ [dch (n % 10)]
  | 0 => by simp [dgs]
  | k + 1 => by
    rw [dgs, dgs_snoc n k, dgs, List.cons_append, Nat.div_div_eq_div_mul, Nat.pow_succ, Nat.mul_comm 10]
theorem dec_dgs : ∀ (k n : Nat), Lib.decDigits (10 ^ k + n % 10 ^ k) = 49 :: dgs n k
  | 0, n => by
    rw [Nat.pow_zero, Nat.mod_one, dec_last (by omega)]
    rfl
  | k + 1, n => by
    have hpos : 0 < 10 ^ k := Nat.pow_pos (by omega)
    have e1 : n % (10 ^ k * 10) = 10 * (n / 10 % 10 ^ k) + n % 10 := by rw [Nat.mul_comm, Nat.mod_mul]; omega
    have hge : ¬ 10 ^ (k + 1) + n % 10 ^ (k + 1) < 10 := by rw [Nat.pow_succ]; omega
    rw [dec_more hge, Nat.pow_succ, e1]
    have hm := Nat.mod_lt n (by omega : 0 < 10)
    rw [show (10 ^ k * 10 + (10 * (n / 10 % 10 ^ k) + n % 10)) / 10 = 10 ^ k + n / 10 % 10 ^ k by omega,
      show (10 ^ k * 10 + (10 * (n / 10 % 10 ^ k) + n % 10)) % 10 = n % 10 by omega, dec_dgs k (n / 10), dgs_snoc]
    rfl
theorem trimR_cons (c d : UInt8) (l : List UInt8) : Lib.trimRightB (d :: l) c = if Lib.trimRightB l c = [] then (if d = c then [] else [d]) else d :: Lib.trimRightB l c := by
  unfold Lib.trimRightB
  rw [List.reverse_cons, List.dropWhile_append]
  by_cases h : (l.reverse.dropWhile (· == c)) = []
  · rw [h]
    by_cases hd : d = c
    · subst hd; simp
    · simp [hd]
  · rw [if_neg (by simpa using h), if_neg (by simpa using h)]
    simp
theorem dch_48 {k : Nat} (h : k < 10) : dch k = 48 ↔ k = 0 := by
  have := dig_toNat h
  constructor
  · intro e
    rw [e] at this
    have h2 : (48 : UInt8).toNat = 48 := rfl
    omega
  · rintro rfl; rfl
theorem trim_dgs (n : Nat) : ∀ k, Lib.trimRightB (dgs n k) 48 = fs n k
  | 0 => rfl
  | k + 1 => by
    have hd := @dch_48 (n / 10 ^ k % 10) (Nat.mod_lt _ (by decide))
    rw [dgs, trimR_cons, trim_dgs n k]
    by_cases h : fs n k = []
    · rw [if_pos h]
      by_cases h2 : n / 10 ^ k % 10 = 0
      · rw [if_pos (hd.2 h2), fs_no h h2]
      · rw [if_neg (fun e => h2 (hd.1 e)), fs_yes (.inr h2), h]
    · rw [if_neg h, fs_yes (.inl h)]
theorem fs_nil_iff (n : Nat) : ∀ k, fs n k = [] ↔ n % 10 ^ k = 0
  | 0 => by simp [fs, Nat.mod_one]
  | k + 1 => by
    have hpos : 0 < 10 ^ k := Nat.pow_pos (by omega)
    rw [Nat.pow_succ, Nat.mod_mul]
    constructor
    · intro h
      by_cases h1 : fs n k = []
      · by_cases h2 : n / 10 ^ k % 10 = 0
        · rw [(fs_nil_iff n k).1 h1, h2]; rfl
        · rw [fs_yes (.inr h2)] at h; cases h
      · rw [fs_yes (.inl h1)] at h; cases h
    · intro h
      have h1 : n % 10 ^ k = 0 := by omega
      have h3 : 10 ^ k * (n / 10 ^ k % 10) = 0 := by omega
      have h2 : n / 10 ^ k % 10 = 0 := by
        rcases Nat.mul_eq_zero.1 h3 with q | q
        · omega
        · exact q
      exact fs_no ((fs_nil_iff n k).2 h1) h2
theorem tx_whole {n p : Nat} (h : n % 10 ^ p = 0) : tx n p = Lib.decDigits (n / 10 ^ p) := by
  unfold tx
  rw [tail_no ((fs_nil_iff n p).2 h), List.append_nil]
theorem tx_rest {n p : Nat} (h : n % 10 ^ p ≠ 0) : tx n p = Lib.decDigits (n / 10 ^ p) ++ [46] ++ Lib.trimRightB ((Lib.decDigits (10 ^ p + n % 10 ^ p)).drop 1) 48 := by
  unfold tx
  rw [tail_yes (fun e => h ((fs_nil_iff n p).1 e)), dec_dgs, List.drop_one, List.tail_cons, trim_dgs]
  simp
end Go.Proofs.YteelbdcgdkpioaaGreatDoor.P
/- What package decimal does: digits, plain, goodPlaces, tens, number. -/
namespace Go.Proofs.YteelbdcgdkpioaaGreatDoor.Dc
open Go.RowKit Go.Sort P Ex

theorem take_byte (s : ByteArray) (i : Nat) (h : i < s.size) : s.data.toList.take (i + 1) = s.data.toList.take i ++ [s[i]'h] := by
  have hl : i < s.data.toList.length := by simpa using h
  rw [← at_byte s i h, List.take_add_one, List.getElem?_eq_getElem hl]
  rfl
/-- What the range over a text hands over: a digit is that digit; any other byte gives no digit. -/
theorem rune_of (s : ByteArray) (i : Nat) (h : i < s.size) : (isDg (s[i]'h) = true ∧ Utf8.decode s i = ((s[i]'h).toNat, 1)) ∨ (isDg (s[i]'h) = false ∧ ((Utf8.decode s i).1 < 48 ∨ 57 < (Utf8.decode s i).1)) := by
  by_cases ha : (s[i]'h).toNat < 128
  · have e := decode_ascii s i h ha
    by_cases hd : isDg (s[i]'h) = true
    · exact .inl ⟨hd, e⟩
    · refine .inr ⟨by simpa using hd, ?_⟩
      rw [isDg_iff] at hd
      rw [e]
      show (s[i]'h).toNat < 48 ∨ 57 < (s[i]'h).toNat
      omega
  · have e := (decode_high s i h (by omega)).1
    refine .inr ⟨?_, .inr (by omega)⟩
    unfold isDg
    rw [decide_eq_false_iff_not]
    omega
theorem not_all (s : ByteArray) (i : Nat) (h : i < s.size) (hb : isDg (s[i]'h) = false) : s.data.toList.all isDg = false := by
  rw [Bool.eq_false_iff]
  intro k
  rw [List.all_eq_true] at k
  have hl : i < s.data.toList.length := by simpa using h
  have := k _ (List.getElem_mem hl)
  rw [at_byte s i h, hb] at this
  cases this
theorem all_at (s : ByteArray) (i : Nat) (h : i < s.size) (ha : s.data.toList.all isDg = true) : isDg (s[i]'h) = true := by
  rw [List.all_eq_true] at ha
  have hl : i < s.data.toList.length := by simpa using h
  have := ha _ (List.getElem_mem hl)
  rwa [at_byte s i h] at this
theorem good_any (p : Int) (w : World) : Calls Tryz.prog 110 #[.int .i64 p] w fun e w' => e = .returned (.bool (decide (0 ≤ p ∧ p ≤ 9))) ∧ w = w' := by
  by_cases h0 : 0 ≤ p
  · by_cases h1 : p ≤ 9
    · have e : decide (0 ≤ p ∧ p ≤ 9) = true := decide_eq_true ⟨h0, h1⟩
      rw [e]; clear e
      go_enter Tryz.func110, Tryz.ntmps110
      go_wp2
      go_ret
      exact ⟨rfl, rfl⟩
    · have e : decide (0 ≤ p ∧ p ≤ 9) = false := decide_eq_false (by omega)
      rw [e]; clear e
      go_enter Tryz.func110, Tryz.ntmps110
      go_wp2
      go_ret
      exact ⟨rfl, rfl⟩
  · have e : decide (0 ≤ p ∧ p ≤ 9) = false := decide_eq_false (by omega)
    rw [e]; clear e
    go_enter Tryz.func110, Tryz.ntmps110
    go_wp2
    go_ret
    exact ⟨rfl, rfl⟩
theorem digits_any (s : ByteArray) (w : World) :
    Calls Tryz.prog 118 #[.string s] w fun e w' => e = .returned (.bool (s.data.toList.all isDg && !s.data.toList.isEmpty)) ∧ Below w.heap.size w w' := by
  obtain ⟨A, hA⟩ : ∃ A : Bool, A = (s.data.toList.all isDg && !s.data.toList.isEmpty) := ⟨_, rfl⟩
  rw [← hA]
  replace hA := hid hA
  go_enter Tryz.func118, Tryz.ntmps118
  go_wp2
  go_loopw [] (fun wr => ∃ (pos : Nat), pos ≤ s.size ∧ (s.data.toList.take pos).all isDg = true ∧ wr.heap[w.heap.size]? = some (.stringIter s pos) ∧ Below w.heap.size w wr) (fun wr => s.size - wr.iterPos w.heap.size)
  case atStart => exact ⟨0, Nat.zero_le _, rfl, World.iter_heap w s 0, (Below.refl _ _).alloc (Nat.le_refl _) _⟩
  case round =>
    obtain ⟨pos, hp0, hall, hit, hbw⟩ := hrel
    by_cases hp : pos < s.size
    · have hb2 := Lib.below_iterAt hbw (k := w.heap.size) (Nat.le_refl _) s
      rcases rune_of s pos hp with ⟨hd, he⟩ | ⟨hd, he⟩
      · have hnx : ∀ ty, (Instr.next (.pointer (some ⟨w.heap.size, 0, none⟩)) true ty).run Tryz.prog wr = _ := fun ty => Lib.run_next_any_at wr w.heap.size s pos ty hit hp
        rw [he] at hnx
        have hit2 := Lib.iterAt_heap wr w.heap.size s pos (pos + 1) hit
        have hb3 := hb2 (pos + 1)
        have hd' := (isDg_iff _).1 hd
        have hk := take_byte s pos hp
        have hal : (s.data.toList.take (pos + 1)).all isDg = true := by rw [hk, List.all_append, hall]; simpa using hd
        obtain ⟨x, hx⟩ : ∃ x : Int, x = ((s[pos]'hp).toNat : Int) := ⟨_, rfl⟩
        have hx0 : 48 ≤ x := by omega
        have hx1 : x ≤ 57 := by omega
        simp only [← hx] at hnx
        clear hk hd hd' he hx hall
        go_wp2
        go_roundw
        case rel => exact ⟨pos + 1, by omega, hal, hit2, hb3⟩
        case measure =>
          simp only [World.iterPos, hit2, hit]
          omega
      · have hna := not_all s pos hp hd
        have hb3 := hb2 (pos + (Utf8.decode s pos).2)
        have hnx : ∀ ty, (Instr.next (.pointer (some ⟨w.heap.size, 0, none⟩)) true ty).run Tryz.prog wr = _ := fun ty => Lib.run_next_any_at wr w.heap.size s pos ty hit hp
        obtain ⟨x, hx⟩ : ∃ x : Int, x = ((Utf8.decode s pos).1 : Int) := ⟨_, rfl⟩
        obtain ⟨W2, hW2⟩ : ∃ W2, W2 = wr.iterAt w.heap.size s (pos + (Utf8.decode s pos).2) := ⟨_, rfl⟩
        rw [← hx, ← hW2] at hnx
        rw [← hW2] at hb3
        have hx1 : x < 48 ∨ 57 < x := by omega
        have Hna : Hid (A = false) := hid (by rw [hA.out, hna]; rfl)
        clear hna he hd hx hW2 hall
        rcases hx1 with hx1 | hx1
        · go_wp2
          go_ret
          exact ⟨ret_b Hna.out.symm, hb3⟩
        · have hx2 : ¬ x < 48 := by omega
          go_wp2
          go_ret
          exact ⟨ret_b Hna.out.symm, hb3⟩
    · have hnx : ∀ ty, (Instr.next (.pointer (some ⟨w.heap.size, 0, none⟩)) true ty).run Tryz.prog wr = _ := fun ty => Lib.run_next_end_at wr w.heap.size s pos ty hit hp
      have e : s.data.toList.take pos = s.data.toList := List.take_of_length_le (by show s.size ≤ _; omega)
      rw [e] at hall
      have Hna : Hid (A = !s.data.toList.isEmpty) := hid (by rw [hA.out, hall]; rfl)
      clear hall e
      go_wp2
      go_ret
      exact ⟨ret_b (by rw [Hna.out, ByteArray.toList_eq]), hbw⟩
theorem plain_any (s : ByteArray) (w : World) :
    Calls Tryz.prog 117 #[.string s] w fun e w' => e = .returned (.bool (pl s.data.toList)) ∧ Below w.heap.size w w' := by
  have cD := digits_any s w
  have hz : s.data.toList.length = s.size := by show _ = s.data.size; simp
  by_cases hA : (s.data.toList.all isDg && !s.data.toList.isEmpty) = true
  · have hA2 := hA
    rw [Bool.and_eq_true] at hA2
    have hpos : 0 < s.size := by
      cases h : s.data.toList with
      | nil => rw [h] at hA2; cases hA2.2
      | cons a r => rw [← hz, h]; simp
    have h0 : s.data.toList.getD 0 0 = s[0]'hpos := by
      rw [← at_byte s 0 hpos, List.getD_eq_getElem?_getD, List.getElem?_eq_getElem]; rfl
    rw [hA] at cD
    by_cases h1 : (s.size : Int) = 1
    · have fin : pl s.data.toList = true := by unfold pl; rw [hA, decide_eq_true (by omega)]; rfl
      rw [fin]
      clear fin hA hA2 h0 hz
      go_enter Tryz.func117, Tryz.ntmps117
      go_wp2_with (go_at_call 118; refine cD.mono ?_; rintro e w1 ⟨rfl, b1⟩)
      go_ret
      exact ⟨rfl, b1⟩
    · have fin : pl s.data.toList = !(s[0]'hpos == 48) := by unfold pl; rw [hA, decide_eq_false (by omega), h0]; rfl
      have e48 : (s[0]'hpos == 48) = (((s[0]'hpos).toNat : Int) == 48) := by
        rw [Bool.eq_iff_iff, beq_iff_eq, beq_iff_eq, ← UInt8.toNat_inj]
        show _ ↔ _
        have : (48 : UInt8).toNat = 48 := rfl
        omega
      rw [fin, e48]
      have h1' : ((s.size : Int) == 1) = false := by simpa using h1
      clear fin hA hA2 h0 hz e48
      go_enter Tryz.func117, Tryz.ntmps117
      go_wp2_with (go_at_call 118; refine cD.mono ?_; rintro e w1 ⟨rfl, b1⟩)
      go_ret
      exact ⟨rfl, b1⟩
  · have hA' : (s.data.toList.all isDg && !s.data.toList.isEmpty) = false := by simpa using hA
    have fin : pl s.data.toList = false := by unfold pl; rw [hA']; rfl
    rw [fin]
    rw [hA'] at cD
    clear fin hA hA'
    go_enter Tryz.func117, Tryz.ntmps117
    go_wp2_with (go_at_call 118; refine cD.mono ?_; rintro e w1 ⟨rfl, b1⟩)
    go_ret
    exact ⟨rfl, b1⟩
theorem pow_step (n : Int) (j k : Nat) (h : j < k) (hn : 0 ≤ n) : n * 10 ^ j * 10 = n * 10 ^ (j + 1) ∧ n * 10 ^ (j + 1) ≤ n * 10 ^ k ∧ 0 ≤ n * 10 ^ (j + 1) := by
  refine ⟨by rw [Int.mul_assoc, Int.pow_succ], Int.mul_le_mul_of_nonneg_left ?_ hn, Int.mul_nonneg hn (Int.pow_nonneg (by omega))⟩
  have : (10 : Nat) ^ (j + 1) ≤ 10 ^ k := Nat.pow_le_pow_right (by decide) h
  exact_mod_cast this
theorem tens_any (n : Int) (k : Nat) (w : World) (hn : 0 ≤ n) (hI : I64 n) (hk : k ≤ 9) :
    Calls Tryz.prog 111 #[.int .i64 n, .int .i64 (k : Int)] w fun e w' => e = .returned (.tuple #[.int .i64 (cut64 (n * 10 ^ k)), .bool (ok64 (n * 10 ^ k))]) ∧ w = w' := by
  obtain ⟨V, hV⟩ : ∃ V : Int, V = n * 10 ^ k := ⟨_, rfl⟩
  rw [← hV]
  have H := hid hV
  clear hV
  go_enter Tryz.func111, Tryz.ntmps111
  go_wp2
  go_loop [0, 9] (fun a i => ∃ (j : Nat) (v : Int), j ≤ k ∧ a = .int .i64 v ∧ i = .int .i64 (j : Int) ∧ 0 ≤ v ∧ I64 v ∧ Hid (v = n * 10 ^ j)) (fun _ i => k - (intOf i).toNat)
  case atStart => exact ⟨0, n, Nat.zero_le _, rfl, rfl, hn, hI, hid (by simp)⟩
  case round =>
    obtain ⟨j, v, hj, rfl, rfl, hv0, hvI, hv⟩ := hrel
    by_cases h : j < k
    · have hlt : (j : Int) < k := by omega
      have P1 := pow_step n j k h hn
      have cM := mul_any v 10 w hvI (by unfold I64; omega)
      by_cases ho : I64 (v * 10)
      · rw [cut64_t ho, ok64_t ho] at cM
        have hv' : Hid (v * 10 = n * 10 ^ (j + 1)) := hid (by rw [hv.out, P1.1])
        obtain ⟨v', hv''⟩ : ∃ v', v' = v * 10 := ⟨_, rfl⟩
        rw [← hv''] at cM ho hv'
        have h0' : 0 ≤ v' := by omega
        clear P1 hv''
        go_wp2_with (go_at_call 142; refine cM.mono ?_; rintro e w1 ⟨rfl, rfl⟩)
        go_round
        case rel => exact ⟨j + 1, v', by omega, rfl, rfl, h0', ho, hv'⟩
        case measure => simp [intOf]; omega
      · rw [cut64_f ho, ok64_f ho] at cM
        have hbig : ¬ I64 V := by
          have h1 := P1.1
          rw [← hv.out] at h1
          have h2 := P1.2.1
          rw [← H.out] at h2
          unfold I64 at *
          omega
        have e1 := cut64_f hbig
        have e2 := ok64_f hbig
        have E := hid (And.intro e1 e2)
        clear P1 hbig ho e1 e2
        go_wp2_with (go_at_call 142; refine cM.mono ?_; rintro e w1 ⟨rfl, rfl⟩)
        go_ret2
        exact ⟨Ex.ret_2 E.out.1.symm E.out.2.symm, rfl⟩
    · have hlt : ¬ (j : Int) < k := by omega
      obtain rfl : j = k := by omega
      have hvV : v = V := by rw [hv.out, H.out]
      have E := hid (And.intro (cut64_t (hvV ▸ hvI)) (ok64_t (hvV ▸ hvI)))
      have H2 := hid hvV
      clear hvV
      go_wp2
      go_ret2
      exact ⟨Ex.ret_2 (H2.out.trans E.out.1.symm) E.out.2.symm, rfl⟩
end Go.Proofs.YteelbdcgdkpioaaGreatDoor.Dc
