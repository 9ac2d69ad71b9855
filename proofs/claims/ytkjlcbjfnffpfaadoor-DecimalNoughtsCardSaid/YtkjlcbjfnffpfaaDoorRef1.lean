/- What the document's answers for layer 1 (poundageref01) come to: wide numbers as whole numbers. -/
import Derived.Test.YtkjlcbjfnffpfaaDoorExact
import Derived.WalkSmall
namespace Go.Proofs.YtkjlcbjfnffpfaaDoor.R1
open Go.RowKit P

/-- A wide number's value: its sign, its upper and its lower part. -/
def wide (s : Bool) (m : Nat) : Value := .agg #[.bool s, .int .u64 (hiN m), .int .u64 (loN m)]
/-- A whole number as a wide one. -/
def W (v : Int) : Value := wide (decide (v < 0)) v.natAbs
theorem wide_eq {s : Bool} {a b : Int} {m : Nat} (ha : a = hiN m) (hb : b = loN m) : Value.agg #[.bool s, .int .u64 a, .int .u64 b] = wide s m := by unfold wide; rw [ha, hb]

theorem of_any (a : Int) (w : World) (ha : I64 a) :
    Calls Tryd.prog 30 #[.int .i64 a] w fun e w' => e = .returned (W a) ∧ Below w.heap.size w w' := by
  have hh : hiN a.natAbs = 0 := hiN_small (by unfold I64 at ha; omega)
  have hl : loN a.natAbs = a.natAbs := loN_small (by unfold I64 at ha; omega)
  by_cases h : a < 0
  · have e : IntKind.u64.wrap (IntKind.u64.wrap (wrap64 (-wrap64 (a + 1))) + 1) = loN a.natAbs := by
      rw [hl, wrap_in (n := a + 1) (by unfold I64 at *; omega), wrap_in (n := -(a + 1)) (by unfold I64 at *; omega), u64_mod, u64_mod]
      unfold I64 at ha; omega
    have r : Value.agg #[.bool true, .int .u64 0, .int .u64 (IntKind.u64.wrap (IntKind.u64.wrap (wrap64 (-wrap64 (a + 1))) + 1))] = W a := by
      unfold W; rw [decide_eq_true h]; exact wide_eq (by rw [hh]; rfl) e
    have R := hid r
    clear r e hh hl ha
    go_enter Tryd.func30, Tryd.ntmps30
    go_wp2
    exact bodyPost_ret (v := .agg #[.bool true, .int .u64 0, .int .u64 (IntKind.u64.wrap (IntKind.u64.wrap (wrap64 (-wrap64 (a + 1))) + 1))])
      (by simp [results, Tryd.results30, go_sem]) rfl ⟨by rw [R.out], (Below.refl _ _).alloc (Nat.le_refl _) _⟩
  · have e : IntKind.u64.wrap a = loN a.natAbs := by rw [hl, u64_mod]; unfold I64 at ha; omega
    have r : Value.agg #[.bool false, .int .u64 0, .int .u64 (IntKind.u64.wrap a)] = W a := by
      unfold W; rw [decide_eq_false h]; exact wide_eq (by rw [hh]; rfl) e
    have R := hid r
    clear r e hh hl ha
    go_enter Tryd.func30, Tryd.ntmps30
    go_wp2
    exact bodyPost_ret (v := .agg #[.bool false, .int .u64 0, .int .u64 (IntKind.u64.wrap a)])
      (by simp [results, Tryd.results30, go_sem]) rfl ⟨by rw [R.out], (Below.refl _ _).alloc (Nat.le_refl _) _⟩
theorem zero_any (s : Bool) (m : Nat) (w : World) :
    Calls Tryd.prog 39 #[wide s m] w fun e w' => e = .returned (.bool (m == 0)) ∧ Below w.heap.size w w' := by
  rw [← zero_iff]
  unfold wide
  rcases Bool.eq_false_or_eq_true (((hiN m : Nat) : Int) == 0) with h | h
  all_goals
    go_enter Tryd.func39, Tryd.ntmps39
    go_wp2
    go_ret
    exact ⟨by rw [h]; simp, (Below.refl _ _).alloc (Nat.le_refl _) _⟩
theorem plus_any (s t : Bool) (m n : Nat) (w : World) (hs : m + n < two128) :
    Calls Tryd.prog 38 #[wide s m, wide t n] w fun e w' => e = .returned (wide false (m + n)) ∧ Below w.heap.size w w' := by
  have el := plus_lo m n
  by_cases h : 18446744073709551616 ≤ loN m + loN n
  · have ht := plus_test_yes h
    have r : Value.agg #[.bool false, .int .u64 (IntKind.u64.wrap (IntKind.u64.wrap ((hiN m : Int) + (hiN n : Int)) + 1)), .int .u64 (IntKind.u64.wrap ((loN m : Int) + (loN n : Int)))] = wide false (m + n) := wide_eq (plus_hi_yes hs h) el
    have R := hid r
    clear r el h hs
    unfold wide
    go_enter Tryd.func38, Tryd.ntmps38
    go_wp2
    exact bodyPost_ret (v := .agg #[.bool false, .int .u64 (IntKind.u64.wrap (IntKind.u64.wrap ((hiN m : Int) + (hiN n : Int)) + 1)), .int .u64 (IntKind.u64.wrap ((loN m : Int) + (loN n : Int)))])
      (by simp [results, Tryd.results38, go_sem]) rfl ⟨by rw [R.out]; rfl, ((((Below.refl _ _).alloc (Nat.le_refl _) _).alloc (by simp) _).alloc (by first | omega | (simp <;> omega)) _)⟩
  · have ht := plus_test_no h
    have r : Value.agg #[.bool false, .int .u64 (IntKind.u64.wrap ((hiN m : Int) + (hiN n : Int))), .int .u64 (IntKind.u64.wrap ((loN m : Int) + (loN n : Int)))] = wide false (m + n) := wide_eq (plus_hi_no hs h) el
    have R := hid r
    clear r el h hs
    unfold wide
    go_enter Tryd.func38, Tryd.ntmps38
    go_wp2
    exact bodyPost_ret (v := .agg #[.bool false, .int .u64 (IntKind.u64.wrap ((hiN m : Int) + (hiN n : Int))), .int .u64 (IntKind.u64.wrap ((loN m : Int) + (loN n : Int)))])
      (by simp [results, Tryd.results38, go_sem]) rfl ⟨by rw [R.out]; rfl, ((((Below.refl _ _).alloc (Nat.le_refl _) _).alloc (by simp) _).alloc (by first | omega | (simp <;> omega)) _)⟩
theorem minus_any (s t : Bool) (m n : Nat) (w : World) (hs : m < two128) (hn : n ≤ m) :
    Calls Tryd.prog 41 #[wide s m, wide t n] w fun e w' => e = .returned (wide false (m - n)) ∧ Below w.heap.size w w' := by
  have el := minus_lo hn
  by_cases h : loN m < loN n
  · have ht := min_test_yes h
    have r : Value.agg #[.bool false, .int .u64 (IntKind.u64.wrap (IntKind.u64.wrap ((hiN m : Int) - (hiN n : Int)) - 1)), .int .u64 (IntKind.u64.wrap ((loN m : Int) - (loN n : Int)))] = wide false (m - n) := wide_eq (minus_hi_yes hs hn h) el
    have R := hid r
    clear r el h hs hn
    unfold wide
    go_enter Tryd.func41, Tryd.ntmps41
    go_wp2
    exact bodyPost_ret (v := .agg #[.bool false, .int .u64 (IntKind.u64.wrap (IntKind.u64.wrap ((hiN m : Int) - (hiN n : Int)) - 1)), .int .u64 (IntKind.u64.wrap ((loN m : Int) - (loN n : Int)))])
      (by simp [results, Tryd.results41, go_sem]) rfl ⟨by rw [R.out]; rfl, ((((Below.refl _ _).alloc (Nat.le_refl _) _).alloc (by simp) _).alloc (by first | omega | (simp <;> omega)) _)⟩
  · have ht := min_test_no h
    have r : Value.agg #[.bool false, .int .u64 (IntKind.u64.wrap ((hiN m : Int) - (hiN n : Int))), .int .u64 (IntKind.u64.wrap ((loN m : Int) - (loN n : Int)))] = wide false (m - n) := wide_eq (minus_hi_no hs hn h) el
    have R := hid r
    clear r el h hs hn
    unfold wide
    go_enter Tryd.func41, Tryd.ntmps41
    go_wp2
    exact bodyPost_ret (v := .agg #[.bool false, .int .u64 (IntKind.u64.wrap ((hiN m : Int) - (hiN n : Int))), .int .u64 (IntKind.u64.wrap ((loN m : Int) - (loN n : Int)))])
      (by simp [results, Tryd.results41, go_sem]) rfl ⟨by rw [R.out]; rfl, ((((Below.refl _ _).alloc (Nat.le_refl _) _).alloc (by simp) _).alloc (by first | omega | (simp <;> omega)) _)⟩
theorem size_any (s t : Bool) (m n : Nat) (w : World) :
    Calls Tryd.prog 40 #[wide s m, wide t n] w fun e w' => e = .returned (.bool (decide (m < n))) ∧ Below w.heap.size w w' := by
  rw [← size_iff]
  unfold wide
  rcases Bool.eq_false_or_eq_true (decide (hiN m < hiN n)) with h | h
  · go_enter Tryd.func40, Tryd.ntmps40
    go_wp2
    go_ret
    exact ⟨by simp [h], ((Below.refl _ _).alloc (Nat.le_refl _) _).alloc (by simp) _⟩
  · rcases Bool.eq_false_or_eq_true ((hiN m : Int) == (hiN n : Int)) with h' | h'
    all_goals
      go_enter Tryd.func40, Tryd.ntmps40
      go_wp2
      go_ret
      exact ⟨by simp only [h, h', Bool.false_or, Bool.true_and, Bool.false_and]; rfl, ((Below.refl _ _).alloc (Nat.le_refl _) _).alloc (by simp) _⟩
theorem wide_W {s : Bool} {m : Nat} {v : Int} (hm : m = v.natAbs) (hs : s = decide (v < 0)) : wide s m = W v := by unfold W; rw [hm, hs]
theorem bcell {W w1 : World} (hb : Below W.heap.size W w1) : (∀ b o, b < W.heap.size → w1.cell? ⟨b, o, none⟩ = W.cell? ⟨b, o, none⟩) ∧ (∀ b o, b < W.heap.size → w1.frozen? ⟨b, o, none⟩ = W.frozen? ⟨b, o, none⟩) :=
  ⟨fun b o h => hb.cell (p := ⟨b, o, none⟩) h, fun b o h => hb.frozen (p := ⟨b, o, none⟩) h⟩
theorem below_via {B : Nat} {w W w1 : World} (h : Below B w W) (hb : Below W.heap.size W w1) (hB : B ≤ W.heap.size) : Below B w w1 := h.trans (hb.mono hB)
/-- Both of one sign: the sizes together; the sign stays, but where all is nought. -/
theorem add_like (s : Bool) (m n : Nat) (w : World) (hs : m + n < two128) (h0 : s = true → (m + n == 0) = false) :
    Calls Tryd.prog 28 #[wide s m, wide s n] w fun e w' => e = .returned (wide s (m + n)) ∧ Below w.heap.size w w' := by
  have HS := hid hs
  clear hs
  cases s
  · have H0 := hid h0
    clear h0
    unfold wide
    go_enter Tryd.func28, Tryd.ntmps28
    go_wp2_with fail
    refine (plus_any _ _ _ _ _ HS.out).mono ?_; rintro e w1 ⟨rfl, hb1⟩; unfold wide
    obtain ⟨hc1, hf1⟩ := bcell hb1
    obtain ⟨k0, k1, k2⟩ : w.heap.size < w1.heap.size ∧ w.heap.size + 1 < w1.heap.size ∧ w.heap.size + 1 + 1 < w1.heap.size := by have := hb1.size; simp at this; omega
    go_wp2
    refine bodyPost_ret (v := .agg #[.bool false, .int .u64 (hiN (m + n)), .int .u64 (loN (m + n))])
      (by simp only [results, Tryd.results28]; go_simp) rfl ⟨rfl, ?_⟩
    repeat (first | (refine Below.setCell ?_ (by first | omega | (simp <;> omega)) _) | (refine Below.alloc ?_ (by first | omega | (simp <;> omega)) _) | (refine below_via ?_ hb1 (by first | omega | (simp <;> omega))) | exact Below.refl _ _)
  · have h1 : (m + n == 0) = false := h0 rfl
    clear h0
    unfold wide
    go_enter Tryd.func28, Tryd.ntmps28
    go_wp2_with fail
    refine (plus_any _ _ _ _ _ HS.out).mono ?_; rintro e w1 ⟨rfl, hb1⟩; unfold wide
    obtain ⟨hc1, hf1⟩ := bcell hb1
    obtain ⟨k0, k1, k2⟩ : w.heap.size < w1.heap.size ∧ w.heap.size + 1 < w1.heap.size ∧ w.heap.size + 1 + 1 < w1.heap.size := by have := hb1.size; simp at this; omega
    go_wp2_with fail
    refine (zero_any _ _ _).mono ?_; rintro e w2 ⟨rfl, hb2⟩; rw [h1]
    obtain ⟨hc2, hf2⟩ := bcell hb2
    have k3 : w1.heap.size < w2.heap.size := by have := hb2.size; simp at this; omega
    obtain ⟨k4, k5, k6⟩ : w.heap.size < w2.heap.size ∧ w.heap.size + 1 < w2.heap.size ∧ w.heap.size + 1 + 1 < w2.heap.size := ⟨by omega, by omega, by omega⟩
    go_wp2
    refine bodyPost_ret (v := .agg #[.bool true, .int .u64 (hiN (m + n)), .int .u64 (loN (m + n))])
      (by simp only [results, Tryd.results28]; go_simp) rfl ⟨rfl, ?_⟩
    repeat (first | (refine Below.setCell ?_ (by first | omega | (simp <;> omega)) _) | (refine Below.alloc ?_ (by first | omega | (simp <;> omega)) _) | (refine below_via ?_ hb2 (by first | omega | (simp <;> omega))) | (refine below_via ?_ hb1 (by first | omega | (simp <;> omega))) | exact Below.refl _ _)
theorem add_tf_lt (m n : Nat) (w : World) (hm : m < two128) (hn : n < two128) (h : m < n) :
    Calls Tryd.prog 28 #[wide true m, wide false n] w fun e w' => e = .returned (wide false (n - m)) ∧ Below w.heap.size w w' := by
  have ht : decide (m < n) = true := by simp; omega
  have HM := hid hm
  have HN := hid hn
  have H := hid h
  clear hm hn h
  unfold wide
  go_enter Tryd.func28, Tryd.ntmps28
  go_wp2_with fail
  refine (size_any _ _ _ _ _).mono ?_; rintro e w1 ⟨rfl, hb1⟩; rw [ht]
  obtain ⟨hc1, hf1⟩ := bcell hb1
  obtain ⟨k0, k1, k2⟩ : w.heap.size < w1.heap.size ∧ w.heap.size + 1 < w1.heap.size ∧ w.heap.size + 1 + 1 < w1.heap.size := by have := hb1.size; simp at this; omega
  go_wp2_with fail
  refine (minus_any _ _ _ _ _ HN.out (by have := H.out; omega)).mono ?_; rintro e w2 ⟨rfl, hb2⟩; unfold wide
  obtain ⟨hc2, hf2⟩ := bcell hb2
  have j0 : w1.heap.size ≤ w2.heap.size := hb2.size
  obtain ⟨j1, j2, j3⟩ : w.heap.size < w2.heap.size ∧ w.heap.size + 1 < w2.heap.size ∧ w.heap.size + 1 + 1 < w2.heap.size := ⟨by omega, by omega, by omega⟩
  go_wp2
  refine bodyPost_ret (v := .agg #[.bool false, .int .u64 (hiN (n - m)), .int .u64 (loN (n - m))])
    (by simp only [results, Tryd.results28]; go_simp) rfl ⟨rfl, ?_⟩
  repeat (first | (refine Below.setCell ?_ (by first | omega | (simp <;> omega)) _) | (refine Below.alloc ?_ (by first | omega | (simp <;> omega)) _) | (refine below_via ?_ hb2 (by first | omega | (simp <;> omega))) | (refine below_via ?_ hb1 (by first | omega | (simp <;> omega))) | exact Below.refl _ _)
theorem add_ft_lt (m n : Nat) (w : World) (hm : m < two128) (hn : n < two128) (h : m < n) (h0 : (n - m == 0) = false) :
    Calls Tryd.prog 28 #[wide false m, wide true n] w fun e w' => e = .returned (wide true (n - m)) ∧ Below w.heap.size w w' := by
  have ht : decide (m < n) = true := by simp; omega
  have HM := hid hm
  have HN := hid hn
  have H := hid h
  clear hm hn h
  unfold wide
  go_enter Tryd.func28, Tryd.ntmps28
  go_wp2_with fail
  refine (size_any _ _ _ _ _).mono ?_; rintro e w1 ⟨rfl, hb1⟩; rw [ht]
  obtain ⟨hc1, hf1⟩ := bcell hb1
  obtain ⟨k0, k1, k2⟩ : w.heap.size < w1.heap.size ∧ w.heap.size + 1 < w1.heap.size ∧ w.heap.size + 1 + 1 < w1.heap.size := by have := hb1.size; simp at this; omega
  go_wp2_with fail
  refine (minus_any _ _ _ _ _ HN.out (by have := H.out; omega)).mono ?_; rintro e w2 ⟨rfl, hb2⟩; unfold wide
  obtain ⟨hc2, hf2⟩ := bcell hb2
  have j0 : w1.heap.size ≤ w2.heap.size := hb2.size
  obtain ⟨j1, j2, j3⟩ : w.heap.size < w2.heap.size ∧ w.heap.size + 1 < w2.heap.size ∧ w.heap.size + 1 + 1 < w2.heap.size := ⟨by omega, by omega, by omega⟩
  go_wp2_with fail
  refine (zero_any _ _ _).mono ?_; rintro e w3 ⟨rfl, hb3⟩; rw [h0]
  obtain ⟨hc3, hf3⟩ := bcell hb3
  have i0 : w2.heap.size < w3.heap.size := by have := hb3.size; simp at this; omega
  obtain ⟨i1, i2, i3⟩ : w.heap.size < w3.heap.size ∧ w.heap.size + 1 < w3.heap.size ∧ w.heap.size + 1 + 1 < w3.heap.size := ⟨by omega, by omega, by omega⟩
  go_wp2
  refine bodyPost_ret (v := .agg #[.bool true, .int .u64 (hiN (n - m)), .int .u64 (loN (n - m))])
    (by simp only [results, Tryd.results28]; go_simp) rfl ⟨rfl, ?_⟩
  repeat (first | (refine Below.setCell ?_ (by first | omega | (simp <;> omega)) _) | (refine Below.alloc ?_ (by first | omega | (simp <;> omega)) _) | (refine below_via ?_ hb3 (by first | omega | (simp <;> omega))) | (refine below_via ?_ hb2 (by first | omega | (simp <;> omega))) | (refine below_via ?_ hb1 (by first | omega | (simp <;> omega))) | exact Below.refl _ _)
theorem add_ft_ge (m n : Nat) (w : World) (hm : m < two128) (hn : n < two128) (h : n ≤ m) :
    Calls Tryd.prog 28 #[wide false m, wide true n] w fun e w' => e = .returned (wide false (m - n)) ∧ Below w.heap.size w w' := by
  have ht : decide (m < n) = false := by simp; omega
  have HM := hid hm
  have HN := hid hn
  have H := hid h
  clear hm hn h
  unfold wide
  go_enter Tryd.func28, Tryd.ntmps28
  go_wp2_with fail
  refine (size_any _ _ _ _ _).mono ?_; rintro e w1 ⟨rfl, hb1⟩; rw [ht]
  obtain ⟨hc1, hf1⟩ := bcell hb1
  obtain ⟨k0, k1, k2⟩ : w.heap.size < w1.heap.size ∧ w.heap.size + 1 < w1.heap.size ∧ w.heap.size + 1 + 1 < w1.heap.size := by have := hb1.size; simp at this; omega
  go_wp2_with fail
  refine (minus_any _ _ _ _ _ HM.out (by have := H.out; omega)).mono ?_; rintro e w2 ⟨rfl, hb2⟩; unfold wide
  obtain ⟨hc2, hf2⟩ := bcell hb2
  have j0 : w1.heap.size ≤ w2.heap.size := hb2.size
  obtain ⟨j1, j2, j3⟩ : w.heap.size < w2.heap.size ∧ w.heap.size + 1 < w2.heap.size ∧ w.heap.size + 1 + 1 < w2.heap.size := ⟨by omega, by omega, by omega⟩
  go_wp2
  refine bodyPost_ret (v := .agg #[.bool false, .int .u64 (hiN (m - n)), .int .u64 (loN (m - n))])
    (by simp only [results, Tryd.results28]; go_simp) rfl ⟨rfl, ?_⟩
  repeat (first | (refine Below.setCell ?_ (by first | omega | (simp <;> omega)) _) | (refine Below.alloc ?_ (by first | omega | (simp <;> omega)) _) | (refine below_via ?_ hb2 (by first | omega | (simp <;> omega))) | (refine below_via ?_ hb1 (by first | omega | (simp <;> omega))) | exact Below.refl _ _)
theorem add_tf_gt (m n : Nat) (w : World) (hm : m < two128) (hn : n < two128) (h : n ≤ m) (h0 : (m - n == 0) = false) :
    Calls Tryd.prog 28 #[wide true m, wide false n] w fun e w' => e = .returned (wide true (m - n)) ∧ Below w.heap.size w w' := by
  have ht : decide (m < n) = false := by simp; omega
  have HM := hid hm
  have HN := hid hn
  have H := hid h
  clear hm hn h
  unfold wide
  go_enter Tryd.func28, Tryd.ntmps28
  go_wp2_with fail
  refine (size_any _ _ _ _ _).mono ?_; rintro e w1 ⟨rfl, hb1⟩; rw [ht]
  obtain ⟨hc1, hf1⟩ := bcell hb1
  obtain ⟨k0, k1, k2⟩ : w.heap.size < w1.heap.size ∧ w.heap.size + 1 < w1.heap.size ∧ w.heap.size + 1 + 1 < w1.heap.size := by have := hb1.size; simp at this; omega
  go_wp2_with fail
  refine (minus_any _ _ _ _ _ HM.out (by have := H.out; omega)).mono ?_; rintro e w2 ⟨rfl, hb2⟩; unfold wide
  obtain ⟨hc2, hf2⟩ := bcell hb2
  have j0 : w1.heap.size ≤ w2.heap.size := hb2.size
  obtain ⟨j1, j2, j3⟩ : w.heap.size < w2.heap.size ∧ w.heap.size + 1 < w2.heap.size ∧ w.heap.size + 1 + 1 < w2.heap.size := ⟨by omega, by omega, by omega⟩
  go_wp2_with fail
  refine (zero_any _ _ _).mono ?_; rintro e w3 ⟨rfl, hb3⟩; rw [h0]
  obtain ⟨hc3, hf3⟩ := bcell hb3
  have i0 : w2.heap.size < w3.heap.size := by have := hb3.size; simp at this; omega
  obtain ⟨i1, i2, i3⟩ : w.heap.size < w3.heap.size ∧ w.heap.size + 1 < w3.heap.size ∧ w.heap.size + 1 + 1 < w3.heap.size := ⟨by omega, by omega, by omega⟩
  go_wp2
  refine bodyPost_ret (v := .agg #[.bool true, .int .u64 (hiN (m - n)), .int .u64 (loN (m - n))])
    (by simp only [results, Tryd.results28]; go_simp) rfl ⟨rfl, ?_⟩
  repeat (first | (refine Below.setCell ?_ (by first | omega | (simp <;> omega)) _) | (refine Below.alloc ?_ (by first | omega | (simp <;> omega)) _) | (refine below_via ?_ hb3 (by first | omega | (simp <;> omega))) | (refine below_via ?_ hb2 (by first | omega | (simp <;> omega))) | (refine below_via ?_ hb1 (by first | omega | (simp <;> omega))) | exact Below.refl _ _)
theorem add_tf_eq (m n : Nat) (w : World) (hm : m < two128) (hn : n < two128) (h : n ≤ m) (h0 : (m - n == 0) = true) :
    Calls Tryd.prog 28 #[wide true m, wide false n] w fun e w' => e = .returned (wide false (m - n)) ∧ Below w.heap.size w w' := by
  have ht : decide (m < n) = false := by simp; omega
  have HM := hid hm
  have HN := hid hn
  have H := hid h
  clear hm hn h
  unfold wide
  go_enter Tryd.func28, Tryd.ntmps28
  go_wp2_with fail
  refine (size_any _ _ _ _ _).mono ?_; rintro e w1 ⟨rfl, hb1⟩; rw [ht]
  obtain ⟨hc1, hf1⟩ := bcell hb1
  obtain ⟨k0, k1, k2⟩ : w.heap.size < w1.heap.size ∧ w.heap.size + 1 < w1.heap.size ∧ w.heap.size + 1 + 1 < w1.heap.size := by have := hb1.size; simp at this; omega
  go_wp2_with fail
  refine (minus_any _ _ _ _ _ HM.out (by have := H.out; omega)).mono ?_; rintro e w2 ⟨rfl, hb2⟩; unfold wide
  obtain ⟨hc2, hf2⟩ := bcell hb2
  have j0 : w1.heap.size ≤ w2.heap.size := hb2.size
  obtain ⟨j1, j2, j3⟩ : w.heap.size < w2.heap.size ∧ w.heap.size + 1 < w2.heap.size ∧ w.heap.size + 1 + 1 < w2.heap.size := ⟨by omega, by omega, by omega⟩
  go_wp2_with fail
  refine (zero_any _ _ _).mono ?_; rintro e w3 ⟨rfl, hb3⟩; rw [h0]
  obtain ⟨hc3, hf3⟩ := bcell hb3
  have i0 : w2.heap.size < w3.heap.size := by have := hb3.size; simp at this; omega
  obtain ⟨i1, i2, i3⟩ : w.heap.size < w3.heap.size ∧ w.heap.size + 1 < w3.heap.size ∧ w.heap.size + 1 + 1 < w3.heap.size := ⟨by omega, by omega, by omega⟩
  go_wp2
  refine bodyPost_ret (v := .agg #[.bool false, .int .u64 (hiN (m - n)), .int .u64 (loN (m - n))])
    (by simp only [results, Tryd.results28]; go_simp) rfl ⟨rfl, ?_⟩
  repeat (first | (refine Below.setCell ?_ (by first | omega | (simp <;> omega)) _) | (refine Below.alloc ?_ (by first | omega | (simp <;> omega)) _) | (refine below_via ?_ hb3 (by first | omega | (simp <;> omega))) | (refine below_via ?_ hb2 (by first | omega | (simp <;> omega))) | (refine below_via ?_ hb1 (by first | omega | (simp <;> omega))) | exact Below.refl _ _)
theorem add_any (u v : Int) (w : World) (hu : u.natAbs < two127) (hv : v.natAbs < two127) :
    Calls Tryd.prog 28 #[W u, W v] w fun e w' => e = .returned (W (u + v)) ∧ Below w.heap.size w w' := by
  have hu2 : u.natAbs < two128 := by unfold two127 at hu; unfold two128; omega
  have hv2 : v.natAbs < two128 := by unfold two127 at hv; unfold two128; omega
  have huv : u.natAbs + v.natAbs < two128 := by unfold two127 at hu hv; unfold two128; omega
  unfold W
  by_cases hu0 : u < 0
  · by_cases hv0 : v < 0
    · have e1 : (u + v).natAbs = u.natAbs + v.natAbs := by omega
      rw [decide_eq_true hu0, decide_eq_true hv0, decide_eq_true (show u + v < 0 by omega), e1]
      exact add_like true _ _ w huv (fun _ => by simp; omega)
    · by_cases hc : u.natAbs < v.natAbs
      · have e1 : (u + v).natAbs = v.natAbs - u.natAbs := by omega
        rw [decide_eq_true hu0, decide_eq_false hv0, decide_eq_false (show ¬ u + v < 0 by omega), e1]
        exact add_tf_lt _ _ w hu2 hv2 hc
      · have e1 : (u + v).natAbs = u.natAbs - v.natAbs := by omega
        by_cases hz : u.natAbs = v.natAbs
        · rw [decide_eq_true hu0, decide_eq_false hv0, decide_eq_false (show ¬ u + v < 0 by omega), e1]
          exact add_tf_eq _ _ w hu2 hv2 (by omega) (by simp; omega)
        · rw [decide_eq_true hu0, decide_eq_false hv0, decide_eq_true (show u + v < 0 by omega), e1]
          exact add_tf_gt _ _ w hu2 hv2 (by omega) (by simp; omega)
  · by_cases hv0 : v < 0
    · by_cases hc : u.natAbs < v.natAbs
      · have e1 : (u + v).natAbs = v.natAbs - u.natAbs := by omega
        rw [decide_eq_false hu0, decide_eq_true hv0, decide_eq_true (show u + v < 0 by omega), e1]
        exact add_ft_lt _ _ w hu2 hv2 hc (by simp; omega)
      · have e1 : (u + v).natAbs = u.natAbs - v.natAbs := by omega
        rw [decide_eq_false hu0, decide_eq_true hv0, decide_eq_false (show ¬ u + v < 0 by omega), e1]
        exact add_ft_ge _ _ w hu2 hv2 (by omega)
    · have e1 : (u + v).natAbs = u.natAbs + v.natAbs := by omega
      rw [decide_eq_false hu0, decide_eq_false hv0, decide_eq_false (show ¬ u + v < 0 by omega), e1]
      exact add_like false _ _ w huv (fun h => by cases h)
end Go.Proofs.YtkjlcbjfnffpfaaDoor.R1
