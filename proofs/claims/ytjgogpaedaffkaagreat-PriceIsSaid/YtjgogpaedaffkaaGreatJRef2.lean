/- What each call of package exact answers, for all numbers of 64 bits: contracts over the walked program. -/
import Derived.Test.YtjgogpaedaffkaaGreatRows
import Derived.Test.YtjgogpaedaffkaaGreatJPureS
import Derived.WalkKit
import Derived.ProofKit
import Derived.BigQuiet
import Derived.Deep.QuietTactic
import Derived.WalkSmall
import Derived.LoopN
import Derived.Deep.CutBlock
import Derived.Deep.CutRange
import Derived.Deep.DeepCutAuto
import Derived.Deep.LoopGhost
import Derived.Deep.RegionHeld3
namespace Go.Proofs.YtjgogpaedaffkaaGreat.P
end Go.Proofs.YtjgogpaedaffkaaGreat.P
namespace Go.Proofs.YtjgogpaedaffkaaGreat.Ex
end Go.Proofs.YtjgogpaedaffkaaGreat.Ex
namespace Go.Proofs.YtjgogpaedaffkaaGreat.R1
end Go.Proofs.YtjgogpaedaffkaaGreat.R1
namespace Go.Proofs.YtjgogpaedaffkaaGreat.Ex
open Go.RowKit P
theorem ret_2 {k : IntKind} {a b : Int} {p q : Bool} (h : a = b) (h' : p = q) : Ending.returned (.tuple #[.int k a, .bool p]) = .returned (.tuple #[.int k b, .bool q]) := by rw [h, h']
theorem add_yes (a b : Int) (w : World) (h : I64 (a + b)) :
    Calls Tryz.prog 41 #[.int .i64 a, .int .i64 b] w fun e w' => e = .returned (.tuple #[.int .i64 (a + b), .bool true]) ∧ w = w' := by
  have ht := add_test_yes h
  have H := hid (wrap_in h)
  clear h
  go_enter Tryz.func41, Tryz.ntmps41
  go_wp2
  go_ret2
  exact ⟨ret_2 H.out rfl, rfl⟩
theorem add_no (a b : Int) (w : World) (ha : I64 a) (hb : I64 b) (h : ¬ I64 (a + b)) :
    Calls Tryz.prog 41 #[.int .i64 a, .int .i64 b] w fun e w' => e = .returned (.tuple #[.int .i64 0, .bool false]) ∧ w = w' := by
  have ht := add_test_no ha hb h
  clear ha hb h
  go_enter Tryz.func41, Tryz.ntmps41
  go_wp2
  go_ret2
  exact ⟨rfl, rfl⟩
theorem add_any (a b : Int) (w : World) (ha : I64 a) (hb : I64 b) :
    Calls Tryz.prog 41 #[.int .i64 a, .int .i64 b] w fun e w' => e = .returned (.tuple #[.int .i64 (cut64 (a + b)), .bool (ok64 (a + b))]) ∧ w = w' := by
  by_cases h : I64 (a + b)
  · rw [cut64_t h, ok64_t h]; exact add_yes a b w h
  · rw [cut64_f h, ok64_f h]; exact add_no a b w ha hb h
theorem sub_yes (a b : Int) (w : World) (h : I64 (a - b)) :
    Calls Tryz.prog 121 #[.int .i64 a, .int .i64 b] w fun e w' => e = .returned (.tuple #[.int .i64 (a - b), .bool true]) ∧ w = w' := by
  have ht := sub_test_yes h
  have H := hid (wrap_in h)
  clear h
  go_enter Tryz.func121, Tryz.ntmps121
  go_wp2
  go_ret2
  exact ⟨ret_2 H.out rfl, rfl⟩
theorem sub_no (a b : Int) (w : World) (ha : I64 a) (hb : I64 b) (h : ¬ I64 (a - b)) :
    Calls Tryz.prog 121 #[.int .i64 a, .int .i64 b] w fun e w' => e = .returned (.tuple #[.int .i64 0, .bool false]) ∧ w = w' := by
  have ht := sub_test_no ha hb h
  clear ha hb h
  go_enter Tryz.func121, Tryz.ntmps121
  go_wp2
  go_ret2
  exact ⟨rfl, rfl⟩
theorem sub_any (a b : Int) (w : World) (ha : I64 a) (hb : I64 b) :
    Calls Tryz.prog 121 #[.int .i64 a, .int .i64 b] w fun e w' => e = .returned (.tuple #[.int .i64 (cut64 (a - b)), .bool (ok64 (a - b))]) ∧ w = w' := by
  by_cases h : I64 (a - b)
  · rw [cut64_t h, ok64_t h]; exact sub_yes a b w h
  · rw [cut64_f h, ok64_f h]; exact sub_no a b w ha hb h
theorem mul_any (a b : Int) (w : World) (ha : I64 a) (hb : I64 b) :
    Calls Tryz.prog 113 #[.int .i64 a, .int .i64 b] w fun e w' => e = .returned (.tuple #[.int .i64 (cut64 (a * b)), .bool (ok64 (a * b))]) ∧ w = w' := by
  by_cases h0 : a = 0
  · subst h0
    rw [Int.zero_mul, cut64_t i64_0, ok64_t i64_0]
    clear ha hb
    go_enter Tryz.func113, Tryz.ntmps113
    go_wp2
    go_ret2
    exact ⟨rfl, rfl⟩
  · by_cases h1 : a = -1
    · subst h1
      have e : (-1 : Int) * b = -b := by omega
      rw [e]
      clear e h0 ha
      have hb' : Hid (I64 b) := hid hb
      clear hb
      go_enter Tryz.func113, Tryz.ntmps113
      go_wp2_with (go_at_call 121; refine (sub_any _ _ _ i64_0 hb'.out).mono ?_; rintro e w' ⟨rfl, rfl⟩; simp only [Int.zero_sub])
      go_ret2
      exact ⟨rfl, rfl⟩
    · have e0 : (a == 0) = false := by simpa using h0
      have e1 : (a == -1) = false := by simpa using h1
      by_cases h : I64 (a * b)
      · have ht : (wrap64 ((wrap64 (a * b)).tdiv a) != b) = false := by rw [mul_test_yes hb h0 h]; simp
        have H := hid (wrap_in h)
        have H2 := hid h
        clear ha hb h h1
        go_enter Tryz.func113, Tryz.ntmps113
        go_wp2
        go_ret2
        exact ⟨ret_2 (by rw [H.out, cut64_t H2.out]) (by rw [ok64_t H2.out]), rfl⟩
      · have ht : (wrap64 ((wrap64 (a * b)).tdiv a) != b) = true := by
          rcases mul_test_no ha h0 h with h2 | h2
          · simpa using h2
          · exact absurd h2 h1
        rw [cut64_f h, ok64_f h]
        clear ha hb h h1
        go_enter Tryz.func113, Tryz.ntmps113
        go_wp2
        go_ret2
        exact ⟨rfl, rfl⟩
end Go.Proofs.YtjgogpaedaffkaaGreat.Ex
/- What the document's answers for layer 1 (poundageref01) come to: wide numbers as whole numbers. -/
namespace Go.Proofs.YtjgogpaedaffkaaGreat.R1
open Go.RowKit P
/-- A wide number's value: its sign, its upper and its lower part. -/
def wide (s : Bool) (m : Nat) : Value := .agg #[.bool s, .int .u64 (hiN m), .int .u64 (loN m)]
/-- A whole number as a wide one. -/
def W (v : Int) : Value := wide (decide (v < 0)) v.natAbs
theorem wide_eq {s : Bool} {a b : Int} {m : Nat} (ha : a = hiN m) (hb : b = loN m) : Value.agg #[.bool s, .int .u64 a, .int .u64 b] = wide s m := by unfold wide; rw [ha, hb]
theorem of_any (a : Int) (w : World) (ha : I64 a) :
    Calls Tryz.prog 60 #[.int .i64 a] w fun e w' => e = .returned (W a) ∧ Below w.heap.size w w' := by
  have hh : hiN a.natAbs = 0 := hiN_small (by unfold I64 at ha; omega)
  have hl : loN a.natAbs = a.natAbs := loN_small (by unfold I64 at ha; omega)
  by_cases h : a < 0
  · have e : IntKind.u64.wrap (IntKind.u64.wrap (wrap64 (-wrap64 (a + 1))) + 1) = loN a.natAbs := by
      rw [hl, wrap_in (n := a + 1) (by unfold I64 at *; omega), wrap_in (n := -(a + 1)) (by unfold I64 at *; omega), u64_mod, u64_mod]
      unfold I64 at ha; omega
    have r : Value.agg #[.bool true, .int .u64 0, .int .u64 (IntKind.u64.wrap (IntKind.u64.wrap (wrap64 (-wrap64 (a + 1))) + 1))] = W a := by
      unfold W; rw [decide_eq_true h]; exact wide_eq (by rw [hh]; rfl) e
    have R := hid r
    clear r e hh hl ha
    go_enter Tryz.func60, Tryz.ntmps60
    go_wp2
    exact bodyPost_ret (v := .agg #[.bool true, .int .u64 0, .int .u64 (IntKind.u64.wrap (IntKind.u64.wrap (wrap64 (-wrap64 (a + 1))) + 1))])
      (by simp [results, Tryz.results60, go_sem]) rfl ⟨by rw [R.out], (Below.refl _ _).alloc (Nat.le_refl _) _⟩
  · have e : IntKind.u64.wrap a = loN a.natAbs := by rw [hl, u64_mod]; unfold I64 at ha; omega
    have r : Value.agg #[.bool false, .int .u64 0, .int .u64 (IntKind.u64.wrap a)] = W a := by
      unfold W; rw [decide_eq_false h]; exact wide_eq (by rw [hh]; rfl) e
    have R := hid r
    clear r e hh hl ha
    go_enter Tryz.func60, Tryz.ntmps60
    go_wp2
    exact bodyPost_ret (v := .agg #[.bool false, .int .u64 0, .int .u64 (IntKind.u64.wrap a)])
      (by simp [results, Tryz.results60, go_sem]) rfl ⟨by rw [R.out], (Below.refl _ _).alloc (Nat.le_refl _) _⟩
theorem zero_any (s : Bool) (m : Nat) (w : World) :
    Calls Tryz.prog 89 #[wide s m] w fun e w' => e = .returned (.bool (m == 0)) ∧ Below w.heap.size w w' := by
  rw [← zero_iff]
  unfold wide
  rcases Bool.eq_false_or_eq_true (((hiN m : Nat) : Int) == 0) with h | h
  all_goals
    go_enter Tryz.func89, Tryz.ntmps89
    go_wp2
    go_ret
    exact ⟨by rw [h]; simp, (Below.refl _ _).alloc (Nat.le_refl _) _⟩
theorem plus_any (s t : Bool) (m n : Nat) (w : World) (hs : m + n < two128) :
    Calls Tryz.prog 88 #[wide s m, wide t n] w fun e w' => e = .returned (wide false (m + n)) ∧ Below w.heap.size w w' := by
  have el := plus_lo m n
  by_cases h : 18446744073709551616 ≤ loN m + loN n
  · have ht := plus_test_yes h
    have r : Value.agg #[.bool false, .int .u64 (IntKind.u64.wrap (IntKind.u64.wrap ((hiN m : Int) + (hiN n : Int)) + 1)), .int .u64 (IntKind.u64.wrap ((loN m : Int) + (loN n : Int)))] = wide false (m + n) := wide_eq (plus_hi_yes hs h) el
    have R := hid r
    clear r el h hs
    unfold wide
    go_enter Tryz.func88, Tryz.ntmps88
    go_wp2
    exact bodyPost_ret (v := .agg #[.bool false, .int .u64 (IntKind.u64.wrap (IntKind.u64.wrap ((hiN m : Int) + (hiN n : Int)) + 1)), .int .u64 (IntKind.u64.wrap ((loN m : Int) + (loN n : Int)))])
      (by simp [results, Tryz.results88, go_sem]) rfl ⟨by rw [R.out]; rfl, ((((Below.refl _ _).alloc (Nat.le_refl _) _).alloc (by simp) _).alloc (by first | omega | (simp <;> omega)) _)⟩
  · have ht := plus_test_no h
    have r : Value.agg #[.bool false, .int .u64 (IntKind.u64.wrap ((hiN m : Int) + (hiN n : Int))), .int .u64 (IntKind.u64.wrap ((loN m : Int) + (loN n : Int)))] = wide false (m + n) := wide_eq (plus_hi_no hs h) el
    have R := hid r
    clear r el h hs
    unfold wide
    go_enter Tryz.func88, Tryz.ntmps88
    go_wp2
    exact bodyPost_ret (v := .agg #[.bool false, .int .u64 (IntKind.u64.wrap ((hiN m : Int) + (hiN n : Int))), .int .u64 (IntKind.u64.wrap ((loN m : Int) + (loN n : Int)))])
      (by simp [results, Tryz.results88, go_sem]) rfl ⟨by rw [R.out]; rfl, ((((Below.refl _ _).alloc (Nat.le_refl _) _).alloc (by simp) _).alloc (by first | omega | (simp <;> omega)) _)⟩
theorem minus_any (s t : Bool) (m n : Nat) (w : World) (hs : m < two128) (hn : n ≤ m) :
    Calls Tryz.prog 91 #[wide s m, wide t n] w fun e w' => e = .returned (wide false (m - n)) ∧ Below w.heap.size w w' := by
  have el := minus_lo hn
  by_cases h : loN m < loN n
  · have ht := min_test_yes h
    have r : Value.agg #[.bool false, .int .u64 (IntKind.u64.wrap (IntKind.u64.wrap ((hiN m : Int) - (hiN n : Int)) - 1)), .int .u64 (IntKind.u64.wrap ((loN m : Int) - (loN n : Int)))] = wide false (m - n) := wide_eq (minus_hi_yes hs hn h) el
    have R := hid r
    clear r el h hs hn
    unfold wide
    go_enter Tryz.func91, Tryz.ntmps91
    go_wp2
    exact bodyPost_ret (v := .agg #[.bool false, .int .u64 (IntKind.u64.wrap (IntKind.u64.wrap ((hiN m : Int) - (hiN n : Int)) - 1)), .int .u64 (IntKind.u64.wrap ((loN m : Int) - (loN n : Int)))])
      (by simp [results, Tryz.results91, go_sem]) rfl ⟨by rw [R.out]; rfl, ((((Below.refl _ _).alloc (Nat.le_refl _) _).alloc (by simp) _).alloc (by first | omega | (simp <;> omega)) _)⟩
  · have ht := min_test_no h
    have r : Value.agg #[.bool false, .int .u64 (IntKind.u64.wrap ((hiN m : Int) - (hiN n : Int))), .int .u64 (IntKind.u64.wrap ((loN m : Int) - (loN n : Int)))] = wide false (m - n) := wide_eq (minus_hi_no hs hn h) el
    have R := hid r
    clear r el h hs hn
    unfold wide
    go_enter Tryz.func91, Tryz.ntmps91
    go_wp2
    exact bodyPost_ret (v := .agg #[.bool false, .int .u64 (IntKind.u64.wrap ((hiN m : Int) - (hiN n : Int))), .int .u64 (IntKind.u64.wrap ((loN m : Int) - (loN n : Int)))])
      (by simp [results, Tryz.results91, go_sem]) rfl ⟨by rw [R.out]; rfl, ((((Below.refl _ _).alloc (Nat.le_refl _) _).alloc (by simp) _).alloc (by first | omega | (simp <;> omega)) _)⟩
theorem size_any (s t : Bool) (m n : Nat) (w : World) :
    Calls Tryz.prog 90 #[wide s m, wide t n] w fun e w' => e = .returned (.bool (decide (m < n))) ∧ Below w.heap.size w w' := by
  rw [← size_iff]
  unfold wide
  rcases Bool.eq_false_or_eq_true (decide (hiN m < hiN n)) with h | h
  · go_enter Tryz.func90, Tryz.ntmps90
    go_wp2
    go_ret
    exact ⟨by simp [h], ((Below.refl _ _).alloc (Nat.le_refl _) _).alloc (by simp) _⟩
  · rcases Bool.eq_false_or_eq_true ((hiN m : Int) == (hiN n : Int)) with h' | h'
    all_goals
      go_enter Tryz.func90, Tryz.ntmps90
      go_wp2
      go_ret
      exact ⟨by simp only [h, h', Bool.false_or, Bool.true_and, Bool.false_and]; rfl, ((Below.refl _ _).alloc (Nat.le_refl _) _).alloc (by simp) _⟩
theorem bcell {W w1 : World} (hb : Below W.heap.size W w1) : (∀ b o, b < W.heap.size → w1.cell? ⟨b, o, none⟩ = W.cell? ⟨b, o, none⟩) ∧ (∀ b o, b < W.heap.size → w1.frozen? ⟨b, o, none⟩ = W.frozen? ⟨b, o, none⟩) :=
  ⟨fun b o h => hb.cell (p := ⟨b, o, none⟩) h, fun b o h => hb.frozen (p := ⟨b, o, none⟩) h⟩
theorem below_via {B : Nat} {w W w1 : World} (h : Below B w W) (hb : Below W.heap.size W w1) (hB : B ≤ W.heap.size) : Below B w w1 := h.trans (hb.mono hB)
/-- Both of one sign: the sizes together; the sign stays, but where all is nought. -/
theorem add_like (s : Bool) (m n : Nat) (w : World) (hs : m + n < two128) (h0 : s = true → (m + n == 0) = false) :
    Calls Tryz.prog 59 #[wide s m, wide s n] w fun e w' => e = .returned (wide s (m + n)) ∧ Below w.heap.size w w' := by
  have HS := hid hs
  clear hs
  cases s
  · have H0 := hid h0
    clear h0
    unfold wide
    go_enter Tryz.func59, Tryz.ntmps59
    go_wp2_with fail
    refine (plus_any _ _ _ _ _ HS.out).mono ?_; rintro e w1 ⟨rfl, hb1⟩; unfold wide
    obtain ⟨hc1, hf1⟩ := bcell hb1
    obtain ⟨k0, k1, k2⟩ : w.heap.size < w1.heap.size ∧ w.heap.size + 1 < w1.heap.size ∧ w.heap.size + 1 + 1 < w1.heap.size := by have := hb1.size; simp at this; omega
    go_wp2
    refine bodyPost_ret (v := .agg #[.bool false, .int .u64 (hiN (m + n)), .int .u64 (loN (m + n))])
      (by simp only [results, Tryz.results59]; go_simp) rfl ⟨rfl, ?_⟩
    repeat (first | (refine Below.setCell ?_ (by first | omega | (simp <;> omega)) _) | (refine Below.alloc ?_ (by first | omega | (simp <;> omega)) _) | (refine below_via ?_ hb1 (by first | omega | (simp <;> omega))) | exact Below.refl _ _)
  · have h1 : (m + n == 0) = false := h0 rfl
    clear h0
    unfold wide
    go_enter Tryz.func59, Tryz.ntmps59
    go_wp2_with fail
    refine (plus_any _ _ _ _ _ HS.out).mono ?_; rintro e w1 ⟨rfl, hb1⟩; unfold wide
    obtain ⟨hc1, hf1⟩ := bcell hb1
    obtain ⟨k0, k1, k2⟩ : w.heap.size < w1.heap.size ∧ w.heap.size + 1 < w1.heap.size ∧ w.heap.size + 1 + 1 < w1.heap.size := by have := hb1.size; simp at this; omega
    go_wp2_with fail
    refine (zero_any _ _ _).mono ?_; rintro e w2 ⟨rfl, hb2⟩; rw [h1]
    obtain ⟨hc2, hf2⟩ := bcell hb2
    have k3 : w1.heap.size < w2.heap.size := by have := hb2.size; simp at this; omega
    obtain ⟨k4, k5, k6⟩ : w.heap.size < w2.heap.size ∧ w.heap.size + 1 < w2.heap.size ∧ w.heap.size + 1 + 1 < w2.heap.size := ⟨by omega, by omega, by omega⟩
    go_wp2
    refine bodyPost_ret (v := .agg #[.bool true, .int .u64 (hiN (m + n)), .int .u64 (loN (m + n))])
      (by simp only [results, Tryz.results59]; go_simp) rfl ⟨rfl, ?_⟩
    repeat (first | (refine Below.setCell ?_ (by first | omega | (simp <;> omega)) _) | (refine Below.alloc ?_ (by first | omega | (simp <;> omega)) _) | (refine below_via ?_ hb2 (by first | omega | (simp <;> omega))) | (refine below_via ?_ hb1 (by first | omega | (simp <;> omega))) | exact Below.refl _ _)
theorem add_tf_lt (m n : Nat) (w : World) (hm : m < two128) (hn : n < two128) (h : m < n) :
    Calls Tryz.prog 59 #[wide true m, wide false n] w fun e w' => e = .returned (wide false (n - m)) ∧ Below w.heap.size w w' := by
  have ht : decide (m < n) = true := by simp; omega
  have HM := hid hm
  have HN := hid hn
  have H := hid h
  clear hm hn h
  unfold wide
  go_enter Tryz.func59, Tryz.ntmps59
  go_wp2_with fail
  refine (size_any _ _ _ _ _).mono ?_; rintro e w1 ⟨rfl, hb1⟩; rw [ht]
  obtain ⟨hc1, hf1⟩ := bcell hb1
  obtain ⟨k0, k1, k2⟩ : w.heap.size < w1.heap.size ∧ w.heap.size + 1 < w1.heap.size ∧ w.heap.size + 1 + 1 < w1.heap.size := by have := hb1.size; simp at this; omega
  go_wp2_with fail
  refine (minus_any _ _ _ _ _ HN.out (by have := H.out; omega)).mono ?_; rintro e w2 ⟨rfl, hb2⟩; unfold wide
  obtain ⟨hc2, hf2⟩ := bcell hb2
  have j0 : w1.heap.size ≤ w2.heap.size := hb2.size
  obtain ⟨j1, j2, j3⟩ : w.heap.size < w2.heap.size ∧ w.heap.size + 1 < w2.heap.size ∧ w.heap.size + 1 + 1 < w2.heap.size := ⟨by omega, by omega, by omega⟩
  go_wp2
  refine bodyPost_ret (v := .agg #[.bool false, .int .u64 (hiN (n - m)), .int .u64 (loN (n - m))])
    (by simp only [results, Tryz.results59]; go_simp) rfl ⟨rfl, ?_⟩
  repeat (first | (refine Below.setCell ?_ (by first | omega | (simp <;> omega)) _) | (refine Below.alloc ?_ (by first | omega | (simp <;> omega)) _) | (refine below_via ?_ hb2 (by first | omega | (simp <;> omega))) | (refine below_via ?_ hb1 (by first | omega | (simp <;> omega))) | exact Below.refl _ _)
theorem add_ft_lt (m n : Nat) (w : World) (hm : m < two128) (hn : n < two128) (h : m < n) (h0 : (n - m == 0) = false) :
    Calls Tryz.prog 59 #[wide false m, wide true n] w fun e w' => e = .returned (wide true (n - m)) ∧ Below w.heap.size w w' := by
  have ht : decide (m < n) = true := by simp; omega
  have HM := hid hm
  have HN := hid hn
  have H := hid h
  clear hm hn h
  unfold wide
  go_enter Tryz.func59, Tryz.ntmps59
  go_wp2_with fail
  refine (size_any _ _ _ _ _).mono ?_; rintro e w1 ⟨rfl, hb1⟩; rw [ht]
  obtain ⟨hc1, hf1⟩ := bcell hb1
  obtain ⟨k0, k1, k2⟩ : w.heap.size < w1.heap.size ∧ w.heap.size + 1 < w1.heap.size ∧ w.heap.size + 1 + 1 < w1.heap.size := by have := hb1.size; simp at this; omega
  go_wp2_with fail
  refine (minus_any _ _ _ _ _ HN.out (by have := H.out; omega)).mono ?_; rintro e w2 ⟨rfl, hb2⟩; unfold wide
  obtain ⟨hc2, hf2⟩ := bcell hb2
  have j0 : w1.heap.size ≤ w2.heap.size := hb2.size
  obtain ⟨j1, j2, j3⟩ : w.heap.size < w2.heap.size ∧ w.heap.size + 1 < w2.heap.size ∧ w.heap.size + 1 + 1 < w2.heap.size := ⟨by omega, by omega, by omega⟩
  go_wp2_with fail
  refine (zero_any _ _ _).mono ?_; rintro e w3 ⟨rfl, hb3⟩; rw [h0]
  obtain ⟨hc3, hf3⟩ := bcell hb3
  have i0 : w2.heap.size < w3.heap.size := by have := hb3.size; simp at this; omega
  obtain ⟨i1, i2, i3⟩ : w.heap.size < w3.heap.size ∧ w.heap.size + 1 < w3.heap.size ∧ w.heap.size + 1 + 1 < w3.heap.size := ⟨by omega, by omega, by omega⟩
  go_wp2
  refine bodyPost_ret (v := .agg #[.bool true, .int .u64 (hiN (n - m)), .int .u64 (loN (n - m))])
    (by simp only [results, Tryz.results59]; go_simp) rfl ⟨rfl, ?_⟩
  repeat (first | (refine Below.setCell ?_ (by first | omega | (simp <;> omega)) _) | (refine Below.alloc ?_ (by first | omega | (simp <;> omega)) _) | (refine below_via ?_ hb3 (by first | omega | (simp <;> omega))) | (refine below_via ?_ hb2 (by first | omega | (simp <;> omega))) | (refine below_via ?_ hb1 (by first | omega | (simp <;> omega))) | exact Below.refl _ _)
theorem add_ft_ge (m n : Nat) (w : World) (hm : m < two128) (hn : n < two128) (h : n ≤ m) :
    Calls Tryz.prog 59 #[wide false m, wide true n] w fun e w' => e = .returned (wide false (m - n)) ∧ Below w.heap.size w w' := by
  have ht : decide (m < n) = false := by simp; omega
  have HM := hid hm
  have HN := hid hn
  have H := hid h
  clear hm hn h
  unfold wide
  go_enter Tryz.func59, Tryz.ntmps59
  go_wp2_with fail
  refine (size_any _ _ _ _ _).mono ?_; rintro e w1 ⟨rfl, hb1⟩; rw [ht]
  obtain ⟨hc1, hf1⟩ := bcell hb1
  obtain ⟨k0, k1, k2⟩ : w.heap.size < w1.heap.size ∧ w.heap.size + 1 < w1.heap.size ∧ w.heap.size + 1 + 1 < w1.heap.size := by have := hb1.size; simp at this; omega
  go_wp2_with fail
  refine (minus_any _ _ _ _ _ HM.out (by have := H.out; omega)).mono ?_; rintro e w2 ⟨rfl, hb2⟩; unfold wide
  obtain ⟨hc2, hf2⟩ := bcell hb2
  have j0 : w1.heap.size ≤ w2.heap.size := hb2.size
  obtain ⟨j1, j2, j3⟩ : w.heap.size < w2.heap.size ∧ w.heap.size + 1 < w2.heap.size ∧ w.heap.size + 1 + 1 < w2.heap.size := ⟨by omega, by omega, by omega⟩
  go_wp2
  refine bodyPost_ret (v := .agg #[.bool false, .int .u64 (hiN (m - n)), .int .u64 (loN (m - n))])
    (by simp only [results, Tryz.results59]; go_simp) rfl ⟨rfl, ?_⟩
  repeat (first | (refine Below.setCell ?_ (by first | omega | (simp <;> omega)) _) | (refine Below.alloc ?_ (by first | omega | (simp <;> omega)) _) | (refine below_via ?_ hb2 (by first | omega | (simp <;> omega))) | (refine below_via ?_ hb1 (by first | omega | (simp <;> omega))) | exact Below.refl _ _)
theorem add_tf_gt (m n : Nat) (w : World) (hm : m < two128) (hn : n < two128) (h : n ≤ m) (h0 : (m - n == 0) = false) :
    Calls Tryz.prog 59 #[wide true m, wide false n] w fun e w' => e = .returned (wide true (m - n)) ∧ Below w.heap.size w w' := by
  have ht : decide (m < n) = false := by simp; omega
  have HM := hid hm
  have HN := hid hn
  have H := hid h
  clear hm hn h
  unfold wide
  go_enter Tryz.func59, Tryz.ntmps59
  go_wp2_with fail
  refine (size_any _ _ _ _ _).mono ?_; rintro e w1 ⟨rfl, hb1⟩; rw [ht]
  obtain ⟨hc1, hf1⟩ := bcell hb1
  obtain ⟨k0, k1, k2⟩ : w.heap.size < w1.heap.size ∧ w.heap.size + 1 < w1.heap.size ∧ w.heap.size + 1 + 1 < w1.heap.size := by have := hb1.size; simp at this; omega
  go_wp2_with fail
  refine (minus_any _ _ _ _ _ HM.out (by have := H.out; omega)).mono ?_; rintro e w2 ⟨rfl, hb2⟩; unfold wide
  obtain ⟨hc2, hf2⟩ := bcell hb2
  have j0 : w1.heap.size ≤ w2.heap.size := hb2.size
  obtain ⟨j1, j2, j3⟩ : w.heap.size < w2.heap.size ∧ w.heap.size + 1 < w2.heap.size ∧ w.heap.size + 1 + 1 < w2.heap.size := ⟨by omega, by omega, by omega⟩
  go_wp2_with fail
  refine (zero_any _ _ _).mono ?_; rintro e w3 ⟨rfl, hb3⟩; rw [h0]
  obtain ⟨hc3, hf3⟩ := bcell hb3
  have i0 : w2.heap.size < w3.heap.size := by have := hb3.size; simp at this; omega
  obtain ⟨i1, i2, i3⟩ : w.heap.size < w3.heap.size ∧ w.heap.size + 1 < w3.heap.size ∧ w.heap.size + 1 + 1 < w3.heap.size := ⟨by omega, by omega, by omega⟩
  go_wp2
  refine bodyPost_ret (v := .agg #[.bool true, .int .u64 (hiN (m - n)), .int .u64 (loN (m - n))])
    (by simp only [results, Tryz.results59]; go_simp) rfl ⟨rfl, ?_⟩
  repeat (first | (refine Below.setCell ?_ (by first | omega | (simp <;> omega)) _) | (refine Below.alloc ?_ (by first | omega | (simp <;> omega)) _) | (refine below_via ?_ hb3 (by first | omega | (simp <;> omega))) | (refine below_via ?_ hb2 (by first | omega | (simp <;> omega))) | (refine below_via ?_ hb1 (by first | omega | (simp <;> omega))) | exact Below.refl _ _)
theorem add_tf_eq (m n : Nat) (w : World) (hm : m < two128) (hn : n < two128) (h : n ≤ m) (h0 : (m - n == 0) = true) :
    Calls Tryz.prog 59 #[wide true m, wide false n] w fun e w' => e = .returned (wide false (m - n)) ∧ Below w.heap.size w w' := by
  have ht : decide (m < n) = false := by simp; omega
  have HM := hid hm
  have HN := hid hn
  have H := hid h
  clear hm hn h
  unfold wide
  go_enter Tryz.func59, Tryz.ntmps59
  go_wp2_with fail
  refine (size_any _ _ _ _ _).mono ?_; rintro e w1 ⟨rfl, hb1⟩; rw [ht]
  obtain ⟨hc1, hf1⟩ := bcell hb1
  obtain ⟨k0, k1, k2⟩ : w.heap.size < w1.heap.size ∧ w.heap.size + 1 < w1.heap.size ∧ w.heap.size + 1 + 1 < w1.heap.size := by have := hb1.size; simp at this; omega
  go_wp2_with fail
  refine (minus_any _ _ _ _ _ HM.out (by have := H.out; omega)).mono ?_; rintro e w2 ⟨rfl, hb2⟩; unfold wide
  obtain ⟨hc2, hf2⟩ := bcell hb2
  have j0 : w1.heap.size ≤ w2.heap.size := hb2.size
  obtain ⟨j1, j2, j3⟩ : w.heap.size < w2.heap.size ∧ w.heap.size + 1 < w2.heap.size ∧ w.heap.size + 1 + 1 < w2.heap.size := ⟨by omega, by omega, by omega⟩
  go_wp2_with fail
  refine (zero_any _ _ _).mono ?_; rintro e w3 ⟨rfl, hb3⟩; rw [h0]
  obtain ⟨hc3, hf3⟩ := bcell hb3
  have i0 : w2.heap.size < w3.heap.size := by have := hb3.size; simp at this; omega
  obtain ⟨i1, i2, i3⟩ : w.heap.size < w3.heap.size ∧ w.heap.size + 1 < w3.heap.size ∧ w.heap.size + 1 + 1 < w3.heap.size := ⟨by omega, by omega, by omega⟩
  go_wp2
  refine bodyPost_ret (v := .agg #[.bool false, .int .u64 (hiN (m - n)), .int .u64 (loN (m - n))])
    (by simp only [results, Tryz.results59]; go_simp) rfl ⟨rfl, ?_⟩
  repeat (first | (refine Below.setCell ?_ (by first | omega | (simp <;> omega)) _) | (refine Below.alloc ?_ (by first | omega | (simp <;> omega)) _) | (refine below_via ?_ hb3 (by first | omega | (simp <;> omega))) | (refine below_via ?_ hb2 (by first | omega | (simp <;> omega))) | (refine below_via ?_ hb1 (by first | omega | (simp <;> omega))) | exact Below.refl _ _)
theorem add_any (u v : Int) (w : World) (hu : u.natAbs < two127) (hv : v.natAbs < two127) :
    Calls Tryz.prog 59 #[W u, W v] w fun e w' => e = .returned (W (u + v)) ∧ Below w.heap.size w w' := by
  have hu2 : u.natAbs < two128 := by unfold two127 at hu; unfold two128; omega
  have hv2 : v.natAbs < two128 := by unfold two127 at hv; unfold two128; omega
  have huv : u.natAbs + v.natAbs < two128 := by unfold two127 at hu hv; unfold two128; omega
  unfold W
  by_cases hu0 : u < 0
  · by_cases hv0 : v < 0
    · have e1 : (u + v).natAbs = u.natAbs + v.natAbs := by omega
      rw [decide_eq_true hu0, decide_eq_true hv0, decide_eq_true (show u + v < 0 by omega), e1]
      exact add_like true _ _ w huv (fun _ => by simp; omega)
    · by_cases hc : u.natAbs < v.natAbs
      · have e1 : (u + v).natAbs = v.natAbs - u.natAbs := by omega
        rw [decide_eq_true hu0, decide_eq_false hv0, decide_eq_false (show ¬ u + v < 0 by omega), e1]
        exact add_tf_lt _ _ w hu2 hv2 hc
      · have e1 : (u + v).natAbs = u.natAbs - v.natAbs := by omega
        by_cases hz : u.natAbs = v.natAbs
        · rw [decide_eq_true hu0, decide_eq_false hv0, decide_eq_false (show ¬ u + v < 0 by omega), e1]
          exact add_tf_eq _ _ w hu2 hv2 (by omega) (by simp; omega)
        · rw [decide_eq_true hu0, decide_eq_false hv0, decide_eq_true (show u + v < 0 by omega), e1]
          exact add_tf_gt _ _ w hu2 hv2 (by omega) (by simp; omega)
  · by_cases hv0 : v < 0
    · by_cases hc : u.natAbs < v.natAbs
      · have e1 : (u + v).natAbs = v.natAbs - u.natAbs := by omega
        rw [decide_eq_false hu0, decide_eq_true hv0, decide_eq_true (show u + v < 0 by omega), e1]
        exact add_ft_lt _ _ w hu2 hv2 hc (by simp; omega)
      · have e1 : (u + v).natAbs = u.natAbs - v.natAbs := by omega
        rw [decide_eq_false hu0, decide_eq_true hv0, decide_eq_false (show ¬ u + v < 0 by omega), e1]
        exact add_ft_ge _ _ w hu2 hv2 (by omega)
    · have e1 : (u + v).natAbs = u.natAbs + v.natAbs := by omega
      rw [decide_eq_false hu0, decide_eq_false hv0, decide_eq_false (show ¬ u + v < 0 by omega), e1]
      exact add_like false _ _ w huv (fun h => by cases h)
theorem opposite_any (v : Int) (w : World) :
    Calls Tryz.prog 86 #[W v] w fun e w' => e = .returned (W (-v)) ∧ Below w.heap.size w w' := by
  by_cases h0 : v = 0
  · subst h0
    have hz : ((0 : Int).natAbs == 0) = true := rfl
    show Calls _ _ #[wide false 0] w fun e w' => e = .returned (wide false 0) ∧ Below w.heap.size w w'
    unfold wide
    go_enter Tryz.func86, Tryz.ntmps86
    go_wp2_with fail
    refine (zero_any _ _ _).mono ?_; rintro e w1 ⟨rfl, hb1⟩; rw [show ((0 : Nat) == 0) = true from rfl]
    obtain ⟨hc1, hf1⟩ := bcell hb1
    obtain ⟨k0, k1⟩ : w.heap.size < w1.heap.size ∧ w.heap.size + 1 < w1.heap.size := by have := hb1.size; simp at this; omega
    go_wp2
    refine bodyPost_ret (v := .agg #[.bool false, .int .u64 (hiN 0), .int .u64 (loN 0)])
      (by simp only [results, Tryz.results86]; go_simp) rfl ⟨rfl, ?_⟩
    repeat (first | (refine Below.setCell ?_ (by first | omega | (simp <;> omega)) _) | (refine Below.alloc ?_ (by first | omega | (simp <;> omega)) _) | (refine below_via ?_ hb1 (by first | omega | (simp <;> omega))) | exact Below.refl _ _)
  · have hz : (v.natAbs == 0) = false := by simp; omega
    have e1 : decide (-v < 0) = !(decide (v < 0)) := by rw [← decide_not, decide_eq_decide]; omega
    unfold W
    rw [e1, Int.natAbs_neg]
    generalize decide (v < 0) = s
    clear e1 h0
    generalize v.natAbs = m at *
    unfold wide
    go_enter Tryz.func86, Tryz.ntmps86
    go_wp2_with fail
    refine (zero_any _ _ _).mono ?_; rintro e w1 ⟨rfl, hb1⟩; rw [hz]
    obtain ⟨hc1, hf1⟩ := bcell hb1
    obtain ⟨k0, k1⟩ : w.heap.size < w1.heap.size ∧ w.heap.size + 1 < w1.heap.size := by have := hb1.size; simp at this; omega
    go_wp2
    refine bodyPost_ret (v := .agg #[.bool (!s), .int .u64 (hiN m), .int .u64 (loN m)])
      (by simp only [results, Tryz.results86]; go_simp) rfl ⟨rfl, ?_⟩
    repeat (first | (refine Below.setCell ?_ (by first | omega | (simp <;> omega)) _) | (refine Below.alloc ?_ (by first | omega | (simp <;> omega)) _) | (refine below_via ?_ hb1 (by first | omega | (simp <;> omega))) | exact Below.refl _ _)
end Go.Proofs.YtjgogpaedaffkaaGreat.R1
/- What the document's answers for layer 1 come to, the second half: back from a wide number, and the product. -/
namespace Go.Proofs.YtjgogpaedaffkaaGreat.R1
open Go.RowKit P
theorem int_neg (l : Int) (w : World) (h1 : 1 ≤ l) (h2 : ¬ 9223372036854775808 < l) :
    Calls Tryz.prog 58 #[.agg #[.bool true, .int .u64 0, .int .u64 l]] w fun e w' => e = .returned (.tuple #[.int .i64 (-l), .bool true]) ∧ Below w.heap.size w w' := by
  have ht : decide (9223372036854775808 < l) = false := by simpa using h2
  have h0 : (l == 0) = false := by simp; omega
  have E : Hid (wrap64 (wrap64 (-wrap64 (IntKind.u64.wrap (l - 1))) - 1) = -l) := by
    show _ = _
    rw [u64_mod]; unfold wrap64; omega
  clear h1 h2
  go_enter Tryz.func58, Tryz.ntmps58
  go_wp2
  go_ret2
  exact ⟨Ex.ret_2 E.out rfl, (Below.refl _ _).alloc (Nat.le_refl _) _⟩
theorem int_pos (l : Int) (w : World) (h1 : 0 ≤ l) (h2 : ¬ 9223372036854775808 ≤ l) :
    Calls Tryz.prog 58 #[.agg #[.bool false, .int .u64 0, .int .u64 l]] w fun e w' => e = .returned (.tuple #[.int .i64 l, .bool true]) ∧ Below w.heap.size w w' := by
  have ht : decide (9223372036854775808 ≤ l) = false := by simpa using h2
  have E : Hid (wrap64 l = l) := by show _ = _; unfold wrap64; omega
  clear h1 h2
  go_enter Tryz.func58, Tryz.ntmps58
  go_wp2
  go_ret2
  exact ⟨Ex.ret_2 E.out rfl, (Below.refl _ _).alloc (Nat.le_refl _) _⟩
theorem int_past (s : Bool) (l : Int) (w : World) (h2 : if s = true then 9223372036854775808 < l else 9223372036854775808 ≤ l) :
    Calls Tryz.prog 58 #[.agg #[.bool s, .int .u64 0, .int .u64 l]] w fun e w' => e = .returned (.tuple #[.int .i64 0, .bool false]) ∧ Below w.heap.size w w' := by
  cases s
  · have ht : decide (9223372036854775808 ≤ l) = true := by simpa using h2
    clear h2
    go_enter Tryz.func58, Tryz.ntmps58
    go_wp2
    go_ret2
    exact ⟨rfl, (Below.refl _ _).alloc (Nat.le_refl _) _⟩
  · have ht : decide (9223372036854775808 < l) = true := by simpa using h2
    clear h2
    go_enter Tryz.func58, Tryz.ntmps58
    go_wp2
    go_ret2
    exact ⟨rfl, (Below.refl _ _).alloc (Nat.le_refl _) _⟩
theorem int_high (s : Bool) (m : Nat) (w : World) (ht : (((hiN m : Nat) : Int) == 0) = false) :
    Calls Tryz.prog 58 #[wide s m] w fun e w' => e = .returned (.tuple #[.int .i64 0, .bool false]) ∧ Below w.heap.size w w' := by
  unfold wide
  go_enter Tryz.func58, Tryz.ntmps58
  go_wp2
  go_ret2
  exact ⟨rfl, (Below.refl _ _).alloc (Nat.le_refl _) _⟩
theorem int_any (v : Int) (w : World) :
    Calls Tryz.prog 58 #[W v] w fun e w' => e = .returned (.tuple #[.int .i64 (cut64 v), .bool (ok64 v)]) ∧ Below w.heap.size w w' := by
  by_cases hh : hiN v.natAbs = 0
  · have hl : ((loN v.natAbs : Nat) : Int) = (v.natAbs : Int) := by unfold loN; unfold hiN at hh; omega
    have e : W v = .agg #[.bool (decide (v < 0)), .int .u64 0, .int .u64 (v.natAbs : Int)] := by
      unfold W wide; rw [hh, hl]; rfl
    rw [e]
    by_cases hi : I64 v
    · rw [cut64_t hi, ok64_t hi]
      unfold I64 at hi
      by_cases h0 : v < 0
      · rw [decide_eq_true h0]
        have := int_neg (v.natAbs : Int) w (by omega) (by omega)
        rw [show -(v.natAbs : Int) = v by omega] at this
        exact this
      · rw [decide_eq_false h0]
        have := int_pos (v.natAbs : Int) w (by omega) (by omega)
        rw [show (v.natAbs : Int) = v by omega] at this ⊢
        exact this
    · rw [cut64_f hi, ok64_f hi]
      unfold I64 at hi
      refine int_past _ _ w ?_
      by_cases h0 : v < 0
      · rw [decide_eq_true h0, if_pos rfl]; omega
      · rw [decide_eq_false h0, if_neg (by simp)]; omega
  · have ht : (((hiN v.natAbs : Nat) : Int) == 0) = false := by simp; omega
    have hn : ¬ I64 v := by unfold I64; unfold hiN at hh; omega
    rw [cut64_f hn, ok64_f hn]
    exact int_high _ _ w ht
theorem of_small (a : Int) (w : World) (ha : I64 a) :
    Calls Tryz.prog 60 #[.int .i64 a] w fun e w' => e = .returned (.agg #[.bool (decide (a < 0)), .int .u64 0, .int .u64 (a.natAbs : Int)]) ∧ Below w.heap.size w w' := by
  have h := of_any a w ha
  have hh : hiN a.natAbs = 0 := hiN_small (by unfold I64 at ha; omega)
  have hl : loN a.natAbs = a.natAbs := loN_small (by unfold I64 at ha; omega)
  unfold W wide at h
  rw [hh, hl] at h
  exact h
theorem plus_eq {s t : Bool} {m n : Nat} {h1 l1 h2 l2 : Int} (w : World) (e1 : h1 = hiN m) (e2 : l1 = loN m) (e3 : h2 = hiN n) (e4 : l2 = loN n) (hs : m + n < two128) :
    Calls Tryz.prog 88 #[.agg #[.bool s, .int .u64 h1, .int .u64 l1], .agg #[.bool t, .int .u64 h2, .int .u64 l2]] w
      fun e w' => e = .returned (.agg #[.bool false, .int .u64 (hiN (m + n)), .int .u64 (loN (m + n))]) ∧ Below w.heap.size w w' := by
  subst e1 e2 e3 e4
  exact plus_any s t m n w hs
theorem mul_sign {a b : Int} : (decide (a * b < 0)) = (!(decide (a < 0) == decide (b < 0)) && !((a.natAbs * b.natAbs) == 0)) := by
  rw [← Int.natAbs_mul]
  by_cases ha : a < 0
  · by_cases hb : b < 0
    · have : 0 < a * b := Int.mul_pos_of_neg_of_neg ha hb
      simp [ha, hb]; omega
    · by_cases h0 : b = 0
      · subst h0; simp
      · have : a * b < 0 := Int.mul_neg_of_neg_of_pos ha (by omega)
        simp [ha, hb, this]; omega
  · by_cases hb : b < 0
    · by_cases h0 : a = 0
      · subst h0; simp
      · have : a * b < 0 := Int.mul_neg_of_pos_of_neg (by omega) hb
        simp [ha, hb, this]; omega
    · have : 0 ≤ a * b := Int.mul_nonneg (by omega) (by omega)
      simp [ha, hb]; omega
set_option maxHeartbeats 1000000 in
set_option maxRecDepth 100000 in
theorem mul_walk (a b : Int) (w : World) (ha : I64 a) (hb : I64 b) (t z : Bool) (ht : (decide (a < 0) == decide (b < 0)) = !t) (hz : t = true → (M0 a.natAbs b.natAbs + M1 a.natAbs b.natAbs + M2 a.natAbs b.natAbs == 0) = z) :
    Calls Tryz.prog 84 #[.int .i64 a, .int .i64 b] w fun e w' => e = .returned (wide (t && !z) (M0 a.natAbs b.natAbs + M1 a.natAbs b.natAbs + M2 a.natAbs b.natAbs)) ∧ Below w.heap.size w w' := by
  have hx : a.natAbs ≤ 9223372036854775808 := by unfold I64 at ha; omega
  have hy : b.natAbs ≤ 9223372036854775808 := by unfold I64 at hb; omega
  have E1 := hid (m0_hi hx hy)
  have E2 := hid (@m0_lo a.natAbs b.natAbs)
  have E3 := hid (@m1_hi a.natAbs b.natAbs hy)
  have E4 := hid (@m1_lo a.natAbs b.natAbs)
  have E5 := hid (@m2_hi a.natAbs b.natAbs hx)
  have E6 := hid (@m2_lo a.natAbs b.natAbs)
  have S2 : Hid (M0 a.natAbs b.natAbs + M1 a.natAbs b.natAbs + M2 a.natAbs b.natAbs < two128) := by show _ < _; rw [mul_parts]; exact prod_lt hx hy
  have S1 : Hid (M0 a.natAbs b.natAbs + M1 a.natAbs b.natAbs < two128) := by have := S2.out; show _ < _; omega
  have HA := hid ha
  have HB := hid hb
  have HT := hid ht
  have HZ := hid hz
  clear ha hb hx hy ht hz
  go_enter Tryz.func84, Tryz.ntmps84
  go_wp2_with fail
  refine (of_small _ _ HA.out).mono ?_; rintro e w1 ⟨rfl, hb1⟩
  obtain ⟨hc1, hf1⟩ := bcell hb1
  have k0 : w.heap.size < w1.heap.size := by have := hb1.size; simp at this; omega
  go_wp2_with fail
  refine (of_small _ _ HB.out).mono ?_; rintro e w2 ⟨rfl, hb2⟩
  obtain ⟨hc2, hf2⟩ := bcell hb2
  have j0 : w1.heap.size ≤ w2.heap.size := hb2.size
  have j1 : w.heap.size < w2.heap.size := by omega
  generalize hx : a.natAbs = x at *
  generalize hy : b.natAbs = y at *
  have HX := hid hx.symm
  have HY := hid hy.symm
  clear hx hy
  generalize decide (a < 0) = sa at *
  generalize decide (b < 0) = sb at *
  have hbel : Below w.heap.size w w2 := below_via (below_via ((Below.refl _ _).alloc (Nat.le_refl _) _) hb1 (by simp)) hb2 (by omega)
  have hc : w2.cell? ⟨w.heap.size, 0, none⟩ = some (.bool false) ∧ w2.cell? ⟨w.heap.size, 1, none⟩ = some (.int .u64 0) ∧ w2.cell? ⟨w.heap.size, 2, none⟩ = some (.int .u64 0) := by
    refine ⟨?_, ?_, ?_⟩ <;> (rw [hc2 _ _ (by omega), hc1 _ _ (by simp)]; simp)
  obtain ⟨c0, c1, c2⟩ := hc
  have hf : ∀ o, w2.frozen? ⟨w.heap.size, o, none⟩ = false := by
    intro o; rw [hf2 _ _ (by omega), hf1 _ _ (by simp)]; simp
  have BEL := hid hbel
  clear hc1 hf1 hc2 hf2 hb1 hb2 j0 k0 hbel
  go_wp2
  go_quiet (fail)
  go_wp2
  go_quiet (fail)
  go_wp2
  refine wp_loop_rounds 3 ?_
  rw [rounds_succ]
  go_wp2_with fail
  refine (plus_eq _ E1.out E2.out E3.out E4.out S1.out).mono ?_; rintro e w3 ⟨rfl, hb3⟩
  have q0 : w.heap.size < w2.heap.size + 1 := by omega
  have q1 : w.heap.size < w2.heap.size + 1 + 1 := by omega
  have q2 : w.heap.size < w2.heap.size + 1 + 1 + 1 := by omega
  obtain ⟨hc3, hf3⟩ := bcell hb3
  obtain ⟨p30, p31, p32, p33, p34⟩ : w.heap.size < w3.heap.size ∧ w2.heap.size < w3.heap.size ∧ w2.heap.size + 1 < w3.heap.size ∧ w2.heap.size + 1 + 1 < w3.heap.size ∧ w2.heap.size + 1 + 1 + 1 < w3.heap.size := by
    have := hb3.size; simp at this; omega
  have ra3 : w3.cell? ⟨w.heap.size, 0, none⟩ = some (.bool false) := by rw [hc3 _ _ (by first | omega | (simp <;> omega))]; go_simp
  have rb3 : w3.cell? ⟨w.heap.size, 1, none⟩ = some (.int .u64 0) := by rw [hc3 _ _ (by first | omega | (simp <;> omega))]; go_simp
  have rc3 : w3.cell? ⟨w.heap.size, 2, none⟩ = some (.int .u64 0) := by rw [hc3 _ _ (by first | omega | (simp <;> omega))]; go_simp
  have xa3 : w3.cell? ⟨w2.heap.size, 0, none⟩ = some (.bool sa) := by rw [hc3 _ _ (by first | omega | (simp <;> omega))]; go_simp
  have ya3 : w3.cell? ⟨w2.heap.size + 1, 0, none⟩ = some (.bool sb) := by rw [hc3 _ _ (by first | omega | (simp <;> omega))]; go_simp
  have oa3 : w3.cell? ⟨w2.heap.size + 1 + 1, 0, none⟩ = some (.bool false) := by rw [hc3 _ _ (by first | omega | (simp <;> omega))]; go_simp
  have ob3 : w3.cell? ⟨w2.heap.size + 1 + 1, 1, none⟩ = some (.int .u64 (IntKind.u64.wrap ((x : Int) / 4294967296 * ((y : Int) / 4294967296)))) := by rw [hc3 _ _ (by first | omega | (simp <;> omega))]; go_simp
  have oc3 : w3.cell? ⟨w2.heap.size + 1 + 1, 2, none⟩ = some (.int .u64 (IntKind.u64.wrap ((x : Int) % 4294967296 * ((y : Int) % 4294967296)))) := by rw [hc3 _ _ (by first | omega | (simp <;> omega))]; go_simp
  have ta3 : w3.cell? ⟨w2.heap.size + 1 + 1 + 1, 0, none⟩ = some (.int .u64 (IntKind.u64.wrap ((x : Int) % 4294967296 * ((y : Int) / 4294967296)))) := by rw [hc3 _ _ (by first | omega | (simp <;> omega))]; go_simp
  have tb3 : w3.cell? ⟨w2.heap.size + 1 + 1 + 1, 1, none⟩ = some (.int .u64 (IntKind.u64.wrap ((x : Int) / 4294967296 * ((y : Int) % 4294967296)))) := by rw [hc3 _ _ (by first | omega | (simp <;> omega))]; go_simp
  have fr3 : ∀ o, w3.frozen? ⟨w.heap.size, o, none⟩ = false := by intro o; rw [hf3 _ _ (by first | omega | (simp <;> omega))]; go_simp
  have fo3 : ∀ o, w3.frozen? ⟨w2.heap.size + 1 + 1, o, none⟩ = false := by intro o; rw [hf3 _ _ (by first | omega | (simp <;> omega))]; go_simp
  have B3 : Hid (Below w.heap.size w w3) := by
    refine below_via ?_ hb3 (by first | omega | (simp <;> omega))
    repeat (first | (refine Below.setCell ?_ (by first | omega | (simp <;> omega)) _) | (refine Below.alloc ?_ (by first | omega | (simp <;> omega)) _) | (refine below_drewN ?_ _) | exact BEL.out)
  clear hc3 hf3 hb3 BEL c0 c1 c2 hf
  go_wp2
  rw [rounds_succ]
  go_wp2_with fail
  refine (plus_eq _ rfl rfl E5.out E6.out S2.out).mono ?_; rintro e w4 ⟨rfl, hb4⟩
  obtain ⟨hc4, hf4⟩ := bcell hb4
  obtain ⟨p40, p41, p42, p43, p44⟩ : w.heap.size < w4.heap.size ∧ w2.heap.size < w4.heap.size ∧ w2.heap.size + 1 < w4.heap.size ∧ w2.heap.size + 1 + 1 < w4.heap.size ∧ w2.heap.size + 1 + 1 + 1 < w4.heap.size := by
    have := hb4.size; simp at this; omega
  have ra4 : w4.cell? ⟨w.heap.size, 0, none⟩ = some (.bool false) := by rw [hc4 _ _ (by first | omega | (simp <;> omega))]; go_simp
  have rb4 : w4.cell? ⟨w.heap.size, 1, none⟩ = some (.int .u64 0) := by rw [hc4 _ _ (by first | omega | (simp <;> omega))]; go_simp
  have rc4 : w4.cell? ⟨w.heap.size, 2, none⟩ = some (.int .u64 0) := by rw [hc4 _ _ (by first | omega | (simp <;> omega))]; go_simp
  have xa4 : w4.cell? ⟨w2.heap.size, 0, none⟩ = some (.bool sa) := by rw [hc4 _ _ (by first | omega | (simp <;> omega))]; go_simp
  have ya4 : w4.cell? ⟨w2.heap.size + 1, 0, none⟩ = some (.bool sb) := by rw [hc4 _ _ (by first | omega | (simp <;> omega))]; go_simp
  have oa4 : w4.cell? ⟨w2.heap.size + 1 + 1, 0, none⟩ = some (.bool false) := by rw [hc4 _ _ (by first | omega | (simp <;> omega))]; go_simp
  have ob4 : w4.cell? ⟨w2.heap.size + 1 + 1, 1, none⟩ = some (.int .u64 (hiN (M0 x y + M1 x y))) := by rw [hc4 _ _ (by first | omega | (simp <;> omega))]; go_simp
  have oc4 : w4.cell? ⟨w2.heap.size + 1 + 1, 2, none⟩ = some (.int .u64 (loN (M0 x y + M1 x y))) := by rw [hc4 _ _ (by first | omega | (simp <;> omega))]; go_simp
  have fr4 : ∀ o, w4.frozen? ⟨w.heap.size, o, none⟩ = false := by intro o; rw [hf4 _ _ (by first | omega | (simp <;> omega))]; go_simp
  have fo4 : ∀ o, w4.frozen? ⟨w2.heap.size + 1 + 1, o, none⟩ = false := by intro o; rw [hf4 _ _ (by first | omega | (simp <;> omega))]; go_simp
  have B4 : Hid (Below w.heap.size w w4) := by
    refine below_via ?_ hb4 (by first | omega | (simp <;> omega))
    repeat (first | (refine Below.setCell ?_ (by first | omega | (simp <;> omega)) _) | (refine Below.alloc ?_ (by first | omega | (simp <;> omega)) _) | (refine below_drewN ?_ _) | exact B3.out)
  clear hc4 hf4 hb4 B3 ra3 rb3 rc3 xa3 ya3 oa3 ob3 oc3 fr3 fo3 ta3 tb3 p30 p31 p32 p33 p34
  go_wp2
  rw [rounds_succ]
  cases t
  · have HS : (sa == sb) = true := HT.out
    go_wp2
    refine bodyPost_ret (v := .agg #[.bool false, .int .u64 (hiN (M0 x y + M1 x y + M2 x y)), .int .u64 (loN (M0 x y + M1 x y + M2 x y))])
      (by simp only [results, Tryz.results84]; go_simp) rfl ⟨by simp only [wide, Bool.false_and]; rw [HX.out, HY.out], ?_⟩
    repeat (first | (refine Below.setCell ?_ (by first | omega | (simp <;> omega)) _) | (refine Below.alloc ?_ (by first | omega | (simp <;> omega)) _) | (refine below_drewN ?_ _) | exact B4.out)
  · have HS : (sa == sb) = false := HT.out
    have hz := HZ.out rfl
    have HZ1 := hid hz
    clear hz
    go_wp2_with fail
    refine (zero_any _ _ _).mono ?_; rintro e w5 ⟨rfl, hb5⟩; rw [HZ1.out]
    obtain ⟨hc5, hf5⟩ := bcell hb5
    obtain ⟨p50, p51, p52, p53, p54⟩ : w.heap.size < w5.heap.size ∧ w2.heap.size < w5.heap.size ∧ w2.heap.size + 1 < w5.heap.size ∧ w2.heap.size + 1 + 1 < w5.heap.size ∧ w2.heap.size + 1 + 1 + 1 < w5.heap.size := by
      have := hb5.size; simp at this; omega
    have ra5 : w5.cell? ⟨w.heap.size, 0, none⟩ = some (.bool false) := by rw [hc5 _ _ (by first | omega | (simp <;> omega))]; go_simp
    have rb5 : w5.cell? ⟨w.heap.size, 1, none⟩ = some (.int .u64 0) := by rw [hc5 _ _ (by first | omega | (simp <;> omega))]; go_simp
    have rc5 : w5.cell? ⟨w.heap.size, 2, none⟩ = some (.int .u64 0) := by rw [hc5 _ _ (by first | omega | (simp <;> omega))]; go_simp
    have oa5 : w5.cell? ⟨w2.heap.size + 1 + 1, 0, none⟩ = some (.bool false) := by rw [hc5 _ _ (by first | omega | (simp <;> omega))]; go_simp
    have ob5 : w5.cell? ⟨w2.heap.size + 1 + 1, 1, none⟩ = some (.int .u64 (hiN (M0 x y + M1 x y + M2 x y))) := by rw [hc5 _ _ (by first | omega | (simp <;> omega))]; go_simp
    have oc5 : w5.cell? ⟨w2.heap.size + 1 + 1, 2, none⟩ = some (.int .u64 (loN (M0 x y + M1 x y + M2 x y))) := by rw [hc5 _ _ (by first | omega | (simp <;> omega))]; go_simp
    have fr5 : ∀ o, w5.frozen? ⟨w.heap.size, o, none⟩ = false := by intro o; rw [hf5 _ _ (by first | omega | (simp <;> omega))]; go_simp
    have fo5 : ∀ o, w5.frozen? ⟨w2.heap.size + 1 + 1, o, none⟩ = false := by intro o; rw [hf5 _ _ (by first | omega | (simp <;> omega))]; go_simp
    have B5 : Hid (Below w.heap.size w w5) := by
      refine below_via ?_ hb5 (by first | omega | (simp <;> omega))
      repeat (first | (refine Below.setCell ?_ (by first | omega | (simp <;> omega)) _) | exact B4.out)
    clear hc5 hf5 hb5 B4 ra4 rb4 rc4 xa4 ya4 oa4 ob4 oc4 fr4 fo4
    go_wp2
    refine bodyPost_ret (v := .agg #[.bool (!z), .int .u64 (hiN (M0 x y + M1 x y + M2 x y)), .int .u64 (loN (M0 x y + M1 x y + M2 x y))])
      (by simp only [results, Tryz.results84]; go_simp) rfl ⟨by simp only [wide, Bool.true_and]; rw [HX.out, HY.out], ?_⟩
    repeat (first | (refine Below.setCell ?_ (by first | omega | (simp <;> omega)) _) | exact B5.out)
theorem mul_any (a b : Int) (w : World) (ha : I64 a) (hb : I64 b) :
    Calls Tryz.prog 84 #[.int .i64 a, .int .i64 b] w fun e w' => e = .returned (W (a * b)) ∧ Below w.heap.size w w' := by
  have h := mul_walk a b w ha hb (!(decide (a < 0) == decide (b < 0))) (M0 a.natAbs b.natAbs + M1 a.natAbs b.natAbs + M2 a.natAbs b.natAbs == 0) (by simp) (fun _ => rfl)
  rw [mul_parts] at h
  unfold W
  rw [mul_sign, Int.natAbs_mul]
  exact h
end Go.Proofs.YtjgogpaedaffkaaGreat.R1
/- What the document's answers for layer 2 (poundageref02) come to. -/
namespace Go.Proofs.YtjgogpaedaffkaaGreat.R2
open Go.RowKit P Ex R1
/-- A wide number's parts, written out. -/
theorem W_parts (v : Int) : W v = .agg #[.bool (decide (v < 0)), .int .u64 (hiN v.natAbs), .int .u64 (loN v.natAbs)] := rfl
/-- A block of three cells just laid: what they hold, and that it may be written. -/
theorem laid3 (w : World) (a b c : Value) (t : TypeId) :
    (w.alloc (.cells #[a, b, c] t)).cell? ⟨w.heap.size, 0, none⟩ = some a ∧ (w.alloc (.cells #[a, b, c] t)).cell? ⟨w.heap.size, 1, none⟩ = some b ∧ (w.alloc (.cells #[a, b, c] t)).cell? ⟨w.heap.size, 2, none⟩ = some c ∧
    (w.alloc (.cells #[a, b, c] t)).frozen? ⟨w.heap.size, 0, none⟩ = false ∧ (w.alloc (.cells #[a, b, c] t)).frozen? ⟨w.heap.size, 1, none⟩ = false ∧ (w.alloc (.cells #[a, b, c] t)).frozen? ⟨w.heap.size, 2, none⟩ = false := by
  refine ⟨?_, ?_, ?_, ?_, ?_, ?_⟩ <;> go_simp
/-- Behind a call: below what was there when w was, nothing has turned. -/
theorem below_on {w W w1 : World} (h : Below w.heap.size w W) (hb : Below W.heap.size W w1) : Below w.heap.size w w1 := below_via h hb (Below.size h)
theorem alloc_on {w W : World} (h : Below w.heap.size w W) (o : Obj) : Below w.heap.size w (W.alloc o) := h.alloc (Below.size h) o
/-- Three cells of a block, and that they may be written. -/
structure Lies3 (w : World) (k : Nat) (a b c : Value) : Prop where
  lt : k < w.heap.size
  c0 : w.cell? ⟨k, 0, none⟩ = some a
  c1 : w.cell? ⟨k, 1, none⟩ = some b
  c2 : w.cell? ⟨k, 2, none⟩ = some c
  f0 : w.frozen? ⟨k, 0, none⟩ = false
  f1 : w.frozen? ⟨k, 1, none⟩ = false
  f2 : w.frozen? ⟨k, 2, none⟩ = false
theorem Lies3.on {w W : World} {k : Nat} {a b c : Value} (h : Lies3 w k a b c) (hb : Below w.heap.size w W) : Lies3 W k a b c := by
  obtain ⟨hc, hf⟩ := bcell hb
  exact ⟨Nat.lt_of_lt_of_le h.lt (Below.size hb), by rw [hc _ _ h.lt]; exact h.c0, by rw [hc _ _ h.lt]; exact h.c1, by rw [hc _ _ h.lt]; exact h.c2,
    by rw [hf _ _ h.lt]; exact h.f0, by rw [hf _ _ h.lt]; exact h.f1, by rw [hf _ _ h.lt]; exact h.f2⟩
theorem Lies3.new {w : World} {k : Nat} {a b c : Value} {t : TypeId} (hk : w.heap.size = k) : Lies3 (w.alloc (.cells #[a, b, c] t)) k a b c := by
  subst hk
  obtain ⟨h0, h1, h2, h3, h4, h5⟩ := laid3 w a b c t
  exact ⟨by simp, h0, h1, h2, h3, h4, h5⟩
theorem Lies3.later {w w2 : World} {k : Nat} {a b c : Value} {t : TypeId} (hb : Below (w.alloc (.cells #[a, b, c] t)).heap.size (w.alloc (.cells #[a, b, c] t)) w2) (hk : w.heap.size = k) : Lies3 w2 k a b c := (Lies3.new hk).on hb
theorem Lies3.drew {w : World} {k : Nat} {a b c : Value} (h : Lies3 w k a b c) : Lies3 w.drew k a b c := ⟨h.lt, h.c0, h.c1, h.c2, h.f0, h.f1, h.f2⟩
theorem Lies3.later_drew {w w2 : World} {k : Nat} {a b c : Value} {t : TypeId} (hb : Below (w.alloc (.cells #[a, b, c] t)).drew.heap.size (w.alloc (.cells #[a, b, c] t)).drew w2) (hk : w.heap.size = k) : Lies3 w2 k a b c := (Lies3.new hk).drew.on hb
theorem Lies3.set {w : World} {k : Nat} {a b c : Value} (h : Lies3 w k a b c) (a' b' c' : Value) :
    Lies3 (((w.setCell ⟨k, 0, none⟩ a').setCell ⟨k, 1, none⟩ b').setCell ⟨k, 2, none⟩ c') k a' b' c' := by
  obtain ⟨h1, h2, h3, h4, h5, h6, h7⟩ := h
  refine ⟨?_, ?_, ?_, ?_, ?_, ?_, ?_⟩ <;> go_simp
/-- Two wide parameters in their boxes. -/
theorem boxed2 (w : World) (a b c a' b' c' : Value) (t : TypeId) : ∃ w1, (w.alloc (.cells #[a, b, c] t)).alloc (.cells #[a', b', c'] t) = w1 ∧ w1.heap.size = w.heap.size + 1 + 1 ∧ Below w.heap.size w w1 ∧
    w1.cell? ⟨w.heap.size, 0, none⟩ = some a ∧ w1.cell? ⟨w.heap.size, 1, none⟩ = some b ∧ w1.cell? ⟨w.heap.size, 2, none⟩ = some c ∧
    w1.cell? ⟨w.heap.size + 1, 0, none⟩ = some a' ∧ w1.cell? ⟨w.heap.size + 1, 1, none⟩ = some b' ∧ w1.cell? ⟨w.heap.size + 1, 2, none⟩ = some c' := by
  refine ⟨_, rfl, by simp, ((Below.refl _ _).alloc (Nat.le_refl _) _).alloc (by simp) _, ?_, ?_, ?_, ?_, ?_, ?_⟩ <;> go_simp
set_option maxHeartbeats 1000000 in
theorem less_any (u v : Int) (w : World) (hu : u.natAbs < two127) (hv : v.natAbs < two127) :
    Calls Tryz.prog 119 #[W u, W v] w fun e w' => e = .returned (.bool (decide (u < v))) ∧ Below w.heap.size w w' := by
  obtain ⟨n, hn⟩ : ∃ n, n = -v := ⟨_, rfl⟩
  obtain ⟨z, hz⟩ : ∃ z, z = u + n := ⟨_, rfl⟩
  have E : Hid (decide (z < 0) = decide (u < v)) := by show _ = _; rw [decide_eq_decide]; omega
  have HU := hid hu
  have HN : Hid (n.natAbs < two127) := by show _ < _; rw [hn, Int.natAbs_neg]; exact hv
  have EN := hid hn
  have EZ := hid hz
  clear hu hv hn hz
  rw [W_parts u, W_parts v]
  go_enter Tryz.func119, Tryz.ntmps119
  go_wp2_with fail
  obtain ⟨w1, hw, hz, hB, c1, c2, c3, d1, d2, d3⟩ := boxed2 w (.bool (decide (u < 0))) (.int .u64 (hiN u.natAbs)) (.int .u64 (loN u.natAbs)) (.bool (decide (v < 0))) (.int .u64 (hiN v.natAbs)) (.int .u64 (loN v.natAbs)) 120
  rw [hw]
  have HB := hid hB
  have keep : ∀ w', Below w1.heap.size w1 w' → w'.cell? ⟨w.heap.size, 0, none⟩ = some (.bool (decide (u < 0))) ∧ w'.cell? ⟨w.heap.size, 1, none⟩ = some (.int .u64 (hiN u.natAbs)) ∧ w'.cell? ⟨w.heap.size, 2, none⟩ = some (.int .u64 (loN u.natAbs)) ∧
      w'.cell? ⟨w.heap.size + 1, 0, none⟩ = some (.bool (decide (v < 0))) ∧ w'.cell? ⟨w.heap.size + 1, 1, none⟩ = some (.int .u64 (hiN v.natAbs)) ∧ w'.cell? ⟨w.heap.size + 1, 2, none⟩ = some (.int .u64 (loN v.natAbs)) ∧ Below w1.heap.size w1 w' := by
    intro w' hb
    obtain ⟨hc, _⟩ := bcell hb
    exact ⟨by rw [hc _ _ (by omega)]; exact c1, by rw [hc _ _ (by omega)]; exact c2, by rw [hc _ _ (by omega)]; exact c3, by rw [hc _ _ (by omega)]; exact d1, by rw [hc _ _ (by omega)]; exact d2, by rw [hc _ _ (by omega)]; exact d3, hb⟩
  have K := hid keep
  have HZ := hid hz
  clear keep hw hB hz
  go_region_held3 (fun w' => w'.cell? ⟨w.heap.size, 0, none⟩ = some (.bool (decide (u < 0))) ∧ w'.cell? ⟨w.heap.size, 1, none⟩ = some (.int .u64 (hiN u.natAbs)) ∧ w'.cell? ⟨w.heap.size, 2, none⟩ = some (.int .u64 (loN u.natAbs)) ∧
      w'.cell? ⟨w.heap.size + 1, 0, none⟩ = some (.bool (decide (v < 0))) ∧ w'.cell? ⟨w.heap.size + 1, 1, none⟩ = some (.int .u64 (hiN v.natAbs)) ∧ w'.cell? ⟨w.heap.size + 1, 2, none⟩ = some (.int .u64 (loN v.natAbs)) ∧ Below w1.heap.size w1 w')
    ((refine K.out _ ?_; repeat (first | assumption | exact Below.refl _ _ | (refine Below.drew ?_) | (refine below_on ?_ ‹_›) | (refine alloc_on ?_ _) | (refine Below.setCell ?_ (by first | omega | (simp <;> omega)) _))))
    (first
    | (go_at_call 86
       refine (opposite_any v _).mono ?_
       rintro e w2 ⟨rfl, hb1⟩
       have s2 : w1.heap.size ≤ w2.heap.size := by have := hb1.size; first | exact this | (simp at this; omega)
       first | have L := Lies3.later_drew (k := w1.heap.size) hb1 rfl | have L := Lies3.later (k := w1.heap.size) hb1 rfl | skip
       rw [← EN.out, W_parts n])
    | (go_at_call 59
       refine (R1.add_any u n _ HU.out HN.out).mono ?_
       rintro e w3 ⟨rfl, hb2⟩
       have s3 : w2.heap.size ≤ w3.heap.size := by have := hb2.size; first | exact this | (simp at this; omega)
       first
         | (have M := Lies3.later (k := w2.heap.size) hb2 rfl; obtain ⟨l1, l2, l3, l4, l5, l6, l7⟩ := M)
         | (have M := L.on hb2; clear L; obtain ⟨l1, l2, l3, l4, l5, l6, l7⟩ := M)
         | skip
       rw [← EZ.out, W_parts z]))
  all_goals
    go_wp2
    go_ret
    refine ⟨by rw [← E.out]; rfl, below_on HB.out ?_⟩
    repeat (first | assumption | exact Below.refl _ _ | (refine Below.drew ?_) | (refine below_on ?_ ‹_›) | (refine alloc_on ?_ _) | (refine Below.setCell ?_ (by first | omega | (simp <;> omega)) _))
/-- A wide parameter in its box. -/
theorem boxed1 (w : World) (a b c : Value) (t : TypeId) : ∃ w1, w.alloc (.cells #[a, b, c] t) = w1 ∧ w1.heap.size = w.heap.size + 1 ∧ Below w.heap.size w w1 ∧ Lies3 w1 w.heap.size a b c := by
  exact ⟨_, rfl, by simp, (Below.refl _ _).alloc (Nat.le_refl _) _, Lies3.new rfl⟩
set_option maxHeartbeats 1000000 in
theorem under_any (n c p : Int) (w : World) (hn : I64 n) (hc : I64 c) (hp : p.natAbs < two127) :
    Calls Tryz.prog 106 #[.int .i64 n, .int .i64 c, W p] w fun e w' => e = .returned (.bool (decide (n * c ≤ p))) ∧ Below w.heap.size w w' := by
  obtain ⟨z, hz⟩ : ∃ z, z = n * c := ⟨_, rfl⟩
  have E : Hid ((!(decide (p < z))) = decide (n * c ≤ p)) := by show _ = _; rw [← decide_not, decide_eq_decide]; omega
  have HN := hid hn
  have HC := hid hc
  have HP := hid hp
  have HZ : Hid (z.natAbs < two127) := by show _ < _; rw [hz]; exact prod_lt' hn hc
  have EZ := hid hz
  clear hn hc hp hz
  rw [W_parts p]
  go_enter Tryz.func106, Tryz.ntmps106
  go_wp2_with fail
  obtain ⟨w1, hw, hsz, hB, L1⟩ := boxed1 w (.bool (decide (p < 0))) (.int .u64 (hiN p.natAbs)) (.int .u64 (loN p.natAbs)) 120
  rw [hw]
  have HB := hid hB
  have keep : ∀ w', Below w1.heap.size w1 w' → w'.cell? ⟨w.heap.size, 0, none⟩ = some (.bool (decide (p < 0))) ∧ w'.cell? ⟨w.heap.size, 1, none⟩ = some (.int .u64 (hiN p.natAbs)) ∧ w'.cell? ⟨w.heap.size, 2, none⟩ = some (.int .u64 (loN p.natAbs)) ∧ Below w1.heap.size w1 w' :=
    fun w' hb => ⟨(L1.on hb).c0, (L1.on hb).c1, (L1.on hb).c2, hb⟩
  have K := hid keep
  have HSZ := hid hsz
  clear keep hw hB hsz L1
  go_region_held3 (fun w' => w'.cell? ⟨w.heap.size, 0, none⟩ = some (.bool (decide (p < 0))) ∧ w'.cell? ⟨w.heap.size, 1, none⟩ = some (.int .u64 (hiN p.natAbs)) ∧ w'.cell? ⟨w.heap.size, 2, none⟩ = some (.int .u64 (loN p.natAbs)) ∧ Below w1.heap.size w1 w')
    ((refine K.out _ ?_; repeat (first | assumption | exact Below.refl _ _ | (refine Below.drew ?_) | (refine below_on ?_ ‹_›) | (refine alloc_on ?_ _) | (refine Below.setCell ?_ (by first | omega | (simp <;> omega)) _))))
    (first
    | (go_at_call 84
       refine (R1.mul_any n c _ HN.out HC.out).mono ?_
       rintro e w2 ⟨rfl, hb1⟩
       rw [← EZ.out, W_parts z])
    | (go_at_call 119
       refine (less_any p z _ HP.out HZ.out).mono ?_
       rintro e w3 ⟨rfl, hb2⟩))
  all_goals
    go_wp2
    go_ret
    refine ⟨by rw [← E.out]; rfl, below_on HB.out ?_⟩
    repeat (first | assumption | exact Below.refl _ _ | (refine Below.drew ?_) | (refine below_on ?_ ‹_›) | (refine alloc_on ?_ _) | (refine Below.setCell ?_ (by first | omega | (simp <;> omega)) _))
end Go.Proofs.YtjgogpaedaffkaaGreat.R2
