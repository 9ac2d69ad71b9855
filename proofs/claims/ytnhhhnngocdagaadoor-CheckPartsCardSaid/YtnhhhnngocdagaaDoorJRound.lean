/- What package date does. -/
import Derived.Test.YtnhhhnngocdagaaDoorRows
import Derived.Test.YtnhhhnngocdagaaDoorJChkR
import Derived.Test.YtnhhhnngocdagaaDoorJDatB
import Derived.Test.YtnhhhnngocdagaaDoorJLays
import Derived.Test.YtnhhhnngocdagaaDoorJPureD
import Derived.Test.YtnhhhnngocdagaaDoorJRef1b
import Derived.LoopTactic
import Derived.LoopN
import Derived.WalkKit
import Derived.ProofKit
import Derived.BigQuiet
import Derived.Deep.QuietTactic
import Derived.Lib.Strings
import Derived.Lib.Small
import Derived.Lib.Walk
import Derived.Lib.BitFns
import Derived.Deep.CutBlock
import Derived.Deep.CutRange
import Derived.Deep.DeepCutAuto
import Derived.Deep.LoopGhost
namespace Go.Proofs.YtnhhhnngocdagaaDoor.Dt
open Go.RowKit Go.Sort P
theorem leap_any (y : Int) (w : World) :
    Calls Tryd.prog 88 #[.int .i64 y] w fun e w' => e = .returned (.bool (leap y)) ∧ w' = w := by
  go_enter Tryd.func88, Tryd.ntmps88
  go_wp2
  all_goals
    go_ret
    refine ⟨ret_b ?_, rfl⟩
    unfold leap
    simp_all [tm0]
    try exact tmb _ _
theorem days_any (y m : Int) (w : World) :
    Calls Tryd.prog 65 #[.int .i64 y, .int .i64 m] w fun e w' => e = .returned (.int .i64 (days y m)) ∧ w' = w := by
  go_enter Tryd.func65, Tryd.ntmps65
  go_wp2_with (go_at_call 88; refine (leap_any _ _).mono ?_; rintro e w' ⟨rfl, rfl⟩)
  all_goals
    go_ret
    refine ⟨ret_i ?_, rfl⟩
    unfold days lp
    simp_all
    try omega
theorem yrs_any (y : Int) (w : World) (h0 : 1 ≤ y) (h1 : y ≤ 10001) :
    Calls Tryd.prog 64 #[.int .i64 y] w fun e w' => e = .returned (.int .i64 (yrs y)) ∧ w' = w := by
  go_enter Tryd.func64, Tryd.ntmps64
  go_wp2
  go_ret
  exact ⟨ret_i (by unfold yrs; rfl), rfl⟩
theorem good_any (y m d : Int) (w : World) :
    Calls Tryd.prog 63 #[dv y m d] w fun e w' => e = .returned (.bool (good y m d)) ∧ Below w.heap.size w w' := by
  unfold dv
  by_cases h : 1 ≤ y ∧ y ≤ 9999 ∧ 1 ≤ d
  · obtain ⟨h1, h2, h3⟩ := h
    have b1 : decide (1 ≤ y) = true := decide_eq_true h1
    have b2 : decide (y ≤ 9999) = true := decide_eq_true h2
    have b3 : decide (1 ≤ d) = true := decide_eq_true h3
    have g : good y m d = decide (d ≤ days y m) := by unfold good; rw [decide_eq_decide]; omega
    have G := hid g
    clear g
    go_enter Tryd.func63, Tryd.ntmps63
    go_wp2
    go_quiet ((go_at_call 65; exact Calls.quiet_of_same (days_any _ _ _)))
    go_wp2
    go_ret
    exact ⟨ret_b G.out.symm, bel_drewN ((Below.refl _ _).alloc (Nat.le_refl _) _) _⟩
  · have g : good y m d = false := by unfold good; rw [decide_eq_false_iff_not]; omega
    have G := hid g
    clear g
    rcases Decidable.em (1 ≤ y) with h1 | h1
    · rcases Decidable.em (y ≤ 9999) with h2 | h2
      · have h3 : ¬ 1 ≤ d := fun h3 => h ⟨h1, h2, h3⟩
        have b1 : decide (1 ≤ y) = true := decide_eq_true h1
        have b2 : decide (y ≤ 9999) = true := decide_eq_true h2
        have b3 : decide (1 ≤ d) = false := decide_eq_false h3
        clear h
        go_enter Tryd.func63, Tryd.ntmps63
        go_wp2
        go_quiet (fail)
        go_wp2
        go_ret
        exact ⟨ret_b G.out.symm, bel_drewN ((Below.refl _ _).alloc (Nat.le_refl _) _) _⟩
      · have b1 : decide (1 ≤ y) = true := decide_eq_true h1
        have b2 : decide (y ≤ 9999) = false := decide_eq_false h2
        clear h
        go_enter Tryd.func63, Tryd.ntmps63
        go_wp2
        go_quiet (fail)
        go_wp2
        go_ret
        exact ⟨ret_b G.out.symm, bel_drewN ((Below.refl _ _).alloc (Nat.le_refl _) _) _⟩
    · have b1 : decide (1 ≤ y) = false := decide_eq_false h1
      clear h
      go_enter Tryd.func63, Tryd.ntmps63
      go_wp2
      go_quiet (fail)
      go_wp2
      go_ret
      exact ⟨ret_b G.out.symm, bel_drewN ((Below.refl _ _).alloc (Nat.le_refl _) _) _⟩
theorem number_no (y m d : Int) (w : World) (g : good y m d = false) :
    Calls Tryd.prog 49 #[dv y m d] w fun e w' => e = .returned (.tuple #[.int .i64 0, .bool false]) ∧ Below w.heap.size w w' := by
  unfold dv
  have cG := good_any y m d (w.alloc (.cells #[.int .i64 y, .int .i64 m, .int .i64 d] 24))
  rw [g] at cG
  go_enter Tryd.func49, Tryd.ntmps49
  go_wp2_with (go_at_call 63; refine cG.mono ?_; rintro e w1 ⟨rfl, bel⟩)
  go_ret2
  exact ⟨rfl, (box3 bel).2.2.2.2⟩
theorem number_yes (y m d : Int) (w : World) (g : good y m d = true) :
    Calls Tryd.prog 49 #[dv y m d] w fun e w' => e = .returned (.tuple #[.int .i64 (num y m d), .bool true]) ∧ Below w.heap.size w w' := by
  unfold dv
  have cG := good_any y m d (w.alloc (.cells #[.int .i64 y, .int .i64 m, .int .i64 d] 24))
  rw [g] at cG
  obtain ⟨h0, h1, h2, h3, h4, h5⟩ := good_iff.1 g
  have hd := days_bound y m
  have hy := yrs_bound (y := y) (by omega) (by omega)
  go_enter Tryd.func49, Tryd.ntmps49
  go_wp2_with (go_at_call 63; refine cG.mono ?_; rintro e w1 ⟨rfl, bel⟩; have M := box3 bel; obtain ⟨c0, c1, c2, hlt, bel'⟩ := M)
  clear cG bel
  go_quiet ((go_at_call 64; exact Calls.quiet_of_same (yrs_any _ _ h0 (by omega))))
  go_wp2
  go_loop [4, 5] (fun n k => ∃ k' : Int, k = .int .i64 k' ∧ n = .int .i64 (yrs y + d - 1 + mon y k') ∧ 1 ≤ k' ∧ k' ≤ m) (fun _ k => (m - intOf k).toNat)
  case atStart => exact ⟨1, rfl, by rw [mon_1]; simp, by omega, h2⟩
  case round =>
    obtain ⟨k', rfl, rfl, k0, k1⟩ := hrel
    have hm := mon_bound (y := y) k0 (by omega)
    have hk := days_bound y k'
    by_cases hlt2 : k' < m
    · have hs := mon_step (y := y) k0 (by omega)
      go_wp2_with (go_at_call 65; refine (days_any _ _ _).mono ?_; rintro e w' ⟨rfl, rfl⟩)
      go_round
      case rel => exact ⟨k' + 1, rfl, by rw [hs, Int.add_assoc], by omega, by omega⟩
      case measure => simp [intOf]; omega
    · obtain rfl : k' = m := by omega
      go_wp2
      go_ret2
      exact ⟨ret_2 (vi (by unfold num; omega)) rfl, bel_drewN bel' _⟩
end Go.Proofs.YtnhhhnngocdagaaDoor.Dt
/- Plain facts on rows of whole numbers: sums from the left, the least and the greatest one. No program is named here. -/
namespace Go.Proofs.YtnhhhnngocdagaaDoor.P
open Go.RowKit
/-- What is told of a slice of whole numbers that came in: it is nil, or it leads to a row of cells. -/
def IsRow (k : IntKind) (w : World) (a : Option Addr) (len cap : Nat) (zs : List Int) : Prop :=
  (a = none ∧ len = 0 ∧ cap = 0 ∧ zs = []) ∨
  ∃ x, a = some x ∧ len ≤ cap ∧ cap ≤ maxLen ∧ zs.length = cap ∧ (∀ i, i < zs.length → w.cell? (x.add i) = some (.int k (zs.getD i 0))) ∧ ∀ n ∈ zs, (Lit.int k n).wf = true
/-- The elements as cells: what a walk asks. -/
def Cells (w : World) (b off : Nat) (xs : List Int) : Prop := ∀ i, i < xs.length → w.cell? ⟨b, off + i, none⟩ = some (.int .i64 (xs.getD i 0))
theorem Cells.later {w w' : World} {b off : Nat} {xs : List Int} (h : Cells w b off xs) {B : Nat} (hb : Below B w w') (hB : b < B) : Cells w' b off xs :=
  fun i hi => by rw [hb.cell (p := ⟨b, off + i, none⟩) hB]; exact h i hi
theorem cell_block {w : World} {a : Addr} {v : Value} (h : w.cell? a = some v) : a.block < w.heap.size := by
  by_cases hb : a.block < w.heap.size
  · exact hb
  · exfalso
    have e : w.heap[a.block]? = none := by simp; omega
    unfold World.cell? at h
    simp [e] at h
def allI64 (xs : List Int) : Prop := ∀ n ∈ xs, I64 n
theorem allI64_get {xs : List Int} (h : allI64 xs) {k : Nat} (hk : k < xs.length) : I64 (xs.getD k 0) := by
  rw [List.getD_eq_getElem?_getD, List.getElem?_eq_getElem hk]; exact h _ (List.getElem_mem hk)
/-- The sum from the left, beginning with t; nought and false, if one goes beyond. -/
def sumTo (t : Int) : List Int → Int × Bool
  | [] => (t, true)
  | x :: r => if ok64 (t + x) = true then sumTo (t + x) r else (0, false)
theorem sumTo_end (t : Int) {xs : List Int} {k : Nat} (h : xs.length ≤ k) : sumTo t (xs.drop k) = (t, true) := by
  rw [List.drop_eq_nil_of_le h]; rfl
theorem drop_step {xs : List Int} {k : Nat} (h : k < xs.length) : xs.drop k = xs.getD k 0 :: xs.drop (k + 1) := by
  rw [List.drop_eq_getElem_cons h, List.getD_eq_getElem?_getD, List.getElem?_eq_getElem h]; rfl
theorem sumTo_yes {t : Int} {xs : List Int} {k : Nat} (h : k < xs.length) (hi : I64 (t + xs.getD k 0)) : sumTo t (xs.drop k) = sumTo (t + xs.getD k 0) (xs.drop (k + 1)) := by
  rw [drop_step h]; simp only [sumTo, if_pos (ok64_t hi)]
theorem sumTo_no {t : Int} {xs : List Int} {k : Nat} (h : k < xs.length) (hi : ¬ I64 (t + xs.getD k 0)) : sumTo t (xs.drop k) = (0, false) := by
  rw [drop_step h]; simp only [sumTo]; rw [if_neg (by rw [ok64_iff]; exact hi)]
/-- The best one so far, and on: by a way of telling what is better. -/
def bestOf (lt : Int → Int → Bool) (m : Int) : List Int → Int
  | [] => m
  | x :: r => bestOf lt (if lt x m = true then x else m) r
def ltB (a b : Int) : Bool := decide (a < b)
def gtB (a b : Int) : Bool := decide (b < a)
theorem bestOf_end (lt : Int → Int → Bool) (m : Int) {xs : List Int} {k : Nat} (h : xs.length ≤ k) : bestOf lt m (xs.drop k) = m := by
  rw [List.drop_eq_nil_of_le h]; rfl
theorem bestOf_yes {lt : Int → Int → Bool} {m : Int} {xs : List Int} {k : Nat} (h : k < xs.length) (hi : lt (xs.getD k 0) m = true) : bestOf lt m (xs.drop k) = bestOf lt (xs.getD k 0) (xs.drop (k + 1)) := by
  rw [drop_step h]; simp only [bestOf, if_pos hi]
theorem bestOf_no {lt : Int → Int → Bool} {m : Int} {xs : List Int} {k : Nat} (h : k < xs.length) (hi : lt (xs.getD k 0) m = false) : bestOf lt m (xs.drop k) = bestOf lt m (xs.drop (k + 1)) := by
  rw [drop_step h]; simp only [bestOf, hi]; rfl
theorem best_least (m : Int) (xs : List Int) : (bestOf ltB m xs = m ∨ bestOf ltB m xs ∈ xs) ∧ bestOf ltB m xs ≤ m ∧ ∀ x ∈ xs, bestOf ltB m xs ≤ x := by
  induction xs generalizing m with
  | nil => exact ⟨.inl rfl, Int.le_refl _, fun x h => by cases h⟩
  | cons y r ih =>
    have key : ∀ m', bestOf ltB m (y :: r) = bestOf ltB m' r → (m' = y ∨ m' = m) → m' ≤ m → m' ≤ y → (bestOf ltB m (y :: r) = m ∨ bestOf ltB m (y :: r) ∈ y :: r) ∧ bestOf ltB m (y :: r) ≤ m ∧ ∀ x ∈ y :: r, bestOf ltB m (y :: r) ≤ x := by
      intro m' e hm h1 h2
      rw [e]
      obtain ⟨ha, hb, hc⟩ := ih m'
      refine ⟨?_, Int.le_trans hb h1, ?_⟩
      · rcases ha with ha | ha
        · rcases hm with hm | hm
          · right; rw [ha, hm]; exact List.mem_cons_self
          · left; rw [ha, hm]
        · right; exact List.mem_cons_of_mem _ ha
      · intro x hx
        rcases List.mem_cons.1 hx with rfl | hx
        · exact Int.le_trans hb h2
        · exact hc x hx
    by_cases h : y < m
    · exact key y (by simp [bestOf, ltB, h]) (.inl rfl) (by omega) (by omega)
    · exact key m (by simp [bestOf, ltB, h]) (.inr rfl) (by omega) (by omega)
theorem best_most (m : Int) (xs : List Int) : (bestOf gtB m xs = m ∨ bestOf gtB m xs ∈ xs) ∧ m ≤ bestOf gtB m xs ∧ ∀ x ∈ xs, x ≤ bestOf gtB m xs := by
  induction xs generalizing m with
  | nil => exact ⟨.inl rfl, Int.le_refl _, fun x h => by cases h⟩
  | cons y r ih =>
    have key : ∀ m', bestOf gtB m (y :: r) = bestOf gtB m' r → (m' = y ∨ m' = m) → m ≤ m' → y ≤ m' → (bestOf gtB m (y :: r) = m ∨ bestOf gtB m (y :: r) ∈ y :: r) ∧ m ≤ bestOf gtB m (y :: r) ∧ ∀ x ∈ y :: r, x ≤ bestOf gtB m (y :: r) := by
      intro m' e hm h1 h2
      rw [e]
      obtain ⟨ha, hb, hc⟩ := ih m'
      refine ⟨?_, Int.le_trans h1 hb, ?_⟩
      · rcases ha with ha | ha
        · rcases hm with hm | hm
          · right; rw [ha, hm]; exact List.mem_cons_self
          · left; rw [ha, hm]
        · right; exact List.mem_cons_of_mem _ ha
      · intro x hx
        rcases List.mem_cons.1 hx with rfl | hx
        · exact Int.le_trans h2 hb
        · exact hc x hx
    by_cases h : m < y
    · exact key y (by simp [bestOf, gtB, h]) (.inl rfl) (by omega) (by omega)
    · exact key m (by simp [bestOf, gtB, h]) (.inr rfl) (by omega) (by omega)
/-- Has one of the first k been met? -/
def met (v : Int) (xs : List Int) (k : Nat) : Bool := (xs.take k).any (fun x => x == v)
theorem met_zero (v : Int) (xs : List Int) : met v xs 0 = false := rfl
theorem met_step (v : Int) {xs : List Int} {k : Nat} (h : k < xs.length) : met v xs (k + 1) = (met v xs k || xs.getD k 0 == v) := by
  unfold met
  rw [List.take_succ_eq_append_getElem h, List.any_append, List.getD_eq_getElem?_getD, List.getElem?_eq_getElem h]; simp
theorem met_all {v : Int} {xs : List Int} (h : v ∈ xs) : met v xs xs.length = true := by
  unfold met; rw [List.take_of_length_le (Nat.le_refl _), List.any_eq_true]; exact ⟨v, h, by simp⟩
end Go.Proofs.YtnhhhnngocdagaaDoor.P
/- What exact.Sum, Least and Most answer, of all rows of whole numbers. -/
namespace Go.Proofs.YtnhhhnngocdagaaDoor.Ex
open Go.RowKit P
theorem least_better (a b : Int) (w : World) :
    Calls Tryd.prog 81 #[.int .i64 a, .int .i64 b] w fun e w' => e = .returned (.bool (ltB a b)) ∧ w = w' := by
  go_enter Tryd.func81, Tryd.ntmps81
  go_wp2
  go_ret
  exact ⟨rfl, rfl⟩
theorem most_better (a b : Int) (w : World) :
    Calls Tryd.prog 82 #[.int .i64 a, .int .i64 b] w fun e w' => e = .returned (.bool (gtB a b)) ∧ w = w' := by
  go_enter Tryd.func82, Tryd.ntmps82
  go_wp2
  go_ret
  exact ⟨rfl, rfl⟩
set_option maxHeartbeats 400000 in
theorem best_many_least (b off cap : Nat) (x : Int) (r : List Int) (w : World) (hc : Cells w b off (x :: r)) (hl : r.length ≤ 1000000) (_hcap : r.length + 1 ≤ cap) (h1 : ¬ cap = 1) :
    Calls Tryd.prog 80 #[.func (.func 81) #[] #[], .slice (some ⟨b, off, none⟩) (r.length + 1) cap] w fun e w' => e = .returned (.tuple #[.int .i64 (bestOf ltB x r), .bool true]) ∧ w = w' := by
  have HC : Hid (Cells w b (off + 1) r) := fun i hi => by
    have := hc (i + 1) (by simpa using hi)
    rw [show off + (i + 1) = off + 1 + i by omega] at this
    simpa using this
  have hc0 : w.cell? ⟨b, off, none⟩ = some (.int .i64 x) := hc 0 (by simp)
  clear hc
  have e0 : (((r.length : Nat) : Int) + 1 == 0) = false := by simp; omega
  go_enter Tryd.func80, Tryd.ntmps80
  go_wp2
  go_loop [6, 18] (fun t i => ∃ k : Nat, ∃ n : Int, k ≤ r.length ∧ i = .int .i64 k ∧ t = .int .i64 n ∧ Hid (bestOf ltB x r = bestOf ltB n (r.drop k))) (fun _ i => r.length - (intOf i).toNat)
  case atStart => exact ⟨0, x, Nat.zero_le _, rfl, rfl, rfl⟩
  case round =>
    obtain ⟨k, n, hk, rfl, rfl, H⟩ := hrel
    by_cases hlt : k < r.length
    · have hcell := HC.out k hlt
      generalize hv : r.getD k 0 = v at *
      have HV := hid hv
      clear hv
      rcases Bool.eq_false_or_eq_true (ltB v n) with hb | hb
      · have HB := hid hb
        clear hb
        go_wp2_with fail
        refine (least_better _ _ _).mono ?_; rintro e w' ⟨rfl, rfl⟩; rw [HB.out]
        go_wp2
        go_round
        case rel => exact ⟨k + 1, v, by omega, by go_num, rfl, by show _ = _; rw [H.out, bestOf_yes hlt (by rw [HV.out]; exact HB.out), HV.out]⟩
        case measure => simp [intOf]; omega
      · have HB := hid hb
        clear hb
        go_wp2_with fail
        refine (least_better _ _ _).mono ?_; rintro e w' ⟨rfl, rfl⟩; rw [HB.out]
        go_wp2
        go_round
        case rel => exact ⟨k + 1, n, by omega, by go_num, rfl, by show _ = _; rw [H.out, bestOf_no hlt (by rw [HV.out]; exact HB.out)]⟩
        case measure => simp [intOf]; omega
    · go_wp2
      go_ret2
      exact ⟨ret_2 (by rw [H.out]; exact (bestOf_end ltB n (by omega)).symm) rfl, rfl⟩
theorem best_one_least (b off : Nat) (x : Int) (w : World) (hc0 : w.cell? ⟨b, off, none⟩ = some (.int .i64 x)) :
    Calls Tryd.prog 80 #[.func (.func 81) #[] #[], .slice (some ⟨b, off, none⟩) 1 1] w fun e w' => e = .returned (.tuple #[.int .i64 x, .bool true]) ∧ w = w' := by
  go_enter Tryd.func80, Tryd.ntmps80
  go_wp2
  refine wp_loop_rounds 1 ?_
  rw [rounds_succ]
  go_wp2
  go_ret2
  exact ⟨rfl, rfl⟩
theorem best_any_least (b off cap : Nat) (x : Int) (r : List Int) (w : World) (hc : Cells w b off (x :: r)) (hl : r.length ≤ 1000000) (hcap : r.length + 1 ≤ cap) :
    Calls Tryd.prog 80 #[.func (.func 81) #[] #[], .slice (some ⟨b, off, none⟩) (r.length + 1) cap] w fun e w' => e = .returned (.tuple #[.int .i64 (bestOf ltB x r), .bool true]) ∧ w = w' := by
  by_cases h1 : cap = 1
  · have hr : r = [] := List.eq_nil_of_length_eq_zero (by omega)
    subst h1 hr
    exact best_one_least b off x w (hc 0 (by simp))
  · exact best_many_least b off cap x r w hc hl hcap h1
set_option maxHeartbeats 400000 in
theorem best_many_most (b off cap : Nat) (x : Int) (r : List Int) (w : World) (hc : Cells w b off (x :: r)) (hl : r.length ≤ 1000000) (_hcap : r.length + 1 ≤ cap) (h1 : ¬ cap = 1) :
    Calls Tryd.prog 80 #[.func (.func 82) #[] #[], .slice (some ⟨b, off, none⟩) (r.length + 1) cap] w fun e w' => e = .returned (.tuple #[.int .i64 (bestOf gtB x r), .bool true]) ∧ w = w' := by
  have HC : Hid (Cells w b (off + 1) r) := fun i hi => by
    have := hc (i + 1) (by simpa using hi)
    rw [show off + (i + 1) = off + 1 + i by omega] at this
    simpa using this
  have hc0 : w.cell? ⟨b, off, none⟩ = some (.int .i64 x) := hc 0 (by simp)
  clear hc
  have e0 : (((r.length : Nat) : Int) + 1 == 0) = false := by simp; omega
  go_enter Tryd.func80, Tryd.ntmps80
  go_wp2
  go_loop [6, 18] (fun t i => ∃ k : Nat, ∃ n : Int, k ≤ r.length ∧ i = .int .i64 k ∧ t = .int .i64 n ∧ Hid (bestOf gtB x r = bestOf gtB n (r.drop k))) (fun _ i => r.length - (intOf i).toNat)
  case atStart => exact ⟨0, x, Nat.zero_le _, rfl, rfl, rfl⟩
  case round =>
    obtain ⟨k, n, hk, rfl, rfl, H⟩ := hrel
    by_cases hlt : k < r.length
    · have hcell := HC.out k hlt
      generalize hv : r.getD k 0 = v at *
      have HV := hid hv
      clear hv
      rcases Bool.eq_false_or_eq_true (gtB v n) with hb | hb
      · have HB := hid hb
        clear hb
        go_wp2_with fail
        refine (most_better _ _ _).mono ?_; rintro e w' ⟨rfl, rfl⟩; rw [HB.out]
        go_wp2
        go_round
        case rel => exact ⟨k + 1, v, by omega, by go_num, rfl, by show _ = _; rw [H.out, bestOf_yes hlt (by rw [HV.out]; exact HB.out), HV.out]⟩
        case measure => simp [intOf]; omega
      · have HB := hid hb
        clear hb
        go_wp2_with fail
        refine (most_better _ _ _).mono ?_; rintro e w' ⟨rfl, rfl⟩; rw [HB.out]
        go_wp2
        go_round
        case rel => exact ⟨k + 1, n, by omega, by go_num, rfl, by show _ = _; rw [H.out, bestOf_no hlt (by rw [HV.out]; exact HB.out)]⟩
        case measure => simp [intOf]; omega
    · go_wp2
      go_ret2
      exact ⟨ret_2 (by rw [H.out]; exact (bestOf_end gtB n (by omega)).symm) rfl, rfl⟩
theorem best_one_most (b off : Nat) (x : Int) (w : World) (hc0 : w.cell? ⟨b, off, none⟩ = some (.int .i64 x)) :
    Calls Tryd.prog 80 #[.func (.func 82) #[] #[], .slice (some ⟨b, off, none⟩) 1 1] w fun e w' => e = .returned (.tuple #[.int .i64 x, .bool true]) ∧ w = w' := by
  go_enter Tryd.func80, Tryd.ntmps80
  go_wp2
  refine wp_loop_rounds 1 ?_
  rw [rounds_succ]
  go_wp2
  go_ret2
  exact ⟨rfl, rfl⟩
theorem best_any_most (b off cap : Nat) (x : Int) (r : List Int) (w : World) (hc : Cells w b off (x :: r)) (hl : r.length ≤ 1000000) (hcap : r.length + 1 ≤ cap) :
    Calls Tryd.prog 80 #[.func (.func 82) #[] #[], .slice (some ⟨b, off, none⟩) (r.length + 1) cap] w fun e w' => e = .returned (.tuple #[.int .i64 (bestOf gtB x r), .bool true]) ∧ w = w' := by
  by_cases h1 : cap = 1
  · have hr : r = [] := List.eq_nil_of_length_eq_zero (by omega)
    subst h1 hr
    exact best_one_most b off x w (hc 0 (by simp))
  · exact best_many_most b off cap x r w hc hl hcap h1
theorem best_none_least (a : Option Addr) (cap : Nat) (w : World) :
    Calls Tryd.prog 80 #[.func (.func 81) #[] #[], .slice a 0 cap] w fun e w' => e = .returned (.tuple #[.int .i64 0, .bool false]) ∧ w = w' := by
  go_enter Tryd.func80, Tryd.ntmps80
  go_wp2
  go_ret2
  exact ⟨rfl, rfl⟩
theorem best_none_most (a : Option Addr) (cap : Nat) (w : World) :
    Calls Tryd.prog 80 #[.func (.func 82) #[] #[], .slice a 0 cap] w fun e w' => e = .returned (.tuple #[.int .i64 0, .bool false]) ∧ w = w' := by
  go_enter Tryd.func80, Tryd.ntmps80
  go_wp2
  go_ret2
  exact ⟨rfl, rfl⟩
theorem least_any (b off cap : Nat) (x : Int) (r : List Int) (w : World) (hc : Cells w b off (x :: r)) (hl : r.length ≤ 1000000) (hcap : r.length + 1 ≤ cap) :
    Calls Tryd.prog 57 #[.slice (some ⟨b, off, none⟩) (r.length + 1) cap] w fun e w' => e = .returned (.tuple #[.int .i64 (bestOf ltB x r), .bool true]) ∧ w = w' := by
  have HC := hid hc
  clear hc
  go_enter Tryd.func57, Tryd.ntmps57
  go_wp2_with fail
  refine (best_any_least _ _ _ x r _ HC.out hl hcap).mono ?_; rintro e w' ⟨rfl, rfl⟩
  go_wp2
  go_ret2
  exact ⟨rfl, rfl⟩
theorem most_any (b off cap : Nat) (x : Int) (r : List Int) (w : World) (hc : Cells w b off (x :: r)) (hl : r.length ≤ 1000000) (hcap : r.length + 1 ≤ cap) :
    Calls Tryd.prog 58 #[.slice (some ⟨b, off, none⟩) (r.length + 1) cap] w fun e w' => e = .returned (.tuple #[.int .i64 (bestOf gtB x r), .bool true]) ∧ w = w' := by
  have HC := hid hc
  clear hc
  go_enter Tryd.func58, Tryd.ntmps58
  go_wp2_with fail
  refine (best_any_most _ _ _ x r _ HC.out hl hcap).mono ?_; rintro e w' ⟨rfl, rfl⟩
  go_wp2
  go_ret2
  exact ⟨rfl, rfl⟩
theorem least_none (a : Option Addr) (cap : Nat) (w : World) :
    Calls Tryd.prog 57 #[.slice a 0 cap] w fun e w' => e = .returned (.tuple #[.int .i64 0, .bool false]) ∧ w = w' := by
  go_enter Tryd.func57, Tryd.ntmps57
  go_wp2_with fail
  refine (best_none_least _ _ _).mono ?_; rintro e w' ⟨rfl, rfl⟩
  go_wp2
  go_ret2
  exact ⟨rfl, rfl⟩
theorem most_none (a : Option Addr) (cap : Nat) (w : World) :
    Calls Tryd.prog 58 #[.slice a 0 cap] w fun e w' => e = .returned (.tuple #[.int .i64 0, .bool false]) ∧ w = w' := by
  go_enter Tryd.func58, Tryd.ntmps58
  go_wp2_with fail
  refine (best_none_most _ _ _).mono ?_; rintro e w' ⟨rfl, rfl⟩
  go_wp2
  go_ret2
  exact ⟨rfl, rfl⟩
end Go.Proofs.YtnhhhnngocdagaaDoor.Ex
/- What math/bits answers in this program: Mul64, Len64, LeadingZeros64: contracts over the walked program. -/
namespace Go.Proofs.YtnhhhnngocdagaaDoor.Bt
open Go.RowKit P
theorem mask_any {n : Int} : bits .and .u64 (IntKind.u64.wrap n) 4294967295 = IntKind.u64.wrap n % 4294967296 := and32 (by rw [u64_mod]; omega) (by rw [u64_mod]; omega)
/-- The product's upper half, out of four products of halves. -/
theorem upper_half (X Y : Int) (x0 : 0 ≤ X) (x1 : X < 18446744073709551616) (y0 : 0 ≤ Y) (y1 : Y < 18446744073709551616) :
    IntKind.u64.wrap (IntKind.u64.wrap (IntKind.u64.wrap (X / 4294967296 * (Y / 4294967296)) + IntKind.u64.wrap (IntKind.u64.wrap (X / 4294967296 * (Y % 4294967296)) + IntKind.u64.wrap (X % 4294967296 * (Y % 4294967296)) / 4294967296) / 4294967296) +
      IntKind.u64.wrap (IntKind.u64.wrap (IntKind.u64.wrap (X / 4294967296 * (Y % 4294967296)) + IntKind.u64.wrap (X % 4294967296 * (Y % 4294967296)) / 4294967296) % 4294967296 + IntKind.u64.wrap (X % 4294967296 * (Y / 4294967296))) / 4294967296) = X * Y / 18446744073709551616 := by
  have le : ∀ a b : Int, 0 ≤ a → a ≤ 4294967295 → 0 ≤ b → b ≤ 4294967295 → 0 ≤ a * b ∧ a * b ≤ 18446744065119617025 := fun a b h1 h2 h3 h4 => by
    have h5 := Int.mul_le_mul h2 h4 h3 (by omega : (0 : Int) ≤ 4294967295)
    exact ⟨Int.mul_nonneg h1 h3, by omega⟩
  have e : X * Y = X / 4294967296 * (Y / 4294967296) * 18446744073709551616 + (X / 4294967296 * (Y % 4294967296) + X % 4294967296 * (Y / 4294967296)) * 4294967296 + X % 4294967296 * (Y % 4294967296) := by
    have hx := Int.mul_ediv_add_emod X 4294967296
    have hy := Int.mul_ediv_add_emod Y 4294967296
    have key : ∀ a b c d : Int, (4294967296 * a + b) * (4294967296 * c + d) = a * c * 18446744073709551616 + (a * d + b * c) * 4294967296 + b * d := by intro a b c d; grind
    have := key (X / 4294967296) (X % 4294967296) (Y / 4294967296) (Y % 4294967296)
    rw [hx, hy] at this
    exact this
  have p1 := le (X / 4294967296) (Y / 4294967296) (by omega) (by omega) (by omega) (by omega)
  have p2 := le (X / 4294967296) (Y % 4294967296) (by omega) (by omega) (by omega) (by omega)
  have p3 := le (X % 4294967296) (Y / 4294967296) (by omega) (by omega) (by omega) (by omega)
  have p4 := le (X % 4294967296) (Y % 4294967296) (by omega) (by omega) (by omega) (by omega)
  rw [e]
  generalize X / 4294967296 * (Y / 4294967296) = A at *
  generalize X / 4294967296 * (Y % 4294967296) = B at *
  generalize X % 4294967296 * (Y / 4294967296) = C at *
  generalize X % 4294967296 * (Y % 4294967296) = D at *
  simp only [u64_mod]
  clear e le x0 x1 y0 y1
  omega
theorem mul64_int (X Y : Int) (x0 : 0 ≤ X) (x1 : X < 18446744073709551616) (y0 : 0 ≤ Y) (y1 : Y < 18446744073709551616) (w : World) :
    Calls Tryd.prog 75 #[.int .u64 X, .int .u64 Y] w fun e w' => e = .returned (.tuple #[.int .u64 (X * Y / 18446744073709551616), .int .u64 (IntKind.u64.wrap (X * Y))]) ∧ w = w' := by
  have E := hid (upper_half X Y x0 x1 y0 y1)
  have EX := hid (and32 x0 x1)
  have EY := hid (and32 y0 y1)
  clear x0 x1 y0 y1
  go_enter Tryd.func75, Tryd.ntmps75
  go_wp2
  rw [EX.out, EY.out, mask_any, E.out]
  go_ret2
  exact ⟨rfl, rfl⟩
theorem mul64_any (x y : Nat) (hx : x < 18446744073709551616) (hy : y < 18446744073709551616) (w : World) :
    Calls Tryd.prog 75 #[.int .u64 x, .int .u64 y] w fun e w' => e = .returned (.tuple #[.int .u64 (hiN (x * y)), .int .u64 (loN (x * y))]) ∧ w = w' := by
  have h := mul64_int x y (by omega) (by omega) (by omega) (by omega) w
  have e1 : (x : Int) * y / 18446744073709551616 = (hiN (x * y) : Int) := by rw [← Int.natCast_mul]; unfold hiN; omega
  have e2 : IntKind.u64.wrap ((x : Int) * y) = (loN (x * y) : Int) := by rw [← Int.natCast_mul, u64_mod]; unfold loN; omega
  rw [e1, e2] at h
  exact h
theorem tab_len (n : Nat) (h : n < Lib.len8tab.size) : (Lib.len8tab[n]'h).toNat = Lib.bitLen n := by
  have h2 : n < 256 := by rw [Lib.len8tab_size] at h; exact h
  have e := Lib.len8_eq ⟨n, h2⟩
  simp only [Lib.len8, Int.toNat_natCast, ByteArray.getElem?_lt' _ _ h, Option.getD_some] at e
  omega
theorem tab_le (n : Nat) (h : n < Lib.len8tab.size) : Lib.bitLen n ≤ 8 := by
  have h2 : n < 256 := by rw [Lib.len8tab_size] at h; exact h
  exact Lib.bitLen_le8 ⟨n, h2⟩
theorem len_close {k : Nat} {x d : Int} {e : Int} (h : d.toNat < Lib.len8tab.size) (hk : e = k) (h1 : x ≤ 18446744073709551615) (h0 : 0 ≤ x) (hx : 2 ^ k ≤ x.toNat) (hd : d.toNat = x.toNat / 2 ^ k) (k56 : k ≤ 56) :
    wrap64 (e + wrap64 ((Lib.len8tab[d.toNat]'h).toNat : Int)) = (Lib.bitLen x.toNat : Int) := by
  rw [tab_len, Lib.bitLen_shift k x.toNat hx (by omega), ← hd]
  have := tab_le _ h
  unfold wrap64
  omega
theorem len_close0 {x : Int} (h : x.toNat < Lib.len8tab.size) : wrap64 (wrap64 ((Lib.len8tab[x.toNat]'h).toNat : Int)) = (Lib.bitLen x.toNat : Int) := by
  rw [tab_len]
  have := tab_le _ h
  unfold wrap64
  omega
set_option maxHeartbeats 4000000 in
set_option maxRecDepth 100000 in
theorem len64_int (x : Int) (w : World) (h0 : 0 ≤ x) (h1 : x ≤ 18446744073709551615) :
    Calls Tryd.prog 90 #[.int .u64 x] w fun e w' => e = .returned (.int .i64 (Lib.bitLen x.toNat)) ∧ w = w' := by
  have hs := Lib.len8tab_size
  go_enter Tryd.func90, Tryd.ntmps90
  go_wp2
  all_goals first
    | (exfalso; omega)
    | (go_ret
       refine ⟨congrArg Ending.returned (congrArg (Value.int IntKind.i64) ?_), rfl⟩
       first
         | exact len_close0 _
         | exact len_close (k := 56) _ rfl h1 h0 (by omega) (by omega) (by omega)
         | exact len_close (k := 48) _ rfl h1 h0 (by omega) (by omega) (by omega)
         | exact len_close (k := 40) _ rfl h1 h0 (by omega) (by omega) (by omega)
         | exact len_close (k := 32) _ rfl h1 h0 (by omega) (by omega) (by omega)
         | exact len_close (k := 24) _ rfl h1 h0 (by omega) (by omega) (by omega)
         | exact len_close (k := 16) _ rfl h1 h0 (by omega) (by omega) (by omega)
         | exact len_close (k := 8) _ rfl h1 h0 (by omega) (by omega) (by omega))
theorem len_bounds (x : Nat) (hx : x < 2 ^ 64) (h0 : x ≠ 0) : ∃ k, Lib.bitLen x = k + 1 ∧ 2 ^ k ≤ x ∧ x < 2 ^ (k + 1) := by
  induction x using Nat.strongRecOn with
  | ind x ih =>
    by_cases h1 : x = 1
    · subst h1; exact ⟨0, by decide, by decide, by decide⟩
    · obtain ⟨k, e, l, u⟩ := ih (x / 2) (by omega) (by omega) (by omega)
      refine ⟨k + 1, by rw [Lib.bitLen_half x h0 hx, e]; omega, ?_, ?_⟩
      · rw [Nat.pow_succ] at *; omega
      · rw [Nat.pow_succ] at *; omega
/-- How many noughts lead a number of 64 bits. -/
def lz (x : Nat) : Nat := 64 - Lib.bitLen x
theorem lz_le (x : Nat) (hx : x < 2 ^ 64) (h0 : x ≠ 0) : lz x ≤ 63 := by
  obtain ⟨k, e, _, _⟩ := len_bounds x hx h0
  unfold lz; omega
theorem lz_norm (x : Nat) (hx : x < 2 ^ 64) (h0 : x ≠ 0) : 2 ^ 63 ≤ x * 2 ^ lz x ∧ x * 2 ^ lz x < 2 ^ 64 := by
  obtain ⟨k, e, l, u⟩ := len_bounds x hx h0
  have hk : k < 64 := by
    rcases Nat.lt_or_ge k 64 with h | h
    · exact h
    · exact absurd (Nat.le_trans (Nat.pow_le_pow_right (by omega) h) l) (by omega)
  have e1 : lz x = 63 - k := by unfold lz; omega
  rw [e1]
  have p1 : (2 : Nat) ^ 63 = 2 ^ k * 2 ^ (63 - k) := by rw [← Nat.pow_add]; congr 1; omega
  have p2 : (2 : Nat) ^ 64 = 2 ^ (k + 1) * 2 ^ (63 - k) := by rw [← Nat.pow_add]; congr 1; omega
  rw [p1, p2]
  exact ⟨Nat.mul_le_mul_right _ l, Nat.mul_lt_mul_of_pos_right u (Nat.pow_pos (by omega))⟩
theorem lead_any (x : Int) (w : World) (h0 : 0 ≤ x) (h1 : x ≤ 18446744073709551615) :
    Calls Tryd.prog 95 #[.int .u64 x] w fun e w' => e = .returned (.int .i64 (64 - (Lib.bitLen x.toNat : Int))) ∧ w = w' := by
  have hl : Lib.bitLen x.toNat ≤ 64 := Lib.bitLen_le _ _ (Nat.le_refl _) (by omega)
  have E : Hid (wrap64 (64 - (Lib.bitLen x.toNat : Int)) = 64 - (Lib.bitLen x.toNat : Int)) := by show _ = _; unfold wrap64; omega
  clear hl
  go_enter Tryd.func95, Tryd.ntmps95
  go_wp2_with (go_at_call 90; refine (len64_int _ _ h0 h1).mono ?_; rintro e w' ⟨rfl, rfl⟩)
  go_ret
  exact ⟨by rw [E.out]; rfl, rfl⟩
theorem lead_ex (x : Int) (w : World) (h0 : 0 < x) (h1 : x ≤ 18446744073709551615) :
    Calls Tryd.prog 95 #[.int .u64 x] w fun e w' => ∃ s : Nat, s ≤ 63 ∧ 9223372036854775808 ≤ x * 2 ^ s ∧ x * 2 ^ s < 18446744073709551616 ∧ e = .returned (.int .i64 s) ∧ w = w' := by
  have hx : x.toNat < 2 ^ 64 := by omega
  have hn : x.toNat ≠ 0 := by omega
  have hl : Lib.bitLen x.toNat ≤ 64 := Lib.bitLen_le _ _ (Nat.le_refl _) hx
  have h2 := lz_norm x.toNat hx hn
  have e2 : ((x.toNat * 2 ^ lz x.toNat : Nat) : Int) = x * 2 ^ lz x.toNat := by
    rw [Int.natCast_mul, Int.natCast_pow, Int.toNat_of_nonneg (by omega)]; rfl
  refine (lead_any x w (by omega) h1).mono ?_
  rintro e w' ⟨rfl, rfl⟩
  refine ⟨lz x.toNat, lz_le _ hx hn, by omega, by omega, ?_, rfl⟩
  rw [show ((lz x.toNat : Nat) : Int) = 64 - (Lib.bitLen x.toNat : Int) by unfold lz; omega]
end Go.Proofs.YtnhhhnngocdagaaDoor.Bt
/- What math/bits.Div64 answers in this program: the quotient and the rest of 128 bits by 64. -/
namespace Go.Proofs.YtnhhhnngocdagaaDoor.Bt
open Go.RowKit P
theorem div64_low (lo y : Int) (w : World) (h2 : 0 < y) (h3 : y ≤ 18446744073709551615) (h4 : 0 ≤ lo) (h5 : lo ≤ 18446744073709551615) :
    Calls Tryd.prog 77 #[.int .u64 0, .int .u64 lo, .int .u64 y] w fun e w' => e = .returned (.tuple #[.int .u64 (lo / y), .int .u64 (lo % y)]) ∧ ∃ n, w' = w.drewN n := by
  have e1 : (y == 0) = false := by simp; omega
  have e2 : decide (y ≤ 0) = false := by simp; omega
  have d1 : lo.tdiv y = lo / y := Int.tdiv_eq_ediv_of_nonneg h4
  have d2 : lo.tmod y = lo % y := Int.tmod_eq_emod_of_nonneg h4
  have d3 : 0 ≤ lo / y := Int.ediv_nonneg h4 (by omega)
  have d4 : lo / y ≤ lo := Int.ediv_le_self _ h4
  have D1 : Hid (IntKind.u64.wrap (lo.tdiv y) = lo / y) := by show _ = _; rw [d1]; exact u64_in d3 (by omega)
  have D2 := hid d2
  clear d1 d2 d3 d4 h3 h4 h5
  go_enter Tryd.func77, Tryd.ntmps77
  go_wp2
  go_quiet (fail)
  go_wp2
  go_ret2
  exact ⟨by rw [D1.out, D2.out]; rfl, _, rfl⟩
set_option maxHeartbeats 1000000 in
theorem div64_big (hi lo y : Int) (w : World) (h1 : 0 < hi) (h2 : hi < y) (h3 : y ≤ 18446744073709551615) (h4 : 0 ≤ lo) (h5 : lo ≤ 18446744073709551615) :
    Calls Tryd.prog 77 #[.int .u64 hi, .int .u64 lo, .int .u64 y] w fun e w' => e = .returned (.tuple #[.int .u64 ((hi * 18446744073709551616 + lo) / y), .int .u64 ((hi * 18446744073709551616 + lo) % y)]) ∧ w = w' := by
  have e1 : (y == 0) = false := by simp; omega
  have e2 : decide (y ≤ hi) = false := by simp; omega
  have e3 : (hi == 0) = false := by simp; omega
  go_enter Tryd.func77, Tryd.ntmps77
  go_upto_block 0 with (go_at_call 95; refine (lead_ex _ _ (by omega) h3).mono ?_; rintro e w' ⟨s, hs, n1, n2, rfl, rfl⟩)
  obtain ⟨u, y1, y0, c1, c0, f1, f2, f3, f4, f5, f6, f7, f8, f9, g1, g2, g3, g4, g5, g6, g7, g8⟩ := div_front h1 h2 h4 h5 hs n1 n2
  rw [f1, f2, f3, f4, f5]
  have F7 := hid f7
  have F6 := hid f6
  have N1 := hid n1
  have N2 := hid n2
  have d1 : IntKind.u64.wrap (u.tdiv y1) = u / y1 := by
    rw [Int.tdiv_eq_ediv_of_nonneg f8]
    exact u64_in (Int.ediv_nonneg f8 (by omega)) (by have := Int.ediv_le_self y1 f8; omega)
  have d2 : IntKind.u64.wrap (u - IntKind.u64.wrap (u / y1 * y1)) = u % y1 := by
    have a1 := Int.mul_ediv_add_emod u y1
    have a2 := Int.emod_nonneg u (show y1 ≠ 0 by omega)
    have a3 := Int.emod_lt_of_pos u (show 0 < y1 by omega)
    rw [Int.mul_comm] at a1
    rw [u64_mod, u64_mod]
    omega
  rw [d1, d2]
  obtain ⟨Q1, R1, q1, q2, q3⟩ : ∃ Q R : Int, u * 4294967296 + c1 = Q * (y1 * 4294967296 + y0) + R ∧ 0 ≤ R ∧ R < y1 * 4294967296 + y0 :=
    ⟨(u * 4294967296 + c1) / (y1 * 4294967296 + y0), (u * 4294967296 + c1) % (y1 * 4294967296 + y0), by have := Int.mul_ediv_add_emod (u * 4294967296 + c1) (y1 * 4294967296 + y0); rw [Int.mul_comm] at this; omega, Int.emod_nonneg _ (by omega), Int.emod_lt_of_pos _ (by omega)⟩
  have S1 : Hid (Step u y1 y0 c1 Q1) := ⟨g1, g2, g3, g4, g5, g6, f8, by omega, by omega, by omega⟩
  rw [f6] 
  clear f1 f2 f3 f4 f5 f6 f7 d1 d2 n1 n2
  go_cut [15, 16] (fun q _r wx => q = .int .u64 Q1 ∧ w = wx)
  case first =>
    go_wp2_with fail
    go_loop [15, 16] (fun q r => ∃ q' r' : Int, q = .int .u64 q' ∧ r = .int .u64 r' ∧ Hid (Guess u y1 y0 c1 Q1 q' r')) (fun q _ => (intOf q).toNat)
    case atStart => exact ⟨_, _, rfl, rfl, S1.out.start⟩
    case round =>
      obtain ⟨q, r, rfl, rfl, G⟩ := hrel
      have r0 := G.out.r0
      have r1 := G.out.r1
      have k0 := S1.out.small.1
      have k1 := G.out.le
      have k2 := G.out.top
      by_cases hq : 4294967296 ≤ q
      · have hlt := S1.out.big G.out hq
        by_cases hr : 4294967296 ≤ r + y1
        · have E := hid (G.out.last S1.out hlt hr)
          go_wp2
          go_meet
          exact ⟨by rw [E.out], rfl⟩
        · have G2 := hid (G.out.next S1.out hlt (by omega))
          go_wp2
          go_round
          case rel => exact ⟨q - 1, r + y1, rfl, rfl, G2.out⟩
          case measure => simp [intOf]; omega
      · obtain ⟨p0, p1, p2⟩ := S1.out.fits G.out (by omega)
        by_cases hc : 4294967296 * r + c1 < q * y0
        · have hlt := S1.out.yes G.out.eq hc
          by_cases hr : 4294967296 ≤ r + y1
          · have E := hid (G.out.last S1.out hlt hr)
            go_wp2
            go_meet
            exact ⟨by rw [E.out], rfl⟩
          · have G2 := hid (G.out.next S1.out hlt (by omega))
            go_wp2
            go_round
            case rel => exact ⟨q - 1, r + y1, rfl, rfl, G2.out⟩
            case measure => simp [intOf]; omega
        · have E := hid (G.out.done S1.out (by omega))
          go_wp2
          go_meet
          exact ⟨by rw [E.out], rfl⟩
  case rest =>
    obtain ⟨rfl, rfl⟩ := hcut
    go_upto_block 2 with fail
    have g9 := F6.out
    have g10 := N2.out
    rw [mid q1 q2 (by omega), quot_wrap q2 (by omega) (by omega), rest_wrap q2 (by omega) (by omega)]
    obtain ⟨Q2, R2, p1, p2, p3⟩ := cut_num (R1 * 4294967296 + c0) (y1 * 4294967296 + y0) (by omega)
    have S2 : Hid (Step R1 y1 y0 c0 Q2) := ⟨g1, g2, g3, g4, g7, g8, q2, q3, by omega, by omega⟩
    have P1 := hid p1
    have Q1' := hid q1
    clear p1 q1 g9 g10
    go_cut [18, 16] (fun q _r wx => q = .int .u64 Q2 ∧ w = wx)
    case first =>
      go_wp2_with fail
      go_loop [18, 16] (fun q r => ∃ q' r' : Int, q = .int .u64 q' ∧ r = .int .u64 r' ∧ Hid (Guess R1 y1 y0 c0 Q2 q' r')) (fun q _ => (intOf q).toNat)
      case atStart => exact ⟨_, _, rfl, rfl, S2.out.start⟩
      case round =>
        obtain ⟨q, r, rfl, rfl, G⟩ := hrel
        have r0 := G.out.r0
        have r1 := G.out.r1
        have k0 := S2.out.small.1
        have k1 := G.out.le
        have k2 := G.out.top
        by_cases hq : 4294967296 ≤ q
        · have hlt := S2.out.big G.out hq
          by_cases hr : 4294967296 ≤ r + y1
          · have E := hid (G.out.last S2.out hlt hr)
            go_wp2
            go_meet
            exact ⟨by rw [E.out], rfl⟩
          · have G2 := hid (G.out.next S2.out hlt (by omega))
            go_wp2
            go_round
            case rel => exact ⟨q - 1, r + y1, rfl, rfl, G2.out⟩
            case measure => simp [intOf]; omega
        · obtain ⟨p0, p1, p2⟩ := S2.out.fits G.out (by omega)
          by_cases hc : 4294967296 * r + c0 < q * y0
          · have hlt := S2.out.yes G.out.eq hc
            by_cases hr : 4294967296 ≤ r + y1
            · have E := hid (G.out.last S2.out hlt hr)
              go_wp2
              go_meet
              exact ⟨by rw [E.out], rfl⟩
            · have G2 := hid (G.out.next S2.out hlt (by omega))
              go_wp2
              go_round
              case rel => exact ⟨q - 1, r + y1, rfl, rfl, G2.out⟩
              case measure => simp [intOf]; omega
          · have E := hid (G.out.done S2.out (by omega))
            go_wp2
            go_meet
            exact ⟨by rw [E.out], rfl⟩
    case rest =>
      obtain ⟨rfl, rfl⟩ := hcut
      go_wp2
      have a1 := S1.out.small
      have a2 := S2.out.small
      have g9 := F6.out
      have g10 := N2.out
      obtain ⟨b1, b2⟩ := div_back (Int.pow_pos (by omega) : (0 : Int) < 2 ^ s) (by omega : 0 < y) F6.out F7.out Q1'.out P1.out p2 p3
      rw [quot_join a1.1 a1.2 a2.1 a2.2, mid P1.out p2 (by omega), b1, b2]
      go_ret2
      exact ⟨rfl, rfl⟩
theorem div64_any (hi lo y : Int) (w : World) (h1 : 0 ≤ hi) (h2 : hi < y) (h3 : y ≤ 18446744073709551615) (h4 : 0 ≤ lo) (h5 : lo ≤ 18446744073709551615) :
    Calls Tryd.prog 77 #[.int .u64 hi, .int .u64 lo, .int .u64 y] w fun e w' => e = .returned (.tuple #[.int .u64 ((hi * 18446744073709551616 + lo) / y), .int .u64 ((hi * 18446744073709551616 + lo) % y)]) ∧ ∃ n, w' = w.drewN n := by
  by_cases h : hi = 0
  · subst h
    rw [Int.zero_mul, Int.zero_add]
    exact div64_low lo y w h2 h3 h4 h5
  · refine (div64_big hi lo y w (by omega) h2 h3 h4 h5).mono ?_
    rintro e w' ⟨rfl, rfl⟩
    exact ⟨rfl, 0, rfl⟩
end Go.Proofs.YtnhhhnngocdagaaDoor.Bt
/- What each call of package round answers, for all numbers of 64 bits. -/
namespace Go.Proofs.YtnhhhnngocdagaaDoor.Rd
open Go.RowKit P Ex Bt
theorem size_any (n : Int) (w : World) (hn : I64 n) :
    Calls Tryd.prog 76 #[.int .i64 n] w fun e w' => e = .returned (.int .u64 (n.natAbs : Int)) ∧ w = w' := by
  by_cases h : n < 0
  · have E : Hid (IntKind.u64.wrap (-IntKind.u64.wrap n) = (n.natAbs : Int)) := by
      show _ = _; rw [u64_mod, u64_mod]; unfold I64 at hn; omega
    clear hn
    go_enter Tryd.func76, Tryd.ntmps76
    go_wp2
    go_ret
    exact ⟨by rw [← E.out]; rfl, rfl⟩
  · have E : Hid (n = (n.natAbs : Int)) := by show _ = _; omega
    have h1 : 0 ≤ n := by omega
    have h2 : n ≤ 9223372036854775807 := by unfold I64 at hn; omega
    clear hn
    go_enter Tryd.func76, Tryd.ntmps76
    go_wp2
    go_ret
    exact ⟨by rw [← E.out]; rfl, rfl⟩
theorem good_any (mode : Int) (w : World) :
    Calls Tryd.prog 74 #[.int .i64 mode] w fun e w' => e = .returned (.bool (goodm mode)) ∧ w = w' := by
  by_cases h : goodm mode = true
  · rw [h]
    have hg := (goodm_iff mode).1 h
    have hm : mode = 0 ∨ mode = 1 ∨ mode = 2 ∨ mode = 3 := by omega
    clear hg h
    rcases hm with rfl | rfl | rfl | rfl
    all_goals
      go_enter Tryd.func74, Tryd.ntmps74
      go_wp2
      go_ret
      exact ⟨rfl, rfl⟩
  · have e : goodm mode = false := by simpa using h
    rw [e]
    have hg : ¬ (0 ≤ mode ∧ mode ≤ 3) := fun k => h ((goodm_iff mode).2 k)
    have e0 : (mode == 0) = false := by simp; omega
    have e1 : (mode == 1) = false := by simp; omega
    have e2 : (mode == 2) = false := by simp; omega
    have e3 : (mode == 3) = false := by simp; omega
    clear hg h e
    go_enter Tryd.func74, Tryd.ntmps74
    go_wp2
    go_ret
    exact ⟨rfl, rfl⟩
theorem signed_any (n : Int) (b : Bool) (w : World) (h0 : 0 ≤ n) (h1 : n < 18446744073709551616) :
    Calls Tryd.prog 79 #[.int .u64 n, .bool b] w fun e w' => e = .returned (.tuple #[.int .i64 (cut64 (sgnB b n)), .bool (ok64 (sgnB b n))]) ∧ w = w' := by
  cases b
  · show Calls _ _ _ _ fun e w' => e = .returned (.tuple #[.int .i64 (cut64 n), .bool (ok64 n)]) ∧ w = w'
    by_cases h : n < 9223372036854775808
    · have hi : I64 n := by unfold I64; omega
      rw [cut64_t hi, ok64_t hi]
      have E := hid (wrap_in hi)
      clear hi
      go_enter Tryd.func79, Tryd.ntmps79
      go_wp2
      go_ret2
      exact ⟨by first | rfl | (rw [← E.out]; rfl), rfl⟩
    · have hi : ¬ I64 n := by unfold I64; omega
      rw [cut64_f hi, ok64_f hi]
      clear hi
      go_enter Tryd.func79, Tryd.ntmps79
      go_wp2
      go_ret2
      exact ⟨rfl, rfl⟩
  · show Calls _ _ _ _ fun e w' => e = .returned (.tuple #[.int .i64 (cut64 (-n)), .bool (ok64 (-n))]) ∧ w = w'
    by_cases h : n ≤ 9223372036854775808
    · have hi : I64 (-n) := by unfold I64; omega
      rw [cut64_t hi, ok64_t hi]
      have E : Hid (wrap64 (IntKind.u64.wrap (-n)) = -n) := by show _ = _; rw [u64_mod]; unfold wrap64; omega
      clear hi
      go_enter Tryd.func79, Tryd.ntmps79
      go_wp2
      go_ret2
      exact ⟨by rw [E.out]; rfl, rfl⟩
    · have hi : ¬ I64 (-n) := by unfold I64; omega
      rw [cut64_f hi, ok64_f hi]
      clear hi
      go_enter Tryd.func79, Tryd.ntmps79
      go_wp2
      go_ret2
      exact ⟨rfl, rfl⟩
theorem outward_any (q r c mode : Int) (b : Bool) (w : World) (h0 : 0 ≤ q) (h1 : q < 18446744073709551616) (r0 : 0 ≤ r) (r1 : r < 9223372036854775808) :
    Calls Tryd.prog 78 #[.int .u64 q, .int .u64 r, .int .u64 c, .bool b, .int .i64 mode] w fun e w' => e = .returned (.bool (outB q r c b mode)) ∧ w = w' := by
  unfold outB
  by_cases hr : r = 0
  · subst hr
    rw [if_pos rfl]
    go_enter Tryd.func78, Tryd.ntmps78
    go_wp2
    go_ret
    exact ⟨rfl, rfl⟩
  · rw [if_neg hr]
    have e0 : (r == 0) = false := by simpa using hr
    by_cases m0 : mode = 0
    · subst m0
      rw [if_pos rfl]
      go_enter Tryd.func78, Tryd.ntmps78
      go_wp2
      go_ret
      exact ⟨rfl, rfl⟩
    · rw [if_neg m0]
      have e1 : (mode == 0) = false := by simpa using m0
      by_cases m1 : mode = 1
      · subst m1
        rw [if_pos rfl]
        go_enter Tryd.func78, Tryd.ntmps78
        go_wp2
        go_ret
        exact ⟨rfl, rfl⟩
      · rw [if_neg m1]
        have e2 : (mode == 1) = false := by simpa using m1
        have t0 : 0 ≤ 2 * r := by omega
        have t1 : 2 * r < 18446744073709551616 := by omega
        by_cases hc : 2 * r = c
        · have e3 : (2 * r == c) = true := by simpa using hc
          rw [if_neg (by omega)]
          by_cases m2 : mode = 2
          · subst m2
            rw [if_pos rfl]
            clear hc
            go_enter Tryd.func78, Tryd.ntmps78
            go_wp2
            go_ret
            exact ⟨rfl, rfl⟩
          · rw [if_neg m2]
            have e4 : (mode == 2) = false := by simpa using m2
            have E : Hid ((q.tmod 2 == 1) = decide (q % 2 = 1)) := by
              show _ = _; rw [Int.tmod_eq_emod_of_nonneg h0]; rfl
            clear hc
            go_enter Tryd.func78, Tryd.ntmps78
            go_wp2
            go_ret
            exact ⟨by first | (rw [← E.out]; rfl) | rfl, rfl⟩
        · have e3 : (2 * r == c) = false := by simpa using hc
          rw [if_pos hc]
          clear hc
          go_enter Tryd.func78, Tryd.ntmps78
          go_wp2
          go_ret
          exact ⟨rfl, rfl⟩
theorem below_sgn (a b : Int) : sgnB (!(decide (a < 0) == decide (b < 0))) ((a.natAbs * b.natAbs : Nat) : Int) = a * b := by
  rw [← Int.natAbs_mul]
  by_cases ha : a < 0
  · by_cases hb : b < 0
    · rw [decide_eq_true ha, decide_eq_true hb]
      have := Int.mul_pos_of_neg_of_neg ha hb
      show ((a * b).natAbs : Int) = _; omega
    · rw [decide_eq_true ha, decide_eq_false hb]
      have := Int.mul_nonpos_of_nonpos_of_nonneg (show a ≤ 0 by omega) (show 0 ≤ b by omega)
      show -((a * b).natAbs : Int) = _; omega
  · by_cases hb : b < 0
    · rw [decide_eq_false ha, decide_eq_true hb]
      have := Int.mul_nonpos_of_nonneg_of_nonpos (show 0 ≤ a by omega) (show b ≤ 0 by omega)
      show -((a * b).natAbs : Int) = _; omega
    · rw [decide_eq_false ha, decide_eq_false hb]
      have := Int.mul_nonneg (show 0 ≤ a by omega) (show 0 ≤ b by omega)
      show ((a * b).natAbs : Int) = _; omega
set_option maxHeartbeats 1000000 in
theorem muldiv_good (a b c mode : Int) (w : World) (ha : I64 a) (hb : I64 b) (hc : I64 c) (hc0 : 0 < c) (hm : goodm mode = true) :
    Calls Tryd.prog 55 #[.int .i64 a, .int .i64 b, .int .i64 c, .int .i64 mode] w fun e w' => e = .returned (.tuple #[.int .i64 (cut64 (rnd (a * b) c mode)), .bool (ok64 (rnd (a * b) c mode))]) ∧ ∃ n, w' = w.drewN n := by
  have hx : a.natAbs < 18446744073709551616 := by unfold I64 at ha; omega
  have hy : b.natAbs < 18446744073709551616 := by unfold I64 at hb; omega
  have c1 : c ≤ 9223372036854775807 := by unfold I64 at hc; omega
  have e0 : decide (c ≤ 0) = false := by simp; omega
  have HA := hid ha
  have HB := hid hb
  have HM := hid hm
  clear ha hb hc
  go_enter Tryd.func55, Tryd.ntmps55
  go_wp2_with fail
  refine (good_any _ _).mono ?_; rintro e w1 ⟨rfl, rfl⟩; rw [HM.out]
  go_wp2_with fail
  refine (size_any _ _ HA.out).mono ?_; rintro e w1 ⟨rfl, rfl⟩
  go_wp2_with fail
  refine (size_any _ _ HB.out).mono ?_; rintro e w1 ⟨rfl, rfl⟩
  go_wp2_with fail
  refine (mul64_any _ _ hx hy _).mono ?_; rintro e w1 ⟨rfl, rfl⟩
  have hs := below_sgn a b
  generalize hmm : a.natAbs * b.natAbs = m at *
  obtain ⟨t, ht⟩ : ∃ t, (!(decide (a < 0) == decide (b < 0))) = t := ⟨_, rfl⟩
  rw [ht] at hs
  have HS := hid hs
  have HL : Hid (loN m < 18446744073709551616) := loN_lt m
  clear hmm hs
  by_cases hq : c ≤ (hiN m : Int)
  · have hbig := big_quot hc0 hq
    have hn : ¬ I64 (rnd (a * b) c mode) := by
      rw [← HS.out]
      exact rnd_sgn_big t hc0 HM.out (by split <;> omega)
    have HN := hid hn
    clear hbig hn
    go_wp2
    go_ret2
    exact ⟨Ex.ret_2 (cut64_f HN.out).symm (ok64_f HN.out).symm, 0, rfl⟩
  · have hsm := small_quot hc0 hq
    have r0 := Int.emod_nonneg (m : Int) (show c ≠ 0 by omega)
    have r1 := Int.emod_lt_of_pos (m : Int) hc0
    go_wp2_with fail
    refine (div64_any _ _ _ _ (by omega) (by omega) (by omega) (by omega) (by have := HL.out; omega)).mono ?_; rintro e w1 ⟨rfl, n, rfl⟩
    rw [hi_lo_int]
    have hout := out_rnd (m := (m : Int)) t hc0 HM.out
    rw [HS.out] at hout
    generalize hqq : (m : Int) / c = q at *
    generalize hrr : (m : Int) % c = r at *
    have HO := hid hout
    clear hqq hrr hout
    go_wp2_with fail
    obtain ⟨q0, q1⟩ := hsm
    refine (outward_any q r c mode t _ q0 q1 r0 (by omega)).mono ?_; rintro e w1 ⟨rfl, rfl⟩
    generalize outB q r c t mode = o at *
    cases o
    · have HP : Hid (sgnB t q = rnd (a * b) c mode) := by show _ = _; rw [← HO.out]; simp
      clear HO
      go_wp2_with fail
      refine (signed_any q t _ q0 q1).mono ?_; rintro e w1 ⟨rfl, rfl⟩
      go_wp2
      go_ret2
      exact ⟨Ex.ret_2 (by rw [HP.out]) (by rw [HP.out]), n, rfl⟩
    · by_cases hl : q = 18446744073709551615
      · have HN : Hid (¬ I64 (rnd (a * b) c mode)) := by
          show ¬ _
          rw [← HO.out, hl]
          unfold I64 sgnB
          cases t <;> simp
        clear HO
        have e1 : (q == 18446744073709551615) = true := by simpa using hl
        clear hl
        go_wp2
        go_ret2
        exact ⟨Ex.ret_2 (cut64_f HN.out).symm (ok64_f HN.out).symm, n, rfl⟩
      · have HP : Hid (sgnB t (q + 1) = rnd (a * b) c mode) := by show _ = _; rw [← HO.out]; simp
        clear HO
        have e1 : (q == 18446744073709551615) = false := by simpa using hl
        have q2 : q + 1 < 18446744073709551616 := by omega
        clear hl
        go_wp2_with fail
        refine (signed_any (q + 1) t _ (by omega) q2).mono ?_; rintro e w1 ⟨rfl, rfl⟩
        go_wp2
        go_ret2
        exact ⟨Ex.ret_2 (by rw [HP.out]) (by rw [HP.out]), n, rfl⟩
theorem muldiv_any (a b c mode : Int) (w : World) (ha : I64 a) (hb : I64 b) (hc : I64 c) :
    Calls Tryd.prog 55 #[.int .i64 a, .int .i64 b, .int .i64 c, .int .i64 mode] w fun e w' => e = .returned (.tuple #[.int .i64 (mdn (a * b) c mode), .bool (mdb (a * b) c mode)]) ∧ ∃ n, w' = w.drewN n := by
  by_cases hc0 : 0 < c
  · by_cases hm : goodm mode = true
    · rw [mdn_good hc0 hm, mdb_good hc0 hm]
      exact muldiv_good a b c mode w ha hb hc hc0 hm
    · have hm' : goodm mode = false := by simpa using hm
      rw [mdn_m hm', mdb_m hm']
      have e0 : decide (c ≤ 0) = false := by simp; omega
      have HM := hid hm'
      clear hm hm' ha hb hc
      go_enter Tryd.func55, Tryd.ntmps55
      go_wp2_with fail
      refine (good_any _ _).mono ?_; rintro e w1 ⟨rfl, rfl⟩; rw [HM.out]
      go_wp2
      go_ret2
      exact ⟨rfl, 0, rfl⟩
  · rw [mdn_c (by omega), mdb_c (by omega)]
    have e0 : decide (c ≤ 0) = true := by simp; omega
    clear ha hb hc
    go_enter Tryd.func55, Tryd.ntmps55
    go_wp2
    go_ret2
    exact ⟨rfl, 0, rfl⟩
theorem div_any (a c mode : Int) (w : World) (ha : I64 a) (hc : I64 c) :
    Calls Tryd.prog 72 #[.int .i64 a, .int .i64 c, .int .i64 mode] w fun e w' => e = .returned (.tuple #[.int .i64 (mdn a c mode), .bool (mdb a c mode)]) ∧ ∃ n, w' = w.drewN n := by
  have h := fun w => muldiv_any a 1 c mode w ha (by unfold I64; omega) hc
  rw [Int.mul_one] at h
  have H := hid h
  clear h ha hc
  go_enter Tryd.func72, Tryd.ntmps72
  go_wp2_with fail
  refine (H.out _).mono ?_; rintro e w1 ⟨rfl, n, rfl⟩
  go_wp2
  go_ret2
  exact ⟨rfl, n, rfl⟩
/-- What Up answers. -/
def upn (a c : Int) : Int := if mdb a c 1 = true then cut64 (mdn a c 1 * c) else 0
def upb (a c : Int) : Bool := mdb a c 1 && ok64 (mdn a c 1 * c)
theorem i64_mdn (p c mode : Int) : I64 (mdn p c mode) := by
  unfold mdn; split
  · exact i64_cut _
  · exact i64_0
theorem up_any (a c : Int) (w : World) (ha : I64 a) (hc : I64 c) :
    Calls Tryd.prog 54 #[.int .i64 a, .int .i64 c] w fun e w' => e = .returned (.tuple #[.int .i64 (upn a c), .bool (upb a c)]) ∧ ∃ n, w' = w.drewN n := by
  have HA := hid ha
  have HC := hid hc
  have HI := hid (i64_mdn a c 1)
  clear ha hc
  rcases Bool.eq_false_or_eq_true (mdb a c 1) with hy | hy
  · rw [show upn a c = cut64 (mdn a c 1 * c) by unfold upn; rw [hy]; rfl, show upb a c = ok64 (mdn a c 1 * c) by unfold upb; rw [hy]; rfl]
    have HY := hid hy
    clear hy
    go_enter Tryd.func54, Tryd.ntmps54
    go_wp2_with fail
    refine (div_any a c 1 _ HA.out HC.out).mono ?_; rintro e w1 ⟨rfl, n, rfl⟩; rw [HY.out]
    go_wp2_with fail
    refine (Ex.mul_any _ c _ HI.out HC.out).mono ?_; rintro e w1 ⟨rfl, rfl⟩
    go_wp2
    go_ret2
    exact ⟨rfl, n, rfl⟩
  · rw [show upn a c = 0 by unfold upn; rw [hy]; rfl, show upb a c = false by unfold upb; rw [hy]; rfl]
    have HY := hid hy
    clear hy
    go_enter Tryd.func54, Tryd.ntmps54
    go_wp2_with fail
    refine (div_any a c 1 _ HA.out HC.out).mono ?_; rintro e w1 ⟨rfl, n, rfl⟩; rw [HY.out]
    go_wp2
    go_ret2
    exact ⟨rfl, n, rfl⟩
end Go.Proofs.YtnhhhnngocdagaaDoor.Rd
