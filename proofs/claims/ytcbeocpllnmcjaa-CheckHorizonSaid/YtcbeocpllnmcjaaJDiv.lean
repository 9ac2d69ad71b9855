/- The document's answers for layer 9 (poundageref09): Plan. -/
import Derived.Test.YtcbeocpllnmcjaaJRef9e
import Derived.Test.YtcbeocpllnmcjaaRows
import Derived.Test.YtcbeocpllnmcjaaJDatB
import Derived.Test.YtcbeocpllnmcjaaJPureS
import Derived.Test.YtcbeocpllnmcjaaJExact
import Derived.LoopTactic
import Derived.LoopN
import Derived.WalkKit
import Derived.ProofKit
import Derived.BigQuiet
import Derived.Deep.QuietTactic
import Derived.Lib.Strings
import Derived.Lib.Small
import Derived.Lib.Walk
import Derived.Lib.BitFns
import Derived.Deep.CutBlock
import Derived.Deep.CutRange
import Derived.Deep.DeepCutAuto
import Derived.Deep.LoopGhost
namespace Go.Proofs.Ytcbeocpllnmcjaa.P
open Go.RowKit Mm
def zC (p : Plan) : Int × Int × Int := if boundOf p = none then (6, p.line, p.col) else (0, 0, 0)
def zF9 (p : Plan) : Int × Int × Int := (firstE (chE p) (fun c => (c.line, c.col)) 0 p.charges).getD (zC p)
def zM (p : Plan) : Int × Int × Int := (firstE (feeE p) (fun f => (f.line, f.col)) 0 p.fees).getD (zF9 p)
theorem wrong_getD (p : Plan) : wrongOf p = if headE p = 0 then (firstE (meterE p) (fun m => (m.line, m.col)) 0 p.meters).getD (zM p) else (headE p, p.line, p.col) := by
  unfold wrongOf zM zF9 zC
  by_cases h : headE p = 0
  · rw [if_pos h, if_pos h]
    cases firstE (meterE p) (fun m => (m.line, m.col)) 0 p.meters with
    | some e => rfl
    | none =>
      show _ = (firstE (feeE p) (fun f => (f.line, f.col)) 0 p.fees).getD _
      cases firstE (feeE p) (fun f => (f.line, f.col)) 0 p.fees with
      | some e => rfl
      | none =>
        show _ = (firstE (chE p) (fun c => (c.line, c.col)) 0 p.charges).getD _
        cases firstE (chE p) (fun c => (c.line, c.col)) 0 p.charges <;> rfl
  · rw [if_neg h, if_neg h]
theorem num_range {d : Day} (h : DayOk d) : 0 ≤ dn d ∧ dn d ≤ 3652058 := by
  have := num_bound h
  unfold dn
  omega
end Go.Proofs.Ytcbeocpllnmcjaa.P
namespace Go.Proofs.Ytcbeocpllnmcjaa.R9
open Go.RowKit Go.Sort P Mm Md R6 L06
/-- What is told of a plan, where it isn't of its days. -/
structure Pl9 (p : Plan) : Prop where
  gd : Gd p
  cnt : p.meters.length ≤ 20000 ∧ p.fees.length ≤ 20000 ∧ p.charges.length ≤ 20000
  parts : ∀ c ∈ p.charges, c.tiers.length ≤ 100000 ∧ c.adjusts.length ≤ 100000
theorem chs_of {p : Plan} (h : Pl9 p) (e : firstE (chE p) (fun c => (c.line, c.col)) 0 p.charges = none) : Chs p := by
  rw [firstE_none] at e
  have key : ∀ c ∈ p.charges, (∃ i, meterIx p.meters c.meter = some i) ∧ c.block ≠ 0 := by
    intro c hc
    obtain ⟨j, hj, ej⟩ := List.getElem_of_mem hc
    have := e j c (by rw [List.getElem?_eq_getElem hj, ej])
    unfold chE at this
    split at this
    · cases this
    · split at this
      · cases this
      · rename_i h2
        refine ⟨?_, fun h0 => h2 (.inr (.inr h0))⟩
        cases hm : meterIx p.meters c.meter with
        | none => exact absurd (.inl hm) h2
        | some i => exact ⟨i, rfl⟩
  exact ⟨h.gd, h.cnt, h.parts, fun c hc => (key c hc).1, fun c hc => (key c hc).2⟩
end Go.Proofs.Ytcbeocpllnmcjaa.R9
/- What package date does. -/
namespace Go.Proofs.Ytcbeocpllnmcjaa.Dt
open Go.RowKit Go.Sort P
theorem leap_any (y : Int) (w : World) :
    Calls Try.prog 76 #[.int .i64 y] w fun e w' => e = .returned (.bool (leap y)) ∧ w' = w := by
  go_enter Try.func76, Try.ntmps76
  go_wp2
  all_goals
    go_ret
    refine ⟨ret_b ?_, rfl⟩
    unfold leap
    simp_all [tm0]
    try exact tmb _ _
theorem days_any (y m : Int) (w : World) :
    Calls Try.prog 58 #[.int .i64 y, .int .i64 m] w fun e w' => e = .returned (.int .i64 (days y m)) ∧ w' = w := by
  go_enter Try.func58, Try.ntmps58
  go_wp2_with (go_at_call 76; refine (leap_any _ _).mono ?_; rintro e w' ⟨rfl, rfl⟩)
  all_goals
    go_ret
    refine ⟨ret_i ?_, rfl⟩
    unfold days lp
    simp_all
    try omega
theorem yrs_any (y : Int) (w : World) (h0 : 1 ≤ y) (h1 : y ≤ 10001) :
    Calls Try.prog 57 #[.int .i64 y] w fun e w' => e = .returned (.int .i64 (yrs y)) ∧ w' = w := by
  go_enter Try.func57, Try.ntmps57
  go_wp2
  go_ret
  exact ⟨ret_i (by unfold yrs; rfl), rfl⟩
theorem good_any (y m d : Int) (w : World) :
    Calls Try.prog 56 #[dv y m d] w fun e w' => e = .returned (.bool (good y m d)) ∧ Below w.heap.size w w' := by
  unfold dv
  by_cases h : 1 ≤ y ∧ y ≤ 9999 ∧ 1 ≤ d
  · obtain ⟨h1, h2, h3⟩ := h
    have b1 : decide (1 ≤ y) = true := decide_eq_true h1
    have b2 : decide (y ≤ 9999) = true := decide_eq_true h2
    have b3 : decide (1 ≤ d) = true := decide_eq_true h3
    have g : good y m d = decide (d ≤ days y m) := by unfold good; rw [decide_eq_decide]; omega
    have G := hid g
    clear g
    go_enter Try.func56, Try.ntmps56
    go_wp2
    go_quiet ((go_at_call 58; exact Calls.quiet_of_same (days_any _ _ _)))
    go_wp2
    go_ret
    exact ⟨ret_b G.out.symm, bel_drewN ((Below.refl _ _).alloc (Nat.le_refl _) _) _⟩
  · have g : good y m d = false := by unfold good; rw [decide_eq_false_iff_not]; omega
    have G := hid g
    clear g
    rcases Decidable.em (1 ≤ y) with h1 | h1
    · rcases Decidable.em (y ≤ 9999) with h2 | h2
      · have h3 : ¬ 1 ≤ d := fun h3 => h ⟨h1, h2, h3⟩
        have b1 : decide (1 ≤ y) = true := decide_eq_true h1
        have b2 : decide (y ≤ 9999) = true := decide_eq_true h2
        have b3 : decide (1 ≤ d) = false := decide_eq_false h3
        clear h
        go_enter Try.func56, Try.ntmps56
        go_wp2
        go_quiet (fail)
        go_wp2
        go_ret
        exact ⟨ret_b G.out.symm, bel_drewN ((Below.refl _ _).alloc (Nat.le_refl _) _) _⟩
      · have b1 : decide (1 ≤ y) = true := decide_eq_true h1
        have b2 : decide (y ≤ 9999) = false := decide_eq_false h2
        clear h
        go_enter Try.func56, Try.ntmps56
        go_wp2
        go_quiet (fail)
        go_wp2
        go_ret
        exact ⟨ret_b G.out.symm, bel_drewN ((Below.refl _ _).alloc (Nat.le_refl _) _) _⟩
    · have b1 : decide (1 ≤ y) = false := decide_eq_false h1
      clear h
      go_enter Try.func56, Try.ntmps56
      go_wp2
      go_quiet (fail)
      go_wp2
      go_ret
      exact ⟨ret_b G.out.symm, bel_drewN ((Below.refl _ _).alloc (Nat.le_refl _) _) _⟩
theorem number_yes (y m d : Int) (w : World) (g : good y m d = true) :
    Calls Try.prog 44 #[dv y m d] w fun e w' => e = .returned (.tuple #[.int .i64 (num y m d), .bool true]) ∧ Below w.heap.size w w' := by
  unfold dv
  have cG := good_any y m d (w.alloc (.cells #[.int .i64 y, .int .i64 m, .int .i64 d] 24))
  rw [g] at cG
  obtain ⟨h0, h1, h2, h3, h4, h5⟩ := good_iff.1 g
  have hd := days_bound y m
  have hy := yrs_bound (y := y) (by omega) (by omega)
  go_enter Try.func44, Try.ntmps44
  go_wp2_with (go_at_call 56; refine cG.mono ?_; rintro e w1 ⟨rfl, bel⟩; have M := box3 bel; obtain ⟨c0, c1, c2, hlt, bel'⟩ := M)
  clear cG bel
  go_quiet ((go_at_call 57; exact Calls.quiet_of_same (yrs_any _ _ h0 (by omega))))
  go_wp2
  go_loop [4, 5] (fun n k => ∃ k' : Int, k = .int .i64 k' ∧ n = .int .i64 (yrs y + d - 1 + mon y k') ∧ 1 ≤ k' ∧ k' ≤ m) (fun _ k => (m - intOf k).toNat)
  case atStart => exact ⟨1, rfl, by rw [mon_1]; simp, by omega, h2⟩
  case round =>
    obtain ⟨k', rfl, rfl, k0, k1⟩ := hrel
    have hm := mon_bound (y := y) k0 (by omega)
    have hk := days_bound y k'
    by_cases hlt2 : k' < m
    · have hs := mon_step (y := y) k0 (by omega)
      go_wp2_with (go_at_call 58; refine (days_any _ _ _).mono ?_; rintro e w' ⟨rfl, rfl⟩)
      go_round
      case rel => exact ⟨k' + 1, rfl, by rw [hs, Int.add_assoc], by omega, by omega⟩
      case measure => simp [intOf]; omega
    · obtain rfl : k' = m := by omega
      go_wp2
      go_ret2
      exact ⟨ret_2 (vi (by unfold num; omega)) rfl, bel_drewN bel' _⟩
end Go.Proofs.Ytcbeocpllnmcjaa.Dt
/- Plain facts on rows of whole numbers: sums from the left, the least and the greatest one. No program is named here. -/
namespace Go.Proofs.Ytcbeocpllnmcjaa.P
open Go.RowKit
/-- The elements as cells: what a walk asks. -/
def Cells (w : World) (b off : Nat) (xs : List Int) : Prop := ∀ i, i < xs.length → w.cell? ⟨b, off + i, none⟩ = some (.int .i64 (xs.getD i 0))
theorem Cells.later {w w' : World} {b off : Nat} {xs : List Int} (h : Cells w b off xs) {B : Nat} (hb : Below B w w') (hB : b < B) : Cells w' b off xs :=
  fun i hi => by rw [hb.cell (p := ⟨b, off + i, none⟩) hB]; exact h i hi
theorem drop_step {xs : List Int} {k : Nat} (h : k < xs.length) : xs.drop k = xs.getD k 0 :: xs.drop (k + 1) := by
  rw [List.drop_eq_getElem_cons h, List.getD_eq_getElem?_getD, List.getElem?_eq_getElem h]; rfl
/-- The best one so far, and on: by a way of telling what is better. -/
def bestOf (lt : Int → Int → Bool) (m : Int) : List Int → Int
  | [] => m
  | x :: r => bestOf lt (if lt x m = true then x else m) r
def ltB (a b : Int) : Bool := decide (a < b)
def gtB (a b : Int) : Bool := decide (b < a)
theorem bestOf_end (lt : Int → Int → Bool) (m : Int) {xs : List Int} {k : Nat} (h : xs.length ≤ k) : bestOf lt m (xs.drop k) = m := by
  rw [List.drop_eq_nil_of_le h]; rfl
theorem bestOf_yes {lt : Int → Int → Bool} {m : Int} {xs : List Int} {k : Nat} (h : k < xs.length) (hi : lt (xs.getD k 0) m = true) : bestOf lt m (xs.drop k) = bestOf lt (xs.getD k 0) (xs.drop (k + 1)) := by
  rw [drop_step h]; simp only [bestOf, if_pos hi]
theorem bestOf_no {lt : Int → Int → Bool} {m : Int} {xs : List Int} {k : Nat} (h : k < xs.length) (hi : lt (xs.getD k 0) m = false) : bestOf lt m (xs.drop k) = bestOf lt m (xs.drop (k + 1)) := by
  rw [drop_step h]; simp only [bestOf, hi]; rfl
end Go.Proofs.Ytcbeocpllnmcjaa.P
/- What exact.Sum, Least and Most answer, of all rows of whole numbers. -/
namespace Go.Proofs.Ytcbeocpllnmcjaa.Ex
open Go.RowKit P
theorem least_better (a b : Int) (w : World) :
    Calls Try.prog 69 #[.int .i64 a, .int .i64 b] w fun e w' => e = .returned (.bool (ltB a b)) ∧ w = w' := by
  go_enter Try.func69, Try.ntmps69
  go_wp2
  go_ret
  exact ⟨rfl, rfl⟩
theorem most_better (a b : Int) (w : World) :
    Calls Try.prog 70 #[.int .i64 a, .int .i64 b] w fun e w' => e = .returned (.bool (gtB a b)) ∧ w = w' := by
  go_enter Try.func70, Try.ntmps70
  go_wp2
  go_ret
  exact ⟨rfl, rfl⟩
set_option maxHeartbeats 400000 in
theorem best_many_least (b off cap : Nat) (x : Int) (r : List Int) (w : World) (hc : Cells w b off (x :: r)) (hl : r.length ≤ 1000000) (_hcap : r.length + 1 ≤ cap) (h1 : ¬ cap = 1) :
    Calls Try.prog 68 #[.func (.func 69) #[] #[], .slice (some ⟨b, off, none⟩) (r.length + 1) cap] w fun e w' => e = .returned (.tuple #[.int .i64 (bestOf ltB x r), .bool true]) ∧ w = w' := by
  have HC : Hid (Cells w b (off + 1) r) := fun i hi => by
    have := hc (i + 1) (by simpa using hi)
    rw [show off + (i + 1) = off + 1 + i by omega] at this
    simpa using this
  have hc0 : w.cell? ⟨b, off, none⟩ = some (.int .i64 x) := hc 0 (by simp)
  clear hc
  have e0 : (((r.length : Nat) : Int) + 1 == 0) = false := by simp; omega
  go_enter Try.func68, Try.ntmps68
  go_wp2
  go_loop [6, 18] (fun t i => ∃ k : Nat, ∃ n : Int, k ≤ r.length ∧ i = .int .i64 k ∧ t = .int .i64 n ∧ Hid (bestOf ltB x r = bestOf ltB n (r.drop k))) (fun _ i => r.length - (intOf i).toNat)
  case atStart => exact ⟨0, x, Nat.zero_le _, rfl, rfl, rfl⟩
  case round =>
    obtain ⟨k, n, hk, rfl, rfl, H⟩ := hrel
    by_cases hlt : k < r.length
    · have hcell := HC.out k hlt
      generalize hv : r.getD k 0 = v at *
      have HV := hid hv
      clear hv
      rcases Bool.eq_false_or_eq_true (ltB v n) with hb | hb
      · have HB := hid hb
        clear hb
        go_wp2_with fail
        refine (least_better _ _ _).mono ?_; rintro e w' ⟨rfl, rfl⟩; rw [HB.out]
        go_wp2
        go_round
        case rel => exact ⟨k + 1, v, by omega, by go_num, rfl, by show _ = _; rw [H.out, bestOf_yes hlt (by rw [HV.out]; exact HB.out), HV.out]⟩
        case measure => simp [intOf]; omega
      · have HB := hid hb
        clear hb
        go_wp2_with fail
        refine (least_better _ _ _).mono ?_; rintro e w' ⟨rfl, rfl⟩; rw [HB.out]
        go_wp2
        go_round
        case rel => exact ⟨k + 1, n, by omega, by go_num, rfl, by show _ = _; rw [H.out, bestOf_no hlt (by rw [HV.out]; exact HB.out)]⟩
        case measure => simp [intOf]; omega
    · go_wp2
      go_ret2
      exact ⟨ret_2 (by rw [H.out]; exact (bestOf_end ltB n (by omega)).symm) rfl, rfl⟩
theorem best_one_least (b off : Nat) (x : Int) (w : World) (hc0 : w.cell? ⟨b, off, none⟩ = some (.int .i64 x)) :
    Calls Try.prog 68 #[.func (.func 69) #[] #[], .slice (some ⟨b, off, none⟩) 1 1] w fun e w' => e = .returned (.tuple #[.int .i64 x, .bool true]) ∧ w = w' := by
  go_enter Try.func68, Try.ntmps68
  go_wp2
  refine wp_loop_rounds 1 ?_
  rw [rounds_succ]
  go_wp2
  go_ret2
  exact ⟨rfl, rfl⟩
theorem best_any_least (b off cap : Nat) (x : Int) (r : List Int) (w : World) (hc : Cells w b off (x :: r)) (hl : r.length ≤ 1000000) (hcap : r.length + 1 ≤ cap) :
    Calls Try.prog 68 #[.func (.func 69) #[] #[], .slice (some ⟨b, off, none⟩) (r.length + 1) cap] w fun e w' => e = .returned (.tuple #[.int .i64 (bestOf ltB x r), .bool true]) ∧ w = w' := by
  by_cases h1 : cap = 1
  · have hr : r = [] := List.eq_nil_of_length_eq_zero (by omega)
    subst h1 hr
    exact best_one_least b off x w (hc 0 (by simp))
  · exact best_many_least b off cap x r w hc hl hcap h1
set_option maxHeartbeats 400000 in
theorem best_many_most (b off cap : Nat) (x : Int) (r : List Int) (w : World) (hc : Cells w b off (x :: r)) (hl : r.length ≤ 1000000) (_hcap : r.length + 1 ≤ cap) (h1 : ¬ cap = 1) :
    Calls Try.prog 68 #[.func (.func 70) #[] #[], .slice (some ⟨b, off, none⟩) (r.length + 1) cap] w fun e w' => e = .returned (.tuple #[.int .i64 (bestOf gtB x r), .bool true]) ∧ w = w' := by
  have HC : Hid (Cells w b (off + 1) r) := fun i hi => by
    have := hc (i + 1) (by simpa using hi)
    rw [show off + (i + 1) = off + 1 + i by omega] at this
    simpa using this
  have hc0 : w.cell? ⟨b, off, none⟩ = some (.int .i64 x) := hc 0 (by simp)
  clear hc
  have e0 : (((r.length : Nat) : Int) + 1 == 0) = false := by simp; omega
  go_enter Try.func68, Try.ntmps68
  go_wp2
  go_loop [6, 18] (fun t i => ∃ k : Nat, ∃ n : Int, k ≤ r.length ∧ i = .int .i64 k ∧ t = .int .i64 n ∧ Hid (bestOf gtB x r = bestOf gtB n (r.drop k))) (fun _ i => r.length - (intOf i).toNat)
  case atStart => exact ⟨0, x, Nat.zero_le _, rfl, rfl, rfl⟩
  case round =>
    obtain ⟨k, n, hk, rfl, rfl, H⟩ := hrel
    by_cases hlt : k < r.length
    · have hcell := HC.out k hlt
      generalize hv : r.getD k 0 = v at *
      have HV := hid hv
      clear hv
      rcases Bool.eq_false_or_eq_true (gtB v n) with hb | hb
      · have HB := hid hb
        clear hb
        go_wp2_with fail
        refine (most_better _ _ _).mono ?_; rintro e w' ⟨rfl, rfl⟩; rw [HB.out]
        go_wp2
        go_round
        case rel => exact ⟨k + 1, v, by omega, by go_num, rfl, by show _ = _; rw [H.out, bestOf_yes hlt (by rw [HV.out]; exact HB.out), HV.out]⟩
        case measure => simp [intOf]; omega
      · have HB := hid hb
        clear hb
        go_wp2_with fail
        refine (most_better _ _ _).mono ?_; rintro e w' ⟨rfl, rfl⟩; rw [HB.out]
        go_wp2
        go_round
        case rel => exact ⟨k + 1, n, by omega, by go_num, rfl, by show _ = _; rw [H.out, bestOf_no hlt (by rw [HV.out]; exact HB.out)]⟩
        case measure => simp [intOf]; omega
    · go_wp2
      go_ret2
      exact ⟨ret_2 (by rw [H.out]; exact (bestOf_end gtB n (by omega)).symm) rfl, rfl⟩
theorem best_one_most (b off : Nat) (x : Int) (w : World) (hc0 : w.cell? ⟨b, off, none⟩ = some (.int .i64 x)) :
    Calls Try.prog 68 #[.func (.func 70) #[] #[], .slice (some ⟨b, off, none⟩) 1 1] w fun e w' => e = .returned (.tuple #[.int .i64 x, .bool true]) ∧ w = w' := by
  go_enter Try.func68, Try.ntmps68
  go_wp2
  refine wp_loop_rounds 1 ?_
  rw [rounds_succ]
  go_wp2
  go_ret2
  exact ⟨rfl, rfl⟩
theorem best_any_most (b off cap : Nat) (x : Int) (r : List Int) (w : World) (hc : Cells w b off (x :: r)) (hl : r.length ≤ 1000000) (hcap : r.length + 1 ≤ cap) :
    Calls Try.prog 68 #[.func (.func 70) #[] #[], .slice (some ⟨b, off, none⟩) (r.length + 1) cap] w fun e w' => e = .returned (.tuple #[.int .i64 (bestOf gtB x r), .bool true]) ∧ w = w' := by
  by_cases h1 : cap = 1
  · have hr : r = [] := List.eq_nil_of_length_eq_zero (by omega)
    subst h1 hr
    exact best_one_most b off x w (hc 0 (by simp))
  · exact best_many_most b off cap x r w hc hl hcap h1
theorem least_any (b off cap : Nat) (x : Int) (r : List Int) (w : World) (hc : Cells w b off (x :: r)) (hl : r.length ≤ 1000000) (hcap : r.length + 1 ≤ cap) :
    Calls Try.prog 50 #[.slice (some ⟨b, off, none⟩) (r.length + 1) cap] w fun e w' => e = .returned (.tuple #[.int .i64 (bestOf ltB x r), .bool true]) ∧ w = w' := by
  have HC := hid hc
  clear hc
  go_enter Try.func50, Try.ntmps50
  go_wp2_with fail
  refine (best_any_least _ _ _ x r _ HC.out hl hcap).mono ?_; rintro e w' ⟨rfl, rfl⟩
  go_wp2
  go_ret2
  exact ⟨rfl, rfl⟩
theorem most_any (b off cap : Nat) (x : Int) (r : List Int) (w : World) (hc : Cells w b off (x :: r)) (hl : r.length ≤ 1000000) (hcap : r.length + 1 ≤ cap) :
    Calls Try.prog 51 #[.slice (some ⟨b, off, none⟩) (r.length + 1) cap] w fun e w' => e = .returned (.tuple #[.int .i64 (bestOf gtB x r), .bool true]) ∧ w = w' := by
  have HC := hid hc
  clear hc
  go_enter Try.func51, Try.ntmps51
  go_wp2_with fail
  refine (best_any_most _ _ _ x r _ HC.out hl hcap).mono ?_; rintro e w' ⟨rfl, rfl⟩
  go_wp2
  go_ret2
  exact ⟨rfl, rfl⟩
end Go.Proofs.Ytcbeocpllnmcjaa.Ex
/- What math/bits answers in this program: Mul64, Len64, LeadingZeros64: contracts over the walked program. -/
namespace Go.Proofs.Ytcbeocpllnmcjaa.Bt
open Go.RowKit P
theorem mask_any {n : Int} : bits .and .u64 (IntKind.u64.wrap n) 4294967295 = IntKind.u64.wrap n % 4294967296 := and32 (by rw [u64_mod]; omega) (by rw [u64_mod]; omega)
/-- The product's upper half, out of four products of halves. -/
theorem upper_half (X Y : Int) (x0 : 0 ≤ X) (x1 : X < 18446744073709551616) (y0 : 0 ≤ Y) (y1 : Y < 18446744073709551616) :
    IntKind.u64.wrap (IntKind.u64.wrap (IntKind.u64.wrap (X / 4294967296 * (Y / 4294967296)) + IntKind.u64.wrap (IntKind.u64.wrap (X / 4294967296 * (Y % 4294967296)) + IntKind.u64.wrap (X % 4294967296 * (Y % 4294967296)) / 4294967296) / 4294967296) +
      IntKind.u64.wrap (IntKind.u64.wrap (IntKind.u64.wrap (X / 4294967296 * (Y % 4294967296)) + IntKind.u64.wrap (X % 4294967296 * (Y % 4294967296)) / 4294967296) % 4294967296 + IntKind.u64.wrap (X % 4294967296 * (Y / 4294967296))) / 4294967296) = X * Y / 18446744073709551616 := by
  have le : ∀ a b : Int, 0 ≤ a → a ≤ 4294967295 → 0 ≤ b → b ≤ 4294967295 → 0 ≤ a * b ∧ a * b ≤ 18446744065119617025 := fun a b h1 h2 h3 h4 => by
    have h5 := Int.mul_le_mul h2 h4 h3 (by omega : (0 : Int) ≤ 4294967295)
    exact ⟨Int.mul_nonneg h1 h3, by omega⟩
  have e : X * Y = X / 4294967296 * (Y / 4294967296) * 18446744073709551616 + (X / 4294967296 * (Y % 4294967296) + X % 4294967296 * (Y / 4294967296)) * 4294967296 + X % 4294967296 * (Y % 4294967296) := by
    have hx := Int.mul_ediv_add_emod X 4294967296
    have hy := Int.mul_ediv_add_emod Y 4294967296
    have key : ∀ a b c d : Int, (4294967296 * a + b) * (4294967296 * c + d) = a * c * 18446744073709551616 + (a * d + b * c) * 4294967296 + b * d := by intro a b c d; grind
    have := key (X / 4294967296) (X % 4294967296) (Y / 4294967296) (Y % 4294967296)
    rw [hx, hy] at this
    exact this
  have p1 := le (X / 4294967296) (Y / 4294967296) (by omega) (by omega) (by omega) (by omega)
  have p2 := le (X / 4294967296) (Y % 4294967296) (by omega) (by omega) (by omega) (by omega)
  have p3 := le (X % 4294967296) (Y / 4294967296) (by omega) (by omega) (by omega) (by omega)
  have p4 := le (X % 4294967296) (Y % 4294967296) (by omega) (by omega) (by omega) (by omega)
  rw [e]
  generalize X / 4294967296 * (Y / 4294967296) = A at *
  generalize X / 4294967296 * (Y % 4294967296) = B at *
  generalize X % 4294967296 * (Y / 4294967296) = C at *
  generalize X % 4294967296 * (Y % 4294967296) = D at *
  simp only [u64_mod]
  clear e le x0 x1 y0 y1
  omega
theorem mul64_int (X Y : Int) (x0 : 0 ≤ X) (x1 : X < 18446744073709551616) (y0 : 0 ≤ Y) (y1 : Y < 18446744073709551616) (w : World) :
    Calls Try.prog 63 #[.int .u64 X, .int .u64 Y] w fun e w' => e = .returned (.tuple #[.int .u64 (X * Y / 18446744073709551616), .int .u64 (IntKind.u64.wrap (X * Y))]) ∧ w = w' := by
  have E := hid (upper_half X Y x0 x1 y0 y1)
  have EX := hid (and32 x0 x1)
  have EY := hid (and32 y0 y1)
  clear x0 x1 y0 y1
  go_enter Try.func63, Try.ntmps63
  go_wp2
  rw [EX.out, EY.out, mask_any, E.out]
  go_ret2
  exact ⟨rfl, rfl⟩
theorem mul64_any (x y : Nat) (hx : x < 18446744073709551616) (hy : y < 18446744073709551616) (w : World) :
    Calls Try.prog 63 #[.int .u64 x, .int .u64 y] w fun e w' => e = .returned (.tuple #[.int .u64 (hiN (x * y)), .int .u64 (loN (x * y))]) ∧ w = w' := by
  have h := mul64_int x y (by omega) (by omega) (by omega) (by omega) w
  have e1 : (x : Int) * y / 18446744073709551616 = (hiN (x * y) : Int) := by rw [← Int.natCast_mul]; unfold hiN; omega
  have e2 : IntKind.u64.wrap ((x : Int) * y) = (loN (x * y) : Int) := by rw [← Int.natCast_mul, u64_mod]; unfold loN; omega
  rw [e1, e2] at h
  exact h
theorem tab_len (n : Nat) (h : n < Lib.len8tab.size) : (Lib.len8tab[n]'h).toNat = Lib.bitLen n := by
  have h2 : n < 256 := by rw [Lib.len8tab_size] at h; exact h
  have e := Lib.len8_eq ⟨n, h2⟩
  simp only [Lib.len8, Int.toNat_natCast, ByteArray.getElem?_lt' _ _ h, Option.getD_some] at e
  omega
theorem tab_le (n : Nat) (h : n < Lib.len8tab.size) : Lib.bitLen n ≤ 8 := by
  have h2 : n < 256 := by rw [Lib.len8tab_size] at h; exact h
  exact Lib.bitLen_le8 ⟨n, h2⟩
theorem len_close {k : Nat} {x d : Int} {e : Int} (h : d.toNat < Lib.len8tab.size) (hk : e = k) (h1 : x ≤ 18446744073709551615) (h0 : 0 ≤ x) (hx : 2 ^ k ≤ x.toNat) (hd : d.toNat = x.toNat / 2 ^ k) (k56 : k ≤ 56) :
    wrap64 (e + wrap64 ((Lib.len8tab[d.toNat]'h).toNat : Int)) = (Lib.bitLen x.toNat : Int) := by
  rw [tab_len, Lib.bitLen_shift k x.toNat hx (by omega), ← hd]
  have := tab_le _ h
  unfold wrap64
  omega
theorem len_close0 {x : Int} (h : x.toNat < Lib.len8tab.size) : wrap64 (wrap64 ((Lib.len8tab[x.toNat]'h).toNat : Int)) = (Lib.bitLen x.toNat : Int) := by
  rw [tab_len]
  have := tab_le _ h
  unfold wrap64
  omega
set_option maxHeartbeats 4000000 in
set_option maxRecDepth 100000 in
theorem len64_int (x : Int) (w : World) (h0 : 0 ≤ x) (h1 : x ≤ 18446744073709551615) :
    Calls Try.prog 83 #[.int .u64 x] w fun e w' => e = .returned (.int .i64 (Lib.bitLen x.toNat)) ∧ w = w' := by
  have hs := Lib.len8tab_size
  go_enter Try.func83, Try.ntmps83
  go_wp2
  all_goals first
    | (exfalso; omega)
    | (go_ret
       refine ⟨congrArg Ending.returned (congrArg (Value.int IntKind.i64) ?_), rfl⟩
       first
         | exact len_close0 _
         | exact len_close (k := 56) _ rfl h1 h0 (by omega) (by omega) (by omega)
         | exact len_close (k := 48) _ rfl h1 h0 (by omega) (by omega) (by omega)
         | exact len_close (k := 40) _ rfl h1 h0 (by omega) (by omega) (by omega)
         | exact len_close (k := 32) _ rfl h1 h0 (by omega) (by omega) (by omega)
         | exact len_close (k := 24) _ rfl h1 h0 (by omega) (by omega) (by omega)
         | exact len_close (k := 16) _ rfl h1 h0 (by omega) (by omega) (by omega)
         | exact len_close (k := 8) _ rfl h1 h0 (by omega) (by omega) (by omega))
theorem len_bounds (x : Nat) (hx : x < 2 ^ 64) (h0 : x ≠ 0) : ∃ k, Lib.bitLen x = k + 1 ∧ 2 ^ k ≤ x ∧ x < 2 ^ (k + 1) := by
  induction x using Nat.strongRecOn with
  | ind x ih =>
    by_cases h1 : x = 1
    · subst h1; exact ⟨0, by decide, by decide, by decide⟩
    · obtain ⟨k, e, l, u⟩ := ih (x / 2) (by omega) (by omega) (by omega)
      refine ⟨k + 1, by rw [Lib.bitLen_half x h0 hx, e]; omega, ?_, ?_⟩
      · rw [Nat.pow_succ] at *; omega
      · rw [Nat.pow_succ] at *; omega
/-- How many noughts lead a number of 64 bits. -/
def lz (x : Nat) : Nat := 64 - Lib.bitLen x
theorem lz_le (x : Nat) (hx : x < 2 ^ 64) (h0 : x ≠ 0) : lz x ≤ 63 := by
  obtain ⟨k, e, _, _⟩ := len_bounds x hx h0
  unfold lz; omega
theorem lz_norm (x : Nat) (hx : x < 2 ^ 64) (h0 : x ≠ 0) : 2 ^ 63 ≤ x * 2 ^ lz x ∧ x * 2 ^ lz x < 2 ^ 64 := by
  obtain ⟨k, e, l, u⟩ := len_bounds x hx h0
  have hk : k < 64 := by
    rcases Nat.lt_or_ge k 64 with h | h
    · exact h
    · exact absurd (Nat.le_trans (Nat.pow_le_pow_right (by omega) h) l) (by omega)
  have e1 : lz x = 63 - k := by unfold lz; omega
  rw [e1]
  have p1 : (2 : Nat) ^ 63 = 2 ^ k * 2 ^ (63 - k) := by rw [← Nat.pow_add]; congr 1; omega
  have p2 : (2 : Nat) ^ 64 = 2 ^ (k + 1) * 2 ^ (63 - k) := by rw [← Nat.pow_add]; congr 1; omega
  rw [p1, p2]
  exact ⟨Nat.mul_le_mul_right _ l, Nat.mul_lt_mul_of_pos_right u (Nat.pow_pos (by omega))⟩
theorem lead_any (x : Int) (w : World) (h0 : 0 ≤ x) (h1 : x ≤ 18446744073709551615) :
    Calls Try.prog 78 #[.int .u64 x] w fun e w' => e = .returned (.int .i64 (64 - (Lib.bitLen x.toNat : Int))) ∧ w = w' := by
  have hl : Lib.bitLen x.toNat ≤ 64 := Lib.bitLen_le _ _ (Nat.le_refl _) (by omega)
  have E : Hid (wrap64 (64 - (Lib.bitLen x.toNat : Int)) = 64 - (Lib.bitLen x.toNat : Int)) := by show _ = _; unfold wrap64; omega
  clear hl
  go_enter Try.func78, Try.ntmps78
  go_wp2_with (go_at_call 83; refine (len64_int _ _ h0 h1).mono ?_; rintro e w' ⟨rfl, rfl⟩)
  go_ret
  exact ⟨by rw [E.out]; rfl, rfl⟩
theorem lead_ex (x : Int) (w : World) (h0 : 0 < x) (h1 : x ≤ 18446744073709551615) :
    Calls Try.prog 78 #[.int .u64 x] w fun e w' => ∃ s : Nat, s ≤ 63 ∧ 9223372036854775808 ≤ x * 2 ^ s ∧ x * 2 ^ s < 18446744073709551616 ∧ e = .returned (.int .i64 s) ∧ w = w' := by
  have hx : x.toNat < 2 ^ 64 := by omega
  have hn : x.toNat ≠ 0 := by omega
  have hl : Lib.bitLen x.toNat ≤ 64 := Lib.bitLen_le _ _ (Nat.le_refl _) hx
  have h2 := lz_norm x.toNat hx hn
  have e2 : ((x.toNat * 2 ^ lz x.toNat : Nat) : Int) = x * 2 ^ lz x.toNat := by
    rw [Int.natCast_mul, Int.natCast_pow, Int.toNat_of_nonneg (by omega)]; rfl
  refine (lead_any x w (by omega) h1).mono ?_
  rintro e w' ⟨rfl, rfl⟩
  refine ⟨lz x.toNat, lz_le _ hx hn, by omega, by omega, ?_, rfl⟩
  rw [show ((lz x.toNat : Nat) : Int) = 64 - (Lib.bitLen x.toNat : Int) by unfold lz; omega]
end Go.Proofs.Ytcbeocpllnmcjaa.Bt
/- What math/bits.Div64 answers in this program: the quotient and the rest of 128 bits by 64. -/
namespace Go.Proofs.Ytcbeocpllnmcjaa.Bt
open Go.RowKit P
theorem div64_low (lo y : Int) (w : World) (h2 : 0 < y) (h3 : y ≤ 18446744073709551615) (h4 : 0 ≤ lo) (h5 : lo ≤ 18446744073709551615) :
    Calls Try.prog 65 #[.int .u64 0, .int .u64 lo, .int .u64 y] w fun e w' => e = .returned (.tuple #[.int .u64 (lo / y), .int .u64 (lo % y)]) ∧ ∃ n, w' = w.drewN n := by
  have e1 : (y == 0) = false := by simp; omega
  have e2 : decide (y ≤ 0) = false := by simp; omega
  have d1 : lo.tdiv y = lo / y := Int.tdiv_eq_ediv_of_nonneg h4
  have d2 : lo.tmod y = lo % y := Int.tmod_eq_emod_of_nonneg h4
  have d3 : 0 ≤ lo / y := Int.ediv_nonneg h4 (by omega)
  have d4 : lo / y ≤ lo := Int.ediv_le_self _ h4
  have D1 : Hid (IntKind.u64.wrap (lo.tdiv y) = lo / y) := by show _ = _; rw [d1]; exact u64_in d3 (by omega)
  have D2 := hid d2
  clear d1 d2 d3 d4 h3 h4 h5
  go_enter Try.func65, Try.ntmps65
  go_wp2
  go_quiet (fail)
  go_wp2
  go_ret2
  exact ⟨by rw [D1.out, D2.out]; rfl, _, rfl⟩
set_option maxHeartbeats 1000000 in
theorem div64_big (hi lo y : Int) (w : World) (h1 : 0 < hi) (h2 : hi < y) (h3 : y ≤ 18446744073709551615) (h4 : 0 ≤ lo) (h5 : lo ≤ 18446744073709551615) :
    Calls Try.prog 65 #[.int .u64 hi, .int .u64 lo, .int .u64 y] w fun e w' => e = .returned (.tuple #[.int .u64 ((hi * 18446744073709551616 + lo) / y), .int .u64 ((hi * 18446744073709551616 + lo) % y)]) ∧ w = w' := by
  have e1 : (y == 0) = false := by simp; omega
  have e2 : decide (y ≤ hi) = false := by simp; omega
  have e3 : (hi == 0) = false := by simp; omega
  go_enter Try.func65, Try.ntmps65
  go_upto_block 0 with (go_at_call 78; refine (lead_ex _ _ (by omega) h3).mono ?_; rintro e w' ⟨s, hs, n1, n2, rfl, rfl⟩)
  obtain ⟨u, y1, y0, c1, c0, f1, f2, f3, f4, f5, f6, f7, f8, f9, g1, g2, g3, g4, g5, g6, g7, g8⟩ := div_front h1 h2 h4 h5 hs n1 n2
  rw [f1, f2, f3, f4, f5]
  have F7 := hid f7
  have F6 := hid f6
  have N1 := hid n1
  have N2 := hid n2
  have d1 : IntKind.u64.wrap (u.tdiv y1) = u / y1 := by
    rw [Int.tdiv_eq_ediv_of_nonneg f8]
    exact u64_in (Int.ediv_nonneg f8 (by omega)) (by have := Int.ediv_le_self y1 f8; omega)
  have d2 : IntKind.u64.wrap (u - IntKind.u64.wrap (u / y1 * y1)) = u % y1 := by
    have a1 := Int.mul_ediv_add_emod u y1
    have a2 := Int.emod_nonneg u (show y1 ≠ 0 by omega)
    have a3 := Int.emod_lt_of_pos u (show 0 < y1 by omega)
    rw [Int.mul_comm] at a1
    rw [u64_mod, u64_mod]
    omega
  rw [d1, d2]
  obtain ⟨Q1, R1, q1, q2, q3⟩ : ∃ Q R : Int, u * 4294967296 + c1 = Q * (y1 * 4294967296 + y0) + R ∧ 0 ≤ R ∧ R < y1 * 4294967296 + y0 :=
    ⟨(u * 4294967296 + c1) / (y1 * 4294967296 + y0), (u * 4294967296 + c1) % (y1 * 4294967296 + y0), by have := Int.mul_ediv_add_emod (u * 4294967296 + c1) (y1 * 4294967296 + y0); rw [Int.mul_comm] at this; omega, Int.emod_nonneg _ (by omega), Int.emod_lt_of_pos _ (by omega)⟩
  have S1 : Hid (Step u y1 y0 c1 Q1) := ⟨g1, g2, g3, g4, g5, g6, f8, by omega, by omega, by omega⟩
  rw [f6] 
  clear f1 f2 f3 f4 f5 f6 f7 d1 d2 n1 n2
  go_cut [15, 16] (fun q _r wx => q = .int .u64 Q1 ∧ w = wx)
  case first =>
    go_wp2_with fail
    go_loop [15, 16] (fun q r => ∃ q' r' : Int, q = .int .u64 q' ∧ r = .int .u64 r' ∧ Hid (Guess u y1 y0 c1 Q1 q' r')) (fun q _ => (intOf q).toNat)
    case atStart => exact ⟨_, _, rfl, rfl, S1.out.start⟩
    case round =>
      obtain ⟨q, r, rfl, rfl, G⟩ := hrel
      have r0 := G.out.r0
      have r1 := G.out.r1
      have k0 := S1.out.small.1
      have k1 := G.out.le
      have k2 := G.out.top
      by_cases hq : 4294967296 ≤ q
      · have hlt := S1.out.big G.out hq
        by_cases hr : 4294967296 ≤ r + y1
        · have E := hid (G.out.last S1.out hlt hr)
          go_wp2
          go_meet
          exact ⟨by rw [E.out], rfl⟩
        · have G2 := hid (G.out.next S1.out hlt (by omega))
          go_wp2
          go_round
          case rel => exact ⟨q - 1, r + y1, rfl, rfl, G2.out⟩
          case measure => simp [intOf]; omega
      · obtain ⟨p0, p1, p2⟩ := S1.out.fits G.out (by omega)
        by_cases hc : 4294967296 * r + c1 < q * y0
        · have hlt := S1.out.yes G.out.eq hc
          by_cases hr : 4294967296 ≤ r + y1
          · have E := hid (G.out.last S1.out hlt hr)
            go_wp2
            go_meet
            exact ⟨by rw [E.out], rfl⟩
          · have G2 := hid (G.out.next S1.out hlt (by omega))
            go_wp2
            go_round
            case rel => exact ⟨q - 1, r + y1, rfl, rfl, G2.out⟩
            case measure => simp [intOf]; omega
        · have E := hid (G.out.done S1.out (by omega))
          go_wp2
          go_meet
          exact ⟨by rw [E.out], rfl⟩
  case rest =>
    obtain ⟨rfl, rfl⟩ := hcut
    go_upto_block 2 with fail
    have g9 := F6.out
    have g10 := N2.out
    rw [mid q1 q2 (by omega), quot_wrap q2 (by omega) (by omega), rest_wrap q2 (by omega) (by omega)]
    obtain ⟨Q2, R2, p1, p2, p3⟩ := cut_num (R1 * 4294967296 + c0) (y1 * 4294967296 + y0) (by omega)
    have S2 : Hid (Step R1 y1 y0 c0 Q2) := ⟨g1, g2, g3, g4, g7, g8, q2, q3, by omega, by omega⟩
    have P1 := hid p1
    have Q1' := hid q1
    clear p1 q1 g9 g10
    go_cut [18, 16] (fun q _r wx => q = .int .u64 Q2 ∧ w = wx)
    case first =>
      go_wp2_with fail
      go_loop [18, 16] (fun q r => ∃ q' r' : Int, q = .int .u64 q' ∧ r = .int .u64 r' ∧ Hid (Guess R1 y1 y0 c0 Q2 q' r')) (fun q _ => (intOf q).toNat)
      case atStart => exact ⟨_, _, rfl, rfl, S2.out.start⟩
      case round =>
        obtain ⟨q, r, rfl, rfl, G⟩ := hrel
        have r0 := G.out.r0
        have r1 := G.out.r1
        have k0 := S2.out.small.1
        have k1 := G.out.le
        have k2 := G.out.top
        by_cases hq : 4294967296 ≤ q
        · have hlt := S2.out.big G.out hq
          by_cases hr : 4294967296 ≤ r + y1
          · have E := hid (G.out.last S2.out hlt hr)
            go_wp2
            go_meet
            exact ⟨by rw [E.out], rfl⟩
          · have G2 := hid (G.out.next S2.out hlt (by omega))
            go_wp2
            go_round
            case rel => exact ⟨q - 1, r + y1, rfl, rfl, G2.out⟩
            case measure => simp [intOf]; omega
        · obtain ⟨p0, p1, p2⟩ := S2.out.fits G.out (by omega)
          by_cases hc : 4294967296 * r + c0 < q * y0
          · have hlt := S2.out.yes G.out.eq hc
            by_cases hr : 4294967296 ≤ r + y1
            · have E := hid (G.out.last S2.out hlt hr)
              go_wp2
              go_meet
              exact ⟨by rw [E.out], rfl⟩
            · have G2 := hid (G.out.next S2.out hlt (by omega))
              go_wp2
              go_round
              case rel => exact ⟨q - 1, r + y1, rfl, rfl, G2.out⟩
              case measure => simp [intOf]; omega
          · have E := hid (G.out.done S2.out (by omega))
            go_wp2
            go_meet
            exact ⟨by rw [E.out], rfl⟩
    case rest =>
      obtain ⟨rfl, rfl⟩ := hcut
      go_wp2
      have a1 := S1.out.small
      have a2 := S2.out.small
      have g9 := F6.out
      have g10 := N2.out
      obtain ⟨b1, b2⟩ := div_back (Int.pow_pos (by omega) : (0 : Int) < 2 ^ s) (by omega : 0 < y) F6.out F7.out Q1'.out P1.out p2 p3
      rw [quot_join a1.1 a1.2 a2.1 a2.2, mid P1.out p2 (by omega), b1, b2]
      go_ret2
      exact ⟨rfl, rfl⟩
theorem div64_any (hi lo y : Int) (w : World) (h1 : 0 ≤ hi) (h2 : hi < y) (h3 : y ≤ 18446744073709551615) (h4 : 0 ≤ lo) (h5 : lo ≤ 18446744073709551615) :
    Calls Try.prog 65 #[.int .u64 hi, .int .u64 lo, .int .u64 y] w fun e w' => e = .returned (.tuple #[.int .u64 ((hi * 18446744073709551616 + lo) / y), .int .u64 ((hi * 18446744073709551616 + lo) % y)]) ∧ ∃ n, w' = w.drewN n := by
  by_cases h : hi = 0
  · subst h
    rw [Int.zero_mul, Int.zero_add]
    exact div64_low lo y w h2 h3 h4 h5
  · refine (div64_big hi lo y w (by omega) h2 h3 h4 h5).mono ?_
    rintro e w' ⟨rfl, rfl⟩
    exact ⟨rfl, 0, rfl⟩
end Go.Proofs.Ytcbeocpllnmcjaa.Bt
