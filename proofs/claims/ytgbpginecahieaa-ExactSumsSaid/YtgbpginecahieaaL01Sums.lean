/- Layer 1's law over rows: ExactSums: the law's body returns true. -/
import Derived.Test.YtgbpginecahieaaL01Alive
import Derived.Test.YtgbpginecahieaaRef1L
import Derived.OpenShut
namespace Go.Proofs.Ytgbpginecahieaa.L01
open Go.RowKit P Ex R1

theorem sums_long (a : Option Addr) (len cap : Nat) (w : World) (h : 200 < len) (hm : len ≤ 9223372036854775807) :
    Calls Try.prog 6 #[.slice a len cap] w fun e w' => e = .returned (.bool true) ∧ Below w.heap.size w w' := by
  have ht : decide ((200 : Int) < (len : Int)) = true := by simp; omega
  go_enter Try.func6, Try.ntmps6
  go_wp2_with fail
  refine (alive_any _).mono ?_; rintro e w' ⟨rfl, n, rfl⟩
  go_wp2
  go_ret
  exact ⟨rfl, below_drewN (Below.refl _ _) _⟩
theorem sums_none (a : Option Addr) (cap : Nat) (w : World) :
    Calls Try.prog 6 #[.slice a 0 cap] w fun e w' => e = .returned (.bool true) ∧ Below w.heap.size w w' := by
  go_enter Try.func6, Try.ntmps6
  go_wp2_with fail
  refine (alive_any _).mono ?_; rintro e w' ⟨rfl, n, rfl⟩
  go_wp2_with fail
  refine (Ex.sum_none _ _ _).mono ?_; rintro e w' ⟨rfl, rfl⟩
  go_wp2_with fail
  refine (R1.sum_none _ _ _).mono ?_; rintro e w' ⟨rfl, rfl⟩
  go_wp2_with fail
  refine (least_none _ _ _).mono ?_; rintro e w' ⟨rfl, rfl⟩
  go_wp2_with fail
  refine (most_none _ _ _).mono ?_; rintro e w' ⟨rfl, rfl⟩
  go_wp2
  go_ret
  exact ⟨rfl, below_drewN (Below.refl _ _) _⟩
set_option maxHeartbeats 1000000 in
theorem sums_some (b off cap : Nat) (x : Int) (r : List Int) (w : World) (hc : Cells w b off (x :: r)) (hx : allI64 (x :: r)) (hl : r.length + 1 ≤ 200) (hcap : r.length + 1 ≤ cap) :
    Calls Try.prog 6 #[.slice (some ⟨b, off, none⟩) (r.length + 1) cap] w fun e w' => e = .returned (.bool true) ∧ Below w.heap.size w w' := by
  have hb : b < w.heap.size := cell_block (hc 0 (by simp))
  have HC := hid hc
  have HX := hid hx
  have e0 : (((r.length : Nat) : Int) + 1 == 0) = false := by simp; omega
  have e2 : decide ((200 : Int) < ((r.length : Nat) : Int) + 1) = false := by simp; omega
  clear hc hx
  go_enter Try.func6, Try.ntmps6
  go_wp2_with fail
  refine (alive_any _).mono ?_; rintro e w' ⟨rfl, n, rfl⟩
  have HCn : Hid (Cells (w.drewN n) b off (x :: r)) := HC.out
  go_wp2_with fail
  refine (Ex.sum_any _ _ _ (x :: r) _ HCn.out HX.out (by simp; omega)).mono ?_; rintro e w' ⟨rfl, rfl⟩
  go_wp2_with fail
  refine (R1.sum_any _ _ _ (x :: r) _ HCn.out hb HX.out (by simp; omega)).mono ?_; rintro e w1 ⟨rfl, hb1⟩
  have B1 : Hid (Below w.heap.size w w1) := below_via (below_drewN (Below.refl _ _) _) hb1 (Nat.le_refl _)
  have HC1 : Hid (Cells w1 b off (x :: r)) := HC.out.later B1.out hb
  clear hb1
  go_wp2_with fail
  refine (least_any _ _ _ x r _ HC1.out (by omega) hcap).mono ?_; rintro e w' ⟨rfl, rfl⟩
  go_wp2_with fail
  refine (most_any _ _ _ x r _ HC1.out (by omega) hcap).mono ?_; rintro e w' ⟨rfl, rfl⟩
  have HL := hid (best_least x r)
  have HM := hid (best_most x r)
  generalize hL : bestOf ltB x r = L at *
  generalize hM : bestOf gtB x r = M at *
  clear hL hM
  go_wp2
  go_loop [11, 12, 67] (fun l h i => ∃ k : Nat, ∃ lo hi : Bool, k ≤ (x :: r).length ∧ i = .int .i64 k ∧ l = .bool lo ∧ h = .bool hi ∧ Hid (lo = met L (x :: r) k ∧ hi = met M (x :: r) k)) (fun _ _ i => (x :: r).length - (intOf i).toNat)
  case atStart => exact ⟨0, false, false, Nat.zero_le _, rfl, rfl, rfl, ⟨rfl, rfl⟩⟩
  case round =>
    obtain ⟨k, lo, hi, hk, rfl, rfl, rfl, H⟩ := hrel
    have hxl : (x :: r).length = r.length + 1 := rfl
    rw [hxl] at hk
    by_cases hlt : k < r.length + 1
    · have hcell := HC1.out k hlt
      have hmem : (x :: r).getD k 0 ∈ x :: r := by
        rw [List.getD_eq_getElem?_getD, List.getElem?_eq_getElem hlt]; exact List.getElem_mem hlt
      have hge : L ≤ (x :: r).getD k 0 := by
        rcases List.mem_cons.1 hmem with e | e
        · rw [e]; exact HL.out.2.1
        · exact HL.out.2.2 _ e
      have hle : (x :: r).getD k 0 ≤ M := by
        rcases List.mem_cons.1 hmem with e | e
        · rw [e]; exact HM.out.2.1
        · exact HM.out.2.2 _ e
      have S1 := hid (@met_step L (x :: r) k hlt)
      have S2 := hid (@met_step M (x :: r) k hlt)
      clear hmem hxl
      generalize (x :: r).getD k 0 = v at *
      have t1 : decide (v < L) = false := by simp; omega
      have t2 : decide (M < v) = false := by simp; omega
      cases lo <;> cases hi
      all_goals
        go_wp2
        go_round
        case rel => exact ⟨k + 1, _, _, by simp; omega, by go_num, rfl, rfl, ⟨by rw [S1.out, ← H.out.1]; simp, by rw [S2.out, ← H.out.2]; simp⟩⟩
        case measure => simp [intOf]; omega
    · have hk2 : k = (x :: r).length := by rw [hxl]; omega
      have f1 : lo = true := by
        rw [H.out.1, hk2]; refine met_all ?_
        rcases HL.out.1 with e | e
        · rw [e]; exact List.mem_cons_self
        · exact List.mem_cons_of_mem _ e
      have f2 : hi = true := by
        rw [H.out.2, hk2]; refine met_all ?_
        rcases HM.out.1 with e | e
        · rw [e]; exact List.mem_cons_self
        · exact List.mem_cons_of_mem _ e
      subst f1 f2
      clear hk2 hxl
      go_wp2
      go_ret
      exact ⟨rfl, B1.out⟩
theorem sums_walk (a : Option Addr) (len cap : Nat) (zs : List Int) (w : World) (h : IsRow .i64 w a len cap zs) :
    Calls Try.prog 6 #[.slice a len cap] w fun e w' => e = .returned (.bool true) ∧ Below w.heap.size w w' := by
  rcases h with ⟨rfl, rfl, rfl, rfl⟩ | ⟨ad, rfl, hl, hm, hz, hcell, hwf⟩
  · exact sums_none _ _ w
  · by_cases h2 : 200 < len
    · exact sums_long _ len cap w h2 (by unfold maxLen at hm; omega)
    · cases hxs : zs.take len with
      | nil =>
        have : len = 0 := by have e := congrArg List.length hxs; rw [List.length_take] at e; simp only [List.length_nil] at e; omega
        subst this
        exact sums_none _ _ w
      | cons x r =>
        have hlen : len = r.length + 1 := by have e := congrArg List.length hxs; rw [List.length_take] at e; simp only [List.length_cons] at e; omega
        obtain ⟨b, off, rfl, hc⟩ := ints_at hcell (by omega)
        subst hlen
        refine sums_some b off cap x r w ?_ ?_ (by omega) hl
        · intro i hi
          have hi' : i < r.length + 1 := hi
          rw [hc i (by omega), ← hxs]
          simp [List.getD_eq_getElem?_getD, hi']
        · intro n hn
          rw [← hxs] at hn
          exact i64_of_wf (hwf n (List.mem_of_mem_take hn))
end Go.Proofs.Ytgbpginecahieaa.L01
