/- What package decimal does: Text; all that the laws of layer 4 ask of it. -/
import Derived.Test.YtkjlcbjfnffpfaaDoorDecim3
import Derived.Test.YtkjlcbjfnffpfaaDoorL04
namespace Go.Proofs.YtkjlcbjfnffpfaaDoor.Dc
open Go.RowKit Go.Sort P Ex

theorem text_no (n places : Int) (w : World) (h : n < 0 ∨ places < 0 ∨ 9 < places) :
    Calls Tryd.prog 12 #[.int .i64 n, .int .i64 places] w fun e w' => e = .returned (.string ⟨#[]⟩) ∧ Below w.heap.size w w' := by
  have cG := fun W => good_any places W
  by_cases hn : n < 0
  · clear h cG
    go_enter Tryd.func12, Tryd.ntmps12
    go_wp2
    go_ret
    exact ⟨rfl, Below.refl _ _⟩
  · rw [decide_eq_false (by omega)] at cG
    clear h
    go_enter Tryd.func12, Tryd.ntmps12
    go_wp2_with (go_at_call 14; refine (cG _).mono ?_; rintro e w1 ⟨rfl, rfl⟩)
    go_ret
    exact ⟨rfl, Below.refl _ _⟩
/-- The quotient and the rest of a number by so many tens. -/
theorem div_tens {n : Int} {k : Nat} (hn : 0 ≤ n) : n.tdiv (10 ^ k) = ((n.toNat / 10 ^ k : Nat) : Int) ∧ n.tmod (10 ^ k) = ((n.toNat % 10 ^ k : Nat) : Int) := by
  obtain ⟨m, rfl⟩ : ∃ m : Nat, n = m := ⟨n.toNat, by omega⟩
  rw [Int.toNat_natCast, show ((10 : Int) ^ k) = ((10 ^ k : Nat) : Int) by norm_cast]
  exact ⟨by rw [Int.ofNat_tdiv], by rw [Int.ofNat_tmod]⟩
set_option maxHeartbeats 1000000 in
theorem text_yes (n places : Int) (w : World) (k : K w) (hn : 0 ≤ n) (hI : I64 n) (hp0 : 0 ≤ places) (hp1 : places ≤ 9) :
    Calls Tryd.prog 12 #[.int .i64 n, .int .i64 places] w fun e w' => e = .returned (.string ⟨(tx n.toNat places.toNat).toArray⟩) ∧ Below w.heap.size w w' := by
  have cG := fun W => good_any places W
  rw [decide_eq_true ⟨hp0, hp1⟩] at cG
  obtain ⟨p, rfl⟩ : ∃ p : Nat, places = p := ⟨places.toNat, by omega⟩
  have cT := fun W => tens_any 1 p W (by omega) (by unfold I64; omega) (by omega)
  have hpos : (0 : Int) < 10 ^ p := Int.pow_pos (by decide)
  have hle : (10 : Int) ^ p ≤ 1000000000 := by
    have : (10 : Nat) ^ p ≤ 10 ^ 9 := Nat.pow_le_pow_right (by decide) (by omega)
    have h2 : ((10 ^ p : Nat) : Int) ≤ ((10 ^ 9 : Nat) : Int) := by exact_mod_cast this
    simpa using h2
  rw [Int.one_mul] at cT
  have hoI : I64 ((10 : Int) ^ p) := by unfold I64; omega
  rw [cut64_t hoI, ok64_t hoI] at cT
  obtain ⟨hq, hr⟩ := @div_tens n p hn
  have hqn : n.toNat / 10 ^ p ≤ n.toNat := Nat.div_le_self _ _
  have hrn : n.toNat % 10 ^ p < 10 ^ p := Nat.mod_lt _ (Nat.pow_pos (by decide))
  have cast : ((10 ^ p : Nat) : Int) = (10 : Int) ^ p := by norm_cast
  rw [Int.toNat_natCast]
  obtain ⟨o, ho⟩ : ∃ o : Int, o = 10 ^ p := ⟨_, rfl⟩
  have hoN : 10 ^ p = o.toNat := by omega
  have fin1 := @tx_whole n.toNat p
  have fin2 := @tx_rest n.toNat p
  rw [hoN] at hq hr hqn hrn fin1 fin2
  rw [← ho] at cT hpos hle hq hr
  obtain ⟨q, hqq⟩ : ∃ q : Nat, q = n.toNat / o.toNat := ⟨_, rfl⟩
  obtain ⟨r, hrr⟩ : ∃ r : Nat, r = n.toNat % o.toNat := ⟨_, rfl⟩
  obtain ⟨X, hX⟩ : ∃ X, X = tx n.toNat p := ⟨_, rfl⟩
  rw [← hqq] at hq hqn fin1 fin2
  rw [← hrr] at hr hrn fin1 fin2
  rw [← hX] at fin1 fin2 ⊢
  unfold I64 at hI
  obtain ⟨qi, hqi⟩ : ∃ x : Int, x = (q : Int) := ⟨_, rfl⟩
  obtain ⟨ri, hri⟩ : ∃ x : Int, x = (r : Int) := ⟨_, rfl⟩
  rw [← hqi] at hq
  rw [← hri] at hr
  have hq0 : 0 ≤ qi := by omega
  have hq1 : qi ≤ 9223372036854775807 := by omega
  have hr0 : 0 ≤ ri := by omega
  have hr1 : ri ≤ 1000000000 := by omega
  have cI : ∀ W, K W → Calls Tryd.prog 22 #[.int .i64 qi] W fun e w' => e = .returned (.string ⟨(Lib.decDigits q).toArray⟩) ∧ Below W.heap.size W w' := fun W kW => by
    have := itoa_any qi W hq0 (by unfold I64; omega) kW.2
    rwa [show qi.toNat = q by omega] at this
  have cI2 : ∀ W, K W → Calls Tryd.prog 22 #[.int .i64 (o + ri)] W fun e w' => e = .returned (.string ⟨(Lib.decDigits (o.toNat + r)).toArray⟩) ∧ Below W.heap.size W w' := fun W kW => by
    have := itoa_any (o + ri) W (by omega) (by unfold I64; omega) kW.2
    rwa [show (o + ri).toNat = o.toNat + r by omega] at this
  obtain ⟨S, hS⟩ : ∃ S : ByteArray, S = ⟨(Lib.decDigits q).toArray⟩ := ⟨_, rfl⟩
  obtain ⟨R, hR⟩ : ∃ R : ByteArray, R = ⟨(Lib.decDigits (o.toNat + r)).toArray⟩ := ⟨_, rfl⟩
  simp only [← hS] at cI
  simp only [← hR] at cI2
  have hSz : S.size ≤ 20 := by rw [hS, ba_size, Lib.decDigits_length]; exact Lib.nDigits_le20 _ (by omega)
  have hRz : R.size ≤ 20 := by rw [hR, ba_size, Lib.decDigits_length]; exact Lib.nDigits_le20 _ (by omega)
  have hR1 : 1 ≤ R.size := by rw [hR, ba_size, Lib.decDigits_length]; exact Lib.nDigits_pos _
  obtain ⟨B, hB⟩ : ∃ B : ByteArray, B = R.extract 1 R.size := ⟨_, rfl⟩
  have hBl : B.data.toList = (Lib.decDigits (o.toNat + r)).drop 1 := by rw [hB, Lib.extract_from, hR, mk_list, mk_list]
  have hBz : B.size ≤ 20 := by rw [hB, ByteArray.size_extract]; omega
  have cR := fun W => trim_any B W (by omega)
  rw [hBl] at cR
  obtain ⟨T, hT⟩ : ∃ T : ByteArray, T = ⟨(Lib.trimRightB ((Lib.decDigits (o.toNat + r)).drop 1) 48).toArray⟩ := ⟨_, rfl⟩
  rw [← hT] at cR
  have e0 : (o == 0) = false := by simp; omega
  have hTz : T.size ≤ 20 := by
    rw [hT, ba_size]
    unfold Lib.trimRightB
    rw [List.length_reverse]
    have := (List.dropWhile_sublist (· == (48 : UInt8)) (l := ((Lib.decDigits (o.toNat + r)).drop 1).reverse)).length_le
    rw [List.length_reverse, List.length_drop] at this
    have h2 := Lib.decDigits_length (o.toNat + r)
    have h3 := Lib.nDigits_le20 (o.toNat + r) (by omega)
    omega
  by_cases h0 : r = 0
  · have F : Hid (S = ⟨X.toArray⟩) := hid (by rw [hS, fin1 h0])
    obtain rfl : ri = 0 := by omega
    clear hS hR hRz hR1 hB hBl hBz cR hT hTz fin1 fin2 hX hqq hrr hI cI2 hoN cast ho hoI hqn hrn hqi hri h0
    go_enter Tryd.func12, Tryd.ntmps12
    go_wp2_with (first
      | (go_at_call 14; refine (cG _).mono ?_; rintro e w1 ⟨rfl, rfl⟩)
      | (go_at_call 17; refine (cT _).mono ?_; rintro e w1 ⟨rfl, rfl⟩))
    have qI := fun d os => Calls.regrown_of (cI _ (k.later (below_regrown w d os)))
    refine wp_region_quiet_below (by kernel_rfl) (by kernel_rfl) ?_
    repeat (go_big_quiet_step (first | (go_at_call 22; exact qI _ _)))
    refine wpQuiet_nil ?_
    intro _ hw'
    obtain ⟨⟨dq, osq⟩, hw''⟩ := hw'
    subst hw''
    go_wp2
    go_ret
    exact ⟨ret_s F.out, below_regrown w dq osq⟩
  · have F : Hid (S ++ ⟨#[46]⟩ ++ T = ⟨X.toArray⟩) := hid (by
      rw [hS, hT, show (⟨#[46]⟩ : ByteArray) = ⟨([46] : List UInt8).toArray⟩ from rfl, ba_append, ba_append, fin2 h0])
    have hrE : (ri == 0) = false := by simp; omega
    have hB' := hB.symm
    have hn1 : ¬ 9223372036854775807 < S.size + 1 := by omega
    have hn2 : ¬ 9223372036854775807 < S.size + 1 + T.size := by omega
    clear hS hR hB hBl hT fin1 fin2 hX hqq hrr hI hoN cast ho hoI hqn hrn hqi hri h0
    go_enter Tryd.func12, Tryd.ntmps12
    go_wp2_with (first
      | (go_at_call 14; refine (cG _).mono ?_; rintro e w1 ⟨rfl, rfl⟩)
      | (go_at_call 17; refine (cT _).mono ?_; rintro e w1 ⟨rfl, rfl⟩))
    have qI := fun d os => Calls.regrown_of (cI _ (k.later (below_regrown w d os)))
    refine wp_region_quiet_below (by kernel_rfl) (by kernel_rfl) ?_
    repeat (go_big_quiet_step (first | (go_at_call 22; exact qI _ _)))
    refine wpQuiet_nil ?_
    intro _ hw'
    obtain ⟨⟨dq, osq⟩, hw''⟩ := hw'
    subst hw''
    have b1 := below_regrown w dq osq
    have k1 := k.later b1
    go_wp2_with (first
      | (go_at_call 22; refine (cI2 _ k1).mono ?_; rintro e w2 ⟨rfl, b2⟩; have B2 := b1.trans (b2.mono b1.size))
      | (go_at_call 23; refine (cR _).mono ?_; rintro e w3 ⟨rfl, b3⟩; have B3 := B2.trans (b3.mono B2.size)))
    go_ret
    exact ⟨ret_s F.out, B3⟩
theorem dec : L04.Dec K where
  keep := fun k b => k.later b
  of := fun s w k hs => of_any s w k hs
  parse := fun s places most w k hs _ _ => parse_any s places most w k hs
  no := fun n places w _ _ _ h => text_no n places w h
  yes := fun n places w k h0 hI hp0 hp1 => text_yes n places w k h0 hI hp0 hp1
end Go.Proofs.YtkjlcbjfnffpfaaDoor.Dc
