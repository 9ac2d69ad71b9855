/- What each call of package round answers, for all numbers of 64 bits. -/
import Derived.Test.YtjgogpaedaffkaaJPureS
import Derived.Test.YtjgogpaedaffkaaJDiv
import Derived.Test.YtjgogpaedaffkaaJRef2
import Derived.Test.YtjgogpaedaffkaaJLexJ
import Derived.Test.YtjgogpaedaffkaaJMid
import Derived.BigQuiet
import Derived.Deep.CutBlock
import Derived.Deep.CutRange
import Derived.Deep.DeepCutAuto
import Derived.Deep.RegionHeldLaw
import Derived.Deep.RegionHeld3
import Derived.Test.YtjgogpaedaffkaaJRef6
import Derived.Deep.MidRow
import Derived.Deep.WholeRow
import Derived.Deep.Onto
import Derived.OwnWalk
import Derived.Lib.SliceRun
import Derived.Lib.QuietBelowIn
import Derived.Sort.QuietTacIn
namespace Go.Proofs.Ytjgogpaedaffkaa.P
end Go.Proofs.Ytjgogpaedaffkaa.P
namespace Go.Proofs.Ytjgogpaedaffkaa.Ex
end Go.Proofs.Ytjgogpaedaffkaa.Ex
namespace Go.Proofs.Ytjgogpaedaffkaa.Bt
end Go.Proofs.Ytjgogpaedaffkaa.Bt
namespace Go.Proofs.Ytjgogpaedaffkaa.Mm
end Go.Proofs.Ytjgogpaedaffkaa.Mm
namespace Go.Proofs.Ytjgogpaedaffkaa.R6
end Go.Proofs.Ytjgogpaedaffkaa.R6
namespace Go.Proofs.Ytjgogpaedaffkaa.Tl
end Go.Proofs.Ytjgogpaedaffkaa.Tl
namespace Go.Proofs.Ytjgogpaedaffkaa.L06
end Go.Proofs.Ytjgogpaedaffkaa.L06
namespace Go.Proofs.Ytjgogpaedaffkaa.Md
end Go.Proofs.Ytjgogpaedaffkaa.Md
namespace Go.Proofs.Ytjgogpaedaffkaa.Te
end Go.Proofs.Ytjgogpaedaffkaa.Te
namespace Go.Proofs.Ytjgogpaedaffkaa.Co
end Go.Proofs.Ytjgogpaedaffkaa.Co
namespace Go.Proofs.Ytjgogpaedaffkaa.R10
end Go.Proofs.Ytjgogpaedaffkaa.R10
namespace Go.Proofs.Ytjgogpaedaffkaa.R11
end Go.Proofs.Ytjgogpaedaffkaa.R11
namespace Go.Proofs.Ytjgogpaedaffkaa.L11
end Go.Proofs.Ytjgogpaedaffkaa.L11
namespace Go.Proofs.Ytjgogpaedaffkaa.Rd
open Go.RowKit P Ex Bt
theorem size_any (n : Int) (w : World) (hn : I64 n) :
    Calls Try.prog 72 #[.int .i64 n] w fun e w' => e = .returned (.int .u64 (n.natAbs : Int)) ∧ w = w' := by
  by_cases h : n < 0
  · have E : Hid (IntKind.u64.wrap (-IntKind.u64.wrap n) = (n.natAbs : Int)) := by
      show _ = _; rw [u64_mod, u64_mod]; unfold I64 at hn; omega
    clear hn
    go_enter Try.func72, Try.ntmps72
    go_wp2
    go_ret
    exact ⟨by rw [← E.out]; rfl, rfl⟩
  · have E : Hid (n = (n.natAbs : Int)) := by show _ = _; omega
    have h1 : 0 ≤ n := by omega
    have h2 : n ≤ 9223372036854775807 := by unfold I64 at hn; omega
    clear hn
    go_enter Try.func72, Try.ntmps72
    go_wp2
    go_ret
    exact ⟨by rw [← E.out]; rfl, rfl⟩
theorem good_any (mode : Int) (w : World) :
    Calls Try.prog 70 #[.int .i64 mode] w fun e w' => e = .returned (.bool (goodm mode)) ∧ w = w' := by
  by_cases h : goodm mode = true
  · rw [h]
    have hg := (goodm_iff mode).1 h
    have hm : mode = 0 ∨ mode = 1 ∨ mode = 2 ∨ mode = 3 := by omega
    clear hg h
    rcases hm with rfl | rfl | rfl | rfl
    all_goals
      go_enter Try.func70, Try.ntmps70
      go_wp2
      go_ret
      exact ⟨rfl, rfl⟩
  · have e : goodm mode = false := by simpa using h
    rw [e]
    have hg : ¬ (0 ≤ mode ∧ mode ≤ 3) := fun k => h ((goodm_iff mode).2 k)
    have e0 : (mode == 0) = false := by simp; omega
    have e1 : (mode == 1) = false := by simp; omega
    have e2 : (mode == 2) = false := by simp; omega
    have e3 : (mode == 3) = false := by simp; omega
    clear hg h e
    go_enter Try.func70, Try.ntmps70
    go_wp2
    go_ret
    exact ⟨rfl, rfl⟩
theorem signed_any (n : Int) (b : Bool) (w : World) (h0 : 0 ≤ n) (h1 : n < 18446744073709551616) :
    Calls Try.prog 75 #[.int .u64 n, .bool b] w fun e w' => e = .returned (.tuple #[.int .i64 (cut64 (sgnB b n)), .bool (ok64 (sgnB b n))]) ∧ w = w' := by
  cases b
  · show Calls _ _ _ _ fun e w' => e = .returned (.tuple #[.int .i64 (cut64 n), .bool (ok64 n)]) ∧ w = w'
    by_cases h : n < 9223372036854775808
    · have hi : I64 n := by unfold I64; omega
      rw [cut64_t hi, ok64_t hi]
      have E := hid (wrap_in hi)
      clear hi
      go_enter Try.func75, Try.ntmps75
      go_wp2
      go_ret2
      exact ⟨by first | rfl | (rw [← E.out]; rfl), rfl⟩
    · have hi : ¬ I64 n := by unfold I64; omega
      rw [cut64_f hi, ok64_f hi]
      clear hi
      go_enter Try.func75, Try.ntmps75
      go_wp2
      go_ret2
      exact ⟨rfl, rfl⟩
  · show Calls _ _ _ _ fun e w' => e = .returned (.tuple #[.int .i64 (cut64 (-n)), .bool (ok64 (-n))]) ∧ w = w'
    by_cases h : n ≤ 9223372036854775808
    · have hi : I64 (-n) := by unfold I64; omega
      rw [cut64_t hi, ok64_t hi]
      have E : Hid (wrap64 (IntKind.u64.wrap (-n)) = -n) := by show _ = _; rw [u64_mod]; unfold wrap64; omega
      clear hi
      go_enter Try.func75, Try.ntmps75
      go_wp2
      go_ret2
      exact ⟨by rw [E.out]; rfl, rfl⟩
    · have hi : ¬ I64 (-n) := by unfold I64; omega
      rw [cut64_f hi, ok64_f hi]
      clear hi
      go_enter Try.func75, Try.ntmps75
      go_wp2
      go_ret2
      exact ⟨rfl, rfl⟩
theorem outward_any (q r c mode : Int) (b : Bool) (w : World) (h0 : 0 ≤ q) (h1 : q < 18446744073709551616) (r0 : 0 ≤ r) (r1 : r < 9223372036854775808) :
    Calls Try.prog 74 #[.int .u64 q, .int .u64 r, .int .u64 c, .bool b, .int .i64 mode] w fun e w' => e = .returned (.bool (outB q r c b mode)) ∧ w = w' := by
  unfold outB
  by_cases hr : r = 0
  · subst hr
    rw [if_pos rfl]
    go_enter Try.func74, Try.ntmps74
    go_wp2
    go_ret
    exact ⟨rfl, rfl⟩
  · rw [if_neg hr]
    have e0 : (r == 0) = false := by simpa using hr
    by_cases m0 : mode = 0
    · subst m0
      rw [if_pos rfl]
      go_enter Try.func74, Try.ntmps74
      go_wp2
      go_ret
      exact ⟨rfl, rfl⟩
    · rw [if_neg m0]
      have e1 : (mode == 0) = false := by simpa using m0
      by_cases m1 : mode = 1
      · subst m1
        rw [if_pos rfl]
        go_enter Try.func74, Try.ntmps74
        go_wp2
        go_ret
        exact ⟨rfl, rfl⟩
      · rw [if_neg m1]
        have e2 : (mode == 1) = false := by simpa using m1
        have t0 : 0 ≤ 2 * r := by omega
        have t1 : 2 * r < 18446744073709551616 := by omega
        by_cases hc : 2 * r = c
        · have e3 : (2 * r == c) = true := by simpa using hc
          rw [if_neg (by omega)]
          by_cases m2 : mode = 2
          · subst m2
            rw [if_pos rfl]
            clear hc
            go_enter Try.func74, Try.ntmps74
            go_wp2
            go_ret
            exact ⟨rfl, rfl⟩
          · rw [if_neg m2]
            have e4 : (mode == 2) = false := by simpa using m2
            have E : Hid ((q.tmod 2 == 1) = decide (q % 2 = 1)) := by
              show _ = _; rw [Int.tmod_eq_emod_of_nonneg h0]; rfl
            clear hc
            go_enter Try.func74, Try.ntmps74
            go_wp2
            go_ret
            exact ⟨by first | (rw [← E.out]; rfl) | rfl, rfl⟩
        · have e3 : (2 * r == c) = false := by simpa using hc
          rw [if_pos hc]
          clear hc
          go_enter Try.func74, Try.ntmps74
          go_wp2
          go_ret
          exact ⟨rfl, rfl⟩
theorem below_sgn (a b : Int) : sgnB (!(decide (a < 0) == decide (b < 0))) ((a.natAbs * b.natAbs : Nat) : Int) = a * b := by
  rw [← Int.natAbs_mul]
  by_cases ha : a < 0
  · by_cases hb : b < 0
    · rw [decide_eq_true ha, decide_eq_true hb]
      have := Int.mul_pos_of_neg_of_neg ha hb
      show ((a * b).natAbs : Int) = _; omega
    · rw [decide_eq_true ha, decide_eq_false hb]
      have := Int.mul_nonpos_of_nonpos_of_nonneg (show a ≤ 0 by omega) (show 0 ≤ b by omega)
      show -((a * b).natAbs : Int) = _; omega
  · by_cases hb : b < 0
    · rw [decide_eq_false ha, decide_eq_true hb]
      have := Int.mul_nonpos_of_nonneg_of_nonpos (show 0 ≤ a by omega) (show b ≤ 0 by omega)
      show -((a * b).natAbs : Int) = _; omega
    · rw [decide_eq_false ha, decide_eq_false hb]
      have := Int.mul_nonneg (show 0 ≤ a by omega) (show 0 ≤ b by omega)
      show ((a * b).natAbs : Int) = _; omega
set_option maxHeartbeats 1000000 in
theorem muldiv_good (a b c mode : Int) (w : World) (ha : I64 a) (hb : I64 b) (hc : I64 c) (hc0 : 0 < c) (hm : goodm mode = true) :
    Calls Try.prog 42 #[.int .i64 a, .int .i64 b, .int .i64 c, .int .i64 mode] w fun e w' => e = .returned (.tuple #[.int .i64 (cut64 (rnd (a * b) c mode)), .bool (ok64 (rnd (a * b) c mode))]) ∧ ∃ n, w' = w.drewN n := by
  have hx : a.natAbs < 18446744073709551616 := by unfold I64 at ha; omega
  have hy : b.natAbs < 18446744073709551616 := by unfold I64 at hb; omega
  have c1 : c ≤ 9223372036854775807 := by unfold I64 at hc; omega
  have e0 : decide (c ≤ 0) = false := by simp; omega
  have HA := hid ha
  have HB := hid hb
  have HM := hid hm
  clear ha hb hc
  go_enter Try.func42, Try.ntmps42
  go_wp2_with fail
  refine (good_any _ _).mono ?_; rintro e w1 ⟨rfl, rfl⟩; rw [HM.out]
  go_wp2_with fail
  refine (size_any _ _ HA.out).mono ?_; rintro e w1 ⟨rfl, rfl⟩
  go_wp2_with fail
  refine (size_any _ _ HB.out).mono ?_; rintro e w1 ⟨rfl, rfl⟩
  go_wp2_with fail
  refine (mul64_any _ _ hx hy _).mono ?_; rintro e w1 ⟨rfl, rfl⟩
  have hs := below_sgn a b
  generalize hmm : a.natAbs * b.natAbs = m at *
  obtain ⟨t, ht⟩ : ∃ t, (!(decide (a < 0) == decide (b < 0))) = t := ⟨_, rfl⟩
  rw [ht] at hs
  have HS := hid hs
  have HL : Hid (loN m < 18446744073709551616) := loN_lt m
  clear hmm hs
  by_cases hq : c ≤ (hiN m : Int)
  · have hbig := big_quot hc0 hq
    have hn : ¬ I64 (rnd (a * b) c mode) := by
      rw [← HS.out]
      exact rnd_sgn_big t hc0 HM.out (by split <;> omega)
    have HN := hid hn
    clear hbig hn
    go_wp2
    go_ret2
    exact ⟨Ex.ret_2 (cut64_f HN.out).symm (ok64_f HN.out).symm, 0, rfl⟩
  · have hsm := small_quot hc0 hq
    have r0 := Int.emod_nonneg (m : Int) (show c ≠ 0 by omega)
    have r1 := Int.emod_lt_of_pos (m : Int) hc0
    go_wp2_with fail
    refine (div64_any _ _ _ _ (by omega) (by omega) (by omega) (by omega) (by have := HL.out; omega)).mono ?_; rintro e w1 ⟨rfl, n, rfl⟩
    rw [hi_lo_int]
    have hout := out_rnd (m := (m : Int)) t hc0 HM.out
    rw [HS.out] at hout
    generalize hqq : (m : Int) / c = q at *
    generalize hrr : (m : Int) % c = r at *
    have HO := hid hout
    clear hqq hrr hout
    go_wp2_with fail
    obtain ⟨q0, q1⟩ := hsm
    refine (outward_any q r c mode t _ q0 q1 r0 (by omega)).mono ?_; rintro e w1 ⟨rfl, rfl⟩
    generalize outB q r c t mode = o at *
    cases o
    · have HP : Hid (sgnB t q = rnd (a * b) c mode) := by show _ = _; rw [← HO.out]; simp
      clear HO
      go_wp2_with fail
      refine (signed_any q t _ q0 q1).mono ?_; rintro e w1 ⟨rfl, rfl⟩
      go_wp2
      go_ret2
      exact ⟨Ex.ret_2 (by rw [HP.out]) (by rw [HP.out]), n, rfl⟩
    · by_cases hl : q = 18446744073709551615
      · have HN : Hid (¬ I64 (rnd (a * b) c mode)) := by
          show ¬ _
          rw [← HO.out, hl]
          unfold I64 sgnB
          cases t <;> simp
        clear HO
        have e1 : (q == 18446744073709551615) = true := by simpa using hl
        clear hl
        go_wp2
        go_ret2
        exact ⟨Ex.ret_2 (cut64_f HN.out).symm (ok64_f HN.out).symm, n, rfl⟩
      · have HP : Hid (sgnB t (q + 1) = rnd (a * b) c mode) := by show _ = _; rw [← HO.out]; simp
        clear HO
        have e1 : (q == 18446744073709551615) = false := by simpa using hl
        have q2 : q + 1 < 18446744073709551616 := by omega
        clear hl
        go_wp2_with fail
        refine (signed_any (q + 1) t _ (by omega) q2).mono ?_; rintro e w1 ⟨rfl, rfl⟩
        go_wp2
        go_ret2
        exact ⟨Ex.ret_2 (by rw [HP.out]) (by rw [HP.out]), n, rfl⟩
theorem muldiv_any (a b c mode : Int) (w : World) (ha : I64 a) (hb : I64 b) (hc : I64 c) :
    Calls Try.prog 42 #[.int .i64 a, .int .i64 b, .int .i64 c, .int .i64 mode] w fun e w' => e = .returned (.tuple #[.int .i64 (mdn (a * b) c mode), .bool (mdb (a * b) c mode)]) ∧ ∃ n, w' = w.drewN n := by
  by_cases hc0 : 0 < c
  · by_cases hm : goodm mode = true
    · rw [mdn_good hc0 hm, mdb_good hc0 hm]
      exact muldiv_good a b c mode w ha hb hc hc0 hm
    · have hm' : goodm mode = false := by simpa using hm
      rw [mdn_m hm', mdb_m hm']
      have e0 : decide (c ≤ 0) = false := by simp; omega
      have HM := hid hm'
      clear hm hm' ha hb hc
      go_enter Try.func42, Try.ntmps42
      go_wp2_with fail
      refine (good_any _ _).mono ?_; rintro e w1 ⟨rfl, rfl⟩; rw [HM.out]
      go_wp2
      go_ret2
      exact ⟨rfl, 0, rfl⟩
  · rw [mdn_c (by omega), mdb_c (by omega)]
    have e0 : decide (c ≤ 0) = true := by simp; omega
    clear ha hb hc
    go_enter Try.func42, Try.ntmps42
    go_wp2
    go_ret2
    exact ⟨rfl, 0, rfl⟩
theorem div_any (a c mode : Int) (w : World) (ha : I64 a) (hc : I64 c) :
    Calls Try.prog 25 #[.int .i64 a, .int .i64 c, .int .i64 mode] w fun e w' => e = .returned (.tuple #[.int .i64 (mdn a c mode), .bool (mdb a c mode)]) ∧ ∃ n, w' = w.drewN n := by
  have h := fun w => muldiv_any a 1 c mode w ha (by unfold I64; omega) hc
  rw [Int.mul_one] at h
  have H := hid h
  clear h ha hc
  go_enter Try.func25, Try.ntmps25
  go_wp2_with fail
  refine (H.out _).mono ?_; rintro e w1 ⟨rfl, n, rfl⟩
  go_wp2
  go_ret2
  exact ⟨rfl, n, rfl⟩
/-- What Up answers. -/
def upn (a c : Int) : Int := if mdb a c 1 = true then cut64 (mdn a c 1 * c) else 0
def upb (a c : Int) : Bool := mdb a c 1 && ok64 (mdn a c 1 * c)
theorem i64_mdn (p c mode : Int) : I64 (mdn p c mode) := by
  unfold mdn; split
  · exact i64_cut _
  · exact i64_0
theorem up_any (a c : Int) (w : World) (ha : I64 a) (hc : I64 c) :
    Calls Try.prog 66 #[.int .i64 a, .int .i64 c] w fun e w' => e = .returned (.tuple #[.int .i64 (upn a c), .bool (upb a c)]) ∧ ∃ n, w' = w.drewN n := by
  have HA := hid ha
  have HC := hid hc
  have HI := hid (i64_mdn a c 1)
  clear ha hc
  rcases Bool.eq_false_or_eq_true (mdb a c 1) with hy | hy
  · rw [show upn a c = cut64 (mdn a c 1 * c) by unfold upn; rw [hy]; rfl, show upb a c = ok64 (mdn a c 1 * c) by unfold upb; rw [hy]; rfl]
    have HY := hid hy
    clear hy
    go_enter Try.func66, Try.ntmps66
    go_wp2_with fail
    refine (div_any a c 1 _ HA.out HC.out).mono ?_; rintro e w1 ⟨rfl, n, rfl⟩; rw [HY.out]
    go_wp2_with fail
    refine (Ex.mul_any _ c _ HI.out HC.out).mono ?_; rintro e w1 ⟨rfl, rfl⟩
    go_wp2
    go_ret2
    exact ⟨rfl, n, rfl⟩
  · rw [show upn a c = 0 by unfold upn; rw [hy]; rfl, show upb a c = false by unfold upb; rw [hy]; rfl]
    have HY := hid hy
    clear hy
    go_enter Try.func66, Try.ntmps66
    go_wp2_with fail
    refine (div_any a c 1 _ HA.out HC.out).mono ?_; rintro e w1 ⟨rfl, n, rfl⟩; rw [HY.out]
    go_wp2
    go_ret2
    exact ⟨rfl, n, rfl⟩
end Go.Proofs.Ytjgogpaedaffkaa.Rd
/- The laws of layer 6: plans with one thing otherwise, in memory. -/
namespace Go.Proofs.Ytjgogpaedaffkaa.L06
open Go.RowKit Go.Sort P Mm R6
theorem info_tier : (Try.prog.info? 48).map (fun i => (i.zero, i.size, i.bytes)) = some (some (.agg (tierC ⟨0, 0⟩).toArray), 2, 16) := by kernel_rfl
def h0 : Hd := ⟨none, 0, none, 0⟩
section
variable {w : World} {base : Nat} {r : Plan} {ma : Option Addr} {mc : Nat} {fa : Option Addr} {fc cb cc : Nat} {hs : List Hd} {j : Nat} {c c' : Charge} {d d' : Hd}
end
end Go.Proofs.Ytjgogpaedaffkaa.L06
/- Package tree, walked: rows that a call makes; Clone; a charge without its place. -/
namespace Go.Proofs.Ytjgogpaedaffkaa.Te
open Go.RowKit Go.Sort P Mm R6 Tl L06
theorem flat_split {α β : Type} {cells : α → List β} {n : Nat} (hn : ∀ x, (cells x).length = n) : ∀ (xs : List α) (j : Nat) (u : β), (xs.flatMap cells)[j]? = some u → ∃ q x i, xs[q]? = some x ∧ (cells x)[i]? = some u ∧ j = q * n + i
  | [], j, u, h => by simp at h
  | a :: r, j, u, h => by
    rw [List.flatMap_cons] at h
    by_cases hj : j < n
    · rw [List.getElem?_append_left (by rw [hn]; exact hj)] at h
      exact ⟨0, a, j, rfl, h, by omega⟩
    · rw [List.getElem?_append_right (by rw [hn]; omega), hn] at h
      obtain ⟨q, x, i, h1, h2, h3⟩ := flat_split hn r (j - n) u h
      refine ⟨q + 1, x, i, by simpa using h1, h2, ?_⟩
      rw [Nat.succ_mul]
      omega
theorem row_cells {α : Type} {n : Nat} {cells : α → List Value} {ok : α → Prop} {hn : ∀ x, (cells x).length = n} {w : World} {b o len cap : Nat} {xs : List α} (h : Row (leaf n cells ok hn) w (some ⟨b, o, none⟩) len cap xs) :
    ∀ j u, (xs.flatMap cells)[j]? = some u → w.cell? ((⟨b, o, none⟩ : Addr).add j) = some u := fun j u hj => by
  obtain ⟨q, x, i, h1, h2, h3⟩ := flat_split hn xs j u hj
  obtain ⟨b', o', cs, e, _, ⟨e2, _⟩, h4⟩ := h.at h1
  simp only [Option.some.injEq, Addr.mk.injEq, and_true] at e
  obtain ⟨rfl, rfl⟩ := e
  subst e2
  have := h4 i u h2
  rw [add_plain, h3, ← Nat.add_assoc]
  exact this
theorem one_tier : ∀ (ts : List Tier), ∀ u ∈ ts.flatMap tierC, u.oneCell' = true := fun ts u hu => by
  obtain ⟨t, _, h⟩ := List.mem_flatMap.1 hu
  simp only [tierC, List.mem_cons, List.not_mem_nil, or_false] at h
  rcases h with rfl | rfl <;> rfl
set_option maxHeartbeats 2000000 in
set_option maxRecDepth 100000 in
theorem cloneT_any (ts : List Tier) (ta : Option Addr) (tc : Nat) (w : World) (h : Row tTier w ta ts.length tc ts) (hl : ts.length ≤ 100000) :
    Calls Try.prog 67 #[.slice ta ts.length tc] w fun e w' => ∃ v, e = .returned v ∧ w'.ownsRow w.heap.size 48 2 v ts.length (ts.flatMap tierC) ∧ Below w.heap.size w w' := by
  have q : ∀ (w : World) (a : Option Addr) (n c n' c' : Nat), (binOp .eql 22 (.slice a n c) (.slice none n' c')).run Try.prog w = .ok (.bool a.isNone) w := fun w a n c n' c' => Lib.run_eql_slice_nil w _ _ a n c n' c' Try.underlying22
  cases ta with
  | none =>
    obtain rfl : ts = [] := by
      cases ts with
      | nil => rfl
      | cons a r => obtain ⟨b, o, e, _⟩ := h.lie (by simp); cases e
    clear h hl
    go_enter Try.func67, Try.ntmps67
    go_wp2
    go_ret
    exact ⟨_, rfl, World.ownsRow_nil .., Below.refl _ _⟩
  | some a =>
    obtain ⟨ti, hi, hz0, hz1, hz2⟩ := info_parts info_tier
    have hnews : ∀ (x : Obj) (j : Nat) (u : Value), (ts.flatMap tierC)[j]? = some u → (w.alloc x).cell? (a.add j) = some u := fun x j u hj => by
      obtain ⟨b, o, e, hlt, _⟩ := h.lie (fun e => by rw [e] at hj; simp at hj)
      obtain rfl := Option.some.inj e
      have := row_cells (h.alloc x) j u hj
      exact this
    have hfl : (ts.flatMap tierC).length = ts.length * 2 := flat_len (f := tierC) (n := 2) (fun _ => rfl) _
    have H := hid hnews
    have HF := hid hfl
    clear h hnews hfl
    go_enter Try.func67, Try.ntmps67
    go_wp2_with (at_builtin; refine wpList_append_own _ rfl _ _ 22 rfl w.heap.size 48 ti (.agg (tierC ⟨0, 0⟩).toArray) 2 16 Try.underlying22 hi hz0 hz1 hz2 rfl (by decide) _ _ _ rfl (World.ownsRow_made w #[] 0 (Nat.le_refl _) (Nat.zero_le _) rfl) a ts.length tc (ts.flatMap tierC) rfl ?c1 ?c2 ?c3 ?c4 ?c5 ?c6 ?_)
    case c1 => exact HF.out
    case c2 => exact H.out _
    case c3 => exact one_tier ts
    case c4 => unfold maxLen; omega
    case c5 => omega
    case c6 => simp
    intro v' w1 hown hgrow hnil
    clear hnil
    have hb : Below w.heap.size w w1 := ((Below.refl _ w).alloc (Nat.le_refl _) _).grown hgrow (by simp) (by intro k hk; simp [Value.ownBlock] at hk; omega)
    have ho : w1.ownsRow w.heap.size 48 2 v' ts.length (ts.flatMap tierC) := by simpa using hown
    clear hown hgrow
    go_wp2
    go_ret
    exact ⟨v', rfl, ho, hb⟩
end Go.Proofs.Ytjgogpaedaffkaa.Te
/- Package tiers, walked: how far a tier reaches; what is left of a quantity; the two functions that hand out steps. -/
namespace Go.Proofs.Ytjgogpaedaffkaa.Tg
open Go.RowKit Go.Sort Go.Shelf P Mm Md R6 Te Co R10 R11 L11
set_option maxHeartbeats 4000000 in
set_option maxRecDepth 100000 in
theorem reach_any (ts : List Tier) (ta : Option Addr) (tc : Nat) (i : Nat) (q : Int) (w : World) (h : Row tTier w ta ts.length tc ts) (hi : i < ts.length) (hl : ts.length ≤ 1000) :
    Calls Try.prog 93 #[.slice ta ts.length tc, .int .i64 (i : Int), .int .i64 q] w fun e w' => e = .returned (.int .i64 (reachP ts q i)) ∧ w' = w := by
  obtain ⟨t, ht⟩ : ∃ t, ts[i]? = some t := ⟨_, List.getElem?_eq_getElem hi⟩
  obtain ⟨b, o, e, lb, a0, a1, _⟩ := tier_at h ht
  have w1 : IntKind.i64.wrap ((ts.length : Int) - 1) = (ts.length : Int) - 1 := wrap_i (by unfold I64; omega)
  have tm := h.hmax
  have tcp := h.hcap
  subst e
  by_cases hk : i + 1 = ts.length
  · have z : decide ((i : Int) = (ts.length : Int) - 1) = true := decide_eq_true (by omega)
    have z' : ((i : Int) == (ts.length : Int) - 1) = true := by rw [beq_iff_eq]; omega
    have HR : Hid (reachP ts q i = q) := hid (by unfold reachP; rw [if_pos hk])
    clear h ht hk
    go_enter Try.func93, Try.ntmps93
    go_wp2
    go_ret
    exact ⟨by rw [HR.out]; rfl, rfl⟩
  · have z : decide ((i : Int) = (ts.length : Int) - 1) = false := decide_eq_false (by omega)
    have z' : ((i : Int) == (ts.length : Int) - 1) = false := by rw [beq_eq_false_iff_ne]; omega
    have HR : Hid (reachP ts q i = min q t.upto) := hid (by unfold reachP; rw [if_neg hk, ht]; rfl)
    clear h ht hk
    go_enter Try.func93, Try.ntmps93
    go_wp2
    go_ret
    exact ⟨by rw [HR.out]; rfl, rfl⟩
theorem up_lq {x : Prt} (g : GoodT x) {q : Int} (hq : I64 q) (h0 : 0 ≤ q) : I64 (max 0 (q - x.allowance)) ∧ Rd.upn (max 0 (q - x.allowance)) x.block = oV (lqO x q) ∧ Rd.upb (max 0 (q - x.allowance)) x.block = oB (lqO x q) := by
  obtain ⟨g0, g1⟩ := g.allow
  obtain ⟨g2, g3⟩ := g.block
  obtain ⟨N, hN⟩ : ∃ N, N = max 0 (q - x.allowance) := ⟨_, rfl⟩
  have n0 : 0 ≤ N := by omega
  have n1 : N ≤ 9223372036854775807 := by have := hq.2; omega
  have kk := up_in n0 n1 g2
  obtain ⟨k, hk⟩ : ∃ k, k = (N + x.block - 1) / x.block := ⟨_, rfl⟩
  rw [← hk] at kk
  have EL : lq x q = k * x.block := by rw [hk, hN]; rfl
  rw [← hN]
  have md : mdn N x.block 1 = k := by rw [mdn_good (by omega) (by decide), rnd_up (by omega), ← hk, cut64_t (by unfold I64; omega)]
  have mb : mdb N x.block 1 = true := by rw [mdb_good (by omega) (by decide), rnd_up (by omega), ← hk, ok64_t (by unfold I64; omega)]
  refine ⟨by unfold I64; omega, ?_, ?_⟩
  · unfold Rd.upn
    rw [mb, md, if_pos rfl]
    unfold lqO lqOk
    rw [decide_eq_true h0, Bool.true_and, EL]
    unfold cut64
    split <;> rfl
  · unfold Rd.upb
    rw [mb, md, Bool.true_and]
    unfold lqO lqOk
    rw [decide_eq_true h0, Bool.true_and, EL]
    split <;> simp_all [oB]
set_option maxHeartbeats 4000000 in
set_option maxRecDepth 100000 in
theorem quantity_any (x : Prt) (ta : Option Addr) (tc : Nat) (aa : Option Addr) (ac : Nat) (q : Int) (w : World) (hq : I64 q) (g : GoodT x) :
    Calls Try.prog 39 #[.agg #[.int .i64 x.mt, .int .i64 x.a, .int .i64 x.b, .int .i64 x.allowance, .int .i64 x.block, .int .i64 x.kind, .slice ta x.tiers.length tc, .int .i64 x.mode, .slice aa x.adjusts.length ac], .int .i64 q] w fun e w' => e = .returned (.tuple #[.int .i64 (oV (lqO x q)), .bool (oB (lqO x q))]) ∧ Below w.heap.size w w' := by
  obtain ⟨w1, hw1⟩ : ∃ W, W = w.alloc (.cells ([.int .i64 x.mt, .int .i64 x.a, .int .i64 x.b, .int .i64 x.allowance, .int .i64 x.block, .int .i64 x.kind, .slice ta x.tiers.length tc, .int .i64 x.mode, .slice aa x.adjusts.length ac] : List Value).toArray 25) := ⟨_, rfl⟩
  obtain ⟨k1, hk1⟩ : ∃ k, k = w.heap.size := ⟨_, rfl⟩
  have b1 : Below w.heap.size w w1 := by rw [hw1]; exact bel_alloc _ _
  have X1 : Box w1 k1 [.int .i64 x.mt, .int .i64 x.a, .int .i64 x.b, .int .i64 x.allowance, .int .i64 x.block, .int .i64 x.kind, .slice ta x.tiers.length tc, .int .i64 x.mode, .slice aa x.adjusts.length ac] := by rw [hw1, hk1]; exact Box.new w _ 25
  have c3 := X1.cell 3 _ rfl
  have c4 := X1.cell 4 _ rfl
  have l1 := X1.lt
  have HX := hid X1
  have HB1 := hid b1
  have HW := hid hw1
  have HK := hid hk1
  obtain ⟨V, hV⟩ : ∃ V, V = oV (lqO x q) := ⟨_, rfl⟩
  obtain ⟨O, hO⟩ : ∃ O, O = oB (lqO x q) := ⟨_, rfl⟩
  rw [← hV, ← hO]
  have EV := hid hV
  have EO := hid hO
  have HQ := hid hq
  have GD := hid g
  clear hw1 hk1 X1 b1 hV hO hq g
  by_cases h0 : q < 0
  · have HV : Hid (V = 0) := hid (by rw [EV.out]; unfold lqO lqOk; rw [decide_eq_false (by omega)]; rfl)
    have HO : Hid (O = false) := hid (by rw [EO.out]; unfold lqO lqOk; rw [decide_eq_false (by omega)]; rfl)
    clear EV EO
    go_enter Try.func39, Try.ntmps39
    go_upto_region 1 with fail
    rw [← HW.out, ← HK.out]
    go_wp2
    go_ret2
    exact ⟨Ex.ret_2 HV.out.symm HO.out.symm, HB1.out⟩
  · have h1 : 0 ≤ q := by omega
    obtain ⟨u0, u1, u2⟩ := up_lq GD.out HQ.out h1
    obtain ⟨g0, g1⟩ := GD.out.allow
    obtain ⟨g2, g3⟩ := GD.out.block
    have q1 : q ≤ 9223372036854775807 := HQ.out.2
    have i1 : I64 (q - x.allowance) := by unfold I64; omega
    have cS := hid (fun (W : World) => show Calls Try.prog 65 #[.int .i64 q, .int .i64 x.allowance] W fun e w' => e = .returned (.tuple #[.int .i64 (q - x.allowance), .bool true]) ∧ W = w' by
      have m := Ex.sub_any q x.allowance W HQ.out (by unfold I64; omega)
      rw [cut64_t i1, ok64_t i1] at m
      exact m)
    obtain ⟨M, hM⟩ : ∃ M, M = max 0 (q - x.allowance) := ⟨_, rfl⟩
    rw [← hM] at u0 u1 u2
    have cU := hid (fun (W : World) => show Calls Try.prog 66 #[.int .i64 M, .int .i64 x.block] W fun e w' => e = .returned (.tuple #[.int .i64 V, .bool O]) ∧ Below W.heap.size W w' by
      have m := Rd.up_any M x.block W u0 (by unfold I64; omega)
      rw [u1, u2, ← EV.out, ← EO.out] at m
      refine m.mono ?_
      rintro e w' ⟨rfl, n, rfl⟩
      exact ⟨rfl, P.bel_drewN (Below.refl _ _) n⟩)
    have HM := hid hM
    clear EV EO u0 u1 u2 i1 hM h0 g0 g1 g2 g3 q1
    go_enter Try.func39, Try.ntmps39
    go_upto_region 1 with fail
    rw [← HW.out, ← HK.out]
    go_wp2_with fail
    refine (cS.out _).mono ?_
    rintro e w2 ⟨rfl, rfl⟩
    go_wp2_with fail
    rw [← HM.out]
    refine (cU.out _).mono ?_
    rintro e w3 ⟨rfl, b3⟩
    have B3 := hid (bel_on HB1.out b3)
    clear b3
    go_wp2
    go_ret2
    exact ⟨rfl, B3.out⟩
end Go.Proofs.Ytjgogpaedaffkaa.Tg
/- Package tiers, walked: the two closures that go over the steps, for whatever round. -/
namespace Go.Proofs.Ytjgogpaedaffkaa.Tg
open Go.RowKit Go.Sort Go.Shelf P Mm Md R6 Te Co R10 R11 L11
attribute [local go_sem] Oper.semAt_some
theorem cell_lt {A : World} {p : Addr} {v : Value} (h : A.cell? p = some v) : p.block < A.heap.size := by
  rcases Nat.lt_or_ge p.block A.heap.size with k | k
  · exact k
  · unfold World.cell? at h
    rw [Array.getElem?_eq_none k] at h
    simp at h
theorem grown_of {A B : World} (b : Below A.heap.size A B) : A.grownBy B none := ⟨b.os, b.tape, b.output, b.size, fun k hk _ => b.block k hk⟩
/-- What a closure holds: the tiers and the quantity. -/
structure Hd (bl bq : Nat) (ts : List Tier) (ta : Option Addr) (tc : Nat) (q : Int) (A : World) : Prop where
  lst : A.cell? ⟨bl, 0, none⟩ = some (.slice ta ts.length tc)
  qty : A.cell? ⟨bq, 0, none⟩ = some (.int .i64 q)
  row : Row tTier A ta ts.length tc ts
theorem Hd.on {bl bq : Nat} {ts : List Tier} {ta : Option Addr} {tc : Nat} {q : Int} {A B : World} (h : Hd bl bq ts ta tc q A) (b : Below A.heap.size A B) : Hd bl bq ts ta tc q B :=
  ⟨(b.cell (p := ⟨bl, 0, none⟩) (cell_lt h.lst)).trans h.lst, (b.cell (p := ⟨bq, 0, none⟩) (cell_lt h.qty)).trans h.qty, h.row.on b⟩
set_option maxHeartbeats 4000000 in
set_option maxRecDepth 100000 in
theorem grad_in (n : Nat) (hn : 1 ≤ n) (l bl bq : Nat) (ts : List Tier) (ta : Option Addr) (tc : Nat) (q : Int) (hlen : ts.length ≤ 1000) (Kp : World → World → Prop) (hKp : ∀ A B, Kp A B → Hd bl bq ts ta tc q A → Hd bl bq ts ta tc q B)
    (J Jx : List Stp → World → Prop) (W : World) (hJ : AbidesFrom W.heap.size J) (S : List Stp) (hS : S = walkS ts q ts.length 0 0)
    (hY : ∀ pre x W1, J pre W1 → (pre ++ [x]) <+: S → YieldAt Fence.wide (n - 1) Try.prog l (encS x) W1 fun e W' => (e = .returned (.bool true) ∧ J (pre ++ [x]) W' ∧ Kp W1 W') ∨ (e = .returned (.bool false) ∧ Jx (pre ++ [x]) W'))
    (hH : Hd bl bq ts ta tc q W) (h0 : J [] W) :
    CallsIn Fence.wide n Try.prog 94 #[.func (.yield l) #[] #[], .pointer (some ⟨bl, 0, none⟩), .pointer (some ⟨bq, 0, none⟩)] W fun e W' => (∃ v, e = .returned v) ∧ ((∃ ys, ys = S ∧ J ys W') ∨ (∃ pre, pre <+: S ∧ Jx pre W')) := by
  have hro : Fence.wide.round = none := rfl
  have c1 := hH.lst
  have c2 := hH.qty
  have tm := hH.row.hmax
  have tcp := hH.row.hcap
  have HH := hid hH
  clear hH
  refine callsIn_of_wp Try.func94 rfl trivial ?_ hro
  simp only [Try.ntmps94, List.size_toArray, List.length_cons, List.length_nil, Nat.reduceAdd, Nat.reduceSub, Array.replicate_succ, Array.replicate_zero, List.push_toArray, List.append_toArray, List.nil_append, List.cons_append]
  gi_wp2
  gi_loopw [4, 10] (fun v i wr => ∃ (u : Int) (k : Nat) (pre : List Stp), v = .int .i64 u ∧ i = .int .i64 (k : Int) ∧ k ≤ ts.length ∧ Hid (S = pre ++ walkS ts q (ts.length - k) k u) ∧ Hid (J pre wr) ∧ Hid (Hd bl bq ts ta tc q wr)) (fun _ i _ => ts.length - (intOf i).toNat)
  case atStart => exact ⟨0, 0, [], rfl, rfl, Nat.zero_le _, hid hS, hid h0, HH⟩
  case round =>
    obtain ⟨u, k, pre, rfl, rfl, hk, hP, hJs, hHd⟩ := hrel
    clear c1 c2
    by_cases hlt : k < ts.length
    · obtain ⟨t, ht⟩ : ∃ t, ts[k]? = some t := ⟨_, List.getElem?_eq_getElem hlt⟩
      have c1 := hHd.out.lst
      have c2 := hHd.out.qty
      obtain ⟨b, o, e, lb, a0, a1, _⟩ := tier_at hHd.out.row ht
      subst e
      have l1 : bl < wr.heap.size := cell_lt c1
      have l2 : bq < wr.heap.size := cell_lt c2
      obtain ⟨R, hR⟩ : ∃ R, R = reachP ts q k := ⟨_, rfl⟩
      have bt : Below wr.heap.size wr (wr.alloc (.cells #[.int .i64 t.upto, .int .i64 t.rate] 48)) := bel_alloc _ _
      have cR := hid (reach_any ts (some ⟨b, o, none⟩) tc k q _ (hHd.out.row.on bt) hlt hlen)
      rw [← hR] at cR
      have HJ := hid (hJ pre wr _ none hJs.out (grown_of bt) (fun _ e => by cases e))
      have HT := hid (hHd.out.on bt)
      have HW : Hid (walkS ts q (ts.length - k) k u = if R ≤ u then walkS ts q (ts.length - (k + 1)) (k + 1) u else ⟨u, R, t.rate⟩ :: walkS ts q (ts.length - (k + 1)) (k + 1) R) := hid (by
        rw [hR, show ts.length - k = (ts.length - (k + 1)) + 1 by omega]
        show (if _ then _ else _) = _
        rw [ht]
        rfl)
      clear ht hR bt
      by_cases hle : R ≤ u
      · have z : decide (R ≤ u) = true := decide_eq_true hle
        gi_wp2_with fail
        refine ⟨trivial, (callsIn_wide.2 cR.out).mono ?_⟩
        rintro e w2 ⟨rfl, rfl⟩
        gi_wp2
        go_roundw
        case rel => exact ⟨u, k + 1, pre, rfl, by simp, by omega, hid (by rw [hP.out, HW.out, if_pos hle]), HJ, HT⟩
        case measure => simp [intOf]; omega
      · have z : decide (R ≤ u) = false := decide_eq_false hle
        have HS : Hid (S = (pre ++ [⟨u, R, t.rate⟩]) ++ walkS ts q (ts.length - (k + 1)) (k + 1) R) := hid (by rw [hP.out, HW.out, if_neg hle, List.append_assoc]; rfl)
        obtain ⟨fn, tmps, assign, body, hy, hR⟩ := hY pre ⟨u, R, t.rate⟩ _ HJ.out ⟨_, HS.out.symm⟩
        dsimp only [encS] at hy
        have HR := hid hR
        clear hR
        gi_wp2_with fail
        refine ⟨trivial, (callsIn_wide.2 cR.out).mono ?_⟩
        rintro e w2 ⟨rfl, rfl⟩
        gi_wp2
        refine HR.out.mono ?_
        rintro e W3 (⟨rfl, hJ3, hk3⟩ | ⟨rfl, hJx3⟩)
        · have HT3 := hid (hKp _ _ hk3 HT.out)
          gi_wp2
          go_roundw
          case rel => exact ⟨R, k + 1, _, rfl, by simp, by omega, HS, hid hJ3, HT3⟩
          case measure => simp [intOf]; omega
        · gi_wp2
          refine bodyPost_ret (results_none rfl _ _ _) rfl ?_
          exact ⟨⟨_, rfl⟩, .inr ⟨_, ⟨_, HS.out.symm⟩, hJx3⟩⟩
    · obtain rfl : k = ts.length := by omega
      gi_wp2
      go_end0
      refine ⟨⟨_, rfl⟩, .inl ⟨_, rfl, ?_⟩⟩
      have := hP.out
      rw [Nat.sub_self] at this
      rw [this]
      show J (pre ++ []) _
      rw [List.append_nil]
      exact hJs.out
set_option maxHeartbeats 4000000 in
set_option maxRecDepth 100000 in
theorem vol_in (n : Nat) (hn : 1 ≤ n) (l bl bq : Nat) (ts : List Tier) (ta : Option Addr) (tc : Nat) (q : Int) (h1 : 1 ≤ ts.length) (hlen : ts.length ≤ 1000) (Kp : World → World → Prop)
    (J Jx : List Stp → World → Prop) (W : World) (hJ : AbidesFrom W.heap.size J) (S : List Stp) (hS : S = volS q ts)
    (hY : ∀ pre x W1, J pre W1 → (pre ++ [x]) <+: S → YieldAt Fence.wide (n - 1) Try.prog l (encS x) W1 fun e W' => (e = .returned (.bool true) ∧ J (pre ++ [x]) W' ∧ Kp W1 W') ∨ (e = .returned (.bool false) ∧ Jx (pre ++ [x]) W'))
    (hH : Hd bl bq ts ta tc q W) (h0 : J [] W) :
    CallsIn Fence.wide n Try.prog 92 #[.func (.yield l) #[] #[], .pointer (some ⟨bq, 0, none⟩), .pointer (some ⟨bl, 0, none⟩)] W fun e W' => (∃ v, e = .returned v) ∧ ((∃ ys, ys = S ∧ J ys W') ∨ (∃ pre, pre <+: S ∧ Jx pre W')) := by
  have hro : Fence.wide.round = none := rfl
  have c1 := hH.lst
  have c2 := hH.qty
  have tm := hH.row.hmax
  have tcp := hH.row.hcap
  have HH := hid hH
  clear hH
  refine callsIn_of_wp Try.func92 rfl trivial ?_ hro
  simp only [Try.ntmps92, List.size_toArray, List.length_cons, List.length_nil, Nat.reduceAdd, Nat.reduceSub, Array.replicate_succ, Array.replicate_zero, List.push_toArray, List.append_toArray, List.nil_append, List.cons_append]
  by_cases hq1 : q < 1
  · have z : decide (q < 1) = true := decide_eq_true hq1
    gi_wp2
    refine bodyPost_ret (results_none rfl _ _ _) rfl ?_
    refine ⟨⟨_, rfl⟩, .inl ⟨[], ?_, h0⟩⟩
    rw [hS]
    unfold volS
    rw [if_neg (by omega)]
  have z : decide (q < 1) = false := decide_eq_false hq1
  have HS : Hid (S = [⟨0, q, volR q ts⟩]) := hid (by rw [hS]; unfold volS; rw [if_pos (by omega)])
  have H0 := hid h0
  clear hS h0 hq1
  gi_wp2
  gi_loopw [10] (fun i wr => ∃ k : Nat, i = .int .i64 (k : Int) ∧ k < ts.length ∧ Hid (volR q (ts.drop k) = volR q ts) ∧ Hid (J [] wr) ∧ Hid (Hd bl bq ts ta tc q wr)) (fun i _ => ts.length - (intOf i).toNat)
  case atStart => exact ⟨0, rfl, h1, hid (by rw [List.drop_zero]), H0, HH⟩
  case round =>
    obtain ⟨k, rfl, hlt, hP, hJs, hHd⟩ := hrel
    clear c1 c2 z
    obtain ⟨t, ht⟩ : ∃ t, ts[k]? = some t := ⟨_, List.getElem?_eq_getElem hlt⟩
    have c1 := hHd.out.lst
    have c2 := hHd.out.qty
    obtain ⟨b, o, e, lb, a0, a1, _⟩ := tier_at hHd.out.row ht
    subst e
    have l1 : bl < wr.heap.size := cell_lt c1
    have l2 : bq < wr.heap.size := cell_lt c2
    obtain ⟨R, hR⟩ : ∃ R, R = reachP ts q k := ⟨_, rfl⟩
    obtain ⟨wt, hwt⟩ : ∃ W, W = wr.alloc (.cells #[.int .i64 t.upto, .int .i64 t.rate] 48) := ⟨_, rfl⟩
    obtain ⟨kt, hkt⟩ : ∃ k, k = wr.heap.size := ⟨_, rfl⟩
    have bt : Below wr.heap.size wr wt := by rw [hwt]; exact bel_alloc _ _
    have XT : Box wt kt [.int .i64 t.upto, .int .i64 t.rate] := by rw [hwt, hkt]; exact Box.new _ [.int .i64 t.upto, .int .i64 t.rate] _
    have HXT := hid XT
    have HT := hid (hHd.out.on bt)
    have HJ := hid (hJ [] wr _ none hJs.out (grown_of bt) (fun _ e => by cases e))
    have VR := hid (show R = q → volR q ts = t.rate from fun e => by rw [← hP.out]; exact volR_reach ht (by rw [← hR]; exact e))
    have VM := hid (show R ≠ q → k + 1 < ts.length ∧ volR q (ts.drop (k + 1)) = volR q ts from fun e => by
      obtain ⟨m1, m2⟩ := volR_more hlt (by rw [← hR]; exact e)
      exact ⟨m1, by rw [← m2]; exact hP.out⟩)
    have cR : ∀ d os, CallsIn Fence.wide (n - 1) Try.prog 93 #[.slice (some ⟨b, o, none⟩) ts.length tc, .int .i64 (k : Int), .int .i64 q] (grow (redrawn wt d) os) fun e w'' => e = .returned (.int .i64 R) ∧ ∃ p : Regrown, w'' = grow (redrawn wt p.d) p.os := fun d os => callsIn_wide.2 (by
      have := reach_any ts (some ⟨b, o, none⟩) tc k q (grow (redrawn wt d) os) (HT.out.row.on (below_regrown wt d os)) hlt hlen
      rw [← hR] at this
      exact this.mono fun e w' h => ⟨h.1, ⟨d, os⟩, h.2⟩)
    have HWT := hid hwt
    have HKT := hid hkt
    clear ht hR hwt hkt bt XT
    gi_wp2_with fail
    rw [← HWT.out, ← HKT.out]
    clear c1 c2 l1 l2 a0 a1 lb HWT HKT
    have e5 : ∀ args w, (callFunc 93 args).run Try.prog w = .ok (.enter 93 args) w := enters_of Try.func93 (by kernel_rfl) rfl
    have k1 := cell_regrown HT.out.lst
    have k2 := cell_regrown HT.out.qty
    refine wpIn_region_quiet_below hro (by kernel_rfl) (by kernel_rfl) ?_
    repeat (refine wpQuietIn_step (by first | quiet_asked_in | (intros; trivial) | (unfold Oper.askedIn; intros; trivial)) (fun K hK => ?_); go_simp; first | (refine hK _ ?_; clear hK K) | (apply Exists.intro; refine ⟨fun _ => ?_, hK _ ?_⟩; first | exact cR _ _ | exact ⟨trivial, cR _ _⟩; clear hK K))
    refine wpQuietIn_nil ?_
    clear k1 k2 cR e5
    intro w5 hw5
    have b5 : Below wt.heap.size wt w5 := by
      obtain ⟨⟨d, os⟩, rfl⟩ := hw5
      exact below_regrown wt d os
    have H5 := hid (HT.out.on b5)
    have J5 := hid (hJ [] _ _ none HJ.out (grown_of b5) (fun _ e => by cases e))
    have X5 := HXT.out.on b5
    have e1 := X5.cell 1 _ rfl
    have l5 := X5.lt
    have c1 := H5.out.lst
    have c2 := H5.out.qty
    clear b5 hw5 X5 HXT HT HJ
    by_cases hr : R = q
    · have hv := VR.out hr
      have z : (R == q) = true := beq_iff_eq.2 hr
      obtain ⟨fn, tmps, assign, body, hy, hR⟩ := hY [] ⟨0, q, t.rate⟩ _ J5.out (by rw [HS.out, hv]; exact List.prefix_refl _)
      dsimp only [encS] at hy
      have HS' : Hid (S = [⟨0, q, t.rate⟩]) := hid (by rw [HS.out, hv])
      have HR := hid hR
      clear hR hv hr VR VM
      gi_wp2
      refine HR.out.mono ?_
      rintro e W3 (⟨rfl, hJ3, hk3⟩ | ⟨rfl, hJx3⟩)
      · gi_wp2
        refine bodyPost_ret (results_none rfl _ _ _) rfl ?_
        exact ⟨⟨_, rfl⟩, .inl ⟨_, HS'.out.symm, hJ3⟩⟩
      · gi_wp2
        refine bodyPost_ret (results_none rfl _ _ _) rfl ?_
        exact ⟨⟨_, rfl⟩, .inr ⟨_, by rw [HS'.out]; exact List.prefix_refl _, hJx3⟩⟩
    · have z : (R == q) = false := beq_eq_false_iff_ne.2 hr
      obtain ⟨m1, m2⟩ := VM.out hr
      have M2 := hid m2
      clear hr VR VM m2
      gi_wp2
      go_roundw
      case rel => exact ⟨k + 1, by simp, m1, M2, J5, H5⟩
      case measure => simp [intOf]; omega
end Go.Proofs.Ytjgogpaedaffkaa.Tg
/- Package tiers, walked: Steps: a function that goes over the steps of a part, and may be left at any time. -/
namespace Go.Proofs.Ytjgogpaedaffkaa.Tg
open Go.RowKit Go.Sort Go.Shelf P Mm Md R6 Te Co R10 R11 L11
attribute [local go_sem] Oper.semAt_some
theorem row_block {A B : World} {b o len cap : Nat} {xs : List Tier} (h : Row tTier A (some ⟨b, o, none⟩) len cap xs) (e : B.heap[b]? = A.heap[b]?) : Row tTier B (some ⟨b, o, none⟩) len cap xs :=
  ⟨h.hlen, h.hcap, h.hmax, fun n => by
    obtain ⟨b', o', h1, h2, h3⟩ := h.lie n
    obtain ⟨rfl, rfl⟩ : b' = b ∧ o' = o := by
      have := Option.some.inj h1
      simp only [Addr.mk.injEq] at this
      exact ⟨this.1.symm, this.2.1.symm⟩
    refine ⟨b', o', rfl, ?_, fun j x hj => ?_⟩
    · rcases Nat.lt_or_ge b' B.heap.size with k | k
      · exact k
      · rw [Array.getElem?_eq_none k, Array.getElem?_eq_getElem h2] at e
        cases e
    · obtain ⟨cs, h4, h5⟩ := h3 j x hj
      exact ⟨cs, h4, fun i v hi => (World.cell?_of_block (a := ⟨b', o' + j * 2 + i, none⟩) e).trans (h5 i v hi)⟩⟩
set_option maxHeartbeats 1000000 in
theorem volume_mk (a : Option Addr) (n c : Nat) (q : Int) (w : World) : Calls Try.prog 68 #[.slice a n c, .int .i64 q] w fun e w' => e = .returned (.func (.func 92) #[] #[.pointer (some ⟨w.heap.size + 1, 0, none⟩), .pointer (some ⟨w.heap.size, 0, none⟩)]) ∧ w' = (w.alloc (.cells #[.slice a n c] 22)).alloc (.cells #[.int .i64 q] 3) := by
  go_enter Try.func68, Try.ntmps68
  go_wp2
  go_ret
  refine ⟨?_, rfl⟩
  simp
set_option maxHeartbeats 1000000 in
theorem graduated_mk (a : Option Addr) (n c : Nat) (q : Int) (w : World) : Calls Try.prog 69 #[.slice a n c, .int .i64 q] w fun e w' => e = .returned (.func (.func 94) #[] #[.pointer (some ⟨w.heap.size, 0, none⟩), .pointer (some ⟨w.heap.size + 1, 0, none⟩)]) ∧ w' = (w.alloc (.cells #[.slice a n c] 22)).alloc (.cells #[.int .i64 q] 3) := by
  go_enter Try.func69, Try.ntmps69
  go_wp2
  go_ret
  refine ⟨?_, rfl⟩
  simp
/-- A function that goes over some steps, whatever its rounds do to memory but to the blocks from lo to hi. -/
def Goes (n lo hi gf : Nat) (lb : Array Value) (S : List Stp) (w : World) : Prop :=
  ∀ (l : Nat) (J Jx : List Stp → World → Prop) (W : World), Below w.heap.size w W → AbidesFrom W.heap.size J →
    (∀ pre x W1, J pre W1 → (pre ++ [x]) <+: S → YieldAt Fence.wide (n - 1) Try.prog l (encS x) W1 fun e W' => (e = .returned (.bool true) ∧ J (pre ++ [x]) W' ∧ ∀ j, lo ≤ j ∧ j < hi → W'.heap[j]? = W1.heap[j]?) ∨ (e = .returned (.bool false) ∧ Jx (pre ++ [x]) W')) → J [] W →
    CallsIn Fence.wide n Try.prog gf (#[.func (.yield l) #[] #[]] ++ lb) W fun e W' => (∃ v, e = .returned v) ∧ ((∃ ys, ys = S ∧ J ys W') ∨ (∃ pre, pre <+: S ∧ Jx pre W'))
theorem hd_kept {lo hi bl bq : Nat} {ts : List Tier} {b o tc : Nat} {q : Int} (h1 : lo ≤ bl ∧ bl < hi) (h2 : lo ≤ bq ∧ bq < hi) (h3 : lo ≤ b ∧ b < hi) (A B : World) (k : ∀ j, lo ≤ j ∧ j < hi → B.heap[j]? = A.heap[j]?) (h : Hd bl bq ts (some ⟨b, o, none⟩) tc q A) : Hd bl bq ts (some ⟨b, o, none⟩) tc q B :=
  ⟨(World.cell?_of_block (a := ⟨bl, 0, none⟩) (k bl h1)).trans h.lst, (World.cell?_of_block (a := ⟨bq, 0, none⟩) (k bq h2)).trans h.qty, row_block h.row (k b h3)⟩
set_option maxHeartbeats 4000000 in
set_option maxRecDepth 100000 in
theorem steps_any (x : Prt) (ta : Option Addr) (tc : Nat) (aa : Option Addr) (ac : Nat) (q : Int) (w : World) (ht : Row tTier w ta x.tiers.length tc x.tiers) (g : GoodT x) :
    Calls Try.prog 40 #[.agg #[.int .i64 x.mt, .int .i64 x.a, .int .i64 x.b, .int .i64 x.allowance, .int .i64 x.block, .int .i64 x.kind, .slice ta x.tiers.length tc, .int .i64 x.mode, .slice aa x.adjusts.length ac], .int .i64 q] w fun e w' => Below w.heap.size w w' ∧ ∃ (gf : Nat) (lb : Array Value), e = .returned (.func (.func gf) #[] lb) ∧ (∀ args W, (callFunc gf args).run Try.prog W = .ok (.enter gf args) W) ∧ ∀ n, 1 ≤ n → Goes n w.heap.size w'.heap.size gf lb (stepsP x q) w' := by
  obtain ⟨w1, hw1⟩ : ∃ W, W = w.alloc (.cells ([.int .i64 x.mt, .int .i64 x.a, .int .i64 x.b, .int .i64 x.allowance, .int .i64 x.block, .int .i64 x.kind, .slice ta x.tiers.length tc, .int .i64 x.mode, .slice aa x.adjusts.length ac] : List Value).toArray 25) := ⟨_, rfl⟩
  obtain ⟨k1, hk1⟩ : ∃ k, k = w.heap.size := ⟨_, rfl⟩
  have b1 : Below w.heap.size w w1 := by rw [hw1]; exact bel_alloc _ _
  have X1 : Box w1 k1 [.int .i64 x.mt, .int .i64 x.a, .int .i64 x.b, .int .i64 x.allowance, .int .i64 x.block, .int .i64 x.kind, .slice ta x.tiers.length tc, .int .i64 x.mode, .slice aa x.adjusts.length ac] := by rw [hw1, hk1]; exact Box.new w _ 25
  obtain ⟨n1, n8⟩ := g.len
  have cC := hid (cloneT_any x.tiers ta tc w1 (ht.on b1) (by omega))
  have c6 := X1.cell 6 _ rfl
  have l1 := X1.lt
  have HX := hid X1
  have B1 := hid b1
  have HW := hid hw1
  have HK := hid hk1
  have GD := hid g
  have TI : Hid (∀ t ∈ x.tiers, I64 t.upto ∧ I64 t.rate) := hid (fun t h => by
    obtain ⟨j, hj⟩ := List.getElem?_of_mem h
    obtain ⟨_, _, _, _, _, ⟨_, hok⟩, _⟩ := ht.at hj
    exact hok)
  clear hw1 hk1 b1 X1 g ht
  go_enter Try.func40, Try.ntmps40
  go_upto_region 1 with fail
  rw [← HW.out, ← HK.out]
  go_wp2_with fail
  refine cC.out.mono ?_
  rintro e w2 ⟨v, rfl, hv, b2⟩
  obtain ⟨ao, cap, rfl, R⟩ := row_own (n := 2) (cells := tierC) (ok := fun t : Tier => I64 t.upto ∧ I64 t.rate) (hn := fun _ => rfl) hv TI.out
  obtain ⟨b, e, hb1⟩ : ∃ b, ao = some ⟨b, 0, none⟩ ∧ w1.heap.size ≤ b := by
    rcases hv.2 with ⟨h1, h2⟩ | ⟨g, cp, cur, h1, h2, _⟩
    · omega
    · refine ⟨g, ?_, h2⟩
      injection h1
  subst e
  have hb2 : b < w2.heap.size := by
    obtain ⟨z, hz⟩ : ∃ z, x.tiers[0]? = some z := ⟨_, List.getElem?_eq_getElem (by omega)⟩
    obtain ⟨b', o', e', hlt, _⟩ := tier_at R hz
    have := Option.some.inj e'
    simp only [Addr.mk.injEq] at this
    omega
  have X2 := HX.out.on b2
  have c5 := X2.cell 5 _ rfl
  have l2 := X2.lt
  have HR := hid R
  have B2 := hid (bel_on B1.out b2)
  have KW : Hid (w.heap.size ≤ w1.heap.size) := hid B1.out.size
  have HB : Hid (w1.heap.size ≤ b ∧ b < w2.heap.size) := hid ⟨hb1, hb2⟩
  clear hv R b2 X2 cC c6 l1 hb1 hb2 HX TI HW HK
  obtain ⟨w3, hw3⟩ : ∃ W, W = (w2.alloc (.cells #[.slice (some ⟨b, 0, none⟩) x.tiers.length cap] 22)).alloc (.cells #[.int .i64 q] 3) := ⟨_, rfl⟩
  have b3 : Below w2.heap.size w2 w3 := by rw [hw3]; exact ((Below.refl _ w2).alloc (Nat.le_refl _) _).alloc (by simp) _
  have z3 : w3.heap.size = w2.heap.size + 2 := by rw [hw3]; simp
  have L3 : w3.cell? ⟨w2.heap.size, 0, none⟩ = some (.slice (some ⟨b, 0, none⟩) x.tiers.length cap) := by
    rw [hw3]
    simp
  have Q3 : w3.cell? ⟨w2.heap.size + 1, 0, none⟩ = some (.int .i64 q) := by
    rw [hw3]
    simp
  have H3 := hid (⟨L3, Q3, HR.out.on b3⟩ : Hd w2.heap.size (w2.heap.size + 1) x.tiers (some ⟨b, 0, none⟩) cap q w3)
  have BF := hid (bel_on B2.out b3)
  have Z3 := hid z3
  have W3 := hid hw3
  clear b3 z3 L3 Q3 hw3 HR
  by_cases hk : x.kind = 2
  · have z : (x.kind == 2) = true := beq_iff_eq.2 hk
    have ES := hid (show stepsP x q = volS q x.tiers by unfold stepsP; rw [if_pos hk])
    clear hk
    go_wp2_with fail
    refine (volume_mk _ _ _ _ _).mono ?_
    rintro e w4 ⟨rfl, h4⟩
    rw [← W3.out] at h4
    subst h4
    go_wp2
    go_ret
    refine ⟨BF.out, _, _, rfl, enters_of Try.func92 (by kernel_rfl) rfl, fun n hn l J Jx W hW hJ hY h0 => ?_⟩
    exact vol_in n hn l _ _ x.tiers _ cap q n1 (by omega) _ J Jx W hJ _ ES.out hY (H3.out.on hW) h0
  · have z : (x.kind == 2) = false := beq_eq_false_iff_ne.2 hk
    have ES := hid (show stepsP x q = walkS x.tiers q x.tiers.length 0 0 from (walkS_all GD.out hk q).symm)
    clear hk
    go_wp2_with fail
    refine (graduated_mk _ _ _ _ _).mono ?_
    rintro e w4 ⟨rfl, h4⟩
    rw [← W3.out] at h4
    subst h4
    go_wp2
    go_ret
    refine ⟨BF.out, _, _, rfl, enters_of Try.func94 (by kernel_rfl) rfl, fun n hn l J Jx W hW hJ hY h0 => ?_⟩
    exact grad_in n hn l _ _ x.tiers _ cap q (by omega) _ (hd_kept (by have := KW.out; have := HB.out; have := Z3.out; omega) (by have := KW.out; have := HB.out; have := Z3.out; omega) (by have := KW.out; have := HB.out; have := Z3.out; omega)) J Jx W hJ _ ES.out hY (H3.out.on hW) h0
end Go.Proofs.Ytjgogpaedaffkaa.Tg
