/- The document's answer for layer 2: the greatest number that, times c, isn't above a wide one. -/
import Derived.Test.YtpmibknabckboaaRef2
import Derived.Test.YtpmibknabckboaaPureR
namespace Go.Proofs.Ytpmibknabckboaa.R2
open Go.RowKit P Ex R1

/-- What the search knows: l is not too great; l and 2^j is, or is beyond 64 bits. -/
structure Seek (p c l : Int) (j : Nat) : Prop where
  lo : -9223372036854775808 ≤ l
  hi : l + 2 ^ j ≤ 9223372036854775808
  at' : l * c ≤ p
  top : l + 2 ^ j = 9223372036854775808 ∨ p < (l + 2 ^ j) * c
  j64 : j ≤ 64
theorem Seek.start {p c : Int} (h : -9223372036854775808 * c ≤ p) : Seek p c (-9223372036854775808) 64 := ⟨by omega, by decide, h, Or.inl (by decide), by omega⟩
theorem two_pow_succ (i : Nat) : (2 : Int) ^ (i + 1) = 2 ^ i + 2 ^ i := by rw [Int.pow_succ]; omega
theorem Seek.up {p c l : Int} {i : Nat} (s : Seek p c l (i + 1)) (h : (l + 2 ^ i) * c ≤ p) : Seek p c (l + 2 ^ i) i := by
  have h2 := two_pow_succ i
  have hp : (0 : Int) < 2 ^ i := Int.pow_pos (by omega)
  have a := s.lo; have b := s.hi; have t := s.top; have j := s.j64
  have e : l + 2 ^ i + 2 ^ i = l + 2 ^ (i + 1) := by omega
  exact ⟨by omega, by omega, h, by rw [e]; exact t, by omega⟩
theorem Seek.stay {p c l : Int} {i : Nat} (s : Seek p c l (i + 1)) (h : ¬ (l + 2 ^ i) * c ≤ p) : Seek p c l i := by
  have h2 := two_pow_succ i
  have hp : (0 : Int) < 2 ^ i := Int.pow_pos (by omega)
  have a := s.lo; have b := s.hi; have t := s.at'; have j := s.j64
  exact ⟨a, by omega, t, Or.inr (by omega), by omega⟩
theorem Seek.next {p c l : Int} {i : Nat} (s : Seek p c l (i + 1)) : I64 (l + 2 ^ i) ∧ l < l + 2 ^ i := by
  have h2 := two_pow_succ i
  have hp : (0 : Int) < 2 ^ i := Int.pow_pos (by omega)
  have a := s.lo; have b := s.hi
  exact ⟨by unfold I64; omega, by omega⟩
theorem Seek.i64 {p c l : Int} {i : Nat} (s : Seek p c l i) : I64 l := by
  have hp : (0 : Int) < 2 ^ i := Int.pow_pos (by omega)
  have a := s.lo; have b := s.hi
  unfold I64; omega
theorem step_wrap {p c l : Int} {i : Nat} (s : Seek p c l (i + 1)) : wrap64 (IntKind.u64.wrap (IntKind.u64.wrap l + IntKind.u64.wrap (2 ^ i))) = l + 2 ^ i := by
  have h := s.next.1
  generalize (2 : Int) ^ i = q at *
  rw [u64_mod, u64_mod, u64_mod]
  unfold I64 at h
  unfold wrap64
  omega
theorem Seek.done {p c l : Int} (hc : 0 < c) (h : -9223372036854775808 * c ≤ p) (s : Seek p c l 0) : flo p c = l ∧ fok p c = true := by
  have b := s.hi
  have t := s.top
  exact flo_end hc h (by simp at b; omega) s.at' (by simpa using t)

set_option maxHeartbeats 1000000 in
theorem floor_any (p c : Int) (w : World) (hp : p.natAbs < two127) (hc : I64 c) (hc0 : 0 < c) :
    Calls Try.prog 24 #[W p, .int .i64 c] w fun e w' => e = .returned (.tuple #[.int .i64 (flo p c), .bool (fok p c)]) ∧ Below w.heap.size w w' := by
  have HP := hid hp
  have HC := hid hc
  have HC0 := hid hc0
  clear hp hc hc0
  rw [W_parts p]
  go_enter Try.func24, Try.ntmps24
  go_wp2_with fail
  refine (under_any _ c p _ (by unfold I64; omega) HC.out HP.out).mono ?_; rintro e w2 ⟨rfl, hb⟩
  have B1 : Hid (Below w.heap.size w w2) := below_via ((Below.refl _ _).alloc (Nat.le_refl _) _) hb (by simp)
  have L2 : Lies3 w2 w.heap.size (.bool (decide (p < 0))) (.int .u64 (hiN p.natAbs)) (.int .u64 (loN p.natAbs)) := Lies3.later hb rfl
  clear hb
  by_cases h : -9223372036854775808 * c ≤ p
  · rw [decide_eq_true h]
    have H := hid h
    have LL := hid L2
    obtain ⟨m1, m2, m3, m4, _, _, _⟩ := L2
    clear h
    go_wp2_with fail
    go_loopw [6, 7] (fun lo kk wr => ∃ l k : Int, ∃ j : Nat, lo = .int .i64 l ∧ kk = .int .i64 k ∧ k + 1 = j ∧ Hid (Seek p c l j ∧ Below w2.heap.size w2 wr)) (fun _ kk _ => (intOf kk + 1).toNat)
    case atStart => exact ⟨_, _, 64, rfl, rfl, by decide, Seek.start H.out, Below.refl _ _⟩
    case round =>
      obtain ⟨l, k, j, rfl, rfl, hk, HR⟩ := hrel
      rename World => wr
      have HS : Hid (Seek p c l j) := HR.out.1
      have HB : Hid (Below w2.heap.size w2 wr) := HR.out.2
      clear HR m2 m3 m4
      obtain ⟨n1, n2, n3, n4, _, _, _⟩ := LL.out.on HB.out
      cases j with
      | zero =>
        obtain rfl : k = -1 := by omega
        go_wp2
        go_ret2
        have hd := HS.out.done HC0.out H.out
        exact ⟨ret_2 hd.1.symm hd.2.symm, below_via B1.out HB.out (Below.size B1.out)⟩
      | succ i =>
        obtain rfl : k = (i : Int) := by omega
        have hi : i ≤ 63 := by have := HS.out.j64; omega
        have hnx := HS.out.next
        have en := step_wrap HS.out
        have ht : decide (l < wrap64 (IntKind.u64.wrap (IntKind.u64.wrap l + IntKind.u64.wrap (2 ^ i)))) = true := by rw [en]; simpa using hnx.2
        have HI := hid hnx.1
        have EN := hid en
        clear hnx en
        go_wp2_with fail
        rw [EN.out]
        refine (under_any _ c p _ HI.out HC.out HP.out).mono ?_; rintro e w4 ⟨rfl, hb⟩
        have B4 : Hid (Below w2.heap.size w2 w4) := below_via HB.out hb (Below.size HB.out)
        clear hb
        by_cases hu : (l + 2 ^ i) * c ≤ p
        · rw [decide_eq_true hu]
          have HN := hid (HS.out.up hu)
          clear hu
          go_wp2
          go_roundw
          case rel => exact ⟨l + 2 ^ i, (i : Int) - 1, i, rfl, rfl, by omega, HN.out, B4.out⟩
          case measure => simp [intOf]
        · rw [decide_eq_false hu]
          have HN := hid (HS.out.stay hu)
          clear hu
          go_wp2
          go_roundw
          case rel => exact ⟨l, (i : Int) - 1, i, rfl, rfl, by omega, HN.out, B4.out⟩
          case measure => simp [intOf]
  · rw [decide_eq_false h]
    have hd := flo_no h
    have H := hid hd
    clear h hd
    go_wp2
    go_ret2
    exact ⟨ret_2 H.out.1.symm H.out.2.symm, B1.out⟩
end Go.Proofs.Ytpmibknabckboaa.R2
