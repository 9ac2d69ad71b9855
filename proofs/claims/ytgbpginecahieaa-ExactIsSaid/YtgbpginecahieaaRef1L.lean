/- What the document's answer for a row's sum (poundageref01.Sum) comes to. -/
import Derived.Test.YtgbpginecahieaaRef1b
import Derived.Test.YtgbpginecahieaaExactL
namespace Go.Proofs.Ytgbpginecahieaa.R1
open Go.RowKit P Ex
theorem small127 {a : Int} (h : I64 a) : a.natAbs < two127 := by unfold I64 at h; unfold two127; omega
set_option maxHeartbeats 1000000 in
theorem sum_any (b off cap : Nat) (xs : List Int) (w : World) (hc : Cells w b off xs) (hb : b < w.heap.size) (hx : allI64 xs) (hl : xs.length ≤ 1000000) :
    Calls Try.prog 20 #[.slice (some ⟨b, off, none⟩) xs.length cap] w fun e w' => e = .returned (.tuple #[.int .i64 (sumTo 0 xs).1, .bool (sumTo 0 xs).2]) ∧ Below w.heap.size w w' := by
  have HC := hid hc
  have HX := hid hx
  clear hc hx
  go_enter Try.func20, Try.ntmps20
  go_wp2
  go_loopw [4, 11] (fun t i wr => ∃ k : Nat, ∃ n : Int, k ≤ xs.length ∧ i = .int .i64 k ∧ t = .int .i64 n ∧ Hid (I64 n ∧ sumTo 0 xs = sumTo n (xs.drop k) ∧ Below w.heap.size w wr)) (fun _ i _ => xs.length - (intOf i).toNat)
  case atStart => exact ⟨0, 0, Nat.zero_le _, rfl, rfl, ⟨i64_0, rfl, Below.refl _ _⟩⟩
  case round =>
    obtain ⟨k, n, hk, rfl, rfl, H⟩ := hrel
    rename World => wr
    by_cases hlt : k < xs.length
    · have hcell : wr.cell? ⟨b, off + k, none⟩ = some (.int .i64 (xs.getD k 0)) := (HC.out.later H.out.2.2 hb) k hlt
      have hxi := allI64_get HX.out hlt
      generalize hv : xs.getD k 0 = v at *
      have HV := hid hv
      have HXI := hid hxi
      have B0 : Hid (Below w.heap.size w wr) := H.out.2.2
      have HN : Hid (I64 n) := H.out.1
      have HS : Hid (sumTo 0 xs = sumTo n (xs.drop k)) := H.out.2.1
      clear hv hxi H
      go_wp2_with fail
      refine (of_any _ _ HN.out).mono ?_; rintro e w1 ⟨rfl, hb1⟩
      have B1 : Hid (Below w.heap.size w w1) := below_via B0.out hb1 (Below.size B0.out)
      clear hb1 B0
      go_wp2_with fail
      refine (of_any _ _ HXI.out).mono ?_; rintro e w2 ⟨rfl, hb2⟩
      have B2 : Hid (Below w.heap.size w w2) := below_via B1.out hb2 (Below.size B1.out)
      clear hb2 B1
      go_wp2_with fail
      refine (R1.add_any _ _ _ (small127 HN.out) (small127 HXI.out)).mono ?_; rintro e w3 ⟨rfl, hb3⟩
      have B3 : Hid (Below w.heap.size w w3) := below_via B2.out hb3 (Below.size B2.out)
      clear hb3 B2
      by_cases hi : I64 (n + v)
      · have C1 := hid (cut64_t hi)
        have C2 := hid (ok64_t hi)
        have HI := hid hi
        clear hi
        go_wp2_with fail
        refine (int_any _ _).mono ?_; rintro e w4 ⟨rfl, hb4⟩; rw [C1.out, C2.out]
        have B4 : Hid (Below w.heap.size w w4) := below_via B3.out hb4 (Below.size B3.out)
        clear hb4 B3
        go_wp2
        go_roundw
        case rel => exact ⟨k + 1, n + v, by omega, by go_num, rfl, ⟨HI.out, by rw [HS.out, sumTo_yes hlt (by rw [HV.out]; exact HI.out), HV.out], B4.out⟩⟩
        case measure => simp [intOf]; omega
      · have C1 := hid (cut64_f hi)
        have C2 := hid (ok64_f hi)
        have HI := hid hi
        clear hi
        go_wp2_with fail
        refine (int_any _ _).mono ?_; rintro e w4 ⟨rfl, hb4⟩; rw [C1.out, C2.out]
        have B4 : Hid (Below w.heap.size w w4) := below_via B3.out hb4 (Below.size B3.out)
        clear hb4 B3
        go_wp2
        go_ret2
        have hfin : sumTo 0 xs = (0, false) := by rw [HS.out]; exact sumTo_no hlt (by rw [HV.out]; exact HI.out)
        exact ⟨ret_2 (by rw [hfin]) (by rw [hfin]), B4.out⟩
    · go_wp2
      go_ret2
      have hfin : sumTo 0 xs = (n, true) := by rw [H.out.2.1]; exact sumTo_end n (by omega)
      exact ⟨ret_2 (by rw [hfin]) (by rw [hfin]), H.out.2.2⟩
theorem sum_none (a : Option Addr) (cap : Nat) (w : World) :
    Calls Try.prog 20 #[.slice a 0 cap] w fun e w' => e = .returned (.tuple #[.int .i64 0, .bool true]) ∧ w = w' := by
  go_enter Try.func20, Try.ntmps20
  go_wp2
  refine wp_loop_rounds 1 ?_
  rw [rounds_succ]
  go_wp2
  go_ret2
  exact ⟨rfl, rfl⟩
end Go.Proofs.Ytgbpginecahieaa.R1
