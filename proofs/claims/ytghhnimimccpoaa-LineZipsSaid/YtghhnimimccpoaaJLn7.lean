/- Package line, walked: Span, Equal, Runs. -/
import Derived.Test.YtghhnimimccpoaaJLn2
import Derived.Lib.QuietBelowIn
import Derived.Sort.QuietTacIn
namespace Go.Proofs.Ytghhnimimccpoaa.P
end Go.Proofs.Ytghhnimimccpoaa.P
namespace Go.Proofs.Ytghhnimimccpoaa.Mm
end Go.Proofs.Ytghhnimimccpoaa.Mm
namespace Go.Proofs.Ytghhnimimccpoaa.R6
end Go.Proofs.Ytghhnimimccpoaa.R6
namespace Go.Proofs.Ytghhnimimccpoaa.R14
end Go.Proofs.Ytghhnimimccpoaa.R14
namespace Go.Proofs.Ytghhnimimccpoaa.L14
end Go.Proofs.Ytghhnimimccpoaa.L14
namespace Go.Proofs.Ytghhnimimccpoaa.Li
open Go.RowKit Go.Sort Go.Shelf P Mm R6 R14 L14
attribute [local go_sem] Oper.semAt_some
set_option maxHeartbeats 1600000 in
set_option maxRecDepth 100000 in
theorem span_int (R : List (Rn Int)) (ao : Option Addr) (cap : Nat) (w : World) (hr : Row tRn w ao R.length cap R) (hn : R.length ≤ 100000) :
    Calls Try.prog 20 #[.agg #[.slice ao R.length cap]] w fun e w' => e = .returned (.tuple #[.int .i64 (spanR R).1, .int .i64 (spanR R).2.1, .bool (spanR R).2.2]) ∧ Below w.heap.size w w' := by
  obtain ⟨n, hnn⟩ : ∃ n, n = R.length := ⟨_, rfl⟩
  obtain ⟨w1, hw1⟩ : ∃ W, W = w.alloc (.cells ([.slice ao R.length cap] : List Value).toArray 27) := ⟨_, rfl⟩
  obtain ⟨k1, hk1⟩ : ∃ k, k = w.heap.size := ⟨_, rfl⟩
  have b1 : Below w.heap.size w w1 := by rw [hw1]; exact bel_alloc _ _
  have X1 : Box w1 k1 [.slice ao R.length cap] := by rw [hw1, hk1]; exact Box.new w _ _
  have R1 := hr.on b1
  have lc := hr.hcap
  have lm := hr.hmax
  rw [← hnn] at R1 X1 hw1 lc hn ⊢
  have c0 := X1.cell 0 _ rfl
  have l1 := X1.lt
  have B := hid b1
  have HW := hid hw1
  have HK := hid hk1
  have HN := hid hnn
  clear hw1 hk1 X1 b1 hr hnn
  rcases List.eq_nil_or_concat R with rfl | ⟨ys, z, hcat⟩
  · obtain rfl : n = 0 := HN.out
    go_enter Try.func20, Try.ntmps20
    go_upto_region 1 with fail
    rw [← HW.out, ← HK.out]
    clear HW HK
    go_wp2
    go_ret3
    exact ⟨rfl, B.out⟩
  · rw [List.concat_eq_append] at hcat
    obtain ⟨m, hm⟩ : ∃ m, n = m + 1 := ⟨ys.length, by rw [HN.out, hcat]; simp⟩
    subst hm
    have hl : R[m]? = some z := by
      have e := HN.out
      rw [hcat] at e ⊢
      simp only [List.length_append, List.length_singleton, Nat.add_right_cancel_iff] at e
      rw [e]
      simp
    obtain ⟨r, hf⟩ : ∃ r, R[0]? = some r := ⟨_, List.getElem?_eq_getElem (by have := HN.out; omega)⟩
    obtain ⟨gb, go, eg, lg, s0, s1, s2, -⟩ := rn_at R1 hl
    obtain ⟨gb', go', eg', lg', t0, t1, t2, -⟩ := rn_at R1 hf
    rw [eg] at eg'
    simp only [Option.some.injEq, Addr.mk.injEq, and_true] at eg'
    obtain ⟨rfl, rfl⟩ := eg'
    subst eg
    have E := hid (show spanR R = (r.a, z.b, true) by
      rcases R with _ | ⟨q, qs⟩
      · cases hf
      · obtain rfl : q = r := Option.some.inj hf
        have e2 : (q :: qs).getLast? = some z := by rw [hcat]; simp
        show (q.a, ((q :: qs).getLast?.getD q).b, true) = _
        rw [e2]
        rfl)
    have wk : IntKind.i64.wrap ((m : Int) + 1 - 1) = (m : Int) := by rw [show (m : Int) + 1 - 1 = (m : Int) by omega]; exact wrap_l (by unfold I64; omega)
    have i0 : (0 : Int) < (m : Int) + 1 := by omega
    have i1 : (m : Int) < (m : Int) + 1 := by omega
    have i2 : (0 : Int) ≤ (m : Int) := by omega
    have z9 : ((m : Int) + 1 == 0) = false := by rw [beq_eq_false_iff_ne]; omega
    have t0' : w1.cell? ⟨gb, go, none⟩ = some (.int .i64 r.a) := by simpa using t0
    clear t0 hl hf hcat HN R1
    go_enter Try.func20, Try.ntmps20
    go_upto_region 1 with fail
    rw [← HW.out, ← HK.out]
    clear HW HK
    go_wp2_with fail
    go_quiet (fail)
    go_wp2
    go_ret3
    rw [E.out]
    exact ⟨rfl, bel_drewN B.out _⟩
set_option maxHeartbeats 4000000 in
set_option maxRecDepth 100000 in
theorem eqs_int (R S : List (Rn Int)) (ao : Option Addr) (cap : Nat) (bo : Option Addr) (bcap : Nat) (w : World) (hr : Row tRn w ao R.length cap R) (hs : Row tRn w bo S.length bcap S) :
    Calls Try.prog 37 #[.slice ao R.length cap, .slice bo S.length bcap] w fun e w' => e = .returned (.bool (decide (R = S))) ∧ Below w.heap.size w w' := by
  obtain ⟨n, hnn⟩ : ∃ n, n = R.length := ⟨_, rfl⟩
  obtain ⟨m, hmm⟩ : ∃ m, m = S.length := ⟨_, rfl⟩
  have lc := hr.hcap
  have lm := hr.hmax
  have lc2 := hs.hcap
  have lm2 := hs.hmax
  have HR := hid (fun (W : World) (b : Below w.heap.size w W) => hr.on b)
  have HS := hid (fun (W : World) (b : Below w.heap.size w W) => hs.on b)
  rw [← hnn] at HR lc ⊢
  rw [← hmm] at HS lc2 ⊢
  have HN := hid hnn
  have HM := hid hmm
  have B0 := hid (Below.refl w.heap.size w)
  clear hr hs hnn hmm
  by_cases hlen : n = m
  · have z : ((n : Int) == (m : Int)) = true := by rw [beq_iff_eq]; omega
    subst hlen
    go_enter Try.func37, Try.ntmps37
    go_wp2
    go_loopw [13] (fun i wr => ∃ (i' : Nat), i = .int .i64 (i' : Int) ∧ i' ≤ n ∧ Hid (R.take i' = S.take i') ∧ Hid (Below w.heap.size w wr)) (fun i _ => n - (intOf i).toNat)
    case atStart => exact ⟨0, rfl, Nat.zero_le _, hid rfl, B0⟩
    case round =>
      obtain ⟨i', rfl, hi, hT, hb⟩ := hrel
      clear B0
      by_cases hlt : i' < n
      · obtain ⟨r, hr⟩ : ∃ r, R[i']? = some r := ⟨_, List.getElem?_eq_getElem (by have := HN.out; omega)⟩
        obtain ⟨s, hs⟩ : ∃ s, S[i']? = some s := ⟨_, List.getElem?_eq_getElem (by have := HM.out; omega)⟩
        obtain ⟨gb, go, eg, lg, s0, s1, s2, -⟩ := rn_at (HR.out wr hb.out) hr
        obtain ⟨hb', ho, eh, lh, t0, t1, t2, -⟩ := rn_at (HS.out wr hb.out) hs
        subst eg eh
        have i0 : (i' : Int) < (n : Int) := by omega
        have i2 : (0 : Int) ≤ (i' : Int) := by omega
        by_cases hrs : r = s
        · subst hrs
          have HT := hid (show R.take (i' + 1) = S.take (i' + 1) by rw [List.take_add_one, List.take_add_one, hT.out, hr, hs])
          clear hr hs
          go_wp2_with fail
          go_quiet (fail)
          go_wp2
          go_roundw
          case rel => exact ⟨i' + 1, by simp, by omega, HT, hid (bel_drewN hb.out _)⟩
          case measure => simp [intOf]; omega
        · have HD := hid (show decide (R = S) = false from decide_eq_false fun e => by
            rw [e, hs] at hr
            exact hrs (Option.some.inj hr).symm)
          obtain ⟨q1, z1⟩ : ∃ q, (r.a == s.a) = q := ⟨_, rfl⟩
          obtain ⟨q2, z2⟩ : ∃ q, (r.b == s.b) = q := ⟨_, rfl⟩
          obtain ⟨q3, z3⟩ : ∃ q, (r.v == s.v) = q := ⟨_, rfl⟩
          have hq : (q1 && q2 && q3) = false := by
            rw [Bool.eq_false_iff]
            intro h
            simp only [Bool.and_eq_true] at h
            obtain ⟨⟨rfl, rfl⟩, rfl⟩ := h
            refine hrs ?_
            have e1 := beq_iff_eq.1 z1
            have e2 := beq_iff_eq.1 z2
            have e3 : r.v = s.v := beq_iff_eq.1 z3
            cases r
            cases s
            simp_all
          clear hr hs hrs
          cases q1 <;> cases q2 <;> cases q3 <;> first
            | exact absurd hq (by decide)
            | (clear hq
               go_wp2_with fail
               go_quiet (fail)
               go_wp2
               go_ret
               exact ⟨by rw [HD.out]; rfl, bel_drewN hb.out _⟩)
      · have HD := hid (show decide (R = S) = true from decide_eq_true (by
          have e := hT.out
          rw [List.take_of_length_le (by have := HN.out; omega), List.take_of_length_le (by have := HM.out; omega)] at e
          exact e))
        go_wp2
        go_ret
        exact ⟨by rw [HD.out]; rfl, hb.out⟩
  · have z : ((n : Int) == (m : Int)) = false := by rw [beq_eq_false_iff_ne]; omega
    have HD := hid (show decide (R = S) = false from decide_eq_false fun e => hlen (by rw [HN.out, HM.out, e]))
    go_enter Try.func37, Try.ntmps37
    go_wp2
    go_ret
    exact ⟨by rw [HD.out]; rfl, B0.out⟩
set_option maxHeartbeats 1600000 in
set_option maxRecDepth 100000 in
theorem equal_int (R S : List (Rn Int)) (ao : Option Addr) (cap : Nat) (bo : Option Addr) (bcap : Nat) (w : World) (hr : Row tRn w ao R.length cap R) (hs : Row tRn w bo S.length bcap S) :
    Calls Try.prog 14 #[.agg #[.slice ao R.length cap], .agg #[.slice bo S.length bcap]] w fun e w' => e = .returned (.bool (decide (R = S))) ∧ Below w.heap.size w w' := by
  obtain ⟨w1, hw1⟩ : ∃ W, W = w.alloc (.cells ([.slice ao R.length cap] : List Value).toArray 27) := ⟨_, rfl⟩
  obtain ⟨k1, hk1⟩ : ∃ k, k = w.heap.size := ⟨_, rfl⟩
  have b1 : Below w.heap.size w w1 := by rw [hw1]; exact bel_alloc _ _
  have X1 : Box w1 k1 [.slice ao R.length cap] := by rw [hw1, hk1]; exact Box.new w _ _
  obtain ⟨w2, hw2⟩ : ∃ W, W = w1.alloc (.cells ([.slice bo S.length bcap] : List Value).toArray 27) := ⟨_, rfl⟩
  obtain ⟨k2, hk2⟩ : ∃ k, k = w1.heap.size := ⟨_, rfl⟩
  have b2 : Below w1.heap.size w1 w2 := by rw [hw2]; exact bel_alloc _ _
  have X2 : Box w2 k2 [.slice bo S.length bcap] := by rw [hw2, hk2]; exact Box.new w1 _ _
  have b12 := bel_on b1 b2
  have cE := hid (eqs_int R S ao cap bo bcap w2 (hr.on b12) (hs.on b12))
  have c0 := (X1.on b2).cell 0 _ rfl
  have l1 := (X1.on b2).lt
  have d0 := X2.cell 0 _ rfl
  have l2 := X2.lt
  have B := hid b12
  have HW := hid (show w2 = (w.alloc (.cells #[.slice ao R.length cap] 27)).alloc (.cells #[.slice bo S.length bcap] 27) by rw [hw2, hw1])
  have HK1 := hid hk1
  have HK2 := hid (show k2 = w.heap.size + 1 by rw [hk2, hw1]; simp)
  clear hw1 hk1 X1 b1 hw2 hk2 X2 b2 b12 hr hs
  obtain ⟨n, hnn⟩ : ∃ n, n = R.length := ⟨_, rfl⟩
  obtain ⟨m, hmm⟩ : ∃ m, m = S.length := ⟨_, rfl⟩
  rw [← hnn] at cE c0 HW ⊢
  rw [← hmm] at cE d0 HW ⊢
  clear hnn hmm
  go_enter Try.func14, Try.ntmps14
  go_upto_region 1 with fail
  rw [← HW.out, ← HK2.out, ← HK1.out]
  clear HW HK1 HK2
  go_wp2_with fail
  refine cE.out.mono ?_
  rintro e w3 ⟨rfl, b3⟩
  have BF := hid (bel_on B.out b3)
  clear b3 cE
  go_wp2
  go_ret
  exact ⟨rfl, BF.out⟩
set_option maxHeartbeats 4000000 in
set_option maxRecDepth 100000 in
theorem eqs_string (R S : List (Rn ByteArray)) (ao : Option Addr) (cap : Nat) (bo : Option Addr) (bcap : Nat) (w : World) (hr : Row tRs w ao R.length cap R) (hs : Row tRs w bo S.length bcap S) :
    Calls Try.prog 45 #[.slice ao R.length cap, .slice bo S.length bcap] w fun e w' => e = .returned (.bool (decide (R = S))) ∧ Below w.heap.size w w' := by
  obtain ⟨n, hnn⟩ : ∃ n, n = R.length := ⟨_, rfl⟩
  obtain ⟨m, hmm⟩ : ∃ m, m = S.length := ⟨_, rfl⟩
  have lc := hr.hcap
  have lm := hr.hmax
  have lc2 := hs.hcap
  have lm2 := hs.hmax
  have HR := hid (fun (W : World) (b : Below w.heap.size w W) => hr.on b)
  have HS := hid (fun (W : World) (b : Below w.heap.size w W) => hs.on b)
  rw [← hnn] at HR lc ⊢
  rw [← hmm] at HS lc2 ⊢
  have HN := hid hnn
  have HM := hid hmm
  have B0 := hid (Below.refl w.heap.size w)
  clear hr hs hnn hmm
  by_cases hlen : n = m
  · have z : ((n : Int) == (m : Int)) = true := by rw [beq_iff_eq]; omega
    subst hlen
    go_enter Try.func45, Try.ntmps45
    go_wp2
    go_loopw [13] (fun i wr => ∃ (i' : Nat), i = .int .i64 (i' : Int) ∧ i' ≤ n ∧ Hid (R.take i' = S.take i') ∧ Hid (Below w.heap.size w wr)) (fun i _ => n - (intOf i).toNat)
    case atStart => exact ⟨0, rfl, Nat.zero_le _, hid rfl, B0⟩
    case round =>
      obtain ⟨i', rfl, hi, hT, hb⟩ := hrel
      clear B0
      by_cases hlt : i' < n
      · obtain ⟨r, hr⟩ : ∃ r, R[i']? = some r := ⟨_, List.getElem?_eq_getElem (by have := HN.out; omega)⟩
        obtain ⟨s, hs⟩ : ∃ s, S[i']? = some s := ⟨_, List.getElem?_eq_getElem (by have := HM.out; omega)⟩
        obtain ⟨gb, go, eg, lg, s0, s1, s2, -⟩ := rs_at (HR.out wr hb.out) hr
        obtain ⟨hb', ho, eh, lh, t0, t1, t2, -⟩ := rs_at (HS.out wr hb.out) hs
        subst eg eh
        have i0 : (i' : Int) < (n : Int) := by omega
        have i2 : (0 : Int) ≤ (i' : Int) := by omega
        by_cases hrs : r = s
        · subst hrs
          have HT := hid (show R.take (i' + 1) = S.take (i' + 1) by rw [List.take_add_one, List.take_add_one, hT.out, hr, hs])
          clear hr hs
          go_wp2_with fail
          go_quiet (fail)
          go_wp2
          go_roundw
          case rel => exact ⟨i' + 1, by simp, by omega, HT, hid (bel_drewN hb.out _)⟩
          case measure => simp [intOf]; omega
        · have HD := hid (show decide (R = S) = false from decide_eq_false fun e => by
            rw [e, hs] at hr
            exact hrs (Option.some.inj hr).symm)
          obtain ⟨q1, z1⟩ : ∃ q, (r.a == s.a) = q := ⟨_, rfl⟩
          obtain ⟨q2, z2⟩ : ∃ q, (r.b == s.b) = q := ⟨_, rfl⟩
          obtain ⟨q3, z3⟩ : ∃ q, (r.v.toList == s.v.toList) = q := ⟨_, rfl⟩
          have hq : (q1 && q2 && q3) = false := by
            rw [Bool.eq_false_iff]
            intro h
            simp only [Bool.and_eq_true] at h
            obtain ⟨⟨rfl, rfl⟩, rfl⟩ := h
            refine hrs ?_
            have e1 := beq_iff_eq.1 z1
            have e2 := beq_iff_eq.1 z2
            have e3 : r.v = s.v := R6.beq_str.1 z3
            cases r
            cases s
            simp_all
          clear hr hs hrs
          cases q1 <;> cases q2 <;> cases q3 <;> first
            | exact absurd hq (by decide)
            | (clear hq
               go_wp2_with fail
               go_quiet (fail)
               go_wp2
               go_ret
               exact ⟨by rw [HD.out]; rfl, bel_drewN hb.out _⟩)
      · have HD := hid (show decide (R = S) = true from decide_eq_true (by
          have e := hT.out
          rw [List.take_of_length_le (by have := HN.out; omega), List.take_of_length_le (by have := HM.out; omega)] at e
          exact e))
        go_wp2
        go_ret
        exact ⟨by rw [HD.out]; rfl, hb.out⟩
  · have z : ((n : Int) == (m : Int)) = false := by rw [beq_eq_false_iff_ne]; omega
    have HD := hid (show decide (R = S) = false from decide_eq_false fun e => hlen (by rw [HN.out, HM.out, e]))
    go_enter Try.func45, Try.ntmps45
    go_wp2
    go_ret
    exact ⟨by rw [HD.out]; rfl, B0.out⟩
set_option maxHeartbeats 1600000 in
set_option maxRecDepth 100000 in
theorem equal_string (R S : List (Rn ByteArray)) (ao : Option Addr) (cap : Nat) (bo : Option Addr) (bcap : Nat) (w : World) (hr : Row tRs w ao R.length cap R) (hs : Row tRs w bo S.length bcap S) :
    Calls Try.prog 30 #[.agg #[.slice ao R.length cap], .agg #[.slice bo S.length bcap]] w fun e w' => e = .returned (.bool (decide (R = S))) ∧ Below w.heap.size w w' := by
  obtain ⟨w1, hw1⟩ : ∃ W, W = w.alloc (.cells ([.slice ao R.length cap] : List Value).toArray 58) := ⟨_, rfl⟩
  obtain ⟨k1, hk1⟩ : ∃ k, k = w.heap.size := ⟨_, rfl⟩
  have b1 : Below w.heap.size w w1 := by rw [hw1]; exact bel_alloc _ _
  have X1 : Box w1 k1 [.slice ao R.length cap] := by rw [hw1, hk1]; exact Box.new w _ _
  obtain ⟨w2, hw2⟩ : ∃ W, W = w1.alloc (.cells ([.slice bo S.length bcap] : List Value).toArray 58) := ⟨_, rfl⟩
  obtain ⟨k2, hk2⟩ : ∃ k, k = w1.heap.size := ⟨_, rfl⟩
  have b2 : Below w1.heap.size w1 w2 := by rw [hw2]; exact bel_alloc _ _
  have X2 : Box w2 k2 [.slice bo S.length bcap] := by rw [hw2, hk2]; exact Box.new w1 _ _
  have b12 := bel_on b1 b2
  have cE := hid (eqs_string R S ao cap bo bcap w2 (hr.on b12) (hs.on b12))
  have c0 := (X1.on b2).cell 0 _ rfl
  have l1 := (X1.on b2).lt
  have d0 := X2.cell 0 _ rfl
  have l2 := X2.lt
  have B := hid b12
  have HW := hid (show w2 = (w.alloc (.cells #[.slice ao R.length cap] 58)).alloc (.cells #[.slice bo S.length bcap] 58) by rw [hw2, hw1])
  have HK1 := hid hk1
  have HK2 := hid (show k2 = w.heap.size + 1 by rw [hk2, hw1]; simp)
  clear hw1 hk1 X1 b1 hw2 hk2 X2 b2 b12 hr hs
  obtain ⟨n, hnn⟩ : ∃ n, n = R.length := ⟨_, rfl⟩
  obtain ⟨m, hmm⟩ : ∃ m, m = S.length := ⟨_, rfl⟩
  rw [← hnn] at cE c0 HW ⊢
  rw [← hmm] at cE d0 HW ⊢
  clear hnn hmm
  go_enter Try.func30, Try.ntmps30
  go_upto_region 1 with fail
  rw [← HW.out, ← HK2.out, ← HK1.out]
  clear HW HK1 HK2
  go_wp2_with fail
  refine cE.out.mono ?_
  rintro e w3 ⟨rfl, b3⟩
  have BF := hid (bel_on B.out b3)
  clear b3 cE
  go_wp2
  go_ret
  exact ⟨rfl, BF.out⟩
theorem row_keep {A B : World} {ao : Option Addr} {len cap : Nat} {xs : List (Rn Int)} (h : Row tRn A ao len cap xs) (k : xs ≠ [] → ∀ ad, ao = some ad → B.heap[ad.block]? = A.heap[ad.block]?) : Row tRn B ao len cap xs :=
  ⟨h.hlen, h.hcap, h.hmax, fun n => by
    obtain ⟨b, o, h1, h2, h3⟩ := h.lie n
    have e := k n _ h1
    refine ⟨b, o, h1, ?_, fun j x hj => ?_⟩
    · rcases Nat.lt_or_ge b B.heap.size with q | q
      · exact q
      · rw [Array.getElem?_eq_none q, Array.getElem?_eq_getElem h2] at e
        cases e
    · obtain ⟨cs, h4, h5⟩ := h3 j x hj
      exact ⟨cs, h4, fun i v hi => (World.cell?_of_block (a := ⟨b, o + j * 3 + i, none⟩) e).trans (h5 i v hi)⟩⟩
theorem cell_lt {A : World} {p : Addr} {v : Value} (h : A.cell? p = some v) : p.block < A.heap.size := by
  rcases Nat.lt_or_ge p.block A.heap.size with k | k
  · exact k
  · unfold World.cell? at h
    rw [Array.getElem?_eq_none k] at h
    simp at h
theorem grown_of {A B : World} (b : Below A.heap.size A B) : A.grownBy B none := ⟨b.os, b.tape, b.output, b.size, fun k hk _ => b.block k hk⟩
/-- What Runs' closure holds: a line. -/
structure Ld (k1 n : Nat) (R : List (Rn Int)) (ao : Option Addr) (cap : Nat) (A : World) : Prop where
  cell : A.cell? ⟨k1, 0, none⟩ = some (.slice ao n cap)
  row : Row tRn A ao n cap R
theorem Ld.on {k1 n : Nat} {R : List (Rn Int)} {ao : Option Addr} {cap : Nat} {A B : World} (h : Ld k1 n R ao cap A) (b : Below A.heap.size A B) : Ld k1 n R ao cap B :=
  ⟨(b.cell (p := ⟨k1, 0, none⟩) (cell_lt h.cell)).trans h.cell, h.row.on b⟩
theorem take_pre {α : Type} {R : List α} {k : Nat} {r : α} (h : R[k]? = some r) : R.take (k + 1) = R.take k ++ [r] := by rw [List.take_add_one, h]; rfl
set_option maxHeartbeats 4000000 in
set_option maxRecDepth 100000 in
theorem runs_in (n0 : Nat) (hn0 : 1 ≤ n0) (l k1 n : Nat) (R : List (Rn Int)) (ao : Option Addr) (cap : Nat) (hN : n = R.length) (hlen : n ≤ 100000) (Kp : World → World → Prop) (hKp : ∀ A B, Kp A B → Ld k1 n R ao cap A → Ld k1 n R ao cap B)
    (J Jx : List (Rn Int) → World → Prop) (W : World) (hJ : AbidesFrom W.heap.size J)
    (hY : ∀ pre x W1, J pre W1 → pre.length < n → YieldAt Fence.wide (n0 - 1) Try.prog l (encR x) W1 fun e W' => (e = .returned (.bool true) ∧ J (pre ++ [x]) W' ∧ Kp W1 W') ∨ (e = .returned (.bool false) ∧ Jx (pre ++ [x]) W'))
    (hH : Ld k1 n R ao cap W) (h0 : J [] W) :
    CallsIn Fence.wide n0 Try.prog 48 #[.func (.yield l) #[] #[], .pointer (some ⟨k1, 0, none⟩)] W fun e W' => (∃ v, e = .returned v) ∧ ((∃ ys, ys = R ∧ J ys W') ∨ (∃ pre, pre <+: R ∧ Jx pre W')) := by
  have hro : Fence.wide.round = none := rfl
  have c1 := hH.cell
  have l1 : k1 < W.heap.size := cell_lt c1
  have lm := hH.row.hmax
  have lc := hH.row.hcap
  have HH := hid hH
  have HN := hid hN
  clear hH hN
  refine callsIn_of_wp Try.func48 rfl trivial ?_ hro
  simp only [Try.ntmps48, List.size_toArray, List.length_cons, List.length_nil, Nat.reduceAdd, Nat.reduceSub, Array.replicate_succ, Array.replicate_zero, List.push_toArray, List.append_toArray, List.nil_append, List.cons_append]
  gi_wp2
  gi_loopw [8] (fun i wr => ∃ (k : Nat), i = .int .i64 (k : Int) ∧ k ≤ n ∧ Hid (J (R.take k) wr) ∧ Hid (Ld k1 n R ao cap wr)) (fun i _ => n - (intOf i).toNat)
  case atStart => exact ⟨0, rfl, Nat.zero_le _, hid h0, HH⟩
  case round =>
    obtain ⟨k, rfl, hk, hJs, hLd⟩ := hrel
    clear c1 l1
    by_cases hlt : k < n
    · obtain ⟨r, hr⟩ : ∃ r, R[k]? = some r := ⟨_, List.getElem?_eq_getElem (by have := HN.out; omega)⟩
      obtain ⟨gb, go, eg, lg, s0, s1, s2, -⟩ := rn_at hLd.out.row hr
      subst eg
      have i0 : (k : Int) < (n : Int) := by omega
      have i2 : (0 : Int) ≤ (k : Int) := by omega
      have bt : Below wr.heap.size wr (wr.alloc (.cells #[.int .i64 r.a, .int .i64 r.b, .int .i64 r.v] 69)) := bel_alloc _ _
      have HJ := hid (hJ _ wr _ none hJs.out (grown_of bt) (fun _ e => by cases e))
      have HT := hid (hLd.out.on bt)
      obtain ⟨fn, tmps, assign, body, hy, hR⟩ := hY (R.take k) r _ HJ.out (by rw [List.length_take]; have := HN.out; omega)
      rw [← take_pre hr] at hR
      dsimp only [encR] at hy
      have HR := hid hR
      clear hR bt hr
      gi_wp2
      refine HR.out.mono ?_
      rintro e W3 (⟨rfl, hJ3, hk3⟩ | ⟨rfl, hJx3⟩)
      · have HT3 := hid (hKp _ _ hk3 HT.out)
        have HJ3 := hid hJ3
        clear hJ3 hk3 HT
        gi_wp2
        go_roundw
        case rel => exact ⟨k + 1, by simp, by omega, HJ3, HT3⟩
        case measure => simp [intOf]; omega
      · gi_wp2
        refine bodyPost_ret (results_none rfl _ _ _) rfl ?_
        exact ⟨⟨_, rfl⟩, .inr ⟨_, List.take_prefix _ _, hJx3⟩⟩
    · have EA : R.take k = R := List.take_of_length_le (by have := HN.out; omega)
      have HJ := hid (show J R wr by have := hJs.out; rw [EA] at this; exact this)
      gi_wp2
      go_end0
      exact ⟨⟨_, rfl⟩, .inl ⟨_, rfl, HJ.out⟩⟩
set_option maxHeartbeats 1600000 in
set_option maxRecDepth 100000 in
theorem runs_int (R : List (Rn Int)) (ao : Option Addr) (cap : Nat) (w : World) (hr : Row tRn w ao R.length cap R) (hn : R.length ≤ 100000) :
    Calls Try.prog 36 #[.agg #[.slice ao R.length cap]] w fun e w' => Below w.heap.size w w' ∧ ∃ (gf : Nat) (lb : Array Value), e = .returned (.func (.func gf) #[] lb) ∧ (∀ args W, (callFunc gf args).run Try.prog W = .ok (.enter gf args) W) ∧
      ∀ (n : Nat), 1 ≤ n → ∀ Kp : World → World → Prop, (∀ A B, Kp A B → KeepL w.heap.size w'.heap.size ao (R ≠ []) A B) → SeqStopsK Fence.wide n Try.prog gf lb encR Kp (fun ys => ys = R) (fun pre => pre <+: R) R.length w' := by
  obtain ⟨w1, hw1⟩ : ∃ W, W = w.alloc (.cells ([.slice ao R.length cap] : List Value).toArray 27) := ⟨_, rfl⟩
  obtain ⟨k1, hk1⟩ : ∃ k, k = w.heap.size := ⟨_, rfl⟩
  have b1 : Below w.heap.size w w1 := by rw [hw1]; exact bel_alloc _ _
  have X1 : Box w1 k1 [.slice ao R.length cap] := by rw [hw1, hk1]; exact Box.new w _ _
  have e1 : w1.heap.size = w.heap.size + 1 := by rw [hw1]; simp
  have HL := hid (⟨X1.cell 0 _ rfl, hr.on b1⟩ : Ld k1 R.length R ao cap w1)
  have HB := hid (show w.heap.size ≤ k1 ∧ k1 < w1.heap.size by omega)
  have B := hid b1
  have HW := hid hw1
  have HK := hid hk1
  clear hw1 hk1 X1 b1 hr e1
  obtain ⟨n, hnn⟩ : ∃ n, n = R.length := ⟨_, rfl⟩
  rw [← hnn] at HL HW hn ⊢
  have HN := hid hnn
  clear hnn
  go_enter Try.func36, Try.ntmps36
  go_upto_region 1 with fail
  rw [← HW.out, ← HK.out]
  clear HW HK
  go_wp2
  go_ret
  refine ⟨B.out, _, _, rfl, enters_of Try.func48 (by kernel_rfl) rfl, fun n0 h1 Kp hKp l J Jx W hW hJ _ hY h0 => ?_⟩
  exact runs_in n0 h1 l k1 n R ao cap HN.out hn Kp (fun A B' k h => ⟨(World.cell?_of_block (a := ⟨k1, 0, none⟩) (hKp _ _ k k1 (.inl HB.out))).trans h.cell, row_keep h.row fun hne ad e => hKp _ _ k ad.block (.inr ⟨hne, ad, e, rfl⟩)⟩) J Jx W hJ hY (HL.out.on hW) h0
end Go.Proofs.Ytghhnimimccpoaa.Li
/- Package line: what the laws of layer 14 ask of it. -/
namespace Go.Proofs.Ytghhnimimccpoaa.Li
open Go.RowKit Go.Sort Go.Shelf P Mm R6 R14 L14
theorem ln : Ln := ⟨
  fun k l ao cap w hl h1 h2 h3 => of_int k l ao cap w hl h1 h2 h3 (rn_ok h1 h2 (by omega) (row_vals hl)) (fun i => rn_ok h1 h2 (by rw [List.length_take]; omega) (fun v hv => row_vals hl v (List.take_subset _ _ hv))),
  fun k l ao cap w _ _ => count_int (runsF k l).length ao cap w,
  fun k l ao cap w hr hp => span_int (runsF k l) ao cap w hr hp.2.2.2.2,
  fun k x l ao cap w hr hp _ => at_int k x l ao cap w hr hp.2.2.2.2,
  fun k l ao cap w hr hp => runs_int (runsF k l) ao cap w hr hp.2.2.2.2,
  fun k l ao cap k' l' bo bcap w hr _ hr' _ => equal_int (runsF k l) (runsF k' l') ao cap bo bcap w hr hr'⟩
end Go.Proofs.Ytghhnimimccpoaa.Li
