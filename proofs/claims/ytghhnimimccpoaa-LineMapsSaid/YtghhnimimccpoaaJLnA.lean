/- Package line, walked: Flat, Fill. -/
import Derived.Test.YtghhnimimccpoaaJLn5
import Derived.Test.YtghhnimimccpoaaJL14f
import Derived.Test.YtghhnimimccpoaaJLn1
namespace Go.Proofs.Ytghhnimimccpoaa.P
end Go.Proofs.Ytghhnimimccpoaa.P
namespace Go.Proofs.Ytghhnimimccpoaa.Mm
end Go.Proofs.Ytghhnimimccpoaa.Mm
namespace Go.Proofs.Ytghhnimimccpoaa.R6
end Go.Proofs.Ytghhnimimccpoaa.R6
namespace Go.Proofs.Ytghhnimimccpoaa.R14
end Go.Proofs.Ytghhnimimccpoaa.R14
namespace Go.Proofs.Ytghhnimimccpoaa.L14
end Go.Proofs.Ytghhnimimccpoaa.L14
namespace Go.Proofs.Ytghhnimimccpoaa.Li
open Go.RowKit Go.Sort Go.Shelf P Mm R6 R14 L14
theorem with_rep {α : Type} [DecidableEq α] (k : Int) (L : List α) (v : α) (n : Nat) {a b : Int} (ha : a = k + L.length) (hb : b = k + L.length + n - 1) : withR (runsF k L) ⟨a, b, v⟩ = runsF k (L ++ List.replicate n v) := by
  unfold withR
  cases n with
  | zero =>
    rw [if_pos (by show b < a; omega), List.replicate_zero, List.append_nil]
  | succ n =>
    rw [if_neg (by show ¬ b < a; omega), show a = k + (L.length : Int) from ha, show b = k + (L.length : Int) + (n : Int) by omega]
    exact add_runs k L v n
theorem flat_with (a b v : Int) : withR [] ⟨a, b, v⟩ = runsF a (flatL a b v) := by
  rcases Int.lt_or_le b a with h | h
  · rw [flat_no h]
    unfold withR
    rw [if_pos h]
    rfl
  · rw [flat_runs h]
    unfold withR
    rw [if_neg (Int.not_lt.2 h)]
    rfl
/-- Where a line is filled. -/
def flagL (k : Int) (l : List Int) (a b : Int) : List Bool := l.mapIdx fun i _ => inL a b (k + i)
theorem flag_with {k a b s f t : Int} {l : List Int} (hs : s = k + l.length - 1) (hf : f = max a k) (ht : t = min b s) (h : f ≤ t) :
    withR (withR (withR [] ⟨k, f - 1, false⟩) ⟨f, t, true⟩) ⟨t + 1, s, false⟩ = runsF k (flagL k l a b) := by
  obtain ⟨n1, h1⟩ : ∃ n : Nat, (n : Int) = f - k := ⟨(f - k).toNat, by omega⟩
  obtain ⟨n2, h2⟩ : ∃ n : Nat, (n : Int) = t - f + 1 := ⟨(t - f + 1).toNat, by omega⟩
  obtain ⟨n3, h3⟩ : ∃ n : Nat, (n : Int) = s - t := ⟨(s - t).toNat, by omega⟩
  have e1 := with_rep k ([] : List Bool) false n1 (a := k) (b := f - 1) (by simp) (by simp; omega)
  have e2 := with_rep k (List.replicate n1 false) true n2 (a := f) (b := t) (by rw [List.length_replicate]; omega) (by rw [List.length_replicate]; omega)
  have e3 := with_rep k (List.replicate n1 false ++ List.replicate n2 true) false n3 (a := t + 1) (b := s) (by rw [List.length_append, List.length_replicate, List.length_replicate]; omega) (by rw [List.length_append, List.length_replicate, List.length_replicate]; omega)
  rw [show runsF k ([] : List Bool) = [] from rfl, List.nil_append] at e1
  rw [e1, e2, e3]
  congr 1
  refine List.ext_getElem? fun i => ?_
  unfold flagL
  rw [List.getElem?_mapIdx]
  by_cases hi : i < l.length
  · rw [List.getElem?_eq_getElem hi]
    show _ = some (inL a b (k + (i : Int)))
    unfold inL
    by_cases q1 : i < n1
    · rw [List.append_assoc, List.getElem?_append_left (by rw [List.length_replicate]; exact q1), List.getElem?_replicate, if_pos q1, decide_eq_false (by omega : ¬ a ≤ k + (i : Int)), Bool.false_and]
    · by_cases q2 : i < n1 + n2
      · rw [List.getElem?_append_left (by rw [List.length_append, List.length_replicate, List.length_replicate]; exact q2), List.getElem?_append_right (by rw [List.length_replicate]; omega), List.getElem?_replicate, if_pos (by rw [List.length_replicate]; omega), decide_eq_true (by omega : a ≤ k + (i : Int)), decide_eq_true (by omega : k + (i : Int) ≤ b), Bool.and_self]
      · rw [List.getElem?_append_right (by rw [List.length_append, List.length_replicate, List.length_replicate]; omega), List.getElem?_replicate, if_pos (by rw [List.length_append, List.length_replicate, List.length_replicate]; omega), decide_eq_false (by omega : ¬ k + (i : Int) ≤ b), Bool.and_false]
  · rw [List.getElem?_eq_none (by rw [List.length_append, List.length_append, List.length_replicate, List.length_replicate, List.length_replicate]; omega), List.getElem?_eq_none (by omega)]
    rfl
theorem fill_none {k a b v s f t : Int} {l : List Int} (hs : s = k + l.length - 1) (hf : f = max a k) (ht : t = min b s) (h : t < f) : fillL k l a b v = l := by
  unfold fillL
  refine List.ext_getElem? fun i => ?_
  rw [List.getElem?_mapIdx]
  by_cases hi : i < l.length
  · rw [List.getElem?_eq_getElem hi]
    show some (if inL a b (k + (i : Int)) = true then v else l[i]) = some l[i]
    rw [if_neg]
    unfold inL
    rw [Bool.and_eq_true, decide_eq_true_eq, decide_eq_true_eq]
    omega
  · rw [List.getElem?_eq_none (by omega)]
    rfl
theorem fill_both (k : Int) (l : List Int) (a b v : Int) : Both (fun (old : Int) (i : Bool) => if i = true then v else old) k l k (flagL k l a b) (fillL k l a b v) := fun i => by
  unfold atL
  rw [if_neg (by omega), if_neg (by omega), show (max k k + (i : Int) - k).toNat = i by omega]
  unfold fillL flagL
  rw [List.getElem?_mapIdx, List.getElem?_mapIdx]
  rcases l[i]? with _ | x <;> rfl
theorem flag_ok {rs : List (Rn Bool)} {r : Rn Bool} (h : ∀ z ∈ rs, RbOk z) (hr : I64 r.a ∧ I64 r.b) : ∀ z ∈ withR rs r, RbOk z := fun z hz => by
  unfold withR at hz
  split at hz
  · exact h z hz
  · unfold addR at hz
    split at hz
    · rw [List.mem_singleton] at hz
      subst hz
      exact hr
    · rename_i y hy
      have hm := List.mem_of_getLast? hy
      split at hz
      · rcases List.mem_append.1 hz with h1 | h1
        · exact h z (List.dropLast_subset _ h1)
        · rw [List.mem_singleton] at h1
          subst h1
          exact ⟨(h y hm).1, hr.2⟩
      · rcases List.mem_append.1 hz with h1 | h1
        · exact h z h1
        · rw [List.mem_singleton] at h1
          subst h1
          exact hr
set_option maxHeartbeats 1600000 in
set_option maxRecDepth 100000 in
theorem flat_int (a b v : Int) (w : World) (ha : -1073741824 ≤ a ∧ a ≤ 1073741824) (hb : -1073741824 ≤ b ∧ b ≤ 1073741824) (hv : I64 v) :
    Calls Try.prog 19 #[.int .i64 a, .int .i64 b, .int .i64 v] w fun e w' => (∃ ao' cap', e = .returned (.agg #[.slice ao' (runsF a (flatL a b v)).length cap']) ∧ Row tRn w' ao' (runsF a (flatL a b v)).length cap' (runsF a (flatL a b v))) ∧ Below w.heap.size w w' := by
  obtain ⟨w1, hw1⟩ : ∃ W, W = w.alloc (.cells ([.slice none 0 0] : List Value).toArray 27) := ⟨_, rfl⟩
  obtain ⟨k1, hk1⟩ : ∃ k, k = w.heap.size := ⟨_, rfl⟩
  have b1 : Below w.heap.size w w1 := by rw [hw1]; exact bel_alloc _ _
  have X1 : Box w1 k1 [.slice none 0 0] := by rw [hw1, hk1]; exact Box.new w _ _
  have e1 : w1.heap.size = w.heap.size + 1 := by rw [hw1]; simp
  have HB := hid (show w.heap.size ≤ k1 ∧ k1 < w1.heap.size by omega)
  have cW := hid (with_int [] (.slice none 0 0) w1.heap.size 0 a b v w1 rfl (World.ownsRow_nil _ _ _ _) (fun r h => by cases h) (Nat.le_refl _) (by omega))
  rw [flat_with] at cW
  obtain ⟨R, hR⟩ : ∃ R, R = runsF a (flatL a b v) := ⟨_, rfl⟩
  have OK := hid (show ∀ r ∈ R, RnOk r by
    rw [hR]
    obtain ⟨p1, p2, p3, p4, p5⟩ := flat_ply ha hb hv
    exact rn_ok p1 p2 p3 p4)
  rw [← hR] at cW ⊢
  have XB := hid X1
  have B := hid b1
  have HW := hid hw1
  have HK := hid hk1
  clear hw1 hk1 X1 b1 e1 ha hb hv hR
  go_enter Try.func19, Try.ntmps19
  go_upto_region 1 with fail
  rw [← HW.out, ← HK.out]
  clear HW HK
  go_wp2_with fail
  refine cW.out.mono ?_
  rintro e w2 ⟨V, M, rfl, hM, hO, hg⟩
  subst hM
  have BX := XB.out.grown hg (fun e => by cases e)
  have B2 := B.out.grown hg (by have := HB.out; omega) (fun j e => by cases e)
  obtain ⟨ao2, cp, e, RF, X7, -⟩ := fin_int (k1 := k1) hO HB.out.2 OK.out BX
  subst e
  have e0 := BX.cell 0 _ rfl
  have f0 := BX.free 0
  have l0 := BX.lt
  have RF := hid RF
  have X7 := hid X7
  have BF := hid (B2.setCell (p := ⟨k1, 0, none⟩) HB.out.1 (.slice ao2 R.length cp))
  clear hO hg cW BX B2
  go_wp2
  refine bodyPost_ret (v := .agg #[.slice ao2 R.length cp]) ?_ rfl ⟨⟨ao2, cp, rfl, RF.out⟩, BF.out⟩
  exact Md.results_mid rfl _ _ k1 [.slice ao2 R.length cp] _ rfl (fun j u h => by rw [Nat.zero_add]; exact X7.out.cell j u h) Try.underlying27 rfl (by kernel_rfl)
set_option maxHeartbeats 1600000 in
theorem fill1_any (old v : Int) (i : Bool) (k7 : Nat) (W : World) (X : Box W k7 [.int .i64 v]) :
    Calls Try.prog 41 #[.int .i64 old, .bool i, .pointer (some ⟨k7, 0, none⟩)] W fun e W' => e = .returned (.int .i64 (if i = true then v else old)) ∧ W = W' := by
  have c0 := X.cell 0 _ rfl
  have l0 := X.lt
  clear X
  go_enter Try.func41, Try.ntmps41
  cases i <;>
    (go_wp2
     go_ret
     exact ⟨rfl, rfl⟩)
end Go.Proofs.Ytghhnimimccpoaa.Li
/- Package line, walked: Fill. -/
namespace Go.Proofs.Ytghhnimimccpoaa.Li
open Go.RowKit Go.Sort Go.Shelf P Mm R6 R14 L14
theorem flag_runs {k s f t : Int} (h1 : I64 k ∧ I64 s ∧ I64 (f - 1) ∧ I64 f ∧ I64 t ∧ I64 (t + 1)) : (∀ z ∈ withR [] (⟨k, f - 1, false⟩ : Rn Bool), RbOk z) ∧ (∀ z ∈ withR (withR [] (⟨k, f - 1, false⟩ : Rn Bool)) ⟨f, t, true⟩, RbOk z) ∧ (∀ z ∈ withR (withR (withR [] (⟨k, f - 1, false⟩ : Rn Bool)) ⟨f, t, true⟩) ⟨t + 1, s, false⟩, RbOk z) := by
  have r1 := flag_ok (rs := []) (r := ⟨k, f - 1, false⟩) (fun z h => by cases h) ⟨h1.1, h1.2.2.1⟩
  have r2 := flag_ok (r := ⟨f, t, true⟩) r1 ⟨h1.2.2.2.1, h1.2.2.2.2.1⟩
  exact ⟨r1, r2, flag_ok (r := ⟨t + 1, s, false⟩) r2 ⟨h1.2.2.2.2.2, h1.2.1⟩⟩
set_option maxHeartbeats 4000000 in
set_option maxRecDepth 100000 in
theorem fill_int (k : Int) (l : List Int) (ao : Option Addr) (cap : Nat) (a b v : Int) (w : World) (hr : Row tRn w ao (runsF k l).length cap (runsF k l)) (hp : Ply k l) (hl : l.length ≤ 1000) (ha : -1073741824 ≤ a ∧ a ≤ 1073741824) (hb : -1073741824 ≤ b ∧ b ≤ 1073741824) (hv : I64 v) :
    Calls Try.prog 17 #[.agg #[.slice ao (runsF k l).length cap], .int .i64 a, .int .i64 b, .int .i64 v] w fun e w' => (∃ ao' cap', e = .returned (.agg #[.slice ao' (runsF k (fillL k l a b v)).length cap']) ∧ Row tRn w' ao' (runsF k (fillL k l a b v)).length cap' (runsF k (fillL k l a b v))) ∧ Below w.heap.size w w' := by
  obtain ⟨n1, hn1⟩ : ∃ n, n = (runsF k l).length := ⟨_, rfl⟩
  have cSp := fun W (h : Row tRn W ao (runsF k l).length cap (runsF k l)) => span_int (runsF k l) ao cap W h hp.2.2.2.2
  rw [← hn1] at hr cSp ⊢
  obtain ⟨w1, hw1⟩ : ∃ W, W = w.alloc (.cells ([.slice ao n1 cap] : List Value).toArray 27) := ⟨_, rfl⟩
  obtain ⟨k1, hk1⟩ : ∃ k, k = w.heap.size := ⟨_, rfl⟩
  have b1 : Below w.heap.size w w1 := by rw [hw1]; exact bel_alloc _ _
  have X1 : Box w1 k1 [.slice ao n1 cap] := by rw [hw1, hk1]; exact Box.new w _ _
  obtain ⟨w2, hw2⟩ : ∃ W, W = w1.alloc (.cells ([.int .i64 v] : List Value).toArray 3) := ⟨_, rfl⟩
  obtain ⟨k2, hk2⟩ : ∃ k, k = w1.heap.size := ⟨_, rfl⟩
  have b2 : Below w1.heap.size w1 w2 := by rw [hw2]; exact bel_alloc _ _
  have X2 : Box w2 k2 [.int .i64 v] := by rw [hw2, hk2]; exact Box.new w1 _ _
  obtain ⟨w3, hw3⟩ : ∃ W, W = w2.alloc (.cells ([.slice none 0 0] : List Value).toArray 27) := ⟨_, rfl⟩
  obtain ⟨k3, hk3⟩ : ∃ k, k = w2.heap.size := ⟨_, rfl⟩
  have b3 : Below w2.heap.size w2 w3 := by rw [hw3]; exact bel_alloc _ _
  have X3 : Box w3 k3 [.slice none 0 0] := by rw [hw3, hk3]; exact Box.new w2 _ _
  obtain ⟨n0, hn0⟩ : ∃ n, n = w3.heap.size := ⟨_, rfl⟩
  have e1 : w1.heap.size = w.heap.size + 1 := by rw [hw1]; simp
  have e2 : w2.heap.size = w.heap.size + 2 := by rw [hw2]; simp [e1]
  have e3 : w3.heap.size = w.heap.size + 3 := by rw [hw3]; simp [e2]
  have HB := hid (show w.heap.size ≤ k1 ∧ k1 < k2 ∧ k2 < k3 ∧ k3 < n0 ∧ n0 = w3.heap.size by omega)
  have b03 := bel_on b1 (bel_on b2 b3)
  have XX := hid (fun (W : World) (b : Below w3.heap.size w3 W) => (⟨((X1.on b2).on b3).on b, (X2.on b3).on b, X3.on b, bel_on b03 b⟩ : Box W k1 [.slice ao n1 cap] ∧ Box W k2 [.int .i64 v] ∧ Box W k3 [.slice none 0 0] ∧ Below w.heap.size w W))
  have HR := hid (fun (W : World) (b : Below w3.heap.size w3 W) => hr.on (bel_on b03 b))
  have HR0 := hid hr
  have HP := hid hp
  have HA := hid ha
  have HBB := hid hb
  have HV := hid hv
  have HN1 := hid hn1
  have CS := hid (cSp w3 (hr.on b03))
  have HW := hid (show w3 = ((w.alloc (.cells #[.slice ao n1 cap] 27)).alloc (.cells #[.int .i64 v] 3)).alloc (.cells #[.slice none 0 0] 27) by rw [hw3, hw2, hw1])
  have HK1 := hid hk1
  have HK2 := hid (show k2 = w.heap.size + 1 by omega)
  have HK3 := hid (show k3 = w.heap.size + 1 + 1 by omega)
  have c0 := ((X1.on b2).on b3).cell 0 _ rfl
  have l1 := ((X1.on b2).on b3).lt
  have HO : ∀ r ∈ runsF k (fillL k l a b v), RnOk r := rn_ok hp.1 hp.2.1 (by rw [fill_len]; omega) (fill_i hp.2.2.2.1 hv)
  have HOT : ∀ c, ∀ r ∈ runsF (max k k) ((fillL k l a b v).take c), RnOk r := fun c => by
    rw [show max k k = k by omega]
    exact rn_ok hp.1 hp.2.1 (by rw [List.length_take, fill_len]; omega) (fun z hz => fill_i hp.2.2.2.1 hv z (List.take_subset _ _ hz))
  have HOT := hid HOT
  have BF0 := hid b03
  obtain ⟨s1, hs1⟩ : ∃ s, s = (spanR (runsF k l)).1 := ⟨_, rfl⟩
  obtain ⟨s2, hs2⟩ : ∃ s, s = (spanR (runsF k l)).2.1 := ⟨_, rfl⟩
  obtain ⟨s3, hs3⟩ : ∃ s, s = (spanR (runsF k l)).2.2 := ⟨_, rfl⟩
  rw [← hs1, ← hs2, ← hs3] at CS
  have HS := hid (show (l = [] ∧ s1 = 0 ∧ s2 = 0 ∧ s3 = false) ∨ (l ≠ [] ∧ s1 = k ∧ s2 = k + l.length - 1 ∧ s3 = true) by
    rw [hs1, hs2, hs3, span_runs]
    by_cases e : l = []
    · rw [if_pos e]
      exact .inl ⟨e, rfl, rfl, rfl⟩
    · rw [if_neg e]
      exact .inr ⟨e, rfl, rfl, rfl⟩)
  clear hw1 hk1 X1 b1 hw2 hk2 X2 b2 hw3 hk3 X3 b3 hr e1 e2 e3 hn0 hn1 b03 cSp hp ha hb hv HO hs1 hs2 hs3
  go_enter Try.func17, Try.ntmps17
  go_upto_region 1 with fail
  rw [← HW.out, ← HK3.out, ← HK2.out, ← HK1.out]
  clear HW HK1 HK2 HK3
  go_wp2_with fail
  refine CS.out.mono ?_
  rintro e w4 ⟨rfl, b4⟩
  have B4 := hid b4
  clear CS b4 c0 l1
  obtain ⟨f, hf⟩ : ∃ f, f = max a s1 := ⟨_, rfl⟩
  obtain ⟨t, ht⟩ : ∃ t, t = min b s2 := ⟨_, rfl⟩
  go_upto_region 2 with fail
  go_cut [1, 2] (fun x y W => x = .int .i64 f ∧ y = .int .i64 t ∧ Hid (Below w4.heap.size w4 W))
  case first =>
    have HF := hid hf
    have HT := hid ht
    clear hf ht
    go_wp2
    all_goals
      go_meet
      exact ⟨congrArg (Value.int .i64) (by have := HF.out; omega), congrArg (Value.int .i64) (by have := HT.out; omega), hid (Below.refl _ _)⟩
  case rest =>
    obtain ⟨rfl, rfl, hcb⟩ := hcut
    have B5 := hid (bel_on B4.out hcb.out)
    clear B4 hcb
    have BX := (XX.out wc B5.out).2.2.1
    have XL := (XX.out wc B5.out).1
    have c0 := XL.cell 0 _ rfl
    have l1 := XL.lt
    rcases HS.out with ⟨hl0, -, -, rfl⟩ | ⟨hl0, h1, h2, rfl⟩
    · have EF := hid (show fillL k l a b v = l by rw [hl0]; rfl)
      have X7 := hid (BX.set 0 (.slice ao n1 cap))
      have e0 := BX.cell 0 _ rfl
      have f0 := BX.free 0
      have l0 := BX.lt
      have BF := hid ((XX.out wc B5.out).2.2.2.setCell (p := ⟨k3, 0, none⟩) (by have := HB.out; show w.heap.size ≤ k3; omega) (.slice ao n1 cap))
      have RF := hid (HR0.out.on BF.out)
      clear BX XL hl0
      go_wp2
      refine bodyPost_ret (v := .agg #[.slice ao n1 cap]) ?_ rfl ⟨by rw [EF.out, ← HN1.out]; exact ⟨ao, cap, rfl, RF.out⟩, BF.out⟩
      exact Md.results_mid rfl _ _ k3 [.slice ao n1 cap] _ rfl (fun j u h => by rw [Nat.zero_add]; exact X7.out.cell j u h) Try.underlying27 rfl (by kernel_rfl)
    · by_cases hft : t < f
      · have z : decide (t < f) = true := decide_eq_true hft
        have EF := hid (show fillL k l a b v = l from fill_none (s := s2) h2 (by rw [hf, h1]) ht hft)
        clear hft h1 h2 hf ht
        have X7 := hid (BX.set 0 (.slice ao n1 cap))
        have e0 := BX.cell 0 _ rfl
        have f0 := BX.free 0
        have l0 := BX.lt
        have BF := hid ((XX.out wc B5.out).2.2.2.setCell (p := ⟨k3, 0, none⟩) (by have := HB.out; show w.heap.size ≤ k3; omega) (.slice ao n1 cap))
        have RF := hid (HR0.out.on BF.out)
        clear BX XL
        go_wp2
        refine bodyPost_ret (v := .agg #[.slice ao n1 cap]) ?_ rfl ⟨by rw [EF.out, ← HN1.out]; exact ⟨ao, cap, rfl, RF.out⟩, BF.out⟩
        exact Md.results_mid rfl _ _ k3 [.slice ao n1 cap] _ rfl (fun j u h => by rw [Nat.zero_add]; exact X7.out.cell j u h) Try.underlying27 rfl (by kernel_rfl)
      · have z : decide (t < f) = false := decide_eq_false hft
        subst h1
        have q1 := HA.out
        have q2 := HBB.out
        obtain ⟨p1, p2, -⟩ := HP.out
        have hlp : 1 ≤ l.length := by
          rcases l with _ | ⟨x, xs⟩
          · exact absurd rfl hl0
          · simp
        have w1 : IntKind.i64.wrap (f - 1) = f - 1 := wrap_l (by unfold I64; omega)
        have w2 : IntKind.i64.wrap (t + 1) = t + 1 := wrap_l (by unfold I64; omega)
        have RB := hid (flag_runs (k := s1) (s := s2) (f := f) (t := t) ⟨by unfold I64; omega, by unfold I64; omega, by unfold I64; omega, by unfold I64; omega, by unfold I64; omega, by unfold I64; omega⟩)
        have FL := hid (flag_with (a := a) (b := b) h2 hf ht (Int.not_lt.1 hft))
        have c1 := hid (with_bool [] (.slice none 0 0) wc.heap.size 0 s1 (f - 1) false wc rfl (World.ownsRow_nil _ _ _ _) (fun r h => by cases h) (Nat.le_refl _) (by omega))
        clear hft hf ht h2 q1 q2 p1 p2 c0 l1 BX XL
        go_wp2_with fail
        refine c1.out.mono ?_
        rintro e w5 ⟨V1, M1, rfl, hM1, hO1, hg1⟩
        have L1 := with_len ([] : List (Rn Bool)) ⟨s1, f - 1, false⟩
        have Z1 := hg1.size
        have c2 := hid (with_bool _ V1 wc.heap.size M1 f t true w5 hM1 hO1 RB.out.1 Z1 (by simp only [List.length_nil] at L1; omega))
        have B6 := hid (B5.out.grown hg1 B5.out.size (fun j e => by cases e))
        have KV1 := hid (fun (j : Nat) (e : V1.ownBlock = some j) => (hO1.lt j e).1)
        have N1 := hid (show M1 ≤ 1 by simp only [List.length_nil] at L1; omega)
        have Z1 := hid Z1
        clear c1 hM1 hO1 hg1 L1
        go_wp2_with fail
        refine c2.out.mono ?_
        rintro e w6 ⟨V2, M2, rfl, hM2, hO2, hg2⟩
        have L2 := with_len (withR ([] : List (Rn Bool)) ⟨s1, f - 1, false⟩) ⟨f, t, true⟩
        have B7 := hid (B6.out.grown hg2 B6.out.size (fun j e => by have := KV1.out j e; have := B5.out.size; omega))
        have Z2 := Nat.le_trans Z1.out hg2.size
        have N2 := hid (show M2 ≤ 2 by have := N1.out; have := with_len ([] : List (Rn Bool)) ⟨s1, f - 1, false⟩; simp only [List.length_nil] at this; omega)
        have c3 := hid (with_bool _ V2 wc.heap.size M2 (t + 1) s2 false w6 hM2 hO2 RB.out.2.1 Z2 (by have := N2.out; omega))
        rw [FL.out] at c3
        have KV2 := hid (fun (j : Nat) (e : V2.ownBlock = some j) => (hO2.lt j e).1)
        clear c2 hM2 hO2 hg2 L2 KV1 B6 Z1 Z2 N1
        go_wp2_with fail
        refine c3.out.mono ?_
        rintro e w7 ⟨V3, M3, rfl, hM3, hO3, hg3⟩
        have B8 := hid (B7.out.grown hg3 B7.out.size (fun j e => by have := KV2.out j e; have := B5.out.size; omega))
        subst hM3
        have L3 := hid (show (runsF s1 (flagL s1 l a b)).length ≤ 100000 by
          rw [← FL.out]
          have e1 := with_len ([] : List (Rn Bool)) ⟨s1, f - 1, false⟩
          have e2 := with_len (withR ([] : List (Rn Bool)) ⟨s1, f - 1, false⟩) ⟨f, t, true⟩
          have e3 := with_len (withR (withR ([] : List (Rn Bool)) ⟨s1, f - 1, false⟩) ⟨f, t, true⟩) ⟨t + 1, s2, false⟩
          simp only [List.length_nil] at e1
          omega)
        obtain ⟨bo, bcap, e, RB3⟩ := row_own (n := 3) (cells := rbC) (ok := RbOk) (hn := fun _ => rfl) hO3 (by have := RB.out.2.2; rw [FL.out] at this; exact this)
        subst e
        have XW := (XX.out w7 B8.out).2.1
        have hf7 : ∀ (x : Int) (y : Bool) (W : World), Below w7.heap.size w7 W → Calls Try.prog 41 (#[.int .i64 x, .bool y] ++ #[.pointer (some ⟨k2, 0, none⟩)]) W fun e W' => e = .returned (.int .i64 (if y = true then v else x)) ∧ W = W' := fun x y W q => fill1_any x v y k2 W (XW.on q)
        have cZ := zip_bool 41 #[.pointer (some ⟨k2, 0, none⟩)] (enters_of Try.func41 (by kernel_rfl) rfl) (fun (old : Int) (i : Bool) => if i = true then v else old) s1 l ao cap s1 (flagL s1 l a b) bo bcap w7 hf7 (by rw [← HN1.out]; exact HR.out w7 B8.out) RB3 (by rw [← HN1.out]; have := HP.out.2.2.2.2; have := HN1.out; omega) L3.out (fillL s1 l a b v) (fill_both s1 l a b v) HOT.out
        rw [← HN1.out] at cZ
        obtain ⟨M3, hM3⟩ : ∃ M, M = (runsF s1 (flagL s1 l a b)).length := ⟨_, rfl⟩
        rw [← hM3] at cZ ⊢
        rw [show max s1 s1 = s1 by omega] at cZ
        have cZ := hid cZ
        have XL := (XX.out w7 B8.out).1
        have c0 := XL.cell 0 _ rfl
        have l1 := XL.lt
        clear hO3 hg3 c3 RB3 XW hf7 XL hM3 KV2 B7
        go_wp2_with fail
        refine cZ.out.mono ?_
        rintro e w8 ⟨⟨ao2, cp, rfl, R8, ka⟩, b8⟩
        have B9 := hid (bel_on B8.out b8)
        have BX := (XX.out w8 B9.out).2.2.1
        have RF := hid (row_keep (B := w8.setCell ⟨k3, 0, none⟩ (.slice ao2 (runsF s1 (fillL s1 l a b v)).length cp)) R8 fun _ ad e => Below.heap_setCell _ _ _ _ (by have := ka ad e; have := BX.lt; have := HB.out; have := B8.out.size; show ad.block ≠ k3; omega))
        have X7 := hid (BX.set 0 (.slice ao2 (runsF s1 (fillL s1 l a b v)).length cp))
        have e0 := BX.cell 0 _ rfl
        have f0 := BX.free 0
        have l0 := BX.lt
        have BF := hid ((XX.out w8 B9.out).2.2.2.setCell (p := ⟨k3, 0, none⟩) (by have := HB.out; show w.heap.size ≤ k3; omega) (.slice ao2 (runsF s1 (fillL s1 l a b v)).length cp))
        clear BX R8 ka b8 cZ c0 l1
        go_wp2
        refine bodyPost_ret (v := .agg #[.slice ao2 (runsF s1 (fillL s1 l a b v)).length cp]) ?_ rfl ⟨⟨ao2, cp, rfl, RF.out⟩, BF.out⟩
        exact Md.results_mid rfl _ _ k3 [.slice ao2 (runsF s1 (fillL s1 l a b v)).length cp] _ rfl (fun j u h => by rw [Nat.zero_add]; exact X7.out.cell j u h) Try.underlying27 rfl (by kernel_rfl)
end Go.Proofs.Ytghhnimimccpoaa.Li
/- Package line: what LineFills, LineAgain, LineMaps, LineWords ask of it. -/
namespace Go.Proofs.Ytghhnimimccpoaa.Li
open Go.RowKit Go.Sort Go.Shelf P Mm R6 R14 L14
theorem lnf : LnF := ⟨fun k l ao cap a b v w hr hp hl ha hb hv => fill_int k l ao cap a b v w hr hp hl ha hb hv, fun a b v w ha hb hv => flat_int a b v w ha hb hv⟩
theorem again1_any (v : Int) (w : World) : Calls Try.prog 33 #[.int .i64 v] w fun e w' => e = .returned (.int .i64 v) ∧ Below w.heap.size w w' := by
  go_enter Try.func33, Try.ntmps33
  go_wp2
  go_ret
  exact ⟨rfl, Below.refl _ _⟩
theorem again2_any (a b : Int) (w : World) : Calls Try.prog 34 #[.int .i64 a, .int .i64 b] w fun e w' => e = .returned (.int .i64 a) ∧ w = w' := by
  go_enter Try.func34, Try.ntmps34
  go_wp2
  go_ret
  exact ⟨rfl, rfl⟩
theorem halve_any (v : Int) (hv : I64 v) (w : World) : Calls Try.prog 26 #[.int .i64 v] w fun e w' => e = .returned (.int .i64 (v.tdiv 2)) ∧ Below w.heap.size w w' := by
  have wk : IntKind.i64.wrap (v.tdiv 2) = v.tdiv 2 := wrap_l (tdiv_i hv)
  go_enter Try.func26, Try.ntmps26
  go_wp2
  go_ret
  exact ⟨rfl, Below.refl _ _⟩
theorem map_ok {g : Int → Int} {k : Int} {l : List Int} (hp : Ply k l) (hg : ∀ a ∈ l, I64 (g a)) : ∀ c, ∀ r ∈ runsF k ((l.map g).take c), RnOk r := fun c =>
  rn_ok hp.1 hp.2.1 (by rw [List.length_take, List.length_map]; have := hp.2.2.1; omega) (fun v hv => by
    obtain ⟨a, ha, rfl⟩ := List.mem_map.1 (List.take_subset _ _ hv)
    exact hg a ha)
theorem lna : LnA := ⟨
  fun k l ao cap w hr hp => map_int 33 (enters_of Try.func33 (by kernel_rfl) rfl) (fun v => v) k l ao cap w (fun a W _ => again1_any a W) hr hp.2.2.2.2 (map_ok hp hp.2.2.2.1),
  fun k l ao cap k' l' bo bcap w hr hp hr' hp' =>
  (zip_int 34 #[] (enters_of Try.func34 (by kernel_rfl) rfl) (fun a _ => a) k l ao cap k' l' bo bcap w (fun a b W _ => again2_any a b W) hr hr' hp.2.2.2.2 hp'.2.2.2.2 (zipL (fun a _ => a) k l k' l') (zip_both (fun a _ => a) k l k' l') (zip_ok hp hp' (fun a ha _ => hp.2.2.2.1 a ha))).mono
    fun _ _ ⟨⟨ao', cap', h1, h2, _⟩, h3⟩ => ⟨⟨ao', cap', h1, h2⟩, h3⟩⟩
theorem lnh : LnH := ⟨fun k l ao cap w hr hp => map_int 26 (enters_of Try.func26 (by kernel_rfl) rfl) (fun v => v.tdiv 2) k l ao cap w (fun a W ha => halve_any a (hp.2.2.2.1 a ha) W) hr hp.2.2.2.2 (map_ok hp (fun a ha => tdiv_i (hp.2.2.2.1 a ha)))⟩
theorem lns : LnS := ⟨
  fun k l ao cap w hl h1 h2 h3 h4 => of_string k l ao cap w hl h1 h2 h3 (rs_ok h1 h2 h3 h4) (fun i => rs_ok h1 h2 (by rw [List.length_take]; omega) (fun s hs => h4 s (List.take_subset _ _ hs))),
  fun k l ao cap w _ _ _ _ _ => count_string (runsF k l).length ao cap w,
  fun k x l ao cap w hr _ _ h3 _ _ => at_string k x l ao cap w hr (Nat.le_trans (runs_len l k) (by omega)),
  fun k l ao cap bo bcap w hr hs _ _ _ _ => (equal_string (runsF k l) (runsF k l) ao cap bo bcap w hr hs).mono fun _ _ ⟨h1, h2⟩ => ⟨by rw [h1, decide_eq_true rfl], h2⟩,
  fun k l ao cap w hr hp hl => map_string 27 (enters_of Try.func27 (by kernel_rfl) rfl) wordF k l ao cap w (fun a W _ => (word_any a W).mono fun _ _ ⟨h1, h2⟩ => ⟨h1, h2 ▸ Below.refl _ _⟩) hr hp.2.2.2.2
    (fun c => rs_ok hp.1 hp.2.1 (by rw [List.length_take, List.length_map]; omega) (fun s hs => by
      obtain ⟨a, _, rfl⟩ := List.mem_map.1 (List.take_subset _ _ hs)
      have := word_size a
      omega))⟩
end Go.Proofs.Ytghhnimimccpoaa.Li
