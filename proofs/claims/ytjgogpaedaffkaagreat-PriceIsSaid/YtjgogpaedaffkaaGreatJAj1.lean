/- Package tiers, walked: the two closures that go over the steps, for whatever round. -/
import Derived.Test.YtjgogpaedaffkaaGreatJTi1
import Derived.Sort.QuietTacIn
import Derived.Test.YtjgogpaedaffkaaGreatJAdjP
import Derived.Test.YtjgogpaedaffkaaGreatJL11g
import Derived.Test.YtjgogpaedaffkaaGreatJRef1L
namespace Go.Proofs.YtjgogpaedaffkaaGreat.P
end Go.Proofs.YtjgogpaedaffkaaGreat.P
namespace Go.Proofs.YtjgogpaedaffkaaGreat.Mm
end Go.Proofs.YtjgogpaedaffkaaGreat.Mm
namespace Go.Proofs.YtjgogpaedaffkaaGreat.Md
end Go.Proofs.YtjgogpaedaffkaaGreat.Md
namespace Go.Proofs.YtjgogpaedaffkaaGreat.R6
end Go.Proofs.YtjgogpaedaffkaaGreat.R6
namespace Go.Proofs.YtjgogpaedaffkaaGreat.Te
end Go.Proofs.YtjgogpaedaffkaaGreat.Te
namespace Go.Proofs.YtjgogpaedaffkaaGreat.Co
end Go.Proofs.YtjgogpaedaffkaaGreat.Co
namespace Go.Proofs.YtjgogpaedaffkaaGreat.R10
end Go.Proofs.YtjgogpaedaffkaaGreat.R10
namespace Go.Proofs.YtjgogpaedaffkaaGreat.R11
end Go.Proofs.YtjgogpaedaffkaaGreat.R11
namespace Go.Proofs.YtjgogpaedaffkaaGreat.L11
end Go.Proofs.YtjgogpaedaffkaaGreat.L11
namespace Go.Proofs.YtjgogpaedaffkaaGreat.Tg
open Go.RowKit Go.Sort Go.Shelf P Mm Md R6 Te Co R10 R11 L11
attribute [local go_sem] Oper.semAt_some
theorem cell_lt {A : World} {p : Addr} {v : Value} (h : A.cell? p = some v) : p.block < A.heap.size := by
  rcases Nat.lt_or_ge p.block A.heap.size with k | k
  · exact k
  · unfold World.cell? at h
    rw [Array.getElem?_eq_none k] at h
    simp at h
theorem grown_of {A B : World} (b : Below A.heap.size A B) : A.grownBy B none := ⟨b.os, b.tape, b.output, b.size, fun k hk _ => b.block k hk⟩
/-- What a closure holds: the tiers and the quantity. -/
structure Hd (bl bq : Nat) (ts : List Tier) (ta : Option Addr) (tc : Nat) (q : Int) (A : World) : Prop where
  lst : A.cell? ⟨bl, 0, none⟩ = some (.slice ta ts.length tc)
  qty : A.cell? ⟨bq, 0, none⟩ = some (.int .i64 q)
  row : Row tTier A ta ts.length tc ts
theorem Hd.on {bl bq : Nat} {ts : List Tier} {ta : Option Addr} {tc : Nat} {q : Int} {A B : World} (h : Hd bl bq ts ta tc q A) (b : Below A.heap.size A B) : Hd bl bq ts ta tc q B :=
  ⟨(b.cell (p := ⟨bl, 0, none⟩) (cell_lt h.lst)).trans h.lst, (b.cell (p := ⟨bq, 0, none⟩) (cell_lt h.qty)).trans h.qty, h.row.on b⟩
set_option maxHeartbeats 4000000 in
set_option maxRecDepth 100000 in
theorem grad_in (n : Nat) (hn : 1 ≤ n) (l bl bq : Nat) (ts : List Tier) (ta : Option Addr) (tc : Nat) (q : Int) (hlen : ts.length ≤ 1000) (Kp : World → World → Prop) (hKp : ∀ A B, Kp A B → Hd bl bq ts ta tc q A → Hd bl bq ts ta tc q B)
    (J Jx : List Stp → World → Prop) (W : World) (hJ : AbidesFrom W.heap.size J) (S : List Stp) (hS : S = walkS ts q ts.length 0 0)
    (hY : ∀ pre x W1, J pre W1 → (pre ++ [x]) <+: S → YieldAt Fence.wide (n - 1) Tryz.prog l (encS x) W1 fun e W' => (e = .returned (.bool true) ∧ J (pre ++ [x]) W' ∧ Kp W1 W') ∨ (e = .returned (.bool false) ∧ Jx (pre ++ [x]) W'))
    (hH : Hd bl bq ts ta tc q W) (h0 : J [] W) :
    CallsIn Fence.wide n Tryz.prog 137 #[.func (.yield l) #[] #[], .pointer (some ⟨bl, 0, none⟩), .pointer (some ⟨bq, 0, none⟩)] W fun e W' => (∃ v, e = .returned v) ∧ ((∃ ys, ys = S ∧ J ys W') ∨ (∃ pre, pre <+: S ∧ Jx pre W')) := by
  have hro : Fence.wide.round = none := rfl
  have c1 := hH.lst
  have c2 := hH.qty
  have tm := hH.row.hmax
  have tcp := hH.row.hcap
  have HH := hid hH
  clear hH
  refine callsIn_of_wp Tryz.func137 rfl trivial ?_ hro
  simp only [Tryz.ntmps137, List.size_toArray, List.length_cons, List.length_nil, Nat.reduceAdd, Nat.reduceSub, Array.replicate_succ, Array.replicate_zero, List.push_toArray, List.append_toArray, List.nil_append, List.cons_append]
  gi_wp2
  gi_loopw [4, 10] (fun v i wr => ∃ (u : Int) (k : Nat) (pre : List Stp), v = .int .i64 u ∧ i = .int .i64 (k : Int) ∧ k ≤ ts.length ∧ Hid (S = pre ++ walkS ts q (ts.length - k) k u) ∧ Hid (J pre wr) ∧ Hid (Hd bl bq ts ta tc q wr)) (fun _ i _ => ts.length - (intOf i).toNat)
  case atStart => exact ⟨0, 0, [], rfl, rfl, Nat.zero_le _, hid hS, hid h0, HH⟩
  case round =>
    obtain ⟨u, k, pre, rfl, rfl, hk, hP, hJs, hHd⟩ := hrel
    clear c1 c2
    by_cases hlt : k < ts.length
    · obtain ⟨t, ht⟩ : ∃ t, ts[k]? = some t := ⟨_, List.getElem?_eq_getElem hlt⟩
      have c1 := hHd.out.lst
      have c2 := hHd.out.qty
      obtain ⟨b, o, e, lb, a0, a1, _⟩ := tier_at hHd.out.row ht
      subst e
      have l1 : bl < wr.heap.size := cell_lt c1
      have l2 : bq < wr.heap.size := cell_lt c2
      obtain ⟨R, hR⟩ : ∃ R, R = reachP ts q k := ⟨_, rfl⟩
      have bt : Below wr.heap.size wr (wr.alloc (.cells #[.int .i64 t.upto, .int .i64 t.rate] 54)) := bel_alloc _ _
      have cR := hid (reach_any ts (some ⟨b, o, none⟩) tc k q _ (hHd.out.row.on bt) hlt hlen)
      rw [← hR] at cR
      have HJ := hid (hJ pre wr _ none hJs.out (grown_of bt) (fun _ e => by cases e))
      have HT := hid (hHd.out.on bt)
      have HW : Hid (walkS ts q (ts.length - k) k u = if R ≤ u then walkS ts q (ts.length - (k + 1)) (k + 1) u else ⟨u, R, t.rate⟩ :: walkS ts q (ts.length - (k + 1)) (k + 1) R) := hid (by
        rw [hR, show ts.length - k = (ts.length - (k + 1)) + 1 by omega]
        show (if _ then _ else _) = _
        rw [ht]
        rfl)
      clear ht hR bt
      by_cases hle : R ≤ u
      · have z : decide (R ≤ u) = true := decide_eq_true hle
        gi_wp2_with fail
        refine ⟨trivial, (callsIn_wide.2 cR.out).mono ?_⟩
        rintro e w2 ⟨rfl, rfl⟩
        gi_wp2
        go_roundw
        case rel => exact ⟨u, k + 1, pre, rfl, by simp, by omega, hid (by rw [hP.out, HW.out, if_pos hle]), HJ, HT⟩
        case measure => simp [intOf]; omega
      · have z : decide (R ≤ u) = false := decide_eq_false hle
        have HS : Hid (S = (pre ++ [⟨u, R, t.rate⟩]) ++ walkS ts q (ts.length - (k + 1)) (k + 1) R) := hid (by rw [hP.out, HW.out, if_neg hle, List.append_assoc]; rfl)
        obtain ⟨fn, tmps, assign, body, hy, hR⟩ := hY pre ⟨u, R, t.rate⟩ _ HJ.out ⟨_, HS.out.symm⟩
        dsimp only [encS] at hy
        have HR := hid hR
        clear hR
        gi_wp2_with fail
        refine ⟨trivial, (callsIn_wide.2 cR.out).mono ?_⟩
        rintro e w2 ⟨rfl, rfl⟩
        gi_wp2
        refine HR.out.mono ?_
        rintro e W3 (⟨rfl, hJ3, hk3⟩ | ⟨rfl, hJx3⟩)
        · have HT3 := hid (hKp _ _ hk3 HT.out)
          gi_wp2
          go_roundw
          case rel => exact ⟨R, k + 1, _, rfl, by simp, by omega, HS, hid hJ3, HT3⟩
          case measure => simp [intOf]; omega
        · gi_wp2
          refine bodyPost_ret (results_none rfl _ _ _) rfl ?_
          exact ⟨⟨_, rfl⟩, .inr ⟨_, ⟨_, HS.out.symm⟩, hJx3⟩⟩
    · obtain rfl : k = ts.length := by omega
      gi_wp2
      go_end0
      refine ⟨⟨_, rfl⟩, .inl ⟨_, rfl, ?_⟩⟩
      have := hP.out
      rw [Nat.sub_self] at this
      rw [this]
      show J (pre ++ []) _
      rw [List.append_nil]
      exact hJs.out
set_option maxHeartbeats 4000000 in
set_option maxRecDepth 100000 in
theorem vol_in (n : Nat) (hn : 1 ≤ n) (l bl bq : Nat) (ts : List Tier) (ta : Option Addr) (tc : Nat) (q : Int) (h1 : 1 ≤ ts.length) (hlen : ts.length ≤ 1000) (Kp : World → World → Prop)
    (J Jx : List Stp → World → Prop) (W : World) (hJ : AbidesFrom W.heap.size J) (S : List Stp) (hS : S = volS q ts)
    (hY : ∀ pre x W1, J pre W1 → (pre ++ [x]) <+: S → YieldAt Fence.wide (n - 1) Tryz.prog l (encS x) W1 fun e W' => (e = .returned (.bool true) ∧ J (pre ++ [x]) W' ∧ Kp W1 W') ∨ (e = .returned (.bool false) ∧ Jx (pre ++ [x]) W'))
    (hH : Hd bl bq ts ta tc q W) (h0 : J [] W) :
    CallsIn Fence.wide n Tryz.prog 135 #[.func (.yield l) #[] #[], .pointer (some ⟨bq, 0, none⟩), .pointer (some ⟨bl, 0, none⟩)] W fun e W' => (∃ v, e = .returned v) ∧ ((∃ ys, ys = S ∧ J ys W') ∨ (∃ pre, pre <+: S ∧ Jx pre W')) := by
  have hro : Fence.wide.round = none := rfl
  have c1 := hH.lst
  have c2 := hH.qty
  have tm := hH.row.hmax
  have tcp := hH.row.hcap
  have HH := hid hH
  clear hH
  refine callsIn_of_wp Tryz.func135 rfl trivial ?_ hro
  simp only [Tryz.ntmps135, List.size_toArray, List.length_cons, List.length_nil, Nat.reduceAdd, Nat.reduceSub, Array.replicate_succ, Array.replicate_zero, List.push_toArray, List.append_toArray, List.nil_append, List.cons_append]
  by_cases hq1 : q < 1
  · have z : decide (q < 1) = true := decide_eq_true hq1
    gi_wp2
    refine bodyPost_ret (results_none rfl _ _ _) rfl ?_
    refine ⟨⟨_, rfl⟩, .inl ⟨[], ?_, h0⟩⟩
    rw [hS]
    unfold volS
    rw [if_neg (by omega)]
  have z : decide (q < 1) = false := decide_eq_false hq1
  have HS : Hid (S = [⟨0, q, volR q ts⟩]) := hid (by rw [hS]; unfold volS; rw [if_pos (by omega)])
  have H0 := hid h0
  clear hS h0 hq1
  gi_wp2
  gi_loopw [10] (fun i wr => ∃ k : Nat, i = .int .i64 (k : Int) ∧ k < ts.length ∧ Hid (volR q (ts.drop k) = volR q ts) ∧ Hid (J [] wr) ∧ Hid (Hd bl bq ts ta tc q wr)) (fun i _ => ts.length - (intOf i).toNat)
  case atStart => exact ⟨0, rfl, h1, hid (by rw [List.drop_zero]), H0, HH⟩
  case round =>
    obtain ⟨k, rfl, hlt, hP, hJs, hHd⟩ := hrel
    clear c1 c2 z
    obtain ⟨t, ht⟩ : ∃ t, ts[k]? = some t := ⟨_, List.getElem?_eq_getElem hlt⟩
    have c1 := hHd.out.lst
    have c2 := hHd.out.qty
    obtain ⟨b, o, e, lb, a0, a1, _⟩ := tier_at hHd.out.row ht
    subst e
    have l1 : bl < wr.heap.size := cell_lt c1
    have l2 : bq < wr.heap.size := cell_lt c2
    obtain ⟨R, hR⟩ : ∃ R, R = reachP ts q k := ⟨_, rfl⟩
    obtain ⟨wt, hwt⟩ : ∃ W, W = wr.alloc (.cells #[.int .i64 t.upto, .int .i64 t.rate] 54) := ⟨_, rfl⟩
    obtain ⟨kt, hkt⟩ : ∃ k, k = wr.heap.size := ⟨_, rfl⟩
    have bt : Below wr.heap.size wr wt := by rw [hwt]; exact bel_alloc _ _
    have XT : Box wt kt [.int .i64 t.upto, .int .i64 t.rate] := by rw [hwt, hkt]; exact Box.new _ [.int .i64 t.upto, .int .i64 t.rate] _
    have HXT := hid XT
    have HT := hid (hHd.out.on bt)
    have HJ := hid (hJ [] wr _ none hJs.out (grown_of bt) (fun _ e => by cases e))
    have VR := hid (show R = q → volR q ts = t.rate from fun e => by rw [← hP.out]; exact volR_reach ht (by rw [← hR]; exact e))
    have VM := hid (show R ≠ q → k + 1 < ts.length ∧ volR q (ts.drop (k + 1)) = volR q ts from fun e => by
      obtain ⟨m1, m2⟩ := volR_more hlt (by rw [← hR]; exact e)
      exact ⟨m1, by rw [← m2]; exact hP.out⟩)
    have cR : ∀ d os, CallsIn Fence.wide (n - 1) Tryz.prog 136 #[.slice (some ⟨b, o, none⟩) ts.length tc, .int .i64 (k : Int), .int .i64 q] (grow (redrawn wt d) os) fun e w'' => e = .returned (.int .i64 R) ∧ ∃ p : Regrown, w'' = grow (redrawn wt p.d) p.os := fun d os => callsIn_wide.2 (by
      have := reach_any ts (some ⟨b, o, none⟩) tc k q (grow (redrawn wt d) os) (HT.out.row.on (below_regrown wt d os)) hlt hlen
      rw [← hR] at this
      exact this.mono fun e w' h => ⟨h.1, ⟨d, os⟩, h.2⟩)
    have HWT := hid hwt
    have HKT := hid hkt
    clear ht hR hwt hkt bt XT
    gi_wp2_with fail
    rw [← HWT.out, ← HKT.out]
    clear c1 c2 l1 l2 a0 a1 lb HWT HKT
    have e5 : ∀ args w, (callFunc 136 args).run Tryz.prog w = .ok (.enter 136 args) w := enters_of Tryz.func136 (by kernel_rfl) rfl
    have k1 := cell_regrown HT.out.lst
    have k2 := cell_regrown HT.out.qty
    refine wpIn_region_quiet_below hro (by kernel_rfl) (by kernel_rfl) ?_
    repeat (refine wpQuietIn_step (by first | quiet_asked_in | (intros; trivial) | (unfold Oper.askedIn; intros; trivial)) (fun K hK => ?_); go_simp; first | (refine hK _ ?_; clear hK K) | (apply Exists.intro; refine ⟨fun _ => ?_, hK _ ?_⟩; first | exact cR _ _ | exact ⟨trivial, cR _ _⟩; clear hK K))
    refine wpQuietIn_nil ?_
    clear k1 k2 cR e5
    intro w5 hw5
    have b5 : Below wt.heap.size wt w5 := by
      obtain ⟨⟨d, os⟩, rfl⟩ := hw5
      exact below_regrown wt d os
    have H5 := hid (HT.out.on b5)
    have J5 := hid (hJ [] _ _ none HJ.out (grown_of b5) (fun _ e => by cases e))
    have X5 := HXT.out.on b5
    have e1 := X5.cell 1 _ rfl
    have l5 := X5.lt
    have c1 := H5.out.lst
    have c2 := H5.out.qty
    clear b5 hw5 X5 HXT HT HJ
    by_cases hr : R = q
    · have hv := VR.out hr
      have z : (R == q) = true := beq_iff_eq.2 hr
      obtain ⟨fn, tmps, assign, body, hy, hR⟩ := hY [] ⟨0, q, t.rate⟩ _ J5.out (by rw [HS.out, hv]; exact List.prefix_refl _)
      dsimp only [encS] at hy
      have HS' : Hid (S = [⟨0, q, t.rate⟩]) := hid (by rw [HS.out, hv])
      have HR := hid hR
      clear hR hv hr VR VM
      gi_wp2
      refine HR.out.mono ?_
      rintro e W3 (⟨rfl, hJ3, hk3⟩ | ⟨rfl, hJx3⟩)
      · gi_wp2
        refine bodyPost_ret (results_none rfl _ _ _) rfl ?_
        exact ⟨⟨_, rfl⟩, .inl ⟨_, HS'.out.symm, hJ3⟩⟩
      · gi_wp2
        refine bodyPost_ret (results_none rfl _ _ _) rfl ?_
        exact ⟨⟨_, rfl⟩, .inr ⟨_, by rw [HS'.out]; exact List.prefix_refl _, hJx3⟩⟩
    · have z : (R == q) = false := beq_eq_false_iff_ne.2 hr
      obtain ⟨m1, m2⟩ := VM.out hr
      have M2 := hid m2
      clear hr VR VM m2
      gi_wp2
      go_roundw
      case rel => exact ⟨k + 1, by simp, m1, M2, J5, H5⟩
      case measure => simp [intOf]; omega
end Go.Proofs.YtjgogpaedaffkaaGreat.Tg
/- Package tiers, walked: Steps: a function that goes over the steps of a part, and may be left at any time. -/
namespace Go.Proofs.YtjgogpaedaffkaaGreat.Tg
open Go.RowKit Go.Sort Go.Shelf P Mm Md R6 Te Co R10 R11 L11
attribute [local go_sem] Oper.semAt_some
theorem row_block {A B : World} {b o len cap : Nat} {xs : List Tier} (h : Row tTier A (some ⟨b, o, none⟩) len cap xs) (e : B.heap[b]? = A.heap[b]?) : Row tTier B (some ⟨b, o, none⟩) len cap xs :=
  ⟨h.hlen, h.hcap, h.hmax, fun n => by
    obtain ⟨b', o', h1, h2, h3⟩ := h.lie n
    obtain ⟨rfl, rfl⟩ : b' = b ∧ o' = o := by
      have := Option.some.inj h1
      simp only [Addr.mk.injEq] at this
      exact ⟨this.1.symm, this.2.1.symm⟩
    refine ⟨b', o', rfl, ?_, fun j x hj => ?_⟩
    · rcases Nat.lt_or_ge b' B.heap.size with k | k
      · exact k
      · rw [Array.getElem?_eq_none k, Array.getElem?_eq_getElem h2] at e
        cases e
    · obtain ⟨cs, h4, h5⟩ := h3 j x hj
      exact ⟨cs, h4, fun i v hi => (World.cell?_of_block (a := ⟨b', o' + j * 2 + i, none⟩) e).trans (h5 i v hi)⟩⟩
set_option maxHeartbeats 1000000 in
theorem volume_mk (a : Option Addr) (n c : Nat) (q : Int) (w : World) : Calls Tryz.prog 124 #[.slice a n c, .int .i64 q] w fun e w' => e = .returned (.func (.func 135) #[] #[.pointer (some ⟨w.heap.size + 1, 0, none⟩), .pointer (some ⟨w.heap.size, 0, none⟩)]) ∧ w' = (w.alloc (.cells #[.slice a n c] 55)).alloc (.cells #[.int .i64 q] 3) := by
  go_enter Tryz.func124, Tryz.ntmps124
  go_wp2
  go_ret
  refine ⟨?_, rfl⟩
  simp
set_option maxHeartbeats 1000000 in
theorem graduated_mk (a : Option Addr) (n c : Nat) (q : Int) (w : World) : Calls Tryz.prog 125 #[.slice a n c, .int .i64 q] w fun e w' => e = .returned (.func (.func 137) #[] #[.pointer (some ⟨w.heap.size, 0, none⟩), .pointer (some ⟨w.heap.size + 1, 0, none⟩)]) ∧ w' = (w.alloc (.cells #[.slice a n c] 55)).alloc (.cells #[.int .i64 q] 3) := by
  go_enter Tryz.func125, Tryz.ntmps125
  go_wp2
  go_ret
  refine ⟨?_, rfl⟩
  simp
/-- A function that goes over some steps, whatever its rounds do to memory but to the blocks from lo to hi. -/
def Goes (n lo hi gf : Nat) (lb : Array Value) (S : List Stp) (w : World) : Prop :=
  ∀ (l : Nat) (J Jx : List Stp → World → Prop) (W : World), Below w.heap.size w W → AbidesFrom W.heap.size J →
    (∀ pre x W1, J pre W1 → (pre ++ [x]) <+: S → YieldAt Fence.wide (n - 1) Tryz.prog l (encS x) W1 fun e W' => (e = .returned (.bool true) ∧ J (pre ++ [x]) W' ∧ ∀ j, lo ≤ j ∧ j < hi → W'.heap[j]? = W1.heap[j]?) ∨ (e = .returned (.bool false) ∧ Jx (pre ++ [x]) W')) → J [] W →
    CallsIn Fence.wide n Tryz.prog gf (#[.func (.yield l) #[] #[]] ++ lb) W fun e W' => (∃ v, e = .returned v) ∧ ((∃ ys, ys = S ∧ J ys W') ∨ (∃ pre, pre <+: S ∧ Jx pre W'))
theorem hd_kept {lo hi bl bq : Nat} {ts : List Tier} {b o tc : Nat} {q : Int} (h1 : lo ≤ bl ∧ bl < hi) (h2 : lo ≤ bq ∧ bq < hi) (h3 : lo ≤ b ∧ b < hi) (A B : World) (k : ∀ j, lo ≤ j ∧ j < hi → B.heap[j]? = A.heap[j]?) (h : Hd bl bq ts (some ⟨b, o, none⟩) tc q A) : Hd bl bq ts (some ⟨b, o, none⟩) tc q B :=
  ⟨(World.cell?_of_block (a := ⟨bl, 0, none⟩) (k bl h1)).trans h.lst, (World.cell?_of_block (a := ⟨bq, 0, none⟩) (k bq h2)).trans h.qty, row_block h.row (k b h3)⟩
set_option maxHeartbeats 4000000 in
set_option maxRecDepth 100000 in
theorem steps_any (x : Prt) (ta : Option Addr) (tc : Nat) (aa : Option Addr) (ac : Nat) (q : Int) (w : World) (ht : Row tTier w ta x.tiers.length tc x.tiers) (g : GoodT x) :
    Calls Tryz.prog 112 #[.agg #[.int .i64 x.mt, .int .i64 x.a, .int .i64 x.b, .int .i64 x.allowance, .int .i64 x.block, .int .i64 x.kind, .slice ta x.tiers.length tc, .int .i64 x.mode, .slice aa x.adjusts.length ac], .int .i64 q] w fun e w' => Below w.heap.size w w' ∧ ∃ (gf : Nat) (lb : Array Value), e = .returned (.func (.func gf) #[] lb) ∧ (∀ args W, (callFunc gf args).run Tryz.prog W = .ok (.enter gf args) W) ∧ ∀ n, 1 ≤ n → Goes n w.heap.size w'.heap.size gf lb (stepsP x q) w' := by
  obtain ⟨w1, hw1⟩ : ∃ W, W = w.alloc (.cells ([.int .i64 x.mt, .int .i64 x.a, .int .i64 x.b, .int .i64 x.allowance, .int .i64 x.block, .int .i64 x.kind, .slice ta x.tiers.length tc, .int .i64 x.mode, .slice aa x.adjusts.length ac] : List Value).toArray 58) := ⟨_, rfl⟩
  obtain ⟨k1, hk1⟩ : ∃ k, k = w.heap.size := ⟨_, rfl⟩
  have b1 : Below w.heap.size w w1 := by rw [hw1]; exact bel_alloc _ _
  have X1 : Box w1 k1 [.int .i64 x.mt, .int .i64 x.a, .int .i64 x.b, .int .i64 x.allowance, .int .i64 x.block, .int .i64 x.kind, .slice ta x.tiers.length tc, .int .i64 x.mode, .slice aa x.adjusts.length ac] := by rw [hw1, hk1]; exact Box.new w _ 58
  obtain ⟨n1, n8⟩ := g.len
  have cC := hid (cloneT_any x.tiers ta tc w1 (ht.on b1) (by omega))
  have c6 := X1.cell 6 _ rfl
  have l1 := X1.lt
  have HX := hid X1
  have B1 := hid b1
  have HW := hid hw1
  have HK := hid hk1
  have GD := hid g
  have TI : Hid (∀ t ∈ x.tiers, I64 t.upto ∧ I64 t.rate) := hid (fun t h => by
    obtain ⟨j, hj⟩ := List.getElem?_of_mem h
    obtain ⟨_, _, _, _, _, ⟨_, hok⟩, _⟩ := ht.at hj
    exact hok)
  clear hw1 hk1 b1 X1 g ht
  go_enter Tryz.func112, Tryz.ntmps112
  go_upto_region 1 with fail
  rw [← HW.out, ← HK.out]
  go_wp2_with fail
  refine cC.out.mono ?_
  rintro e w2 ⟨v, rfl, hv, b2⟩
  obtain ⟨ao, cap, rfl, R⟩ := row_own (n := 2) (cells := tierC) (ok := fun t : Tier => I64 t.upto ∧ I64 t.rate) (hn := fun _ => rfl) hv TI.out
  obtain ⟨b, e, hb1⟩ : ∃ b, ao = some ⟨b, 0, none⟩ ∧ w1.heap.size ≤ b := by
    rcases hv.2 with ⟨h1, h2⟩ | ⟨g, cp, cur, h1, h2, _⟩
    · omega
    · refine ⟨g, ?_, h2⟩
      injection h1
  subst e
  have hb2 : b < w2.heap.size := by
    obtain ⟨z, hz⟩ : ∃ z, x.tiers[0]? = some z := ⟨_, List.getElem?_eq_getElem (by omega)⟩
    obtain ⟨b', o', e', hlt, _⟩ := tier_at R hz
    have := Option.some.inj e'
    simp only [Addr.mk.injEq] at this
    omega
  have X2 := HX.out.on b2
  have c5 := X2.cell 5 _ rfl
  have l2 := X2.lt
  have HR := hid R
  have B2 := hid (bel_on B1.out b2)
  have KW : Hid (w.heap.size ≤ w1.heap.size) := hid B1.out.size
  have HB : Hid (w1.heap.size ≤ b ∧ b < w2.heap.size) := hid ⟨hb1, hb2⟩
  clear hv R b2 X2 cC c6 l1 hb1 hb2 HX TI HW HK
  obtain ⟨w3, hw3⟩ : ∃ W, W = (w2.alloc (.cells #[.slice (some ⟨b, 0, none⟩) x.tiers.length cap] 55)).alloc (.cells #[.int .i64 q] 3) := ⟨_, rfl⟩
  have b3 : Below w2.heap.size w2 w3 := by rw [hw3]; exact ((Below.refl _ w2).alloc (Nat.le_refl _) _).alloc (by simp) _
  have z3 : w3.heap.size = w2.heap.size + 2 := by rw [hw3]; simp
  have L3 : w3.cell? ⟨w2.heap.size, 0, none⟩ = some (.slice (some ⟨b, 0, none⟩) x.tiers.length cap) := by
    rw [hw3]
    simp
  have Q3 : w3.cell? ⟨w2.heap.size + 1, 0, none⟩ = some (.int .i64 q) := by
    rw [hw3]
    simp
  have H3 := hid (⟨L3, Q3, HR.out.on b3⟩ : Hd w2.heap.size (w2.heap.size + 1) x.tiers (some ⟨b, 0, none⟩) cap q w3)
  have BF := hid (bel_on B2.out b3)
  have Z3 := hid z3
  have W3 := hid hw3
  clear b3 z3 L3 Q3 hw3 HR
  by_cases hk : x.kind = 2
  · have z : (x.kind == 2) = true := beq_iff_eq.2 hk
    have ES := hid (show stepsP x q = volS q x.tiers by unfold stepsP; rw [if_pos hk])
    clear hk
    go_wp2_with fail
    refine (volume_mk _ _ _ _ _).mono ?_
    rintro e w4 ⟨rfl, h4⟩
    rw [← W3.out] at h4
    subst h4
    go_wp2
    go_ret
    refine ⟨BF.out, _, _, rfl, enters_of Tryz.func135 (by kernel_rfl) rfl, fun n hn l J Jx W hW hJ hY h0 => ?_⟩
    exact vol_in n hn l _ _ x.tiers _ cap q n1 (by omega) _ J Jx W hJ _ ES.out hY (H3.out.on hW) h0
  · have z : (x.kind == 2) = false := beq_eq_false_iff_ne.2 hk
    have ES := hid (show stepsP x q = walkS x.tiers q x.tiers.length 0 0 from (walkS_all GD.out hk q).symm)
    clear hk
    go_wp2_with fail
    refine (graduated_mk _ _ _ _ _).mono ?_
    rintro e w4 ⟨rfl, h4⟩
    rw [← W3.out] at h4
    subst h4
    go_wp2
    go_ret
    refine ⟨BF.out, _, _, rfl, enters_of Tryz.func137 (by kernel_rfl) rfl, fun n hn l J Jx W hW hJ hY h0 => ?_⟩
    exact grad_in n hn l _ _ x.tiers _ cap q (by omega) _ (hd_kept (by have := KW.out; have := HB.out; have := Z3.out; omega) (by have := KW.out; have := HB.out; have := Z3.out; omega) (by have := KW.out; have := HB.out; have := Z3.out; omega)) J Jx W hJ _ ES.out hY (H3.out.on hW) h0
end Go.Proofs.YtjgogpaedaffkaaGreat.Tg
/- Package tiers, walked: Micro: what a quantity costs: the sum over the steps, as long as it stays within 64 bits. -/
namespace Go.Proofs.YtjgogpaedaffkaaGreat.Tg
open Go.RowKit Go.Sort Go.Shelf P Mm Md R6 Te Co R10 R11 L11
attribute [local go_sem] Oper.semAt_some
/-- A step whose numbers are within 64 bits, and its length too. -/
def StOk (s : Stp) : Prop := I64 s.a ∧ I64 s.b ∧ I64 s.r ∧ I64 (s.b - s.a)
abbrev StG := { s : Stp // StOk s }
def vals (l : List StG) : List Stp := l.map (·.1)
theorem vals_snoc (l : List StG) (s : StG) : vals (l ++ [s]) = vals l ++ [s.1] := by simp [vals]
theorem goes_stops {n lo hi gf : Nat} {lb : Array Value} {S : List Stp} {w : World} (h : Goes n lo hi gf lb S w) (hS : ∀ s ∈ S, StOk s) (Kp : World → World → Prop) (hKp : ∀ A B, Kp A B → ∀ j, lo ≤ j ∧ j < hi → B.heap[j]? = A.heap[j]?) :
    SeqStopsK Fence.wide n Tryz.prog gf lb (fun s : StG => encS s.1) Kp (fun ys => vals ys = S) (fun pre => vals pre <+: S) S.length w := fun l J Jx W hW hJ _ hY h0 => by
  refine (h l (fun ys W => ∃ l', vals l' = ys ∧ J l' W) (fun ys W => ∃ l', vals l' = ys ∧ Jx l' W) W hW ?_ ?_ ⟨[], rfl, h0⟩).mono ?_
  · rintro ys A B row ⟨l', e, hj⟩ hg hr
    exact ⟨l', e, hJ l' A B row hj hg hr⟩
  · rintro pre x W1 ⟨l', rfl, hj⟩ hp
    have hx : StOk x := hS x (hp.subset (by simp))
    have hl := hp.length_le
    simp [vals] at hl
    obtain ⟨fn, tmps, assign, body, hy, hR⟩ := hY l' ⟨x, hx⟩ W1 hj (by omega)
    refine ⟨fn, tmps, assign, body, hy, hR.mono ?_⟩
    rintro e W' (⟨h1, h2, h3⟩ | ⟨h1, h2⟩)
    · exact .inl ⟨h1, ⟨_, vals_snoc _ _, h2⟩, hKp _ _ h3⟩
    · exact .inr ⟨h1, _, vals_snoc _ _, h2⟩
  · rintro e W' ⟨hv, ⟨ys, rfl, l', e, hj⟩ | ⟨pre, hp, l', e, hj⟩⟩
    · exact ⟨hv, .inl ⟨l', e, hj⟩⟩
    · exact ⟨hv, .inr ⟨l', (show vals l' <+: S by rw [e]; exact hp), hj⟩⟩
/-- Between two rounds. -/
structure MI (w : World) (n0 K4 K5 K8 : Nat) (pre : List StG) (W : World) : Prop where
  tot : ∃ t, SumTo t (vals pre) ∧ Boxed W K8 3 (.int .i64 t)
  r4 : Boxed W K4 3 (.int .i64 0)
  r5 : Boxed W K5 4 (.bool false)
  bel : Below w.heap.size w W
  size : n0 ≤ W.heap.size
/-- Left behind a step that makes the sum too great. -/
structure MX (w : World) (K4 K5 : Nat) (c : Code) (pre : List StG) (W : World) : Prop where
  code : c = Code.ret
  no : ∀ rest, sumS 0 (vals pre ++ rest) = none
  r4 : Boxed W K4 3 (.int .i64 0)
  r5 : Boxed W K5 4 (.bool false)
  bel : Below w.heap.size w W
theorem mi_own {w : World} {n0 K4 K5 K8 : Nat} {B : Nat} (hB : w.heap.size ≤ B) : OwnFrom B (MI w n0 K4 K5 K8) := by
  intro pre A C row h hg hr
  obtain ⟨t, ht, hb⟩ := h.tot
  have o1 := (Own.from (boxed_own (β := Unit) K8 3 (fun _ => .int .i64 t)) B) () A C row hb hg hr
  have o2 := (Own.from (boxed_own (β := Unit) K4 3 (fun _ => .int .i64 0)) B) () A C row h.r4 hg hr
  have o3 := (Own.from (boxed_own (β := Unit) K5 4 (fun _ => .bool false)) B) () A C row h.r5 hg hr
  have o4 := (ownFrom_below (β := Unit) (w₀ := w) (Nat.le_refl w.heap.size) hB) () A C row h.bel hg hr
  exact ⟨⟨t, ht, o1⟩, o2, o3, o4, Nat.le_trans h.size hg.size⟩
theorem mx_own {w : World} {K4 K5 : Nat} {B : Nat} {c : Code} (hB : w.heap.size ≤ B) : OwnFrom B (MX w K4 K5 c) := by
  intro pre A C row h hg hr
  have o2 := (Own.from (boxed_own (β := Unit) K4 3 (fun _ => .int .i64 0)) B) () A C row h.r4 hg hr
  have o3 := (Own.from (boxed_own (β := Unit) K5 4 (fun _ => .bool false)) B) () A C row h.r5 hg hr
  have o4 := (ownFrom_below (β := Unit) (w₀ := w) (Nat.le_refl w.heap.size) hB) () A C row h.bel hg hr
  exact ⟨h.code, h.no, o2, o3, o4⟩
theorem results_m (tmps : Array Value) (W : World) (K4 K5 : Nat) (a : Int) (b : Bool) (h4 : tmps.getD 4 undef = .pointer (some ⟨K4, 0, none⟩)) (h5 : tmps.getD 5 undef = .pointer (some ⟨K5, 0, none⟩)) (c4 : W.cell? ⟨K4, 0, none⟩ = some (.int .i64 a)) (c5 : W.cell? ⟨K5, 0, none⟩ = some (.bool b)) :
    (results Tryz.f100 tmps).run Tryz.prog W = .ok (.tuple #[.int .i64 a, .bool b]) W := by
  have h4' : tmps[4]?.getD undef = .pointer (some ⟨K4, 0, none⟩) := by simpa using h4
  have h5' : tmps[5]?.getD undef = .pointer (some ⟨K5, 0, none⟩) := by simpa using h5
  simp [results, Tryz.f100, go_sem, h4', h5', asAddr, c4, c5]
set_option maxHeartbeats 8000000 in
set_option maxRecDepth 100000 in
theorem micro_any (x : Prt) (ta : Option Addr) (tc : Nat) (aa : Option Addr) (ac : Nat) (q : Int) (w : World) (ht : Row tTier w ta x.tiers.length tc x.tiers) (hq : I64 q) (g : GoodT x) :
    Calls Tryz.prog 100 #[.agg #[.int .i64 x.mt, .int .i64 x.a, .int .i64 x.b, .int .i64 x.allowance, .int .i64 x.block, .int .i64 x.kind, .slice ta x.tiers.length tc, .int .i64 x.mode, .slice aa x.adjusts.length ac], .int .i64 q] w fun e w' => e = .returned (.tuple #[.int .i64 (oV (microO x q)), .bool (oB (microO x q))]) ∧ Below w.heap.size w w' := by
  refine (callsIn_wide (n := 5)).1 ?_
  have hro : Fence.wide.round = none := rfl
  obtain ⟨w1, hw1⟩ : ∃ W, W = ((w.alloc (.cells ([.int .i64 x.mt, .int .i64 x.a, .int .i64 x.b, .int .i64 x.allowance, .int .i64 x.block, .int .i64 x.kind, .slice ta x.tiers.length tc, .int .i64 x.mode, .slice aa x.adjusts.length ac] : List Value).toArray 58)).alloc (.cells #[.int .i64 0] 3)).alloc (.cells #[.bool false] 4) := ⟨_, rfl⟩
  obtain ⟨k1, hk1⟩ : ∃ k, k = w.heap.size := ⟨_, rfl⟩
  obtain ⟨K4, hK4⟩ : ∃ k, k = w.heap.size + 1 := ⟨_, rfl⟩
  obtain ⟨K5, hK5⟩ : ∃ k, k = w.heap.size + 1 + 1 := ⟨_, rfl⟩
  have b1 : Below w.heap.size w w1 := by rw [hw1]; exact (((Below.refl _ w).alloc (Nat.le_refl _) _).alloc (by simp) _).alloc (by simp; omega) _
  have z1 : w1.heap.size = w.heap.size + 3 := by rw [hw1]; simp
  have X1 : Box w1 k1 [.int .i64 x.mt, .int .i64 x.a, .int .i64 x.b, .int .i64 x.allowance, .int .i64 x.block, .int .i64 x.kind, .slice ta x.tiers.length tc, .int .i64 x.mode, .slice aa x.adjusts.length ac] := by
    rw [hw1, hk1]
    exact ((Box.new w _ 58).on (bel_alloc _ _)).on (bel_alloc _ _)
  have b4 : Boxed w1 K4 3 (.int .i64 0) := by
    rw [hw1, hK4]
    have := (Boxed.new (w.alloc (.cells ([.int .i64 x.mt, .int .i64 x.a, .int .i64 x.b, .int .i64 x.allowance, .int .i64 x.block, .int .i64 x.kind, .slice ta x.tiers.length tc, .int .i64 x.mode, .slice aa x.adjusts.length ac] : List Value).toArray 58)) 3 (.int .i64 0)).alloc (.cells #[.bool false] 4)
    simpa using this
  have b5 : Boxed w1 K5 4 (.bool false) := by
    rw [hw1, hK5]
    have := Boxed.new ((w.alloc (.cells ([.int .i64 x.mt, .int .i64 x.a, .int .i64 x.b, .int .i64 x.allowance, .int .i64 x.block, .int .i64 x.kind, .slice ta x.tiers.length tc, .int .i64 x.mode, .slice aa x.adjusts.length ac] : List Value).toArray 58)).alloc (.cells #[.int .i64 0] 3)) 4 (.bool false)
    simpa using this
  have cQ := hid (quantity_any x ta tc aa ac q w1 hq g)
  have B1 := hid b1
  have HW := hid hw1
  have HK := hid hk1
  have H4 := hid hK4
  have H5 := hid hK5
  have HT := hid ht
  have GD := hid g
  have X0 := hid X1
  have P4 := hid b4
  have P5 := hid b5
  have Z1 := hid z1
  clear hw1 hk1 hK4 hK5 X1 b1 ht g b4 b5 z1
  refine callsIn_of_wp_marks Tryz.func100 rfl trivial ?_ hro
  simp only [Tryz.ntmps100, List.size_toArray, List.length_cons, List.length_nil, Nat.reduceAdd, Nat.reduceSub, Array.replicate_succ, Array.replicate_zero, List.push_toArray, List.append_toArray, List.nil_append, List.cons_append]
  gi_wp2_with fail
  rw [← HW.out]
  rw [← H5.out, ← H4.out, ← HK.out]
  refine ⟨trivial, (callsIn_wide.2 cQ.out).mono ?_⟩
  rintro e w2 ⟨rfl, b2⟩
  have B2 := hid (bel_on B1.out b2)
  have X2 := hid (X0.out.on b2)
  have b4 : Boxed w2 K4 3 (.int .i64 0) := (b2.block K4 P4.out.lt).trans P4.out
  have b5 : Boxed w2 K5 4 (.bool false) := (b2.block K5 P5.out.lt).trans P5.out
  have hz2 : w1.heap.size ≤ w2.heap.size := b2.size
  have n45 : K4 ≠ K5 := by have := H4.out; have := H5.out; omega
  have n54 : K5 ≠ K4 := by omega
  have c4 := b4.cell
  have c5 := b5.cell
  have f4 := b4.frozen
  have f5 := b5.frozen
  have l4 : K4 < w2.heap.size := b4.lt
  have l5 : K5 < w2.heap.size := b5.lt
  have Q4 := hid b4
  have Q5 := hid b5
  clear b2 cQ HW HK X0 P4 P5 b4 b5
  rcases Bool.eq_false_or_eq_true (lqOk x q) with hl | hl
  rotate_left
  · have e1 : oV (lqO x q) = 0 := by unfold lqO; rw [hl]; rfl
    have e2 : oB (lqO x q) = false := by unfold lqO; rw [hl]; rfl
    have e3 := hid (show microO x q = none by unfold microO; rw [hl]; rfl)
    rw [e1, e2]
    clear e1 e2 hl
    gi_wp2
    refine ⟨_, results_m _ _ K4 K5 0 false rfl rfl ?_ ?_, ?_⟩
    · exact ((Q4.out.set _).other n45 _).cell
    · exact ((Q5.out.other n54 _).set _).cell
    · exact ⟨by rw [e3.out]; rfl, (B2.out.setCell (p := ⟨K4, 0, none⟩) (by have := H4.out; show w.heap.size ≤ K4; omega) _).setCell (p := ⟨K5, 0, none⟩) (by have := H5.out; show w.heap.size ≤ K5; omega) _⟩
  · obtain ⟨Q, hQ⟩ : ∃ Q, Q = lq x q := ⟨_, rfl⟩
    have e1 : oV (lqO x q) = Q := by unfold lqO; rw [hl, hQ]; rfl
    have e2 : oB (lqO x q) = true := by unfold lqO; rw [hl]; rfl
    have EM := hid (show microO x q = sumS 0 (stepsP x Q) by unfold microO; rw [hl, hQ]; rfl)
    have QI : I64 Q := by
      unfold lqOk at hl
      rw [Bool.and_eq_true, ← hQ] at hl
      rcases Classical.em (I64 Q) with k | k
      · exact k
      · rw [ok64_f k] at hl; exact absurd hl.2 (by decide)
    rw [e1, e2]
    have SG := hid (show ∀ s ∈ stepsP x Q, StOk s from fun s hs => by
      have := stepsP_pos GD.out Q s hs
      unfold StOk
      unfold I64 at *
      omega)
    obtain ⟨w3, hw3⟩ : ∃ W, W = w2.alloc (.cells #[.int .i64 0] 3) := ⟨_, rfl⟩
    obtain ⟨K8, hK8⟩ : ∃ k, k = w2.heap.size := ⟨_, rfl⟩
    have b23 : Below w2.heap.size w2 w3 := by rw [hw3]; exact bel_alloc _ _
    have b8 : Boxed w3 K8 3 (.int .i64 0) := by rw [hw3, hK8]; exact Boxed.new w2 3 (.int .i64 0)
    have z3 : w3.heap.size = K8 + 1 := by rw [hw3, hK8]; simp
    have B3 := hid (bel_on B2.out b23)
    have cS := hid (steps_any x ta tc aa ac Q w3 (HT.out.on B3.out) GD.out)
    have W3 := hid hw3
    have HK8 := hid hK8
    have P8 := hid b8
    have P4 : Hid (Boxed w3 K4 3 (.int .i64 0)) := hid ((b23.block K4 l4).trans Q4.out)
    have P5 : Hid (Boxed w3 K5 4 (.bool false)) := hid ((b23.block K5 l5).trans Q5.out)
    have Z3 := hid z3
    have c0 := X2.out.cell 0 _ rfl
    have c1 := X2.out.cell 1 _ rfl
    have c2 := X2.out.cell 2 _ rfl
    have c3 := X2.out.cell 3 _ rfl
    have d4 := X2.out.cell 4 _ rfl
    have d5 := X2.out.cell 5 _ rfl
    have c6 := X2.out.cell 6 _ rfl
    have c7 := X2.out.cell 7 _ rfl
    have c8 := X2.out.cell 8 _ rfl
    have l1 := X2.out.lt
    clear e1 e2 hl hQ hw3 hK8 b23 b8 z3 c4 c5 f4 f5 hz2 QI
    gi_wp2_with fail
    rw [← W3.out, ← HK8.out]
    refine ⟨trivial, (callsIn_wide.2 cS.out).mono ?_⟩
    rintro e w4 ⟨b34, gf, lb, rfl, hen, hgo⟩
    have B4 := hid (bel_on B3.out b34)
    have R8 : Boxed w4 K8 3 (.int .i64 0) := (b34.block K8 P8.out.lt).trans P8.out
    have R4 : Boxed w4 K4 3 (.int .i64 0) := (b34.block K4 P4.out.lt).trans P4.out
    have R5 : Boxed w4 K5 4 (.bool false) := (b34.block K5 P5.out.lt).trans P5.out
    obtain ⟨n0, hn0⟩ : ∃ n, n = w4.heap.size := ⟨_, rfl⟩
    have z34 := b34.size
    have lw := B1.out.size
    have Z3' := Z3.out
    have h4' := H4.out
    have h5' := H5.out
    have z1' := Z1.out
    have z2' := HK8.out
    have K1 : w.heap.size ≤ n0 := by have := B4.out.size; omega
    have K2 : K8 < n0 := by omega
    have K3 : w.heap.size ≤ K8 := by have := B2.out.size; omega
    have K6 : n0 ≤ w4.heap.size := by omega
    have K7 : w3.heap.size = K8 + 1 := by omega
    have N1 : w.heap.size ≤ K4 := by omega
    have N2 : w.heap.size ≤ K5 := by omega
    have N3 : K8 ≠ K4 := by omega
    have N4 : K8 ≠ K5 := by omega
    have N5 : K4 < n0 := by omega
    have N6 : K5 < n0 := by omega
    have HN := hid hn0
    clear hn0 z34 lw Z3' h4' h5' z1' z2' c0 c1 c2 c3 d4 d5 c6 c7 c8 l1 l4 l5 cS Q4 Q5 X2 P8 P4 P5 W3 HK8 Z3 Z1 H4 H5
    gi_wp2
    refine wpIn_rangeFunc_ownH hro (by omega : 1 ≤ 5) (gf := gf) (lb := lb) rfl trivial hen
      (goes_stops (hgo 4 (by omega)) SG.out (fun A B => ∀ j, j < n0 → j ≠ K8 → B.heap[j]? = A.heap[j]?) (fun A B h j hj => h j (by have := HN.out; omega) (by omega)))
      (fun h k j hj hne => (k j hj hne).trans (h j hj hne)) (fun W l o o' hl _ _ _ j hj hne => World.putObj_heap_other (by omega)) (Below.refl _ _) (fun _ => rfl)
      (MI w n0 K4 K5 K8) (MX w K4 K5) (mi_own (by omega)) (fun c => mx_own (by omega)) ⟨⟨0, sumTo_nil, R8⟩, R4, R5, B4.out, K6⟩
      (fun s a' W => ∃ Bx, K8 < Bx ∧ Cells W Bx 155 [.int .i64 s.1.a, .int .i64 s.1.b, .int .i64 s.1.r] ∧ a' = { tmps := #[.agg #[.int .i64 x.mt, .int .i64 x.a, .int .i64 x.b, .int .i64 x.allowance, .int .i64 x.block, .int .i64 x.kind, .slice ta x.tiers.length tc, .int .i64 x.mode, .slice aa x.adjusts.length ac], .int .i64 q, .pointer (some ⟨k1, 0, none⟩), undef, .pointer (some ⟨K4, 0, none⟩), .pointer (some ⟨K5, 0, none⟩), .int .i64 Q, .bool true, .pointer (some ⟨K8, 0, none⟩), .pointer (some ⟨Bx, 0, none⟩), undef, undef, .tuple #[.int .i64 Q, .bool true], .agg #[.int .i64 x.mt, .int .i64 x.a, .int .i64 x.b, .int .i64 x.allowance, .int .i64 x.block, .int .i64 x.kind, .slice ta x.tiers.length tc, .int .i64 x.mode, .slice aa x.adjusts.length ac], .int .i64 q, .tuple #[.int .i64 Q, .bool true], .int .i64 Q, .bool true, .bool true, .bool false, .agg #[.int .i64 x.mt, .int .i64 x.a, .int .i64 x.b, .int .i64 x.allowance, .int .i64 x.block, .int .i64 x.kind, .slice ta x.tiers.length tc, .int .i64 x.mode, .slice aa x.adjusts.length ac], .int .i64 Q, .func (.func gf) #[] lb, .agg #[.int .i64 s.1.a, .int .i64 s.1.b, .int .i64 s.1.r], undef, undef, undef, undef, undef, undef, undef, undef, undef, undef, undef, undef, undef, undef, undef, undef, undef, undef, undef, undef, undef, undef], defers := [] })
      (fun s a' u A C row h hg hr => by
        obtain ⟨Bx, h1, h2, h3⟩ := h
        exact ⟨Bx, h1, cells_own Bx _ _ _ u A C row h2 hg hr, h3⟩)
      ?assign ?body ?done ?stop
    case assign =>
      intro l pre s W K hI hK
      unfold encS
      gi_wp2
      exact hK _ _ ((KeepsOthers.alloc _ _).from _) (fun j hj hne => Below.heap_alloc W _ j (by have := hI.size; omega)) ((mi_own (B := W.heap.size) hI.bel.size).alloc _ hI) ⟨W.heap.size, by have := hI.size; omega, World.alloc_heap_new W _, rfl⟩
    case body =>
      rintro l pre s a' W hl hrr hI ⟨Bx, hBx, hC, rfl⟩ hlt
      obtain ⟨t, hT, b8⟩ := hI.tot
      obtain ⟨sa, sb, sr, sd⟩ := s.2
      have c8 := b8.cell
      have f8 := b8.frozen
      have l8 := b8.lt
      have c4 := hI.r4.cell
      have f4 := hI.r4.frozen
      have l4 := hI.r4.lt
      have c5 := hI.r5.cell
      have f5 := hI.r5.frozen
      have l5 := hI.r5.lt
      have hs0 : W.cell? ⟨Bx, 0, none⟩ = some (.int .i64 s.1.a) := hC.cell 0
      have hs1 : W.cell? ⟨Bx, 1, none⟩ = some (.int .i64 s.1.b) := hC.cell 1
      have hs2 : W.cell? ⟨Bx, 2, none⟩ = some (.int .i64 s.1.r) := hC.cell 2
      have hlB := hC.lt
      have wd : IntKind.i64.wrap (s.1.b - s.1.a) = s.1.b - s.1.a := wrap_i sd
      have cM := hid (Ex.mul_any s.1.r (s.1.b - s.1.a) W sr sd)
      have HI := hid hI
      have HT := hid hT
      have HB8 := hid b8
      clear hI hT b8 hC
      by_cases hm : I64 (s.1.r * (s.1.b - s.1.a))
      · rw [cut64_t hm, ok64_t hm] at cM
        obtain ⟨M, hM⟩ : ∃ M, M = s.1.r * (s.1.b - s.1.a) := ⟨_, rfl⟩
        have HM := hid (show M = stW s.1 from hM)
        rw [← hM] at cM hm
        have cA := hid (Ex.add_any t M W HT.out.1 hm)
        have MI64 := hid hm
        clear hM hm
        by_cases ha : I64 (t + M)
        · rw [cut64_t ha, ok64_t ha] at cA
          have NX := hid (show SumTo (t + M) (vals (pre ++ [s])) by rw [vals_snoc, HM.out]; exact sumTo_next HT.out (by rw [← HM.out]; exact MI64.out) (by rw [← HM.out]; exact ha))
          clear ha
          gi_wp2_with fail
          refine ⟨trivial, (CallsIn.inRound l (callsIn_wide.2 cM.out)).mono ?_⟩
          rintro e w5 ⟨rfl, rfl⟩
          gi_wp2_with fail
          refine ⟨trivial, (CallsIn.inRound l (callsIn_wide.2 cA.out)).mono ?_⟩
          rintro e w5 ⟨rfl, rfl⟩
          gi_wp2
          refine ⟨(KeepsOthers.setCell _ _ _).from _, fun j hj hne => Below.heap_setCell _ ⟨K8, 0, none⟩ _ j hne, ⟨⟨_, NX.out, HB8.out.set _⟩, HI.out.r4.other N3.symm _, HI.out.r5.other N4.symm _, HI.out.bel.setCell (p := ⟨K8, 0, none⟩) K3 _, ?_⟩⟩
          have := HI.out.size
          simpa using this
        · rw [cut64_f ha, ok64_f ha] at cA
          have NO := hid (show ∀ rest, sumS 0 (vals (pre ++ [s]) ++ rest) = none from fun rest => by
            rw [vals_snoc, List.append_assoc]
            exact sumTo_nope HT.out (.inr (by rw [← HM.out]; exact ha)) rest)
          clear ha
          gi_wp2_with fail
          refine ⟨trivial, (CallsIn.inRound l (callsIn_wide.2 cM.out)).mono ?_⟩
          rintro e w5 ⟨rfl, rfl⟩
          gi_wp2_with fail
          refine ⟨trivial, (CallsIn.inRound l (callsIn_wide.2 cA.out)).mono ?_⟩
          rintro e w5 ⟨rfl, rfl⟩
          gi_wp2
          exact ⟨(((KeepsOthers.setCell _ _ _).trans (KeepsOthers.setCell _ _ _)).trans (KeepsOthers.setCell _ _ _)).from _, rfl, NO.out, ((HI.out.r4.other N3.symm _).set _).other n45 _, ((HI.out.r5.other N4.symm _).other n54 _).set _, ((HI.out.bel.setCell (p := ⟨K8, 0, none⟩) K3 _).setCell (p := ⟨K4, 0, none⟩) N1 _).setCell (p := ⟨K5, 0, none⟩) N2 _⟩
      · rw [cut64_f hm, ok64_f hm] at cM
        have NO := hid (show ∀ rest, sumS 0 (vals (pre ++ [s]) ++ rest) = none from fun rest => by
          rw [vals_snoc, List.append_assoc]
          exact sumTo_nope HT.out (.inl hm) rest)
        clear hm
        gi_wp2_with fail
        refine ⟨trivial, (CallsIn.inRound l (callsIn_wide.2 cM.out)).mono ?_⟩
        rintro e w5 ⟨rfl, rfl⟩
        gi_wp2
        exact ⟨((KeepsOthers.setCell _ _ _).trans (KeepsOthers.setCell _ _ _)).from _, rfl, NO.out, (HI.out.r4.set _).other n45 _, (HI.out.r5.other n54 _).set _, (HI.out.bel.setCell (p := ⟨K4, 0, none⟩) N1 _).setCell (p := ⟨K5, 0, none⟩) N2 _⟩
    case done =>
      rintro D ys W hD hys hI hK
      obtain ⟨t, hT, b8⟩ := hI.tot
      have c8 := b8.cell
      have c4 := hI.r4.cell
      have f4 := hI.r4.frozen
      have c5 := hI.r5.cell
      have f5 := hI.r5.frozen
      have EV := hid (show microO x q = some t by rw [EM.out, ← hys]; exact sumTo_all hT)
      have HI := hid hI
      clear hT b8 hI hys
      gi_wp2
      have hK' := ((KeepsOthers.setCell W ⟨K4, 0, none⟩ (.int .i64 t)).trans (KeepsOthers.setCell _ ⟨K5, 0, none⟩ (.bool true))).same D _ hK rfl
      refine ⟨by simp, .inl ⟨_, _, rfl, run_takeDeferred hK', ?_⟩⟩
      have h4 := cell_kept ((HI.out.r4.set (.int .i64 t)).other n45 (.bool true)).cell (grownBy_putObj' _ D (.deferred none)) (fun r e => by cases e; exact ⟨_, hK', rfl⟩)
      have h5 := cell_kept ((HI.out.r5.other n54 (.int .i64 t)).set (.bool true)).cell (grownBy_putObj' _ D (.deferred none)) (fun r e => by cases e; exact ⟨_, hK', rfl⟩)
      refine ⟨_, results_m _ _ K4 K5 t true rfl rfl h4 h5, by rw [EV.out]; rfl, ?_⟩
      exact ((HI.out.bel.setCell (p := ⟨K4, 0, none⟩) N1 _).setCell (p := ⟨K5, 0, none⟩) N2 _).trans (belowK_b (w := w) (Nat.le_refl _) _ D _ _ (by have := HI.out.bel.size; omega) hK' rfl rfl)
    case stop =>
      rintro D c pre W hD hSp hIx hK
      obtain rfl := hIx.code
      have EV := hid (show microO x q = none by
        obtain ⟨r, hr⟩ := hSp
        rw [EM.out, ← hr]
        exact hIx.no r)
      have HI := hid hIx
      clear hIx hSp
      gi_wp2
      refine ⟨by simp, .inl ⟨_, _, rfl, run_takeDeferred hK, ?_⟩⟩
      have h4 := cell_kept HI.out.r4.cell (grownBy_putObj' _ D (.deferred none)) (fun r e => by cases e; exact ⟨_, hK, rfl⟩)
      have h5 := cell_kept HI.out.r5.cell (grownBy_putObj' _ D (.deferred none)) (fun r e => by cases e; exact ⟨_, hK, rfl⟩)
      refine ⟨_, results_m _ _ K4 K5 0 false rfl rfl h4 h5, by rw [EV.out]; rfl, ?_⟩
      exact HI.out.bel.trans (belowK_b (w := w) (Nat.le_refl _) _ D _ _ (by have := HI.out.bel.size; omega) hK rfl rfl)
end Go.Proofs.YtjgogpaedaffkaaGreat.Tg
/- Package tiers, walked: Charge: what a quantity costs, rounded. -/
namespace Go.Proofs.YtjgogpaedaffkaaGreat.Tg
open Go.RowKit Go.Sort Go.Shelf P Mm Md R6 Te Co R10 R11 L11
theorem micro_in {x : Prt} (g : GoodT x) {q m : Int} (h : microO x q = some m) : I64 m := by
  rw [microO_eq g] at h
  split at h
  · rename_i k
    rw [Bool.and_eq_true] at k
    obtain rfl := Option.some.inj h
    rcases Classical.em (I64 (costP x q)) with i | i
    · exact i
    · have := k.2
      rw [ok64_f i] at this
      cases this
  · cases h
set_option maxHeartbeats 4000000 in
set_option maxRecDepth 100000 in
theorem charge_any (x : Prt) (ta : Option Addr) (tc : Nat) (aa : Option Addr) (ac : Nat) (q : Int) (w : World) (ht : Row tTier w ta x.tiers.length tc x.tiers) (hq : I64 q) (g : GoodT x) :
    Calls Tryz.prog 72 #[.agg #[.int .i64 x.mt, .int .i64 x.a, .int .i64 x.b, .int .i64 x.allowance, .int .i64 x.block, .int .i64 x.kind, .slice ta x.tiers.length tc, .int .i64 x.mode, .slice aa x.adjusts.length ac], .int .i64 q] w fun e w' => e = .returned (.tuple #[.int .i64 (oV (chargeO x q)), .bool (oB (chargeO x q))]) ∧ Below w.heap.size w w' := by
  obtain ⟨w1, hw1⟩ : ∃ W, W = w.alloc (.cells ([.int .i64 x.mt, .int .i64 x.a, .int .i64 x.b, .int .i64 x.allowance, .int .i64 x.block, .int .i64 x.kind, .slice ta x.tiers.length tc, .int .i64 x.mode, .slice aa x.adjusts.length ac] : List Value).toArray 58) := ⟨_, rfl⟩
  obtain ⟨k1, hk1⟩ : ∃ k, k = w.heap.size := ⟨_, rfl⟩
  have b1 : Below w.heap.size w w1 := by rw [hw1]; exact bel_alloc _ _
  have X1 : Box w1 k1 [.int .i64 x.mt, .int .i64 x.a, .int .i64 x.b, .int .i64 x.allowance, .int .i64 x.block, .int .i64 x.kind, .slice ta x.tiers.length tc, .int .i64 x.mode, .slice aa x.adjusts.length ac] := by rw [hw1, hk1]; exact Box.new w _ 58
  have cM := hid (micro_any x ta tc aa ac q w1 (ht.on b1) hq g)
  have HX := hid X1
  have HB1 := hid b1
  have HW := hid hw1
  have HK := hid hk1
  have GD := hid g
  clear hw1 hk1 X1 b1 hq g ht
  go_enter Tryz.func72, Tryz.ntmps72
  go_upto_region 1 with fail
  rw [← HW.out, ← HK.out]
  have c0 := HX.out.cell 0 _ rfl
  have c1 := HX.out.cell 1 _ rfl
  have c2 := HX.out.cell 2 _ rfl
  have c3 := HX.out.cell 3 _ rfl
  have c4 := HX.out.cell 4 _ rfl
  have c5 := HX.out.cell 5 _ rfl
  have c6 := HX.out.cell 6 _ rfl
  have c7 := HX.out.cell 7 _ rfl
  have c8 := HX.out.cell 8 _ rfl
  have l1 := HX.out.lt
  go_wp2_with fail
  refine cM.out.mono ?_
  rintro e w2 ⟨rfl, b2⟩
  have B2 := hid (bel_on HB1.out b2)
  have X2 := HX.out.on b2
  clear c0 c1 c2 c3 c4 c5 c6 c7 c8 l1 cM b2 HW HK HX
  have c7 := X2.cell 7 _ rfl
  have l1 := X2.lt
  clear X2
  rcases hm : microO x q with _ | m
  · have e := hid (show chargeO x q = none by unfold chargeO; rw [hm]; rfl)
    rw [show oV (none : Option Int) = 0 from rfl, show oB (none : Option Int) = false from rfl]
    clear hm
    go_wp2
    go_ret2
    exact ⟨by rw [e.out]; rfl, B2.out⟩
  · have hi := micro_in GD.out hm
    have e := hid (show chargeO x q = some (rnd m 1000000 x.mode) by unfold chargeO; rw [hm]; rfl)
    rw [show oV (some m) = m from rfl, show oB (some m) = true from rfl]
    obtain ⟨d1, d2⟩ := mdb_i64 (c := 1000000) hi (by omega) (gt_mode GD.out)
    have cD := fun W => Rd.div_any m 1000000 x.mode W hi (by unfold I64; omega)
    rw [d1, d2] at cD
    have cD := hid cD
    clear hm hi d1 d2
    go_wp2_with fail
    refine (cD.out _).mono ?_
    rintro e w3 ⟨rfl, n, rfl⟩
    go_wp2
    go_ret2
    exact ⟨by rw [e.out]; rfl, P.bel_drewN B2.out n⟩
end Go.Proofs.YtjgogpaedaffkaaGreat.Tg
/- The laws of layer 12 (adjust), over what the package answers. -/
namespace Go.Proofs.YtjgogpaedaffkaaGreat.L12
open Go.RowKit Go.Sort P Mm Md R6 Te Co R10 R11
/-- What package adjust answers. -/
structure Aj : Prop where
  all : ∀ (n : Int) (xs : List Adj) (ao : Option Addr) (cap : Nat) (w : World), Row tAdj w ao xs.length cap xs → I64 n →
    Calls Tryz.prog 73 #[.int .i64 n, .slice ao xs.length cap] w fun e w' => e = .returned (.tuple #[.int .i64 (oV (adjsO n xs)), .bool (oB (adjsO n xs))]) ∧ Below w.heap.size w w'
  one : ∀ (a : Adj) (n : Int) (w : World), I64 n → I64 a.num → I64 a.mode →
    Calls Tryz.prog 102 #[.agg #[.int .i64 a.kind, .int .i64 a.num, .int .i64 a.mode], .int .i64 n] w fun e w' => e = .returned (.tuple #[.int .i64 (oV (adjO a n)), .bool (oB (adjO a n))]) ∧ Below w.heap.size w w'
end Go.Proofs.YtjgogpaedaffkaaGreat.L12
/- Package adjust, walked: One and All; what the laws ask of it. -/
namespace Go.Proofs.YtjgogpaedaffkaaGreat.Ag
open Go.RowKit Go.Sort P Mm Md R6 Te Co R10 R11
/-- Two numbers in a new block. -/
theorem two_cells (a b : Int) (w : World) (t : TypeId) : Cells (w.alloc (.cells #[.int .i64 a, .int .i64 b] t)) w.heap.size 0 [a, b] := by
  have X := Box.new w [.int .i64 a, .int .i64 b] t
  intro i hi
  match i, hi with
  | 0, _ => exact X.cell 0 _ rfl
  | 1, _ => exact X.cell 1 _ rfl
theorem min_best (a b : Int) : bestOf ltB a [b] = min a b := by
  unfold bestOf ltB bestOf
  simp only [decide_eq_true_eq]
  split <;> omega
theorem max_best (a b : Int) : bestOf gtB a [b] = max a b := by
  unfold bestOf gtB bestOf
  simp only [decide_eq_true_eq]
  split <;> omega
theorem least_two (a b : Int) (w : World) : Calls Tryz.prog 115 #[.slice (some ⟨w.heap.size, 0, none⟩) 2 2] (w.alloc (.cells #[.int .i64 a, .int .i64 b] 3)) fun e w' => e = .returned (.tuple #[.int .i64 (min a b), .bool true]) ∧ Below w.heap.size w w' := by
  have h := Ex.least_any w.heap.size 0 2 a [b] _ (two_cells a b w 3) (by simp) (by simp)
  rw [min_best] at h
  exact h.mono fun e w' h => ⟨h.1, by rw [← h.2]; exact bel_alloc w _⟩
theorem most_two (a b : Int) (w : World) : Calls Tryz.prog 116 #[.slice (some ⟨w.heap.size, 0, none⟩) 2 2] (w.alloc (.cells #[.int .i64 a, .int .i64 b] 3)) fun e w' => e = .returned (.tuple #[.int .i64 (max a b), .bool true]) ∧ Below w.heap.size w w' := by
  have h := Ex.most_any w.heap.size 0 2 a [b] _ (two_cells a b w 3) (by simp) (by simp)
  rw [max_best] at h
  exact h.mono fun e w' h => ⟨h.1, by rw [← h.2]; exact bel_alloc w _⟩
theorem mdn_f {p c mode : Int} (h : mdb p c mode = false) : mdn p c mode = 0 := by
  unfold mdn
  split
  · rename_i k
    unfold mdb at h
    rw [k, Bool.true_and] at h
    unfold cut64
    rw [h]
    rfl
  · rfl
set_option maxHeartbeats 4000000 in
set_option maxRecDepth 100000 in
theorem one_any (a : Adj) (n : Int) (w : World) (hn : I64 n) (ha : I64 a.num) (_hm : I64 a.mode) :
    Calls Tryz.prog 102 #[.agg #[.int .i64 a.kind, .int .i64 a.num, .int .i64 a.mode], .int .i64 n] w fun e w' => e = .returned (.tuple #[.int .i64 (oV (adjO a n)), .bool (oB (adjO a n))]) ∧ Below w.heap.size w w' := by
  obtain ⟨w1, hw1⟩ : ∃ W, W = w.alloc (.cells ([.int .i64 a.kind, .int .i64 a.num, .int .i64 a.mode] : List Value).toArray 115) := ⟨_, rfl⟩
  obtain ⟨k1, hk1⟩ : ∃ k, k = w.heap.size := ⟨_, rfl⟩
  have b1 : Below w.heap.size w w1 := by rw [hw1]; exact bel_alloc _ _
  have X1 : Box w1 k1 [.int .i64 a.kind, .int .i64 a.num, .int .i64 a.mode] := by rw [hw1, hk1]; exact Box.new w _ 115
  have c0 := X1.cell 0 _ rfl
  have c1 := X1.cell 1 _ rfl
  have c2 := X1.cell 2 _ rfl
  have l1 := X1.lt
  have HW := hid hw1
  have HK := hid hk1
  have B1 := hid b1
  obtain ⟨V, hV⟩ : ∃ V, V = oV (adjO a n) := ⟨_, rfl⟩
  obtain ⟨O, hO⟩ : ∃ O, O = oB (adjO a n) := ⟨_, rfl⟩
  rw [← hV, ← hO]
  by_cases h1 : a.kind = 1
  · have z1 : (a.kind == 1) = true := by simpa using h1
    have c := Rd.muldiv_any n a.num 100000 a.mode w1 hn ha (by unfold I64; omega)
    have e : V = mdn (n * a.num) 100000 a.mode ∧ O = mdb (n * a.num) 100000 a.mode := by
      rw [hV, hO]
      unfold adjO
      rw [if_pos h1]
      split
      · rename_i k
        rw [k]
        exact ⟨rfl, rfl⟩
      · rename_i k
        have k' : mdb (n * a.num) 100000 a.mode = false := by simpa using k
        rw [k', mdn_f k']
        exact ⟨rfl, rfl⟩
    rw [← e.1, ← e.2] at c
    have C := hid c
    clear hw1 hk1 b1 X1 h1 c e hV hO hn ha
    go_enter Tryz.func102, Tryz.ntmps102
    go_upto_region 1 with fail
    rw [← HW.out, ← HK.out]
    go_wp2_with fail
    refine C.out.mono ?_
    rintro e w2 ⟨rfl, m, rfl⟩
    have B2 := hid (P.bel_drewN B1.out m)
    clear C
    go_wp2
    go_ret2
    exact ⟨rfl, B2.out⟩
  have z1 : (a.kind == 1) = false := by simpa using h1
  by_cases h2 : a.kind = 2
  · have z2 : (a.kind == 2) = true := by simpa using h2
    have e : V = min n a.num ∧ O = true := by
      rw [hV, hO]; unfold adjO; rw [if_neg h1, if_pos h2]; exact ⟨rfl, rfl⟩
    obtain ⟨rfl, rfl⟩ := e
    have C := hid (least_two n a.num w1)
    clear hw1 hk1 b1 X1 h1 h2 hV hO hn ha
    go_enter Tryz.func102, Tryz.ntmps102
    go_upto_region 1 with fail
    rw [← HW.out, ← HK.out]
    go_wp2_with fail
    refine C.out.mono ?_
    rintro e w2 ⟨rfl, b2⟩
    have B2 := hid (bel_on B1.out b2)
    clear C b2
    go_wp2
    go_ret2
    exact ⟨rfl, B2.out⟩
  have z2 : (a.kind == 2) = false := by simpa using h2
  by_cases h3 : a.kind = 3
  · have z4 : (a.kind == 3) = true := by simpa using h3
    have e : V = max n a.num ∧ O = true := by
      rw [hV, hO]; unfold adjO; rw [if_neg h1, if_neg h2, if_pos h3]; exact ⟨rfl, rfl⟩
    obtain ⟨rfl, rfl⟩ := e
    have C := hid (most_two n a.num w1)
    clear hw1 hk1 b1 X1 h1 h2 h3 hV hO hn ha
    go_enter Tryz.func102, Tryz.ntmps102
    go_upto_region 1 with fail
    rw [← HW.out, ← HK.out]
    go_wp2_with fail
    refine C.out.mono ?_
    rintro e w2 ⟨rfl, b2⟩
    have B2 := hid (bel_on B1.out b2)
    clear C b2
    go_wp2
    go_ret2
    exact ⟨rfl, B2.out⟩
  have z4 : (a.kind == 3) = false := by simpa using h3
  by_cases h4 : a.kind = 4
  · have z5 : (a.kind == 4) = true := by simpa using h4
    have e : V = cut64 (n + a.num) ∧ O = ok64 (n + a.num) := by
      rw [hV, hO]
      unfold adjO
      rw [if_neg h1, if_neg h2, if_neg h3, if_pos h4]
      by_cases k : I64 (n + a.num)
      · rw [ok64_t k, cut64_t k]; exact ⟨rfl, rfl⟩
      · rw [ok64_f k, cut64_f k]; exact ⟨rfl, rfl⟩
    have c := Ex.add_any n a.num w1 hn ha
    rw [← e.1, ← e.2] at c
    have C := hid c
    clear hw1 hk1 b1 X1 h1 h2 h3 h4 hV hO hn ha e c
    go_enter Tryz.func102, Tryz.ntmps102
    go_upto_region 1 with fail
    rw [← HW.out, ← HK.out]
    go_wp2_with fail
    refine C.out.mono ?_
    rintro e w2 ⟨rfl, rfl⟩
    clear C
    go_wp2
    go_ret2
    exact ⟨rfl, B1.out⟩
  · have z5 : (a.kind == 4) = false := by simpa using h4
    have e : V = 0 ∧ O = false := by
      rw [hV, hO]; unfold adjO; rw [if_neg h1, if_neg h2, if_neg h3, if_neg h4]; exact ⟨rfl, rfl⟩
    obtain ⟨rfl, rfl⟩ := e
    clear hw1 hk1 b1 X1 h1 h2 h3 h4 hV hO hn ha
    go_enter Tryz.func102, Tryz.ntmps102
    go_upto_region 1 with fail
    rw [← HW.out, ← HK.out]
    go_wp2
    go_ret2
    exact ⟨rfl, B1.out⟩
theorem adj_in {w : World} {b o len cap : Nat} {xs : List Adj} (h : Row tAdj w (some ⟨b, o, none⟩) len cap xs) {j : Nat} {m : Adj} (hj : xs[j]? = some m) :
    w.cell? ⟨b, o + j * 3, none⟩ = some (.int .i64 m.kind) ∧ w.cell? ⟨b, o + j * 3 + 1, none⟩ = some (.int .i64 m.num) ∧ w.cell? ⟨b, o + j * 3 + 2, none⟩ = some (.int .i64 m.mode) ∧ I64 m.num ∧ I64 m.mode := by
  obtain ⟨b', o', e, _, x0, x1, x2, _, x3, x4⟩ := adj_at h hj
  simp only [Option.some.injEq, Addr.mk.injEq, and_true] at e
  obtain ⟨rfl, rfl⟩ := e
  exact ⟨x0, x1, x2, x3, x4⟩
set_option maxHeartbeats 4000000 in
set_option maxRecDepth 100000 in
theorem all_any (n : Int) (xs : List Adj) (ao : Option Addr) (cap : Nat) (w : World) (hx : Row tAdj w ao xs.length cap xs) (hn : I64 n) :
    Calls Tryz.prog 73 #[.int .i64 n, .slice ao xs.length cap] w fun e w' => e = .returned (.tuple #[.int .i64 (oV (adjsO n xs)), .bool (oB (adjsO n xs))]) ∧ Below w.heap.size w w' := by
  obtain ⟨R, hR⟩ : ∃ R, R = adjsO n xs := ⟨_, rfl⟩
  rw [← hR]
  have HX := hid (fun (W : World) (b : Below w.heap.size w W) => hx.on b)
  have tm := hx.hmax
  have tcp := hx.hcap
  have R0 := hid (show R = adjsO n (xs.drop 0) from hR)
  have HN := hid hn
  clear hx hR hn
  go_enter Tryz.func73, Tryz.ntmps73
  go_wp2
  go_loopw [0, 12] (fun v i wr => ∃ (m : Int) (i' : Nat), v = .int .i64 m ∧ i = .int .i64 (i' : Int) ∧ i' ≤ xs.length ∧ Hid (R = adjsO m (xs.drop i')) ∧ Hid (I64 m) ∧ Hid (Below w.heap.size w wr)) (fun _ i _ => xs.length - (intOf i).toNat)
  case atStart => exact ⟨n, 0, rfl, rfl, Nat.zero_le _, R0, HN, hid (Below.refl _ _)⟩
  case round =>
    obtain ⟨m, i', rfl, rfl, hi, hR, hM, hb⟩ := hrel
    clear R0 HN
    by_cases hlt : i' < xs.length
    · obtain ⟨y, hy⟩ : ∃ y, xs[i']? = some y := ⟨_, List.getElem?_eq_getElem hlt⟩
      obtain ⟨ba, oa, ea, -⟩ := adj_at (HX.out _ hb.out) hy
      subst ea
      obtain ⟨y0, y1, y2, y3, y4⟩ := adj_in (HX.out _ hb.out) hy
      obtain ⟨wt, hwt⟩ : ∃ W, W = wr.alloc (.cells ([.int .i64 y.kind, .int .i64 y.num, .int .i64 y.mode] : List Value).toArray 115) := ⟨_, rfl⟩
      obtain ⟨kt, hkt⟩ : ∃ k, k = wr.heap.size := ⟨_, rfl⟩
      have bt2 : Below wr.heap.size wr wt := by rw [hwt]; exact bel_alloc _ _
      have XT : Box wt kt [.int .i64 y.kind, .int .i64 y.num, .int .i64 y.mode] := by rw [hwt, hkt]; exact Box.new _ _ _
      have BT := hid (bel_on hb.out bt2)
      have e0 := XT.cell 0 _ rfl
      have e1 := XT.cell 1 _ rfl
      have e2 := XT.cell 2 _ rfl
      have HWT := hid hwt
      have HKT := hid hkt
      have cO := one_any y m wt hM.out y3 y4
      have hS := hR.out
      rw [adjsO_step hy] at hS
      have HI := hid (fun k (h : adjO y m = some k) => adjO_i64 hM.out y3 h)
      obtain ⟨O, hO⟩ : ∃ O, O = adjO y m := ⟨_, rfl⟩
      rw [← hO] at cO hS HI
      have cO := hid cO
      have HS := hid hS
      clear hwt hkt bt2 XT hb hR hS hO hy y3 y4
      go_upto_region 4 with fail
      rw [← HWT.out, ← HKT.out]
      clear HWT HKT y0 y1 y2
      go_wp2_with fail
      refine cO.out.mono ?_
      rintro e w2 ⟨rfl, b2⟩
      have B2 := hid (bel_on BT.out b2)
      clear b2 cO BT e0 e1 e2
      cases O with
      | none =>
        have E : Hid (R = none) := HS
        rw [show oV none = 0 from rfl, show oB none = false from rfl]
        go_wp2
        go_ret2
        exact ⟨by rw [E.out]; rfl, B2.out⟩
      | some k =>
        have E : Hid (R = adjsO k (xs.drop (i' + 1))) := HS
        have HK : Hid (I64 k) := hid (HI.out k rfl)
        rw [show oV (some k) = k from rfl, show oB (some k) = true from rfl]
        clear HI HS
        go_wp2
        go_roundw
        case rel => exact ⟨k, i' + 1, rfl, by simp, by omega, E, HK, B2⟩
        case measure => simp [intOf]; omega
    · have E := hid (show R = some m by rw [hR.out, List.drop_of_length_le (by omega)]; rfl)
      clear hR
      go_wp2
      go_ret2
      exact ⟨by rw [E.out]; rfl, hb.out⟩
end Go.Proofs.YtjgogpaedaffkaaGreat.Ag
