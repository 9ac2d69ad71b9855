/- The document's lines (poundageref14): Mix. -/
import Derived.Test.YtemjmdfmcblgnaaJRef14b
import Derived.Deep.RegionLaw
import Derived.Deep.RegionHeldLaw
import Derived.Deep.AppendLies
import Derived.Test.YtemjmdfmcblgnaaJPureL
import Derived.RangeFuncNested
import Derived.RangeFuncBound
import Derived.RangeFuncCalls
import Derived.RangeFuncLeaves
import Derived.RangeFuncBox
import Derived.Shelf.Abstract
import Derived.Shelf.RegionOpen
import Derived.WalkKit
import Derived.OwnWalkIn
import Derived.TacticsInMore
import Derived.LoopNIn
import Derived.LoopIn
import Derived.Maps.AppendAt
import Derived.Deep.RegionHeld3
namespace Go.Proofs.Ytemjmdfmcblgnaa.P
end Go.Proofs.Ytemjmdfmcblgnaa.P
namespace Go.Proofs.Ytemjmdfmcblgnaa.Mm
end Go.Proofs.Ytemjmdfmcblgnaa.Mm
namespace Go.Proofs.Ytemjmdfmcblgnaa.R6
end Go.Proofs.Ytemjmdfmcblgnaa.R6
namespace Go.Proofs.Ytemjmdfmcblgnaa.R14
end Go.Proofs.Ytemjmdfmcblgnaa.R14
namespace Go.Proofs.Ytemjmdfmcblgnaa.L14
end Go.Proofs.Ytemjmdfmcblgnaa.L14
namespace Go.Proofs.Ytemjmdfmcblgnaa.R14
open Go.RowKit Go.Sort P Mm R6
theorem grown_unalloc {w w' : World} {x : Obj} {row : Option Nat} (h : (w.alloc x).grownBy w' row) : w.grownBy w' row :=
  ⟨h.os, h.tape, h.output, by have := h.size; simp at this; omega, fun k hk hne => (h.block k (by simp; omega) hne).trans (Below.heap_alloc w x k hk)⟩
/-- Between two rounds of Zip. -/
structure ZI (w0 w : World) (n0 k1 k2 k3 k4 : Nat) (m k k' : Int) (la lb : Value) (n : Nat) (acc : List Int) : Prop where
  out : ∃ V, Box w k4 [.int .i64 m, V] ∧ w.ownsRow n0 3 1 V n (acc.flatMap intC)
  one : Box w k1 [.int .i64 k, la]
  two : Box w k2 [.int .i64 k', lb]
  res : Box w k3 [.int .i64 0, .slice none 0 0]
  bel : Below w0.heap.size w0 w
  size : n0 ≤ w.heap.size
theorem ZI.on {w0 w w' : World} {n0 k1 k2 k3 k4 : Nat} {m k k' : Int} {la lb : Value} {n : Nat} {acc : List Int} (h : ZI w0 w n0 k1 k2 k3 k4 m k k' la lb n acc) (b : Below w.heap.size w w') : ZI w0 w' n0 k1 k2 k3 k4 m k k' la lb n acc := by
  obtain ⟨V, h1, h2⟩ := h.out
  exact ⟨⟨V, h1.on b, owns_on h2 b⟩, h.one.on b, h.two.on b, h.res.on b, bel_on h.bel b, Nat.le_trans h.size b.size⟩
end Go.Proofs.Ytemjmdfmcblgnaa.R14
/- Curves in memory (layer 15), and the document's answer whether two are the same (poundageref15.Same). -/
namespace Go.Proofs.Ytemjmdfmcblgnaa.Mm
open Go.RowKit Go.Deep P R6
def gpC (g : Gp) : List Value := [.int .i64 g.f, .int .i64 g.v, .int .i64 g.w, .int .i64 g.r, .int .i64 g.c]
def GpOk (g : Gp) : Prop := I64 g.f ∧ I64 g.v ∧ I64 g.w ∧ I64 g.r ∧ I64 g.c
def tGp : Ty Gp := leaf 5 gpC GpOk (fun _ => rfl)
theorem gp_at {w : World} {ao : Option Addr} {len cap : Nat} {xs : List Gp} (h : Row tGp w ao len cap xs) {j : Nat} {g : Gp} (hj : xs[j]? = some g) :
    ∃ b o, ao = some ⟨b, o, none⟩ ∧ b < w.heap.size ∧ w.cell? ⟨b, o + j * 5, none⟩ = some (.int .i64 g.f) ∧ w.cell? ⟨b, o + j * 5 + 1, none⟩ = some (.int .i64 g.v) ∧ w.cell? ⟨b, o + j * 5 + 2, none⟩ = some (.int .i64 g.w) ∧
      w.cell? ⟨b, o + j * 5 + 3, none⟩ = some (.int .i64 g.r) ∧ w.cell? ⟨b, o + j * 5 + 4, none⟩ = some (.int .i64 g.c) ∧ GpOk g := by
  obtain ⟨b, o, cs, h1, h2, ⟨h3, h5⟩, h4⟩ := h.at hj
  subst h3
  exact ⟨b, o, h1, h2, lies0 (h4 0 _ rfl), h4 1 _ rfl, h4 2 _ rfl, h4 3 _ rfl, h4 4 _ rfl, h5⟩
end Go.Proofs.Ytemjmdfmcblgnaa.Mm
namespace Go.Proofs.Ytemjmdfmcblgnaa.R15
open Go.RowKit Go.Sort P Mm R6 R14
def eqC (m : Int) (a : List Gp) (m' : Int) (b : List Gp) : Bool := decide (m = m') && decide (a = b)
set_option maxHeartbeats 4000000 in
set_option maxRecDepth 100000 in
theorem same_any (m : Int) (a : List Gp) (ao : Option Addr) (ac : Nat) (m' : Int) (b : List Gp) (bo : Option Addr) (bc : Nat) (w : World) (ha : Row tGp w ao a.length ac a) (hb : Row tGp w bo b.length bc b) :
    Calls Try.prog 12 #[.agg #[.int .i64 m, .slice ao a.length ac], .agg #[.int .i64 m', .slice bo b.length bc]] w fun e w' => e = .returned (.bool (eqC m a m' b)) ∧ Below w.heap.size w w' := by
  obtain ⟨w1, hw1⟩ : ∃ W, W = w.alloc (.cells ([.int .i64 m, .slice ao a.length ac] : List Value).toArray 26) := ⟨_, rfl⟩
  obtain ⟨k1, hk1⟩ : ∃ k, k = w.heap.size := ⟨_, rfl⟩
  have b1 : Below w.heap.size w w1 := by rw [hw1]; exact bel_alloc _ _
  have X1 : Box w1 k1 [.int .i64 m, .slice ao a.length ac] := by rw [hw1, hk1]; exact Box.new w _ _
  obtain ⟨w2, hw2⟩ : ∃ W, W = w1.alloc (.cells ([.int .i64 m', .slice bo b.length bc] : List Value).toArray 26) := ⟨_, rfl⟩
  obtain ⟨k2, hk2⟩ : ∃ k, k = w1.heap.size := ⟨_, rfl⟩
  have b2 : Below w1.heap.size w1 w2 := by rw [hw2]; exact bel_alloc _ _
  have X2 : Box w2 k2 [.int .i64 m', .slice bo b.length bc] := by rw [hw2, hk2]; exact Box.new w1 _ _
  have b02 := bel_on b1 b2
  have HX := hid (fun (W : World) (k : Below w2.heap.size w2 W) => (⟨(X1.on b2).on k, X2.on k, ha.on (bel_on b02 k), hb.on (bel_on b02 k), bel_on b02 k⟩ : Box W k1 [.int .i64 m, .slice ao a.length ac] ∧ Box W k2 [.int .i64 m', .slice bo b.length bc] ∧ Row tGp W ao a.length ac a ∧ Row tGp W bo b.length bc b ∧ Below w.heap.size w W))
  have B0 := hid (Below.refl w2.heap.size w2)
  have BF := hid b02
  have HW := hid (show w2 = (w.alloc (.cells #[.int .i64 m, .slice ao a.length ac] 26)).alloc (.cells #[.int .i64 m', .slice bo b.length bc] 26) by rw [hw2, hw1])
  have HK1 := hid hk1
  have HK2 := hid (show k2 = w.heap.size + 1 by rw [hk2, hw1]; simp)
  have x0 := (X1.on b2).cell 0 _ rfl
  have x1 := (X1.on b2).cell 1 _ rfl
  have y0 := X2.cell 0 _ rfl
  have y1 := X2.cell 1 _ rfl
  have l1 := (X1.on b2).lt
  have l2 := X2.lt
  have am := ha.hmax
  have acp := ha.hcap
  have bm := hb.hmax
  have bcp := hb.hcap
  obtain ⟨R, hR⟩ : ∃ R, R = eqC m a m' b := ⟨_, rfl⟩
  rw [← hR]
  have RV := hid hR
  clear hw1 hk1 b1 X1 hw2 hk2 b2 X2 b02 ha hb hR
  go_enter Try.func12, Try.ntmps12
  go_upto_region 1 with fail
  rw [← HW.out, ← HK2.out, ← HK1.out]
  clear HW HK1 HK2
  by_cases h1 : m = m'
  rotate_left
  · have z1 : (m == m') = false := by rw [beq_eq_false_iff_ne]; exact h1
    have E := hid (show R = false by rw [RV.out]; unfold eqC; rw [decide_eq_false h1]; rfl)
    clear h1
    go_wp2
    go_ret
    exact ⟨by rw [E.out]; rfl, BF.out⟩
  have z1 : (m == m') = true := by rw [beq_iff_eq]; exact h1
  have M1 := hid h1
  clear h1
  by_cases h2 : a.length = b.length
  rotate_left
  · have z2 : ((a.length : Int) == (b.length : Int)) = false := by rw [beq_eq_false_iff_ne]; omega
    have E := hid (show R = false by rw [RV.out]; unfold eqC; rw [decide_eq_false (fun e : a = b => h2 (by rw [e])), Bool.and_false])
    clear h2
    go_wp2
    go_ret
    exact ⟨by rw [E.out]; rfl, BF.out⟩
  have z2 : ((a.length : Int) == (b.length : Int)) = true := by rw [beq_iff_eq]; omega
  have HL := hid h2
  clear h2
  go_wp2
  clear x0 x1 y0 y1 l1 l2 z1 z2 BF
  go_loopw [23] (fun i wr => ∃ i' : Nat, i = .int .i64 (i' : Int) ∧ i' ≤ a.length ∧ Hid (a.take i' = b.take i') ∧ Hid (Below w2.heap.size w2 wr)) (fun i _ => a.length - (intOf i).toNat)
  case atStart => exact ⟨0, rfl, Nat.zero_le _, hid rfl, B0⟩
  case round =>
    obtain ⟨i', rfl, hi, hT, hb⟩ := hrel
    clear B0
    by_cases hlt : i' < a.length
    · obtain ⟨x, hx⟩ : ∃ x, a[i']? = some x := ⟨_, List.getElem?_eq_getElem hlt⟩
      obtain ⟨y, hy⟩ : ∃ y, b[i']? = some y := ⟨_, List.getElem?_eq_getElem (by have := HL.out; omega)⟩
      have hlt2 : i' < b.length := by have := HL.out; omega
      obtain ⟨p1, p2, p3, p4, p5⟩ := HX.out wr hb.out
      obtain ⟨xb, xo, ex, -, x0, x1, x2, x3, x4, -⟩ := gp_at p3 hx
      subst ex
      obtain ⟨yb, yo, ey, -, y0, y1, y2, y3, y4, -⟩ := gp_at p4 hy
      subst ey
      have f0 := cell_regrown (p1.cell 1 _ rfl)
      have f1 := cell_regrown (p2.cell 1 _ rfl)
      have fx0 := cell_regrown x0; have fx1 := cell_regrown x1; have fx2 := cell_regrown x2; have fx3 := cell_regrown x3; have fx4 := cell_regrown x4
      have fy0 := cell_regrown y0; have fy1 := cell_regrown y1; have fy2 := cell_regrown y2; have fy3 := cell_regrown y3; have fy4 := cell_regrown y4
      have HXX := hid hx
      have HYY := hid hy
      have BW := hid (fun d os => bel_on hb.out (below_regrown wr d os))
      clear p1 p2 p3 p4 p5 x0 x1 x2 x3 x4 y0 y1 y2 y3 y4 hx hy hb
      have NO := hid (show x ≠ y → R = false from fun h => by
        rw [RV.out]
        unfold eqC
        rw [decide_eq_false (fun e : a = b => h (by
          have h1 := HXX.out
          rw [e, HYY.out] at h1
          exact (Option.some.inj h1).symm)), Bool.and_false])
      go_upto_region 6 with fail
      by_cases h0 : x.f = y.f
      rotate_left
      · have q0 : (x.f == y.f) = false := by rw [beq_eq_false_iff_ne]; exact h0
        have E := hid (NO.out (fun e => h0 (by rw [e])))
        clear h0 NO
        refine wp_region_quiet_below (by kernel_rfl) (by kernel_rfl) ?_
        repeat (go_big_quiet_step (fail))
        refine wpQuiet_nil ?_
        intro _ hw'
        obtain ⟨⟨dq, osq⟩, hw''⟩ := hw'
        subst hw''
        have BZ := hid (HX.out _ (BW.out dq osq)).2.2.2.2
        clear BW f0 f1 fx0 fx1 fx2 fx3 fx4 fy0 fy1 fy2 fy3 fy4
        go_wp2
        go_ret
        exact ⟨by rw [E.out]; rfl, BZ.out⟩
      have q0 : (x.f == y.f) = true := by rw [beq_iff_eq]; exact h0
      by_cases h1 : x.v = y.v
      rotate_left
      · have q1 : (x.v == y.v) = false := by rw [beq_eq_false_iff_ne]; exact h1
        have E := hid (NO.out (fun e => h1 (by rw [e])))
        clear h1 NO
        refine wp_region_quiet_below (by kernel_rfl) (by kernel_rfl) ?_
        repeat (go_big_quiet_step (fail))
        refine wpQuiet_nil ?_
        intro _ hw'
        obtain ⟨⟨dq, osq⟩, hw''⟩ := hw'
        subst hw''
        have BZ := hid (HX.out _ (BW.out dq osq)).2.2.2.2
        clear BW f0 f1 fx0 fx1 fx2 fx3 fx4 fy0 fy1 fy2 fy3 fy4
        go_wp2
        go_ret
        exact ⟨by rw [E.out]; rfl, BZ.out⟩
      have q1 : (x.v == y.v) = true := by rw [beq_iff_eq]; exact h1
      by_cases h2 : x.w = y.w
      rotate_left
      · have q2 : (x.w == y.w) = false := by rw [beq_eq_false_iff_ne]; exact h2
        have E := hid (NO.out (fun e => h2 (by rw [e])))
        clear h2 NO
        refine wp_region_quiet_below (by kernel_rfl) (by kernel_rfl) ?_
        repeat (go_big_quiet_step (fail))
        refine wpQuiet_nil ?_
        intro _ hw'
        obtain ⟨⟨dq, osq⟩, hw''⟩ := hw'
        subst hw''
        have BZ := hid (HX.out _ (BW.out dq osq)).2.2.2.2
        clear BW f0 f1 fx0 fx1 fx2 fx3 fx4 fy0 fy1 fy2 fy3 fy4
        go_wp2
        go_ret
        exact ⟨by rw [E.out]; rfl, BZ.out⟩
      have q2 : (x.w == y.w) = true := by rw [beq_iff_eq]; exact h2
      by_cases h3 : x.r = y.r
      rotate_left
      · have q3 : (x.r == y.r) = false := by rw [beq_eq_false_iff_ne]; exact h3
        have E := hid (NO.out (fun e => h3 (by rw [e])))
        clear h3 NO
        refine wp_region_quiet_below (by kernel_rfl) (by kernel_rfl) ?_
        repeat (go_big_quiet_step (fail))
        refine wpQuiet_nil ?_
        intro _ hw'
        obtain ⟨⟨dq, osq⟩, hw''⟩ := hw'
        subst hw''
        have BZ := hid (HX.out _ (BW.out dq osq)).2.2.2.2
        clear BW f0 f1 fx0 fx1 fx2 fx3 fx4 fy0 fy1 fy2 fy3 fy4
        go_wp2
        go_ret
        exact ⟨by rw [E.out]; rfl, BZ.out⟩
      have q3 : (x.r == y.r) = true := by rw [beq_iff_eq]; exact h3
      by_cases h4 : x.c = y.c
      rotate_left
      · have q4 : (x.c == y.c) = false := by rw [beq_eq_false_iff_ne]; exact h4
        have E := hid (NO.out (fun e => h4 (by rw [e])))
        clear h4 NO
        refine wp_region_quiet_below (by kernel_rfl) (by kernel_rfl) ?_
        repeat (go_big_quiet_step (fail))
        refine wpQuiet_nil ?_
        intro _ hw'
        obtain ⟨⟨dq, osq⟩, hw''⟩ := hw'
        subst hw''
        have BZ := hid (HX.out _ (BW.out dq osq)).2.2.2.2
        clear BW f0 f1 fx0 fx1 fx2 fx3 fx4 fy0 fy1 fy2 fy3 fy4
        go_wp2
        go_ret
        exact ⟨by rw [E.out]; rfl, BZ.out⟩
      have q4 : (x.c == y.c) = true := by rw [beq_iff_eq]; exact h4
      have EQ : x = y := by
        obtain ⟨x0, x1, x2, x3, x4⟩ := x
        obtain ⟨y0, y1, y2, y3, y4⟩ := y
        simp only at h0 h1 h2 h3 h4
        rw [h0, h1, h2, h3, h4]
      have T2 := hid (show a.take (i' + 1) = b.take (i' + 1) by rw [List.take_add_one, List.take_add_one, hT.out, HXX.out, HYY.out, EQ])
      clear h0 h1 h2 h3 h4 EQ NO hT
      refine wp_region_quiet_below (by kernel_rfl) (by kernel_rfl) ?_
      repeat (go_big_quiet_step (fail))
      refine wpQuiet_nil ?_
      intro _ hw'
      obtain ⟨⟨dq, osq⟩, hw''⟩ := hw'
      subst hw''
      have BZ := hid (BW.out dq osq)
      clear BW f0 f1 fx0 fx1 fx2 fx3 fx4 fy0 fy1 fy2 fy3 fy4
      go_wp2
      go_roundw
      case rel => exact ⟨i' + 1, by simp, by omega, T2, BZ⟩
      case measure => simp [intOf]; omega
    · have E := hid (show R = true by
        have h := hT.out
        rw [List.take_of_length_le (by omega), List.take_of_length_le (by have := HL.out; omega)] at h
        rw [RV.out]
        unfold eqC
        rw [decide_eq_true M1.out, decide_eq_true h]
        rfl)
      have BZ := hid (HX.out wr hb.out).2.2.2.2
      clear hT hb
      go_wp2
      go_ret
      exact ⟨by rw [E.out]; rfl, BZ.out⟩
end Go.Proofs.Ytemjmdfmcblgnaa.R15
/- The laws of layer 14 (line), over what the package answers: what the document tells; what is played. -/
namespace Go.Proofs.Ytemjmdfmcblgnaa.L14
open Go.RowKit Go.Sort P Mm R6 R14
/-- Blocks from one number to another one, and the block of an address where there is something, are kept. -/
def KeepL (a b : Nat) (ta : Option Addr) (ne : Prop) (A B : World) : Prop := ∀ j, ((a ≤ j ∧ j < b) ∨ (ne ∧ ∃ ad : Addr, ta = some ad ∧ j = ad.block)) → B.heap[j]? = A.heap[j]?
def encR (s : Rn Int) : Array Value := #[.agg #[.int .i64 s.a, .int .i64 s.b, .int .i64 s.v]]
/-- Numbers that are played: from where, and how many. -/
def Ply (k : Int) (l : List Int) : Prop := -2147483648 ≤ k ∧ k ≤ 2147483648 ∧ l.length ≤ 8589934592 ∧ (∀ v ∈ l, I64 v) ∧ (runsF k l).length ≤ 100000
/-- What package line answers, of lines of numbers. -/
structure LnO : Prop where
  of : ∀ (k : Int) (l : List Int) (ao : Option Addr) (cap : Nat) (w : World), Row tInt w ao l.length cap l → -2147483648 ≤ k → k ≤ 2147483648 → l.length ≤ 100000 →
    Calls Try.prog 10 #[.int .i64 k, .slice ao l.length cap] w fun e w' => (∃ ao' cap', e = .returned (.agg #[.slice ao' (runsF k l).length cap']) ∧ Row tRn w' ao' (runsF k l).length cap' (runsF k l)) ∧ Below w.heap.size w w'
  span : ∀ (k : Int) (l : List Int) (ao : Option Addr) (cap : Nat) (w : World), Row tRn w ao (runsF k l).length cap (runsF k l) → Ply k l →
    Calls Try.prog 19 #[.agg #[.slice ao (runsF k l).length cap]] w fun e w' => e = .returned (.tuple #[.int .i64 (spanR (runsF k l)).1, .int .i64 (spanR (runsF k l)).2.1, .bool (spanR (runsF k l)).2.2]) ∧ Below w.heap.size w w'
  runs : ∀ (k : Int) (l : List Int) (ao : Option Addr) (cap : Nat) (w : World), Row tRn w ao (runsF k l).length cap (runsF k l) → Ply k l →
    Calls Try.prog 21 #[.agg #[.slice ao (runsF k l).length cap]] w fun e w' => Below w.heap.size w w' ∧ ∃ (gf : Nat) (lb : Array Value), e = .returned (.func (.func gf) #[] lb) ∧ (∀ args W, (callFunc gf args).run Try.prog W = .ok (.enter gf args) W) ∧
      ∀ (n : Nat), 1 ≤ n → ∀ Kp : World → World → Prop, (∀ A B, Kp A B → KeepL w.heap.size w'.heap.size ao (runsF k l ≠ []) A B) → SeqStopsK Fence.wide n Try.prog gf lb encR Kp (fun ys => ys = runsF k l) (fun pre => pre <+: runsF k l) (runsF k l).length w'
  equal : ∀ (k : Int) (l : List Int) (ao : Option Addr) (cap : Nat) (k' : Int) (l' : List Int) (bo : Option Addr) (bcap : Nat) (w : World), Row tRn w ao (runsF k l).length cap (runsF k l) → Ply k l → Row tRn w bo (runsF k' l').length bcap (runsF k' l') → Ply k' l' →
    Calls Try.prog 15 #[.agg #[.slice ao (runsF k l).length cap], .agg #[.slice bo (runsF k' l').length bcap]] w fun e w' => e = .returned (.bool (decide (runsF k l = runsF k' l'))) ∧ Below w.heap.size w w'
theorem ply_of {k : Int} {l : List Int} (h1 : -2147483648 ≤ k) (h2 : k ≤ 2147483648) (h3 : l.length ≤ 100000) (h4 : ∀ v ∈ l, I64 v) : Ply k l :=
  ⟨h1, h2, by omega, h4, Nat.le_trans (runs_len l k) h3⟩
end Go.Proofs.Ytemjmdfmcblgnaa.L14
/- The law's own loop over the runs of a line (layer 14): a range over a function that may be left at any time. -/
namespace Go.Proofs.Ytemjmdfmcblgnaa.L14
open Go.RowKit Go.Sort P Mm R6 R14
attribute [local go_sem] Oper.semAt_some
theorem info_lrun : (Try.prog.info? 51).map (fun i => (i.zero, i.size, i.bytes)) = some (some (.agg #[.int .i64 0, .int .i64 0, .int .i64 0]), 3, 24) := by kernel_rfl
/-- A block of cells, whole. -/
def Cells (W : World) (B : Nat) (t : TypeId) (cs : List Value) : Prop := W.heap[B]? = some (.cells cs.toArray t (0, 0))
theorem Cells.lt {W : World} {B : Nat} {t : TypeId} {cs : List Value} (h : Cells W B t cs) : B < W.heap.size := (Array.getElem?_eq_some_iff.1 h).1
theorem Cells.cell {W : World} {B : Nat} {t : TypeId} {cs : List Value} (h : Cells W B t cs) (i : Nat) : W.cell? ⟨B, i, none⟩ = cs[i]? := by simp [World.cell?, show W.heap[B]? = _ from h]
theorem Cells.kept {W W' : World} {row : Option Nat} {B : Nat} {t : TypeId} {cs : List Value} (h : Cells W B t cs) (hg : W.grownBy W' row) (hne : some B ≠ row) : Cells W' B t cs := (hg.block B h.lt hne).trans h
theorem cells_own {β : Type} (B : Nat) (t : TypeId) (cs : List Value) (n : Nat) : OwnFrom n (fun (_ : β) W => Cells W B t cs) := fun _ X _ _ hs hg hr =>
  Cells.kept hs hg (fun e' => by obtain ⟨_, o, ho, hc⟩ := hr B e'.symm; rw [show X.heap[B]? = _ from hs] at ho; cases ho; cases hc)
/-- Between two rounds: what has come lies in the variable's own row. -/
structure GI (w : World) (n0 KM KO : Nat) (most : Int) (pre : List (Rn Int)) (W : World) : Prop where
  out : ∃ v, Boxed W KO 29 v ∧ W.ownsRow n0 51 3 v pre.length (pre.flatMap rnC) ∧ True
  mst : Boxed W KM 3 (.int .i64 most)
  few : (pre.length : Int) ≤ max most 0
  bel : Below w.heap.size w W
  size : n0 ≤ W.heap.size
end Go.Proofs.Ytemjmdfmcblgnaa.L14
/- LineMaps (layer 14). -/
namespace Go.Proofs.Ytemjmdfmcblgnaa.L14
open Go.RowKit Go.Sort P Mm R6 R14
def eqS (a b : List Int) (i : Nat) : Bool := decide (a.length = b.length) && decide (a.take i = b.take i)
theorem eqS_step {a b : List Int} {i : Nat} (h : eqS a b i = false) : eqS a b (i + 1) = false := by
  rcases Bool.eq_false_or_eq_true (eqS a b (i + 1)) with k | k
  · unfold eqS at h k
    rw [Bool.and_eq_true, decide_eq_true_eq, decide_eq_true_eq] at k
    have e : a.take i = b.take i := by
      have := congrArg (List.take i) k.2
      rwa [List.take_take, List.take_take, Nat.min_eq_left (Nat.le_succ i)] at this
    rw [decide_eq_true k.1, decide_eq_true e] at h
    cases h
  · exact k
theorem eqS_true {a b : List Int} {i : Nat} {v : Int} (h : eqS a b i = true) (hv : a[i]? = some v) : ∃ u, b[i]? = some u ∧ i < b.length ∧ eqS a b (i + 1) = (u == v) := by
  unfold eqS at h
  rw [Bool.and_eq_true, decide_eq_true_eq, decide_eq_true_eq] at h
  have hi := (List.getElem?_eq_some_iff.1 hv).1
  have hb : i < b.length := by omega
  refine ⟨b[i], List.getElem?_eq_getElem hb, hb, ?_⟩
  unfold eqS
  rw [decide_eq_true h.1, Bool.true_and, List.take_add_one, List.take_add_one, hv, List.getElem?_eq_getElem hb, h.2]
  by_cases e : b[i] = v
  · rw [e, decide_eq_true rfl]
    simp
  · rw [decide_eq_false (fun h2 => e (by
      have := List.append_cancel_left h2
      simpa using this.symm))]
    exact (beq_eq_false_iff_ne.2 e).symm
end Go.Proofs.Ytemjmdfmcblgnaa.L14
/- The laws of layer 15 (curve), over what the package answers: what the document tells; CurveOne. -/
namespace Go.Proofs.Ytemjmdfmcblgnaa.L15
open Go.RowKit Go.Sort P Mm R6 R14 L14
/-- What Of of package curve answers of a line: whether, Max, the groups. -/
def ofB (k : Int) (l : List Int) : Bool := decide (k = 0) && curB l
def ofM (k : Int) (l : List Int) : Int := if ofB k l = true then (l.length : Int) - 1 else 0
def ofG (k : Int) (l : List Int) : List Gp := if ofB k l = true then curG l else []
/-- What package curve answers. -/
structure Cu : Prop where
  of : ∀ (k : Int) (l : List Int) (ao : Option Addr) (cap : Nat) (w : World), Row tRn w ao (runsF k l).length cap (runsF k l) → Ply k l → l.length ≤ 100000 →
    Calls Try.prog 9 #[.agg #[.slice ao (runsF k l).length cap]] w fun e w' => (∃ ao' cap', e = .returned (.tuple #[.agg #[.int .i64 (ofM k l), .slice ao' (ofG k l).length cap'], .bool (ofB k l)]) ∧ Row tGp w' ao' (ofG k l).length cap' (ofG k l)) ∧ Below w.heap.size w w'
  at' : ∀ (l : List Int) (q : Int) (ao : Option Addr) (cap : Nat) (w : World), Row tGp w ao (curG l).length cap (curG l) → curB l = true → I64 q →
    Calls Try.prog 13 #[.agg #[.int .i64 ((l.length : Int) - 1), .slice ao (curG l).length cap], .int .i64 q] w fun e w' => e = .returned (.tuple #[.int .i64 (vO (atL 0 l q)), .bool (bO (atL 0 l q))]) ∧ Below w.heap.size w w'
  line : ∀ (l : List Int) (ao : Option Addr) (cap : Nat) (w : World), Row tGp w ao (curG l).length cap (curG l) → curB l = true →
    Calls Try.prog 14 #[.agg #[.int .i64 ((l.length : Int) - 1), .slice ao (curG l).length cap]] w fun e w' => (∃ ao' cap', e = .returned (.tuple #[.agg #[.slice ao' (runsF 0 l).length cap'], .bool true]) ∧ Row tRn w' ao' (runsF 0 l).length cap' (runsF 0 l)) ∧ Below w.heap.size w w'
  good : ∀ (l : List Int) (ao : Option Addr) (cap : Nat) (w : World), Row tGp w ao (curG l).length cap (curG l) → curB l = true →
    Calls Try.prog 16 #[.agg #[.int .i64 ((l.length : Int) - 1), .slice ao (curG l).length cap]] w fun e w' => e = .returned (.bool true) ∧ Below w.heap.size w w'
  same : ∀ (m : Int) (a : List Gp) (ao : Option Addr) (ac : Nat) (m' : Int) (b : List Gp) (bo : Option Addr) (bc : Nat) (w : World), Row tGp w ao a.length ac a → Row tGp w bo b.length bc b →
    Calls Try.prog 18 #[.agg #[.int .i64 m, .slice ao a.length ac], .agg #[.int .i64 m', .slice bo b.length bc]] w fun e w' => e = .returned (.bool (R15.eqC m a m' b)) ∧ Below w.heap.size w w'
set_option maxHeartbeats 4000000 in
set_option maxRecDepth 100000 in
theorem alive_any (S : LnO) (C : Cu) (w : World) : Calls Try.prog 8 #[] w fun e w' => e = .returned (.bool true) ∧ Below w.heap.size w w' := by
  have X := Box.new w [.int .i64 0, .int .i64 0, .int .i64 3, .int .i64 3, .int .i64 6, .int .i64 6] 3
  have hv : ∀ x ∈ [(0 : Int), 0, 3, 3, 6, 6], I64 x := fun x hx => by
    simp only [List.mem_cons, List.not_mem_nil, or_false] at hx
    unfold I64
    omega
  have R : Row tInt (w.alloc (.cells #[.int .i64 0, .int .i64 0, .int .i64 3, .int .i64 3, .int .i64 6, .int .i64 6] 3)) (some ⟨w.heap.size, 0, none⟩) 6 6 [0, 0, 3, 3, 6, 6] := box_row (α := Int) (n := 1) (cells := fun x => [.int .i64 x]) (ok := I64) (hn := fun _ => rfl) (xs := [0, 0, 3, 3, 6, 6]) X hv (by decide)
  have P : Ply 0 [0, 0, 3, 3, 6, 6] := ply_of (by decide) (by decide) (by decide) hv
  have cb : curB [0, 0, 3, 3, 6, 6] = true := by decide
  have c1 := (S.of 0 [0, 0, 3, 3, 6, 6] (some ⟨w.heap.size, 0, none⟩) 6 _ R (by decide) (by decide) (by decide)).mono (fun e w' h => (⟨h.1, bel_on (bel_alloc w _) h.2⟩ : _ ∧ Below w.heap.size w w'))
  have c2 := fun ao cap W h => C.of 0 [0, 0, 3, 3, 6, 6] ao cap W h P (by decide)
  rw [show ofM 0 [0, 0, 3, 3, 6, 6] = 5 by decide, show ofG 0 [0, 0, 3, 3, 6, 6] = [⟨0, 0, 2, 3, 3⟩] by decide, show ofB 0 [0, 0, 3, 3, 6, 6] = true by decide] at c2
  rw [show runsF 0 [(0 : Int), 0, 3, 3, 6, 6] = [⟨0, 1, 0⟩, ⟨2, 3, 3⟩, ⟨4, 5, 6⟩] by decide] at c1 c2
  have c3 := fun ao cap W h => C.at' [0, 0, 3, 3, 6, 6] 3 ao cap W h cb (by unfold I64; omega)
  have c4 := fun ao cap W h => C.good [0, 0, 3, 3, 6, 6] ao cap W h cb
  rw [show curG [0, 0, 3, 3, 6, 6] = [⟨0, 0, 2, 3, 3⟩] by decide] at c3 c4
  rw [show vO (atL 0 [(0 : Int), 0, 3, 3, 6, 6] 3) = 3 by decide, show bO (atL 0 [(0 : Int), 0, 3, 3, 6, 6] 3) = true by decide] at c3
  have c1 := hid c1
  have c2 := hid c2
  have c3 := hid (fun ao cap W h => show Calls Try.prog 13 #[.agg #[.int .i64 5, .slice ao 1 cap], .int .i64 3] W fun e w' => e = .returned (.tuple #[.int .i64 3, .bool true]) ∧ Below W.heap.size W w' from c3 ao cap W h)
  have c4 := hid (fun ao cap W h => show Calls Try.prog 16 #[.agg #[.int .i64 5, .slice ao 1 cap]] W fun e w' => e = .returned (.bool true) ∧ Below W.heap.size W w' from c4 ao cap W h)
  clear X R P cb hv
  go_enter Try.func8, Try.ntmps8
  go_wp2_with fail
  refine c1.out.mono ?_
  rintro e w1 ⟨⟨ao, cap, rfl, R1⟩, b1⟩
  have B1 := hid b1
  have R1 := hid R1
  clear c1 b1
  rw [show [(⟨0, 1, 0⟩ : Rn Int), ⟨2, 3, 3⟩, ⟨4, 5, 6⟩].length = 3 from rfl]
  go_wp2_with fail
  refine (c2.out ao cap w1 R1.out).mono ?_
  rintro e w2 ⟨⟨go', gc, rfl, R2⟩, b2⟩
  obtain ⟨w3, hw3⟩ : ∃ W, W = w2.alloc (.cells #[.int .i64 5, .slice go' 1 gc] 26) := ⟨_, rfl⟩
  obtain ⟨k3, hk3⟩ : ∃ k, k = w2.heap.size := ⟨_, rfl⟩
  have b23 : Below w2.heap.size w2 w3 := by rw [hw3]; exact bel_alloc _ _
  have X3 : Box w3 k3 [.int .i64 5, .slice go' 1 gc] := by rw [hw3, hk3]; exact Box.new w2 [.int .i64 5, .slice go' 1 gc] _
  have R3 := hid (show Row tGp w3 go' 1 gc [⟨0, 0, 2, 3, 3⟩] from R2.on b23)
  have B3 := hid (bel_on (bel_on B1.out b2) b23)
  have HX := hid X3
  have HW := hid hw3
  have HK := hid hk3
  have d0 := X3.cell 0 _ rfl
  have d1 := X3.cell 1 _ rfl
  have l3 := X3.lt
  have g1 := R2.hcap
  have g2 := R2.hmax
  clear c2 hw3 hk3 b23 X3 R2 b2 R1 B1
  rw [show [(⟨0, 0, 2, 3, 3⟩ : Gp)].length = 1 from rfl]
  go_upto_region 2 with fail
  rw [← HW.out, ← HK.out]
  clear HW HK
  go_wp2_with fail
  refine (c3.out go' gc w3 R3.out).mono ?_
  rintro e w4 ⟨rfl, b4⟩
  have B4 := hid (bel_on B3.out b4)
  have R4 := hid (R3.out.on b4)
  have HX4 := hid (HX.out.on b4)
  obtain ⟨gb, gof, eg, -, x0, x1, x2, x3, x4, -⟩ := gp_at R4.out (j := 0) rfl
  subst eg
  have d0 := HX4.out.cell 0 _ rfl
  have d1 := HX4.out.cell 1 _ rfl
  have l4 := HX4.out.lt
  clear c3 b4 l3 HX R3 B3
  simp only [Nat.zero_mul, Nat.add_zero] at x0 x1 x2 x3 x4
  go_wp2_with fail
  refine (c4.out _ gc w4 R4.out).mono ?_
  rintro e w5 ⟨rfl, b5⟩
  have B5 := hid (bel_on B4.out b5)
  clear c4 b5 l4 HX4 R4 B4 d0 d1 x0 x1 x2 x3 x4
  go_wp2
  go_ret
  exact ⟨rfl, B5.out⟩
theorem eqC_one (a b : List Int) : R15.eqC ((a.length : Int) - 1) (curG a) ((b.length : Int) - 1) (curG b) = eqS a b a.length := by
  unfold R15.eqC eqS
  by_cases hl : a.length = b.length
  · rw [decide_eq_true (by omega : (a.length : Int) - 1 = (b.length : Int) - 1), decide_eq_true hl]
    congr 1
    rw [List.take_length, hl, List.take_length]
    by_cases e : a = b
    · rw [e, decide_eq_true rfl, decide_eq_true rfl]
    · rw [decide_eq_false e, decide_eq_false (fun h => e (cur_one hl h))]
  · rw [decide_eq_false hl, decide_eq_false (by omega : ¬ (a.length : Int) - 1 = (b.length : Int) - 1)]
    rfl
theorem ofB_0 (l : List Int) : ofB 0 l = curB l := by unfold ofB; rw [decide_eq_true rfl, Bool.true_and]
end Go.Proofs.Ytemjmdfmcblgnaa.L15
