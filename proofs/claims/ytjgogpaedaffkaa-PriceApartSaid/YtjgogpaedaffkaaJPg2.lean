/- Package tiers, walked: Micro: what a quantity costs: the sum over the steps, as long as it stays within 64 bits. -/
import Derived.Test.YtjgogpaedaffkaaJTi3
import Derived.Test.YtjgogpaedaffkaaJAdjP
import Derived.Test.YtjgogpaedaffkaaJL11
namespace Go.Proofs.Ytjgogpaedaffkaa.P
end Go.Proofs.Ytjgogpaedaffkaa.P
namespace Go.Proofs.Ytjgogpaedaffkaa.Mm
end Go.Proofs.Ytjgogpaedaffkaa.Mm
namespace Go.Proofs.Ytjgogpaedaffkaa.Md
end Go.Proofs.Ytjgogpaedaffkaa.Md
namespace Go.Proofs.Ytjgogpaedaffkaa.R6
end Go.Proofs.Ytjgogpaedaffkaa.R6
namespace Go.Proofs.Ytjgogpaedaffkaa.Te
end Go.Proofs.Ytjgogpaedaffkaa.Te
namespace Go.Proofs.Ytjgogpaedaffkaa.Co
end Go.Proofs.Ytjgogpaedaffkaa.Co
namespace Go.Proofs.Ytjgogpaedaffkaa.R10
end Go.Proofs.Ytjgogpaedaffkaa.R10
namespace Go.Proofs.Ytjgogpaedaffkaa.R11
end Go.Proofs.Ytjgogpaedaffkaa.R11
namespace Go.Proofs.Ytjgogpaedaffkaa.L11
end Go.Proofs.Ytjgogpaedaffkaa.L11
namespace Go.Proofs.Ytjgogpaedaffkaa.R13
end Go.Proofs.Ytjgogpaedaffkaa.R13
namespace Go.Proofs.Ytjgogpaedaffkaa.Tg
open Go.RowKit Go.Sort Go.Shelf P Mm Md R6 Te Co R10 R11 L11
attribute [local go_sem] Oper.semAt_some
/-- A step whose numbers are within 64 bits, and its length too. -/
def StOk (s : Stp) : Prop := I64 s.a ∧ I64 s.b ∧ I64 s.r ∧ I64 (s.b - s.a)
abbrev StG := { s : Stp // StOk s }
def vals (l : List StG) : List Stp := l.map (·.1)
theorem vals_snoc (l : List StG) (s : StG) : vals (l ++ [s]) = vals l ++ [s.1] := by simp [vals]
theorem goes_stops {n lo hi gf : Nat} {lb : Array Value} {S : List Stp} {w : World} (h : Goes n lo hi gf lb S w) (hS : ∀ s ∈ S, StOk s) (Kp : World → World → Prop) (hKp : ∀ A B, Kp A B → ∀ j, lo ≤ j ∧ j < hi → B.heap[j]? = A.heap[j]?) :
    SeqStopsK Fence.wide n Try.prog gf lb (fun s : StG => encS s.1) Kp (fun ys => vals ys = S) (fun pre => vals pre <+: S) S.length w := fun l J Jx W hW hJ _ hY h0 => by
  refine (h l (fun ys W => ∃ l', vals l' = ys ∧ J l' W) (fun ys W => ∃ l', vals l' = ys ∧ Jx l' W) W hW ?_ ?_ ⟨[], rfl, h0⟩).mono ?_
  · rintro ys A B row ⟨l', e, hj⟩ hg hr
    exact ⟨l', e, hJ l' A B row hj hg hr⟩
  · rintro pre x W1 ⟨l', rfl, hj⟩ hp
    have hx : StOk x := hS x (hp.subset (by simp))
    have hl := hp.length_le
    simp [vals] at hl
    obtain ⟨fn, tmps, assign, body, hy, hR⟩ := hY l' ⟨x, hx⟩ W1 hj (by omega)
    refine ⟨fn, tmps, assign, body, hy, hR.mono ?_⟩
    rintro e W' (⟨h1, h2, h3⟩ | ⟨h1, h2⟩)
    · exact .inl ⟨h1, ⟨_, vals_snoc _ _, h2⟩, hKp _ _ h3⟩
    · exact .inr ⟨h1, _, vals_snoc _ _, h2⟩
  · rintro e W' ⟨hv, ⟨ys, rfl, l', e, hj⟩ | ⟨pre, hp, l', e, hj⟩⟩
    · exact ⟨hv, .inl ⟨l', e, hj⟩⟩
    · exact ⟨hv, .inr ⟨l', (show vals l' <+: S by rw [e]; exact hp), hj⟩⟩
/-- Between two rounds. -/
structure MI (w : World) (n0 K4 K5 K8 : Nat) (pre : List StG) (W : World) : Prop where
  tot : ∃ t, SumTo t (vals pre) ∧ Boxed W K8 3 (.int .i64 t)
  r4 : Boxed W K4 3 (.int .i64 0)
  r5 : Boxed W K5 4 (.bool false)
  bel : Below w.heap.size w W
  size : n0 ≤ W.heap.size
/-- Left behind a step that makes the sum too great. -/
structure MX (w : World) (K4 K5 : Nat) (c : Code) (pre : List StG) (W : World) : Prop where
  code : c = Code.ret
  no : ∀ rest, sumS 0 (vals pre ++ rest) = none
  r4 : Boxed W K4 3 (.int .i64 0)
  r5 : Boxed W K5 4 (.bool false)
  bel : Below w.heap.size w W
theorem mi_own {w : World} {n0 K4 K5 K8 : Nat} {B : Nat} (hB : w.heap.size ≤ B) : OwnFrom B (MI w n0 K4 K5 K8) := by
  intro pre A C row h hg hr
  obtain ⟨t, ht, hb⟩ := h.tot
  have o1 := (Own.from (boxed_own (β := Unit) K8 3 (fun _ => .int .i64 t)) B) () A C row hb hg hr
  have o2 := (Own.from (boxed_own (β := Unit) K4 3 (fun _ => .int .i64 0)) B) () A C row h.r4 hg hr
  have o3 := (Own.from (boxed_own (β := Unit) K5 4 (fun _ => .bool false)) B) () A C row h.r5 hg hr
  have o4 := (ownFrom_below (β := Unit) (w₀ := w) (Nat.le_refl w.heap.size) hB) () A C row h.bel hg hr
  exact ⟨⟨t, ht, o1⟩, o2, o3, o4, Nat.le_trans h.size hg.size⟩
theorem mx_own {w : World} {K4 K5 : Nat} {B : Nat} {c : Code} (hB : w.heap.size ≤ B) : OwnFrom B (MX w K4 K5 c) := by
  intro pre A C row h hg hr
  have o2 := (Own.from (boxed_own (β := Unit) K4 3 (fun _ => .int .i64 0)) B) () A C row h.r4 hg hr
  have o3 := (Own.from (boxed_own (β := Unit) K5 4 (fun _ => .bool false)) B) () A C row h.r5 hg hr
  have o4 := (ownFrom_below (β := Unit) (w₀ := w) (Nat.le_refl w.heap.size) hB) () A C row h.bel hg hr
  exact ⟨h.code, h.no, o2, o3, o4⟩
theorem results_m (tmps : Array Value) (W : World) (K4 K5 : Nat) (a : Int) (b : Bool) (h4 : tmps.getD 4 undef = .pointer (some ⟨K4, 0, none⟩)) (h5 : tmps.getD 5 undef = .pointer (some ⟨K5, 0, none⟩)) (c4 : W.cell? ⟨K4, 0, none⟩ = some (.int .i64 a)) (c5 : W.cell? ⟨K5, 0, none⟩ = some (.bool b)) :
    (results Try.f24 tmps).run Try.prog W = .ok (.tuple #[.int .i64 a, .bool b]) W := by
  have h4' : tmps[4]?.getD undef = .pointer (some ⟨K4, 0, none⟩) := by simpa using h4
  have h5' : tmps[5]?.getD undef = .pointer (some ⟨K5, 0, none⟩) := by simpa using h5
  simp [results, Try.f24, go_sem, h4', h5', asAddr, c4, c5]
set_option maxHeartbeats 8000000 in
set_option maxRecDepth 100000 in
theorem micro_any (x : Prt) (ta : Option Addr) (tc : Nat) (aa : Option Addr) (ac : Nat) (q : Int) (w : World) (ht : Row tTier w ta x.tiers.length tc x.tiers) (hq : I64 q) (g : GoodT x) :
    Calls Try.prog 24 #[.agg #[.int .i64 x.mt, .int .i64 x.a, .int .i64 x.b, .int .i64 x.allowance, .int .i64 x.block, .int .i64 x.kind, .slice ta x.tiers.length tc, .int .i64 x.mode, .slice aa x.adjusts.length ac], .int .i64 q] w fun e w' => e = .returned (.tuple #[.int .i64 (oV (microO x q)), .bool (oB (microO x q))]) ∧ Below w.heap.size w w' := by
  refine (callsIn_wide (n := 5)).1 ?_
  have hro : Fence.wide.round = none := rfl
  obtain ⟨w1, hw1⟩ : ∃ W, W = ((w.alloc (.cells ([.int .i64 x.mt, .int .i64 x.a, .int .i64 x.b, .int .i64 x.allowance, .int .i64 x.block, .int .i64 x.kind, .slice ta x.tiers.length tc, .int .i64 x.mode, .slice aa x.adjusts.length ac] : List Value).toArray 25)).alloc (.cells #[.int .i64 0] 3)).alloc (.cells #[.bool false] 4) := ⟨_, rfl⟩
  obtain ⟨k1, hk1⟩ : ∃ k, k = w.heap.size := ⟨_, rfl⟩
  obtain ⟨K4, hK4⟩ : ∃ k, k = w.heap.size + 1 := ⟨_, rfl⟩
  obtain ⟨K5, hK5⟩ : ∃ k, k = w.heap.size + 1 + 1 := ⟨_, rfl⟩
  have b1 : Below w.heap.size w w1 := by rw [hw1]; exact (((Below.refl _ w).alloc (Nat.le_refl _) _).alloc (by simp) _).alloc (by simp; omega) _
  have z1 : w1.heap.size = w.heap.size + 3 := by rw [hw1]; simp
  have X1 : Box w1 k1 [.int .i64 x.mt, .int .i64 x.a, .int .i64 x.b, .int .i64 x.allowance, .int .i64 x.block, .int .i64 x.kind, .slice ta x.tiers.length tc, .int .i64 x.mode, .slice aa x.adjusts.length ac] := by
    rw [hw1, hk1]
    exact ((Box.new w _ 25).on (bel_alloc _ _)).on (bel_alloc _ _)
  have b4 : Boxed w1 K4 3 (.int .i64 0) := by
    rw [hw1, hK4]
    have := (Boxed.new (w.alloc (.cells ([.int .i64 x.mt, .int .i64 x.a, .int .i64 x.b, .int .i64 x.allowance, .int .i64 x.block, .int .i64 x.kind, .slice ta x.tiers.length tc, .int .i64 x.mode, .slice aa x.adjusts.length ac] : List Value).toArray 25)) 3 (.int .i64 0)).alloc (.cells #[.bool false] 4)
    simpa using this
  have b5 : Boxed w1 K5 4 (.bool false) := by
    rw [hw1, hK5]
    have := Boxed.new ((w.alloc (.cells ([.int .i64 x.mt, .int .i64 x.a, .int .i64 x.b, .int .i64 x.allowance, .int .i64 x.block, .int .i64 x.kind, .slice ta x.tiers.length tc, .int .i64 x.mode, .slice aa x.adjusts.length ac] : List Value).toArray 25)).alloc (.cells #[.int .i64 0] 3)) 4 (.bool false)
    simpa using this
  have cQ := hid (quantity_any x ta tc aa ac q w1 hq g)
  have B1 := hid b1
  have HW := hid hw1
  have HK := hid hk1
  have H4 := hid hK4
  have H5 := hid hK5
  have HT := hid ht
  have GD := hid g
  have X0 := hid X1
  have P4 := hid b4
  have P5 := hid b5
  have Z1 := hid z1
  clear hw1 hk1 hK4 hK5 X1 b1 ht g b4 b5 z1
  refine callsIn_of_wp_marks Try.func24 rfl trivial ?_ hro
  simp only [Try.ntmps24, List.size_toArray, List.length_cons, List.length_nil, Nat.reduceAdd, Nat.reduceSub, Array.replicate_succ, Array.replicate_zero, List.push_toArray, List.append_toArray, List.nil_append, List.cons_append]
  gi_wp2_with fail
  rw [← HW.out]
  rw [← H5.out, ← H4.out, ← HK.out]
  refine ⟨trivial, (callsIn_wide.2 cQ.out).mono ?_⟩
  rintro e w2 ⟨rfl, b2⟩
  have B2 := hid (bel_on B1.out b2)
  have X2 := hid (X0.out.on b2)
  have b4 : Boxed w2 K4 3 (.int .i64 0) := (b2.block K4 P4.out.lt).trans P4.out
  have b5 : Boxed w2 K5 4 (.bool false) := (b2.block K5 P5.out.lt).trans P5.out
  have hz2 : w1.heap.size ≤ w2.heap.size := b2.size
  have n45 : K4 ≠ K5 := by have := H4.out; have := H5.out; omega
  have n54 : K5 ≠ K4 := by omega
  have c4 := b4.cell
  have c5 := b5.cell
  have f4 := b4.frozen
  have f5 := b5.frozen
  have l4 : K4 < w2.heap.size := b4.lt
  have l5 : K5 < w2.heap.size := b5.lt
  have Q4 := hid b4
  have Q5 := hid b5
  clear b2 cQ HW HK X0 P4 P5 b4 b5
  rcases Bool.eq_false_or_eq_true (lqOk x q) with hl | hl
  rotate_left
  · have e1 : oV (lqO x q) = 0 := by unfold lqO; rw [hl]; rfl
    have e2 : oB (lqO x q) = false := by unfold lqO; rw [hl]; rfl
    have e3 := hid (show microO x q = none by unfold microO; rw [hl]; rfl)
    rw [e1, e2]
    clear e1 e2 hl
    gi_wp2
    refine ⟨_, results_m _ _ K4 K5 0 false rfl rfl ?_ ?_, ?_⟩
    · exact ((Q4.out.set _).other n45 _).cell
    · exact ((Q5.out.other n54 _).set _).cell
    · exact ⟨by rw [e3.out]; rfl, (B2.out.setCell (p := ⟨K4, 0, none⟩) (by have := H4.out; show w.heap.size ≤ K4; omega) _).setCell (p := ⟨K5, 0, none⟩) (by have := H5.out; show w.heap.size ≤ K5; omega) _⟩
  · obtain ⟨Q, hQ⟩ : ∃ Q, Q = lq x q := ⟨_, rfl⟩
    have e1 : oV (lqO x q) = Q := by unfold lqO; rw [hl, hQ]; rfl
    have e2 : oB (lqO x q) = true := by unfold lqO; rw [hl]; rfl
    have EM := hid (show microO x q = sumS 0 (stepsP x Q) by unfold microO; rw [hl, hQ]; rfl)
    have QI : I64 Q := by
      unfold lqOk at hl
      rw [Bool.and_eq_true, ← hQ] at hl
      rcases Classical.em (I64 Q) with k | k
      · exact k
      · rw [ok64_f k] at hl; exact absurd hl.2 (by decide)
    rw [e1, e2]
    have SG := hid (show ∀ s ∈ stepsP x Q, StOk s from fun s hs => by
      have := stepsP_pos GD.out Q s hs
      unfold StOk
      unfold I64 at *
      omega)
    obtain ⟨w3, hw3⟩ : ∃ W, W = w2.alloc (.cells #[.int .i64 0] 3) := ⟨_, rfl⟩
    obtain ⟨K8, hK8⟩ : ∃ k, k = w2.heap.size := ⟨_, rfl⟩
    have b23 : Below w2.heap.size w2 w3 := by rw [hw3]; exact bel_alloc _ _
    have b8 : Boxed w3 K8 3 (.int .i64 0) := by rw [hw3, hK8]; exact Boxed.new w2 3 (.int .i64 0)
    have z3 : w3.heap.size = K8 + 1 := by rw [hw3, hK8]; simp
    have B3 := hid (bel_on B2.out b23)
    have cS := hid (steps_any x ta tc aa ac Q w3 (HT.out.on B3.out) GD.out)
    have W3 := hid hw3
    have HK8 := hid hK8
    have P8 := hid b8
    have P4 : Hid (Boxed w3 K4 3 (.int .i64 0)) := hid ((b23.block K4 l4).trans Q4.out)
    have P5 : Hid (Boxed w3 K5 4 (.bool false)) := hid ((b23.block K5 l5).trans Q5.out)
    have Z3 := hid z3
    have c0 := X2.out.cell 0 _ rfl
    have c1 := X2.out.cell 1 _ rfl
    have c2 := X2.out.cell 2 _ rfl
    have c3 := X2.out.cell 3 _ rfl
    have d4 := X2.out.cell 4 _ rfl
    have d5 := X2.out.cell 5 _ rfl
    have c6 := X2.out.cell 6 _ rfl
    have c7 := X2.out.cell 7 _ rfl
    have c8 := X2.out.cell 8 _ rfl
    have l1 := X2.out.lt
    clear e1 e2 hl hQ hw3 hK8 b23 b8 z3 c4 c5 f4 f5 hz2 QI
    gi_wp2_with fail
    rw [← W3.out, ← HK8.out]
    refine ⟨trivial, (callsIn_wide.2 cS.out).mono ?_⟩
    rintro e w4 ⟨b34, gf, lb, rfl, hen, hgo⟩
    have B4 := hid (bel_on B3.out b34)
    have R8 : Boxed w4 K8 3 (.int .i64 0) := (b34.block K8 P8.out.lt).trans P8.out
    have R4 : Boxed w4 K4 3 (.int .i64 0) := (b34.block K4 P4.out.lt).trans P4.out
    have R5 : Boxed w4 K5 4 (.bool false) := (b34.block K5 P5.out.lt).trans P5.out
    obtain ⟨n0, hn0⟩ : ∃ n, n = w4.heap.size := ⟨_, rfl⟩
    have z34 := b34.size
    have lw := B1.out.size
    have Z3' := Z3.out
    have h4' := H4.out
    have h5' := H5.out
    have z1' := Z1.out
    have z2' := HK8.out
    have K1 : w.heap.size ≤ n0 := by have := B4.out.size; omega
    have K2 : K8 < n0 := by omega
    have K3 : w.heap.size ≤ K8 := by have := B2.out.size; omega
    have K6 : n0 ≤ w4.heap.size := by omega
    have K7 : w3.heap.size = K8 + 1 := by omega
    have N1 : w.heap.size ≤ K4 := by omega
    have N2 : w.heap.size ≤ K5 := by omega
    have N3 : K8 ≠ K4 := by omega
    have N4 : K8 ≠ K5 := by omega
    have N5 : K4 < n0 := by omega
    have N6 : K5 < n0 := by omega
    have HN := hid hn0
    clear hn0 z34 lw Z3' h4' h5' z1' z2' c0 c1 c2 c3 d4 d5 c6 c7 c8 l1 l4 l5 cS Q4 Q5 X2 P8 P4 P5 W3 HK8 Z3 Z1 H4 H5
    gi_wp2
    refine wpIn_rangeFunc_ownH hro (by omega : 1 ≤ 5) (gf := gf) (lb := lb) rfl trivial hen
      (goes_stops (hgo 4 (by omega)) SG.out (fun A B => ∀ j, j < n0 → j ≠ K8 → B.heap[j]? = A.heap[j]?) (fun A B h j hj => h j (by have := HN.out; omega) (by omega)))
      (fun h k j hj hne => (k j hj hne).trans (h j hj hne)) (fun W l o o' hl _ _ _ j hj hne => World.putObj_heap_other (by omega)) (Below.refl _ _) (fun _ => rfl)
      (MI w n0 K4 K5 K8) (MX w K4 K5) (mi_own (by omega)) (fun c => mx_own (by omega)) ⟨⟨0, sumTo_nil, R8⟩, R4, R5, B4.out, K6⟩
      (fun s a' W => ∃ Bx, K8 < Bx ∧ Cells W Bx 73 [.int .i64 s.1.a, .int .i64 s.1.b, .int .i64 s.1.r] ∧ a' = { tmps := #[.agg #[.int .i64 x.mt, .int .i64 x.a, .int .i64 x.b, .int .i64 x.allowance, .int .i64 x.block, .int .i64 x.kind, .slice ta x.tiers.length tc, .int .i64 x.mode, .slice aa x.adjusts.length ac], .int .i64 q, .pointer (some ⟨k1, 0, none⟩), undef, .pointer (some ⟨K4, 0, none⟩), .pointer (some ⟨K5, 0, none⟩), .int .i64 Q, .bool true, .pointer (some ⟨K8, 0, none⟩), .pointer (some ⟨Bx, 0, none⟩), undef, undef, .tuple #[.int .i64 Q, .bool true], .agg #[.int .i64 x.mt, .int .i64 x.a, .int .i64 x.b, .int .i64 x.allowance, .int .i64 x.block, .int .i64 x.kind, .slice ta x.tiers.length tc, .int .i64 x.mode, .slice aa x.adjusts.length ac], .int .i64 q, .tuple #[.int .i64 Q, .bool true], .int .i64 Q, .bool true, .bool true, .bool false, .agg #[.int .i64 x.mt, .int .i64 x.a, .int .i64 x.b, .int .i64 x.allowance, .int .i64 x.block, .int .i64 x.kind, .slice ta x.tiers.length tc, .int .i64 x.mode, .slice aa x.adjusts.length ac], .int .i64 Q, .func (.func gf) #[] lb, .agg #[.int .i64 s.1.a, .int .i64 s.1.b, .int .i64 s.1.r], undef, undef, undef, undef, undef, undef, undef, undef, undef, undef, undef, undef, undef, undef, undef, undef, undef, undef, undef, undef, undef, undef], defers := [] })
      (fun s a' u A C row h hg hr => by
        obtain ⟨Bx, h1, h2, h3⟩ := h
        exact ⟨Bx, h1, cells_own Bx _ _ _ u A C row h2 hg hr, h3⟩)
      ?assign ?body ?done ?stop
    case assign =>
      intro l pre s W K hI hK
      unfold encS
      gi_wp2
      exact hK _ _ ((KeepsOthers.alloc _ _).from _) (fun j hj hne => Below.heap_alloc W _ j (by have := hI.size; omega)) ((mi_own (B := W.heap.size) hI.bel.size).alloc _ hI) ⟨W.heap.size, by have := hI.size; omega, World.alloc_heap_new W _, rfl⟩
    case body =>
      rintro l pre s a' W hl hrr hI ⟨Bx, hBx, hC, rfl⟩ hlt
      obtain ⟨t, hT, b8⟩ := hI.tot
      obtain ⟨sa, sb, sr, sd⟩ := s.2
      have c8 := b8.cell
      have f8 := b8.frozen
      have l8 := b8.lt
      have c4 := hI.r4.cell
      have f4 := hI.r4.frozen
      have l4 := hI.r4.lt
      have c5 := hI.r5.cell
      have f5 := hI.r5.frozen
      have l5 := hI.r5.lt
      have hs0 : W.cell? ⟨Bx, 0, none⟩ = some (.int .i64 s.1.a) := hC.cell 0
      have hs1 : W.cell? ⟨Bx, 1, none⟩ = some (.int .i64 s.1.b) := hC.cell 1
      have hs2 : W.cell? ⟨Bx, 2, none⟩ = some (.int .i64 s.1.r) := hC.cell 2
      have hlB := hC.lt
      have wd : IntKind.i64.wrap (s.1.b - s.1.a) = s.1.b - s.1.a := wrap_i sd
      have cM := hid (Ex.mul_any s.1.r (s.1.b - s.1.a) W sr sd)
      have HI := hid hI
      have HT := hid hT
      have HB8 := hid b8
      clear hI hT b8 hC
      by_cases hm : I64 (s.1.r * (s.1.b - s.1.a))
      · rw [cut64_t hm, ok64_t hm] at cM
        obtain ⟨M, hM⟩ : ∃ M, M = s.1.r * (s.1.b - s.1.a) := ⟨_, rfl⟩
        have HM := hid (show M = stW s.1 from hM)
        rw [← hM] at cM hm
        have cA := hid (Ex.add_any t M W HT.out.1 hm)
        have MI64 := hid hm
        clear hM hm
        by_cases ha : I64 (t + M)
        · rw [cut64_t ha, ok64_t ha] at cA
          have NX := hid (show SumTo (t + M) (vals (pre ++ [s])) by rw [vals_snoc, HM.out]; exact sumTo_next HT.out (by rw [← HM.out]; exact MI64.out) (by rw [← HM.out]; exact ha))
          clear ha
          gi_wp2_with fail
          refine ⟨trivial, (CallsIn.inRound l (callsIn_wide.2 cM.out)).mono ?_⟩
          rintro e w5 ⟨rfl, rfl⟩
          gi_wp2_with fail
          refine ⟨trivial, (CallsIn.inRound l (callsIn_wide.2 cA.out)).mono ?_⟩
          rintro e w5 ⟨rfl, rfl⟩
          gi_wp2
          refine ⟨(KeepsOthers.setCell _ _ _).from _, fun j hj hne => Below.heap_setCell _ ⟨K8, 0, none⟩ _ j hne, ⟨⟨_, NX.out, HB8.out.set _⟩, HI.out.r4.other N3.symm _, HI.out.r5.other N4.symm _, HI.out.bel.setCell (p := ⟨K8, 0, none⟩) K3 _, ?_⟩⟩
          have := HI.out.size
          simpa using this
        · rw [cut64_f ha, ok64_f ha] at cA
          have NO := hid (show ∀ rest, sumS 0 (vals (pre ++ [s]) ++ rest) = none from fun rest => by
            rw [vals_snoc, List.append_assoc]
            exact sumTo_nope HT.out (.inr (by rw [← HM.out]; exact ha)) rest)
          clear ha
          gi_wp2_with fail
          refine ⟨trivial, (CallsIn.inRound l (callsIn_wide.2 cM.out)).mono ?_⟩
          rintro e w5 ⟨rfl, rfl⟩
          gi_wp2_with fail
          refine ⟨trivial, (CallsIn.inRound l (callsIn_wide.2 cA.out)).mono ?_⟩
          rintro e w5 ⟨rfl, rfl⟩
          gi_wp2
          exact ⟨(((KeepsOthers.setCell _ _ _).trans (KeepsOthers.setCell _ _ _)).trans (KeepsOthers.setCell _ _ _)).from _, rfl, NO.out, ((HI.out.r4.other N3.symm _).set _).other n45 _, ((HI.out.r5.other N4.symm _).other n54 _).set _, ((HI.out.bel.setCell (p := ⟨K8, 0, none⟩) K3 _).setCell (p := ⟨K4, 0, none⟩) N1 _).setCell (p := ⟨K5, 0, none⟩) N2 _⟩
      · rw [cut64_f hm, ok64_f hm] at cM
        have NO := hid (show ∀ rest, sumS 0 (vals (pre ++ [s]) ++ rest) = none from fun rest => by
          rw [vals_snoc, List.append_assoc]
          exact sumTo_nope HT.out (.inl hm) rest)
        clear hm
        gi_wp2_with fail
        refine ⟨trivial, (CallsIn.inRound l (callsIn_wide.2 cM.out)).mono ?_⟩
        rintro e w5 ⟨rfl, rfl⟩
        gi_wp2
        exact ⟨((KeepsOthers.setCell _ _ _).trans (KeepsOthers.setCell _ _ _)).from _, rfl, NO.out, (HI.out.r4.set _).other n45 _, (HI.out.r5.other n54 _).set _, (HI.out.bel.setCell (p := ⟨K4, 0, none⟩) N1 _).setCell (p := ⟨K5, 0, none⟩) N2 _⟩
    case done =>
      rintro D ys W hD hys hI hK
      obtain ⟨t, hT, b8⟩ := hI.tot
      have c8 := b8.cell
      have c4 := hI.r4.cell
      have f4 := hI.r4.frozen
      have c5 := hI.r5.cell
      have f5 := hI.r5.frozen
      have EV := hid (show microO x q = some t by rw [EM.out, ← hys]; exact sumTo_all hT)
      have HI := hid hI
      clear hT b8 hI hys
      gi_wp2
      have hK' := ((KeepsOthers.setCell W ⟨K4, 0, none⟩ (.int .i64 t)).trans (KeepsOthers.setCell _ ⟨K5, 0, none⟩ (.bool true))).same D _ hK rfl
      refine ⟨by simp, .inl ⟨_, _, rfl, run_takeDeferred hK', ?_⟩⟩
      have h4 := cell_kept ((HI.out.r4.set (.int .i64 t)).other n45 (.bool true)).cell (grownBy_putObj' _ D (.deferred none)) (fun r e => by cases e; exact ⟨_, hK', rfl⟩)
      have h5 := cell_kept ((HI.out.r5.other n54 (.int .i64 t)).set (.bool true)).cell (grownBy_putObj' _ D (.deferred none)) (fun r e => by cases e; exact ⟨_, hK', rfl⟩)
      refine ⟨_, results_m _ _ K4 K5 t true rfl rfl h4 h5, by rw [EV.out]; rfl, ?_⟩
      exact ((HI.out.bel.setCell (p := ⟨K4, 0, none⟩) N1 _).setCell (p := ⟨K5, 0, none⟩) N2 _).trans (belowK_b (w := w) (Nat.le_refl _) _ D _ _ (by have := HI.out.bel.size; omega) hK' rfl rfl)
    case stop =>
      rintro D c pre W hD hSp hIx hK
      obtain rfl := hIx.code
      have EV := hid (show microO x q = none by
        obtain ⟨r, hr⟩ := hSp
        rw [EM.out, ← hr]
        exact hIx.no r)
      have HI := hid hIx
      clear hIx hSp
      gi_wp2
      refine ⟨by simp, .inl ⟨_, _, rfl, run_takeDeferred hK, ?_⟩⟩
      have h4 := cell_kept HI.out.r4.cell (grownBy_putObj' _ D (.deferred none)) (fun r e => by cases e; exact ⟨_, hK, rfl⟩)
      have h5 := cell_kept HI.out.r5.cell (grownBy_putObj' _ D (.deferred none)) (fun r e => by cases e; exact ⟨_, hK, rfl⟩)
      refine ⟨_, results_m _ _ K4 K5 0 false rfl rfl h4 h5, by rw [EV.out]; rfl, ?_⟩
      exact HI.out.bel.trans (belowK_b (w := w) (Nat.le_refl _) _ D _ _ (by have := HI.out.bel.size; omega) hK rfl rfl)
end Go.Proofs.Ytjgogpaedaffkaa.Tg
/- Package tiers, walked: Charge: what a quantity costs, rounded. -/
namespace Go.Proofs.Ytjgogpaedaffkaa.Tg
open Go.RowKit Go.Sort Go.Shelf P Mm Md R6 Te Co R10 R11 L11
theorem micro_in {x : Prt} (g : GoodT x) {q m : Int} (h : microO x q = some m) : I64 m := by
  rw [microO_eq g] at h
  split at h
  · rename_i k
    rw [Bool.and_eq_true] at k
    obtain rfl := Option.some.inj h
    rcases Classical.em (I64 (costP x q)) with i | i
    · exact i
    · have := k.2
      rw [ok64_f i] at this
      cases this
  · cases h
set_option maxHeartbeats 4000000 in
set_option maxRecDepth 100000 in
theorem charge_any (x : Prt) (ta : Option Addr) (tc : Nat) (aa : Option Addr) (ac : Nat) (q : Int) (w : World) (ht : Row tTier w ta x.tiers.length tc x.tiers) (hq : I64 q) (g : GoodT x) :
    Calls Try.prog 15 #[.agg #[.int .i64 x.mt, .int .i64 x.a, .int .i64 x.b, .int .i64 x.allowance, .int .i64 x.block, .int .i64 x.kind, .slice ta x.tiers.length tc, .int .i64 x.mode, .slice aa x.adjusts.length ac], .int .i64 q] w fun e w' => e = .returned (.tuple #[.int .i64 (oV (chargeO x q)), .bool (oB (chargeO x q))]) ∧ Below w.heap.size w w' := by
  obtain ⟨w1, hw1⟩ : ∃ W, W = w.alloc (.cells ([.int .i64 x.mt, .int .i64 x.a, .int .i64 x.b, .int .i64 x.allowance, .int .i64 x.block, .int .i64 x.kind, .slice ta x.tiers.length tc, .int .i64 x.mode, .slice aa x.adjusts.length ac] : List Value).toArray 25) := ⟨_, rfl⟩
  obtain ⟨k1, hk1⟩ : ∃ k, k = w.heap.size := ⟨_, rfl⟩
  have b1 : Below w.heap.size w w1 := by rw [hw1]; exact bel_alloc _ _
  have X1 : Box w1 k1 [.int .i64 x.mt, .int .i64 x.a, .int .i64 x.b, .int .i64 x.allowance, .int .i64 x.block, .int .i64 x.kind, .slice ta x.tiers.length tc, .int .i64 x.mode, .slice aa x.adjusts.length ac] := by rw [hw1, hk1]; exact Box.new w _ 25
  have cM := hid (micro_any x ta tc aa ac q w1 (ht.on b1) hq g)
  have HX := hid X1
  have HB1 := hid b1
  have HW := hid hw1
  have HK := hid hk1
  have GD := hid g
  clear hw1 hk1 X1 b1 hq g ht
  go_enter Try.func15, Try.ntmps15
  go_upto_region 1 with fail
  rw [← HW.out, ← HK.out]
  have c0 := HX.out.cell 0 _ rfl
  have c1 := HX.out.cell 1 _ rfl
  have c2 := HX.out.cell 2 _ rfl
  have c3 := HX.out.cell 3 _ rfl
  have c4 := HX.out.cell 4 _ rfl
  have c5 := HX.out.cell 5 _ rfl
  have c6 := HX.out.cell 6 _ rfl
  have c7 := HX.out.cell 7 _ rfl
  have c8 := HX.out.cell 8 _ rfl
  have l1 := HX.out.lt
  go_wp2_with fail
  refine cM.out.mono ?_
  rintro e w2 ⟨rfl, b2⟩
  have B2 := hid (bel_on HB1.out b2)
  have X2 := HX.out.on b2
  clear c0 c1 c2 c3 c4 c5 c6 c7 c8 l1 cM b2 HW HK HX
  have c7 := X2.cell 7 _ rfl
  have l1 := X2.lt
  clear X2
  rcases hm : microO x q with _ | m
  · have e := hid (show chargeO x q = none by unfold chargeO; rw [hm]; rfl)
    rw [show oV (none : Option Int) = 0 from rfl, show oB (none : Option Int) = false from rfl]
    clear hm
    go_wp2
    go_ret2
    exact ⟨by rw [e.out]; rfl, B2.out⟩
  · have hi := micro_in GD.out hm
    have e := hid (show chargeO x q = some (rnd m 1000000 x.mode) by unfold chargeO; rw [hm]; rfl)
    rw [show oV (some m) = m from rfl, show oB (some m) = true from rfl]
    obtain ⟨d1, d2⟩ := mdb_i64 (c := 1000000) hi (by omega) (gt_mode GD.out)
    have cD := fun W => Rd.div_any m 1000000 x.mode W hi (by unfold I64; omega)
    rw [d1, d2] at cD
    have cD := hid cD
    clear hm hi d1 d2
    go_wp2_with fail
    refine (cD.out _).mono ?_
    rintro e w3 ⟨rfl, n, rfl⟩
    go_wp2
    go_ret2
    exact ⟨by rw [e.out]; rfl, P.bel_drewN B2.out n⟩
end Go.Proofs.Ytjgogpaedaffkaa.Tg
/- The laws of layer 12 (adjust), over what the package answers. -/
namespace Go.Proofs.Ytjgogpaedaffkaa.L12
open Go.RowKit Go.Sort P Mm Md R6 Te Co R10 R11
/-- What package adjust answers. -/
structure Aj : Prop where
  all : ∀ (n : Int) (xs : List Adj) (ao : Option Addr) (cap : Nat) (w : World), Row tAdj w ao xs.length cap xs → I64 n →
    Calls Try.prog 16 #[.int .i64 n, .slice ao xs.length cap] w fun e w' => e = .returned (.tuple #[.int .i64 (oV (adjsO n xs)), .bool (oB (adjsO n xs))]) ∧ Below w.heap.size w w'
  one : ∀ (a : Adj) (n : Int) (w : World), I64 n → I64 a.num → I64 a.mode →
    Calls Try.prog 26 #[.agg #[.int .i64 a.kind, .int .i64 a.num, .int .i64 a.mode], .int .i64 n] w fun e w' => e = .returned (.tuple #[.int .i64 (oV (adjO a n)), .bool (oB (adjO a n))]) ∧ Below w.heap.size w w'
end Go.Proofs.Ytjgogpaedaffkaa.L12
/- Package adjust, walked: One and All; what the laws ask of it. -/
namespace Go.Proofs.Ytjgogpaedaffkaa.Ag
open Go.RowKit Go.Sort P Mm Md R6 Te Co R10 R11
/-- Two numbers in a new block. -/
theorem two_cells (a b : Int) (w : World) (t : TypeId) : Cells (w.alloc (.cells #[.int .i64 a, .int .i64 b] t)) w.heap.size 0 [a, b] := by
  have X := Box.new w [.int .i64 a, .int .i64 b] t
  intro i hi
  match i, hi with
  | 0, _ => exact X.cell 0 _ rfl
  | 1, _ => exact X.cell 1 _ rfl
theorem min_best (a b : Int) : bestOf ltB a [b] = min a b := by
  unfold bestOf ltB bestOf
  simp only [decide_eq_true_eq]
  split <;> omega
theorem max_best (a b : Int) : bestOf gtB a [b] = max a b := by
  unfold bestOf gtB bestOf
  simp only [decide_eq_true_eq]
  split <;> omega
theorem least_two (a b : Int) (w : World) : Calls Try.prog 43 #[.slice (some ⟨w.heap.size, 0, none⟩) 2 2] (w.alloc (.cells #[.int .i64 a, .int .i64 b] 3)) fun e w' => e = .returned (.tuple #[.int .i64 (min a b), .bool true]) ∧ Below w.heap.size w w' := by
  have h := Ex.least_any w.heap.size 0 2 a [b] _ (two_cells a b w 3) (by simp) (by simp)
  rw [min_best] at h
  exact h.mono fun e w' h => ⟨h.1, by rw [← h.2]; exact bel_alloc w _⟩
theorem most_two (a b : Int) (w : World) : Calls Try.prog 44 #[.slice (some ⟨w.heap.size, 0, none⟩) 2 2] (w.alloc (.cells #[.int .i64 a, .int .i64 b] 3)) fun e w' => e = .returned (.tuple #[.int .i64 (max a b), .bool true]) ∧ Below w.heap.size w w' := by
  have h := Ex.most_any w.heap.size 0 2 a [b] _ (two_cells a b w 3) (by simp) (by simp)
  rw [max_best] at h
  exact h.mono fun e w' h => ⟨h.1, by rw [← h.2]; exact bel_alloc w _⟩
theorem mdn_f {p c mode : Int} (h : mdb p c mode = false) : mdn p c mode = 0 := by
  unfold mdn
  split
  · rename_i k
    unfold mdb at h
    rw [k, Bool.true_and] at h
    unfold cut64
    rw [h]
    rfl
  · rfl
set_option maxHeartbeats 4000000 in
set_option maxRecDepth 100000 in
theorem one_any (a : Adj) (n : Int) (w : World) (hn : I64 n) (ha : I64 a.num) (_hm : I64 a.mode) :
    Calls Try.prog 26 #[.agg #[.int .i64 a.kind, .int .i64 a.num, .int .i64 a.mode], .int .i64 n] w fun e w' => e = .returned (.tuple #[.int .i64 (oV (adjO a n)), .bool (oB (adjO a n))]) ∧ Below w.heap.size w w' := by
  obtain ⟨w1, hw1⟩ : ∃ W, W = w.alloc (.cells ([.int .i64 a.kind, .int .i64 a.num, .int .i64 a.mode] : List Value).toArray 52) := ⟨_, rfl⟩
  obtain ⟨k1, hk1⟩ : ∃ k, k = w.heap.size := ⟨_, rfl⟩
  have b1 : Below w.heap.size w w1 := by rw [hw1]; exact bel_alloc _ _
  have X1 : Box w1 k1 [.int .i64 a.kind, .int .i64 a.num, .int .i64 a.mode] := by rw [hw1, hk1]; exact Box.new w _ 52
  have c0 := X1.cell 0 _ rfl
  have c1 := X1.cell 1 _ rfl
  have c2 := X1.cell 2 _ rfl
  have l1 := X1.lt
  have HW := hid hw1
  have HK := hid hk1
  have B1 := hid b1
  obtain ⟨V, hV⟩ : ∃ V, V = oV (adjO a n) := ⟨_, rfl⟩
  obtain ⟨O, hO⟩ : ∃ O, O = oB (adjO a n) := ⟨_, rfl⟩
  rw [← hV, ← hO]
  by_cases h1 : a.kind = 1
  · have z1 : (a.kind == 1) = true := by simpa using h1
    have c := Rd.muldiv_any n a.num 100000 a.mode w1 hn ha (by unfold I64; omega)
    have e : V = mdn (n * a.num) 100000 a.mode ∧ O = mdb (n * a.num) 100000 a.mode := by
      rw [hV, hO]
      unfold adjO
      rw [if_pos h1]
      split
      · rename_i k
        rw [k]
        exact ⟨rfl, rfl⟩
      · rename_i k
        have k' : mdb (n * a.num) 100000 a.mode = false := by simpa using k
        rw [k', mdn_f k']
        exact ⟨rfl, rfl⟩
    rw [← e.1, ← e.2] at c
    have C := hid c
    clear hw1 hk1 b1 X1 h1 c e hV hO hn ha
    go_enter Try.func26, Try.ntmps26
    go_upto_region 1 with fail
    rw [← HW.out, ← HK.out]
    go_wp2_with fail
    refine C.out.mono ?_
    rintro e w2 ⟨rfl, m, rfl⟩
    have B2 := hid (P.bel_drewN B1.out m)
    clear C
    go_wp2
    go_ret2
    exact ⟨rfl, B2.out⟩
  have z1 : (a.kind == 1) = false := by simpa using h1
  by_cases h2 : a.kind = 2
  · have z2 : (a.kind == 2) = true := by simpa using h2
    have e : V = min n a.num ∧ O = true := by
      rw [hV, hO]; unfold adjO; rw [if_neg h1, if_pos h2]; exact ⟨rfl, rfl⟩
    obtain ⟨rfl, rfl⟩ := e
    have C := hid (least_two n a.num w1)
    clear hw1 hk1 b1 X1 h1 h2 hV hO hn ha
    go_enter Try.func26, Try.ntmps26
    go_upto_region 1 with fail
    rw [← HW.out, ← HK.out]
    go_wp2_with fail
    refine C.out.mono ?_
    rintro e w2 ⟨rfl, b2⟩
    have B2 := hid (bel_on B1.out b2)
    clear C b2
    go_wp2
    go_ret2
    exact ⟨rfl, B2.out⟩
  have z2 : (a.kind == 2) = false := by simpa using h2
  by_cases h3 : a.kind = 3
  · have z4 : (a.kind == 3) = true := by simpa using h3
    have e : V = max n a.num ∧ O = true := by
      rw [hV, hO]; unfold adjO; rw [if_neg h1, if_neg h2, if_pos h3]; exact ⟨rfl, rfl⟩
    obtain ⟨rfl, rfl⟩ := e
    have C := hid (most_two n a.num w1)
    clear hw1 hk1 b1 X1 h1 h2 h3 hV hO hn ha
    go_enter Try.func26, Try.ntmps26
    go_upto_region 1 with fail
    rw [← HW.out, ← HK.out]
    go_wp2_with fail
    refine C.out.mono ?_
    rintro e w2 ⟨rfl, b2⟩
    have B2 := hid (bel_on B1.out b2)
    clear C b2
    go_wp2
    go_ret2
    exact ⟨rfl, B2.out⟩
  have z4 : (a.kind == 3) = false := by simpa using h3
  by_cases h4 : a.kind = 4
  · have z5 : (a.kind == 4) = true := by simpa using h4
    have e : V = cut64 (n + a.num) ∧ O = ok64 (n + a.num) := by
      rw [hV, hO]
      unfold adjO
      rw [if_neg h1, if_neg h2, if_neg h3, if_pos h4]
      by_cases k : I64 (n + a.num)
      · rw [ok64_t k, cut64_t k]; exact ⟨rfl, rfl⟩
      · rw [ok64_f k, cut64_f k]; exact ⟨rfl, rfl⟩
    have c := Ex.add_any n a.num w1 hn ha
    rw [← e.1, ← e.2] at c
    have C := hid c
    clear hw1 hk1 b1 X1 h1 h2 h3 h4 hV hO hn ha e c
    go_enter Try.func26, Try.ntmps26
    go_upto_region 1 with fail
    rw [← HW.out, ← HK.out]
    go_wp2_with fail
    refine C.out.mono ?_
    rintro e w2 ⟨rfl, rfl⟩
    clear C
    go_wp2
    go_ret2
    exact ⟨rfl, B1.out⟩
  · have z5 : (a.kind == 4) = false := by simpa using h4
    have e : V = 0 ∧ O = false := by
      rw [hV, hO]; unfold adjO; rw [if_neg h1, if_neg h2, if_neg h3, if_neg h4]; exact ⟨rfl, rfl⟩
    obtain ⟨rfl, rfl⟩ := e
    clear hw1 hk1 b1 X1 h1 h2 h3 h4 hV hO hn ha
    go_enter Try.func26, Try.ntmps26
    go_upto_region 1 with fail
    rw [← HW.out, ← HK.out]
    go_wp2
    go_ret2
    exact ⟨rfl, B1.out⟩
theorem adj_in {w : World} {b o len cap : Nat} {xs : List Adj} (h : Row tAdj w (some ⟨b, o, none⟩) len cap xs) {j : Nat} {m : Adj} (hj : xs[j]? = some m) :
    w.cell? ⟨b, o + j * 3, none⟩ = some (.int .i64 m.kind) ∧ w.cell? ⟨b, o + j * 3 + 1, none⟩ = some (.int .i64 m.num) ∧ w.cell? ⟨b, o + j * 3 + 2, none⟩ = some (.int .i64 m.mode) ∧ I64 m.num ∧ I64 m.mode := by
  obtain ⟨b', o', e, _, x0, x1, x2, _, x3, x4⟩ := adj_at h hj
  simp only [Option.some.injEq, Addr.mk.injEq, and_true] at e
  obtain ⟨rfl, rfl⟩ := e
  exact ⟨x0, x1, x2, x3, x4⟩
set_option maxHeartbeats 4000000 in
set_option maxRecDepth 100000 in
theorem all_any (n : Int) (xs : List Adj) (ao : Option Addr) (cap : Nat) (w : World) (hx : Row tAdj w ao xs.length cap xs) (hn : I64 n) :
    Calls Try.prog 16 #[.int .i64 n, .slice ao xs.length cap] w fun e w' => e = .returned (.tuple #[.int .i64 (oV (adjsO n xs)), .bool (oB (adjsO n xs))]) ∧ Below w.heap.size w w' := by
  obtain ⟨R, hR⟩ : ∃ R, R = adjsO n xs := ⟨_, rfl⟩
  rw [← hR]
  have HX := hid (fun (W : World) (b : Below w.heap.size w W) => hx.on b)
  have tm := hx.hmax
  have tcp := hx.hcap
  have R0 := hid (show R = adjsO n (xs.drop 0) from hR)
  have HN := hid hn
  clear hx hR hn
  go_enter Try.func16, Try.ntmps16
  go_wp2
  go_loopw [0, 12] (fun v i wr => ∃ (m : Int) (i' : Nat), v = .int .i64 m ∧ i = .int .i64 (i' : Int) ∧ i' ≤ xs.length ∧ Hid (R = adjsO m (xs.drop i')) ∧ Hid (I64 m) ∧ Hid (Below w.heap.size w wr)) (fun _ i _ => xs.length - (intOf i).toNat)
  case atStart => exact ⟨n, 0, rfl, rfl, Nat.zero_le _, R0, HN, hid (Below.refl _ _)⟩
  case round =>
    obtain ⟨m, i', rfl, rfl, hi, hR, hM, hb⟩ := hrel
    clear R0 HN
    by_cases hlt : i' < xs.length
    · obtain ⟨y, hy⟩ : ∃ y, xs[i']? = some y := ⟨_, List.getElem?_eq_getElem hlt⟩
      obtain ⟨ba, oa, ea, -⟩ := adj_at (HX.out _ hb.out) hy
      subst ea
      obtain ⟨y0, y1, y2, y3, y4⟩ := adj_in (HX.out _ hb.out) hy
      obtain ⟨wt, hwt⟩ : ∃ W, W = wr.alloc (.cells ([.int .i64 y.kind, .int .i64 y.num, .int .i64 y.mode] : List Value).toArray 52) := ⟨_, rfl⟩
      obtain ⟨kt, hkt⟩ : ∃ k, k = wr.heap.size := ⟨_, rfl⟩
      have bt2 : Below wr.heap.size wr wt := by rw [hwt]; exact bel_alloc _ _
      have XT : Box wt kt [.int .i64 y.kind, .int .i64 y.num, .int .i64 y.mode] := by rw [hwt, hkt]; exact Box.new _ _ _
      have BT := hid (bel_on hb.out bt2)
      have e0 := XT.cell 0 _ rfl
      have e1 := XT.cell 1 _ rfl
      have e2 := XT.cell 2 _ rfl
      have HWT := hid hwt
      have HKT := hid hkt
      have cO := one_any y m wt hM.out y3 y4
      have hS := hR.out
      rw [adjsO_step hy] at hS
      have HI := hid (fun k (h : adjO y m = some k) => adjO_i64 hM.out y3 h)
      obtain ⟨O, hO⟩ : ∃ O, O = adjO y m := ⟨_, rfl⟩
      rw [← hO] at cO hS HI
      have cO := hid cO
      have HS := hid hS
      clear hwt hkt bt2 XT hb hR hS hO hy y3 y4
      go_upto_region 4 with fail
      rw [← HWT.out, ← HKT.out]
      clear HWT HKT y0 y1 y2
      go_wp2_with fail
      refine cO.out.mono ?_
      rintro e w2 ⟨rfl, b2⟩
      have B2 := hid (bel_on BT.out b2)
      clear b2 cO BT e0 e1 e2
      cases O with
      | none =>
        have E : Hid (R = none) := HS
        rw [show oV none = 0 from rfl, show oB none = false from rfl]
        go_wp2
        go_ret2
        exact ⟨by rw [E.out]; rfl, B2.out⟩
      | some k =>
        have E : Hid (R = adjsO k (xs.drop (i' + 1))) := HS
        have HK : Hid (I64 k) := hid (HI.out k rfl)
        rw [show oV (some k) = k from rfl, show oB (some k) = true from rfl]
        clear HI HS
        go_wp2
        go_roundw
        case rel => exact ⟨k, i' + 1, rfl, by simp, by omega, E, HK, B2⟩
        case measure => simp [intOf]; omega
    · have E := hid (show R = some m by rw [hR.out, List.drop_of_length_le (by omega)]; rfl)
      clear hR
      go_wp2
      go_ret2
      exact ⟨by rw [E.out]; rfl, hb.out⟩
end Go.Proofs.Ytjgogpaedaffkaa.Ag
/- Package price, walked: within, Part, fits. -/
namespace Go.Proofs.Ytjgogpaedaffkaa.Pg
open Go.RowKit Go.Sort P Mm Md R6 Te Co R10 R11 R13
theorem within_any (n a b : Int) (w : World) : Calls Try.prog 20 #[.int .i64 n, .int .i64 a, .int .i64 b] w fun e w' => e = .returned (.bool (onB a b n)) ∧ w = w' := by
  obtain ⟨R, hR⟩ : ∃ R, R = onB a b n := ⟨_, rfl⟩
  rw [← hR]
  have HR := hid hR
  clear hR
  by_cases h1 : a ≤ n
  · by_cases h2 : n ≤ b
    · have K : Hid (R = true) := hid (by rw [HR.out]; unfold onB; rw [decide_eq_true h1, decide_eq_true h2]; rfl)
      go_enter Try.func20, Try.ntmps20
      go_wp2
      go_ret
      exact rbw (by rw [K.out] <;> first | exact decide_eq_false (by omega) | exact decide_eq_true (by omega))
    · have K : Hid (R = false) := hid (by rw [HR.out]; unfold onB; rw [decide_eq_false h2, Bool.and_false])
      go_enter Try.func20, Try.ntmps20
      go_wp2
      go_ret
      exact rbw (by rw [K.out] <;> first | exact decide_eq_false (by omega) | exact decide_eq_true (by omega))
  · have K : Hid (R = false) := hid (by rw [HR.out]; unfold onB; rw [decide_eq_false h1]; rfl)
    go_enter Try.func20, Try.ntmps20
    go_wp2
    go_ret
    exact rbw (by rw [K.out])
set_option maxHeartbeats 4000000 in
set_option maxRecDepth 100000 in
theorem part_any (x : Prt) (ta : Option Addr) (tc : Nat) (aa : Option Addr) (ac : Nat) (q : Int) (w : World) (ht : Row tTier w ta x.tiers.length tc x.tiers) (ha : Row tAdj w aa x.adjusts.length ac x.adjusts) (hq : I64 q) (g : GoodT x) :
    Calls Try.prog 8 #[.agg #[.int .i64 x.mt, .int .i64 x.a, .int .i64 x.b, .int .i64 x.allowance, .int .i64 x.block, .int .i64 x.kind, .slice ta x.tiers.length tc, .int .i64 x.mode, .slice aa x.adjusts.length ac], .int .i64 q] w fun e w' => e = .returned (.tuple #[.int .i64 (oV (partO x q)), .bool (oB (partO x q))]) ∧ Below w.heap.size w w' := by
  obtain ⟨w1, hw1⟩ : ∃ W, W = w.alloc (.cells ([.int .i64 x.mt, .int .i64 x.a, .int .i64 x.b, .int .i64 x.allowance, .int .i64 x.block, .int .i64 x.kind, .slice ta x.tiers.length tc, .int .i64 x.mode, .slice aa x.adjusts.length ac] : List Value).toArray 25) := ⟨_, rfl⟩
  obtain ⟨k1, hk1⟩ : ∃ k, k = w.heap.size := ⟨_, rfl⟩
  have b1 : Below w.heap.size w w1 := by rw [hw1]; exact bel_alloc _ _
  have X1 : Box w1 k1 [.int .i64 x.mt, .int .i64 x.a, .int .i64 x.b, .int .i64 x.allowance, .int .i64 x.block, .int .i64 x.kind, .slice ta x.tiers.length tc, .int .i64 x.mode, .slice aa x.adjusts.length ac] := by rw [hw1, hk1]; exact Box.new w _ 25
  have X := hid (fun (W : World) (b : Below w1.heap.size w1 W) => (⟨X1.on b, bel_on b1 b⟩ : Box W k1 [.int .i64 x.mt, .int .i64 x.a, .int .i64 x.b, .int .i64 x.allowance, .int .i64 x.block, .int .i64 x.kind, .slice ta x.tiers.length tc, .int .i64 x.mode, .slice aa x.adjusts.length ac] ∧ Below w.heap.size w W))
  have c0 := X1.cell 0 _ rfl; have c1 := X1.cell 1 _ rfl; have c2 := X1.cell 2 _ rfl; have c3 := X1.cell 3 _ rfl; have c4 := X1.cell 4 _ rfl; have c5 := X1.cell 5 _ rfl; have c6 := X1.cell 6 _ rfl; have c7 := X1.cell 7 _ rfl; have c8 := X1.cell 8 _ rfl
  have l1 := X1.lt
  have HW := hid hw1
  have HK := hid hk1
  have cM := Tg.charge_any x ta tc aa ac q w1 (ht.on b1) hq g
  have MI := hid (fun n (h : chargeO x q = some n) => chargeO_i g h)
  have HA := hid (fun (W : World) (b : Below w1.heap.size w1 W) => ha.on (bel_on b1 b))
  have EC : partO x q = match chargeO x q with
      | some n => adjsO n x.adjusts
      | none => none := rfl
  rw [EC]
  obtain ⟨M, hM⟩ : ∃ M, M = chargeO x q := ⟨_, rfl⟩
  rw [← hM] at cM MI ⊢
  have cM := hid cM
  clear hw1 hk1 b1 X1 ht hq g hM EC ha
  cases M with
  | none =>
    go_enter Try.func8, Try.ntmps8
    go_upto_region 1 with fail
    rw [← HW.out, ← HK.out]
    go_wp2_with fail
    refine cM.out.mono ?_
    rintro e w2 ⟨rfl, b2⟩
    have B2 := hid (X.out w2 b2).2
    clear b2 cM c0 c1 c2 c3 c4 c5 c6 c7 c8 l1
    rw [show oV none = 0 from rfl, show oB none = false from rfl]
    go_wp2
    go_ret2
    exact ⟨rfl, B2.out⟩
  | some n =>
    show Calls _ _ _ _ fun e w' => e = .returned (.tuple #[.int .i64 (oV (adjsO n x.adjusts)), .bool (oB (adjsO n x.adjusts))]) ∧ Below w.heap.size w w'
    obtain ⟨O, hO⟩ : ∃ O, O = adjsO n x.adjusts := ⟨_, rfl⟩
    have cD := hid (fun (W : World) (b : Below w1.heap.size w1 W) => by
      have := Ag.all_any n x.adjusts aa ac W (HA.out W b) (MI.out n rfl)
      rw [← hO] at this
      exact this)
    rw [← hO]
    clear hO
    go_enter Try.func8, Try.ntmps8
    go_upto_region 1 with fail
    rw [← HW.out, ← HK.out]
    go_wp2_with fail
    refine cM.out.mono ?_
    rintro e w2 ⟨rfl, b2⟩
    have B2 := hid b2
    have c8 := (X.out w2 b2).1.cell 8 _ rfl
    have l1 := (X.out w2 b2).1.lt
    clear b2 cM c0 c1 c2 c3 c4 c5 c6 c7
    rw [show oV (some n) = n from rfl, show oB (some n) = true from rfl]
    go_wp2_with fail
    refine (cD.out w2 B2.out).mono ?_
    rintro e w3 ⟨rfl, b3⟩
    have B3 := hid (X.out w3 (bel_on B2.out b3)).2
    clear b3 cD
    go_wp2
    go_ret2
    exact ⟨rfl, B3.out⟩
end Go.Proofs.Ytjgogpaedaffkaa.Pg
/- Package price, walked: amounts. -/
namespace Go.Proofs.Ytjgogpaedaffkaa.Pg
open Go.RowKit Go.Sort P Mm Md R6 Te Co R10 R11 R13
/-- What is left behind the sums: all amounts. -/
def finA (acc : List Int) (o : Option (List Int)) : Option (List Int) := o.map (acc ++ ·)
theorem finA_map (acc : List Int) (n : Int) (o : Option (List Int)) : finA acc (o.map (n :: ·)) = finA (acc ++ [n]) o := by
  cases o with
  | none => rfl
  | some l =>
    show some (acc ++ n :: l) = some ((acc ++ [n]) ++ l)
    rw [List.append_assoc]
    rfl
/-- All amounts of a day and a basket. -/
def amtO (c : Cor) (d : Int) (bk : List Int) : Option (List Int) := finA (sumsL d c.sums) (partsO d bk c.parts)
def AmtOut (w w' : World) (e : Ending) : Option (List Int) → Prop
  | none => e = .returned (.tuple #[.slice none 0 0, .bool false]) ∧ Below w.heap.size w w'
  | some l => ∃ V, e = .returned (.tuple #[V, .bool true]) ∧ w'.ownsRow (w.heap.size + 1) 3 1 V l.length (l.flatMap intC) ∧ (∀ n ∈ l, I64 n) ∧ l.length ≤ 16 ∧ Below w.heap.size w w'
set_option maxHeartbeats 1600000 in
set_option maxRecDepth 100000 in
theorem amounts_any (c : Cor) (ma : Option Addr) (mc : Nat) (sa : Option Addr) (sc : Nat) (pa : Option Addr) (pc : Nat) (d : Int) (bk : List Int) (bo : Option Addr) (bcap : Nat) (w : World) (hc : CorLies w (corC c ma mc sa sc pa pc) c ma mc sa sc pa pc) (hb : Row tInt w bo bk.length bcap bk) (hg : goodC c = true) (hl : bk.length = c.meters.length) :
    Calls Try.prog 22 #[.agg #[.string c.cur, .int .i64 c.a, .int .i64 c.b, .slice ma c.meters.length mc, .slice sa c.sums.length sc, .slice pa c.parts.length pc], .int .i64 d, .slice bo bk.length bcap] w fun e w' => AmtOut w w' e (amtO c d bk) := by
  obtain ⟨w1, hw1⟩ : ∃ W, W = w.alloc (.cells ([.string c.cur, .int .i64 c.a, .int .i64 c.b, .slice ma c.meters.length mc, .slice sa c.sums.length sc, .slice pa c.parts.length pc] : List Value).toArray 34) := ⟨_, rfl⟩
  obtain ⟨k1, hk1⟩ : ∃ k, k = w.heap.size := ⟨_, rfl⟩
  have b1 : Below w.heap.size w w1 := by rw [hw1]; exact bel_alloc _ _
  have X1 : Box w1 k1 [.string c.cur, .int .i64 c.a, .int .i64 c.b, .slice ma c.meters.length mc, .slice sa c.sums.length sc, .slice pa c.parts.length pc] := by rw [hw1, hk1]; exact Box.new w _ 34
  have X := hid (fun (W : World) (b : Below w1.heap.size w1 W) => (⟨X1.on b, bel_on b1 b⟩ : Box W k1 [.string c.cur, .int .i64 c.a, .int .i64 c.b, .slice ma c.meters.length mc, .slice sa c.sums.length sc, .slice pa c.parts.length pc] ∧ Below w.heap.size w W))
  have HC := hid (fun (W : World) (b : Below w1.heap.size w1 W) => hc.on (bel_on b1 b))
  have HB := hid (fun (W : World) (b : Below w1.heap.size w1 W) => hb.on (bel_on b1 b))
  have SZ := hid (show w1.heap.size = w.heap.size + 1 by rw [hw1]; exact World.size_alloc _ _)
  have c4 := X1.cell 4 _ rfl
  have l1 := X1.lt
  have HW := hid hw1
  have HK := hid hk1
  obtain ⟨gp, g1, g2, g3⟩ := goodC_parts hg
  have GP := hid gp
  have sm := hc.sums.hmax
  have scl := hc.sums.hcap
  have pm := hc.parts.hmax
  have pcl := hc.parts.hcap
  have bm := hb.hmax
  have bcl := hb.hcap
  have HL := hid hl
  obtain ⟨i0, hi0, hz0, hz1, hz2⟩ := info_parts R13.info_int
  obtain ⟨R, hR⟩ : ∃ R, R = amtO c d bk := ⟨_, rfl⟩
  rw [← hR]
  have R0 := hid (show R = finA ([] ++ sumsL d (c.sums.drop 0)) (partsO d bk c.parts) by rw [hR]; rfl)
  have B0 := hid (Below.refl w1.heap.size w1)
  clear hw1 hk1 b1 X1 hc hb hg hl gp hR
  go_enter Try.func22, Try.ntmps22
  go_upto_region 1 with fail
  rw [← HW.out, ← HK.out]
  clear HW HK
  go_wp2
  clear c4 l1
  go_loopw [8, 18] (fun v i wr => ∃ (V : Value) (i' : Nat) (acc : List Int), v = V ∧ i = .int .i64 (i' : Int) ∧ i' ≤ c.sums.length ∧ acc.length ≤ i' ∧ Hid (R = finA (acc ++ sumsL d (c.sums.drop i')) (partsO d bk c.parts)) ∧ Hid (∀ n ∈ acc, I64 n) ∧ Hid (wr.ownsRow w1.heap.size 3 1 V acc.length (acc.flatMap intC)) ∧ Hid (Below w1.heap.size w1 wr)) (fun _ i _ => c.sums.length - (intOf i).toNat)
  case atStart => exact ⟨_, 0, [], rfl, rfl, Nat.zero_le _, Nat.zero_le _, R0, hid (fun n h => by cases h), hid (World.ownsRow_nil _ _ _ _), B0⟩
  case round =>
    obtain ⟨V, i', acc, rfl, rfl, hi, hal, hR, hA, hO, hb⟩ := hrel
    clear R0 B0
    by_cases hlt : i' < c.sums.length
    · obtain ⟨s, hs⟩ : ∃ s, c.sums[i']? = some s := ⟨_, List.getElem?_eq_getElem hlt⟩
      obtain ⟨bx, ox, ex, -, x0, x1, x2, xi, -⟩ := sum_at (HC.out _ hb.out).sums hs
      subst ex
      obtain ⟨wt, hwt⟩ : ∃ W, W = wr.alloc (.cells ([.int .i64 s.amt, .int .i64 s.a, .int .i64 s.b] : List Value).toArray 45) := ⟨_, rfl⟩
      obtain ⟨kt, hkt⟩ : ∃ k, k = wr.heap.size := ⟨_, rfl⟩
      have bt2 : Below wr.heap.size wr wt := by rw [hwt]; exact bel_alloc _ _
      have XT : Box wt kt [.int .i64 s.amt, .int .i64 s.a, .int .i64 s.b] := by rw [hwt, hkt]; exact Box.new _ _ _
      have BT := hid (bel_on hb.out bt2)
      have OT := hid (owns_on hO.out bt2)
      have e0 := XT.cell 0 _ rfl
      have e1 := XT.cell 1 _ rfl
      have e2 := XT.cell 2 _ rfl
      have lt1 := XT.lt
      have HWT := hid hwt
      have HKT := hid hkt
      have hsz : w1.heap.size ≤ wt.heap.size := BT.out.size
      have hR2 := hR.out
      rw [sumsL_step hs] at hR2
      have HI := hid xi
      have cI := within_any d s.a s.b wt
      obtain ⟨Q, hQ⟩ : ∃ q, q = onB s.a s.b d := ⟨_, rfl⟩
      rw [← hQ] at cI hR2
      have R2 := hid hR2
      have cI := hid cI
      clear hwt hkt bt2 XT hs hb hO hR hR2 xi hQ
      go_upto_region 5 with fail
      rw [← HWT.out, ← HKT.out]
      clear HWT HKT x0 x1 x2
      cases Q with
      | false =>
        have E := hid (show R = finA (acc ++ sumsL d (c.sums.drop (i' + 1))) (partsO d bk c.parts) from R2.out)
        clear R2
        go_wp2_with fail
        refine cI.out.mono ?_
        rintro e w' ⟨rfl, rfl⟩
        clear cI
        go_wp2
        go_roundw
        case rel => exact ⟨_, i' + 1, acc, rfl, by simp, by omega, by omega, E, hA, OT, BT⟩
        case measure => simp [intOf]; omega
      | true =>
        have E := hid (show R = finA ((acc ++ [s.amt]) ++ sumsL d (c.sums.drop (i' + 1))) (partsO d bk c.parts) by rw [R2.out, List.append_assoc]; rfl)
        have A2 := hid (show ∀ n ∈ acc ++ [s.amt], I64 n from fun n hn => by
          rcases List.mem_append.1 hn with h | h
          · exact hA.out n h
          · rw [List.mem_singleton] at h
            rw [h]
            exact HI.out)
        have oo := OT.out
        clear R2 hA
        go_wp2_with fail
        refine cI.out.mono ?_
        rintro e w' ⟨rfl, rfl⟩
        clear cI
        go_wp2_with (at_builtin; refine wpList_append_own _ rfl _ _ 38 rfl w1.heap.size 3 i0 (.int .i64 0) 1 8 Try.underlying38 hi0 hz0 hz1 hz2 rfl (by decide) _ _ _ rfl (oo.alloc _) ⟨wt.heap.size, 0, none⟩ 1 1 (intC s.amt) rfl rfl (R11.news_at wt (intC s.amt) _) (by simp [intC, Value.oneCell']) (by unfold maxLen; omega) (by omega) (by simp; omega) ?_)
        intro v5 w5 hown hgrow _
        have B5 := hid ((BT.out.alloc hsz _).grown hgrow (BT.out.alloc hsz _).size (fun j hj => (oo.lt j hj).1))
        have O5 := hid hown
        clear hown hgrow oo
        go_wp2
        go_roundw
        case rel => exact ⟨_, i' + 1, acc ++ [s.amt], rfl, by simp, by omega, by simp; omega, E, A2, hid (by
          simp only [List.length_append, List.length_singleton, List.flatMap_append, List.flatMap_cons, List.flatMap_nil, List.append_nil]
          exact O5.out), B5⟩
        case measure => simp [intOf]; omega
    · have R2 := hid (show R = finA acc (partsO d bk (c.parts.drop 0)) by rw [hR.out, List.drop_of_length_le (by omega)]; show finA (acc ++ []) _ = _; rw [List.append_nil]; rfl)
      have hal8 : acc.length ≤ 8 := by omega
      have c5 := (X.out _ hb.out).1.cell 5 _ rfl
      have l1 := (X.out _ hb.out).1.lt
      clear hR hal
      obtain ⟨wq, hwq⟩ : ∃ W, W = wr := ⟨_, rfl⟩
      rw [← hwq] at c5 l1 hO hb ⊢
      clear hwq
      go_wp2
      clear c5 l1
      go_loopw [8, 37] (fun v i wr => ∃ (V : Value) (i' : Nat) (ac2 : List Int), v = V ∧ i = .int .i64 (i' : Int) ∧ i' ≤ c.parts.length ∧ ac2.length ≤ 8 + i' ∧ Hid (R = finA ac2 (partsO d bk (c.parts.drop i'))) ∧ Hid (∀ n ∈ ac2, I64 n) ∧ Hid (wr.ownsRow w1.heap.size 3 1 V ac2.length (ac2.flatMap intC)) ∧ Hid (Below w1.heap.size w1 wr)) (fun _ i _ => c.parts.length - (intOf i).toNat)
      case atStart => exact ⟨_, 0, acc, rfl, rfl, Nat.zero_le _, by omega, R2, hA, hO, hb⟩
      case round =>
        clear R2 hA hO hb hal8
        obtain ⟨V, i', acc, rfl, rfl, hi, hal, hR, hA, hO, hb⟩ := hrel
        by_cases hlt : i' < c.parts.length
        · obtain ⟨x, hx⟩ : ∃ x, c.parts[i']? = some x := ⟨_, List.getElem?_eq_getElem hlt⟩
          obtain ⟨bx, ox, ta, tc, aa, ac, ex, -, x0, x1, x2, x3, x4, x5, x6, x7, x8, hp⟩ := prt_at (HC.out _ hb.out).parts hx
          subst ex
          obtain ⟨gx, _, gm0, gm1⟩ := GP.out x (List.mem_of_getElem? hx)
          obtain ⟨wt, hwt⟩ : ∃ W, W = wr.alloc (.cells ([.int .i64 x.mt, .int .i64 x.a, .int .i64 x.b, .int .i64 x.allowance, .int .i64 x.block, .int .i64 x.kind, .slice ta x.tiers.length tc, .int .i64 x.mode, .slice aa x.adjusts.length ac] : List Value).toArray 25) := ⟨_, rfl⟩
          obtain ⟨kt, hkt⟩ : ∃ k, k = wr.heap.size := ⟨_, rfl⟩
          have bt2 : Below wr.heap.size wr wt := by rw [hwt]; exact bel_alloc _ _
          have XT : Box wt kt [.int .i64 x.mt, .int .i64 x.a, .int .i64 x.b, .int .i64 x.allowance, .int .i64 x.block, .int .i64 x.kind, .slice ta x.tiers.length tc, .int .i64 x.mode, .slice aa x.adjusts.length ac] := by rw [hwt, hkt]; exact Box.new _ _ _
          have BT := hid (bel_on hb.out bt2)
          have OT := hid (owns_on hO.out bt2)
          have HXT := hid XT
          have e1 := XT.cell 1 _ rfl
          have e2 := XT.cell 2 _ rfl
          have lt1 := XT.lt
          have HWT := hid hwt
          have HKT := hid hkt
          have hsz : w1.heap.size ≤ wt.heap.size := BT.out.size
          have hml : x.mt.toNat < bk.length := by have := HL.out; omega
          obtain ⟨bb, ob, eb, lb, q0, qi⟩ := bk_at (HB.out wt BT.out) hml
          subst eb
          obtain ⟨QV, hQV⟩ : ∃ v, v = qAt bk x.mt := ⟨_, rfl⟩
          have q0 : wt.cell? ⟨bb, ob + x.mt.toNat, none⟩ = some (.int .i64 QV) := by rw [hQV]; exact q0
          have cP := fun W (b : Below wt.heap.size wt W) => part_any x ta tc aa ac (qAt bk x.mt) W ((hp.tiers.on bt2).on b) ((hp.adjusts.on bt2).on b) qi gx
          have PI := hid (fun n (h : partO x (qAt bk x.mt) = some n) => partO_i gx (row_nums hp.adjusts) h)
          have hR2 := hR.out
          rw [partsO_step hx] at hR2
          obtain ⟨PO, hPO⟩ : ∃ P, P = partO x (qAt bk x.mt) := ⟨_, rfl⟩
          rw [← hPO] at cP PI hR2
          rw [← hQV] at cP
          have cI := within_any d x.a x.b wt
          obtain ⟨Q, hQ⟩ : ∃ q, q = onB x.a x.b d := ⟨_, rfl⟩
          rw [← hQ] at cI hR2
          have cI := hid cI
          have cP := hid cP
          have R2 := hid hR2
          have Q0 := hid q0
          clear hwt hkt bt2 XT hx hb hO hR hR2 hp hPO q0 hQV hQ
          go_upto_region 11 with fail
          rw [← HWT.out, ← HKT.out]
          clear HWT HKT x0 x1 x2 x3 x4 x5 x6 x7 x8
          cases Q with
          | false =>
            have E := hid (show R = finA acc (partsO d bk (c.parts.drop (i' + 1))) from R2.out)
            clear R2
            go_wp2_with fail
            refine cI.out.mono ?_
            rintro e w' ⟨rfl, rfl⟩
            clear cI
            go_wp2
            go_roundw
            case rel => exact ⟨_, i' + 1, acc, rfl, by simp, by omega, by omega, E, hA, OT, BT⟩
            case measure => simp [intOf]; omega
          | true =>
            have R3 := hid (show R = finA acc (bindP PO (partsO d bk (c.parts.drop (i' + 1)))) from R2.out)
            have m0 : 0 ≤ x.mt := gm0
            have m1 : x.mt < (bk.length : Int) := by omega
            clear R2
            go_wp2_with fail
            refine cI.out.mono ?_
            rintro e w' ⟨rfl, rfl⟩
            clear cI
            go_upto_region 12 with fail
            have f0 := cell_regrown (HXT.out.cell 0 _ rfl); have f1 := cell_regrown (HXT.out.cell 1 _ rfl); have f2 := cell_regrown (HXT.out.cell 2 _ rfl); have f3 := cell_regrown (HXT.out.cell 3 _ rfl); have f4 := cell_regrown (HXT.out.cell 4 _ rfl); have f5 := cell_regrown (HXT.out.cell 5 _ rfl); have f6 := cell_regrown (HXT.out.cell 6 _ rfl); have f7 := cell_regrown (HXT.out.cell 7 _ rfl); have f8 := cell_regrown (HXT.out.cell 8 _ rfl)
            have rq := cell_regrown Q0.out
            have qP := fun dd os => Calls.regrown_of (cP.out (grow (redrawn wt dd) os) (below_regrown wt dd os))
            have B2 := fun dd os => hid (bel_on BT.out (below_regrown wt dd os))
            have O2 := fun dd os => hid (owns_on OT.out (below_regrown wt dd os))
            clear cP e1 e2
            refine wp_region_quiet_below (by kernel_rfl) (by kernel_rfl) ?_
            repeat (go_big_quiet_step (first | (go_at_call 8; exact qP _ _)))
            refine wpQuiet_nil ?_
            intro _ hw'
            obtain ⟨⟨dq, osq⟩, hw''⟩ := hw'
            subst hw''
            obtain ⟨wu, hwu⟩ : ∃ W, W = grow (redrawn wt dq) osq := ⟨_, rfl⟩
            have B3 := B2 dq osq
            have O3 := O2 dq osq
            rw [← hwu] at B3 O3 ⊢
            clear B2 O2 qP rq hwu f0 f1 f2 f3 f4 f5 f6 f7 f8 BT OT lt1
            cases PO with
            | none =>
              have E := hid (show R = none from R3.out)
              have BF := hid (X.out _ B3.out).2
              rw [show oV none = 0 from rfl, show oB none = false from rfl]
              clear R3 PI
              go_wp2
              go_ret2
              rw [E.out]
              exact ⟨rfl, BF.out⟩
            | some n =>
              have E := hid (show R = finA (acc ++ [n]) (partsO d bk (c.parts.drop (i' + 1))) from R3.out.trans (finA_map acc n _))
              have A2 := hid (show ∀ k ∈ acc ++ [n], I64 k from fun k hk => by
                rcases List.mem_append.1 hk with h | h
                · exact hA.out k h
                · rw [List.mem_singleton] at h
                  rw [h]
                  exact PI.out n rfl)
              have oo := O3.out
              have hsz2 : w1.heap.size ≤ wu.heap.size := B3.out.size
              rw [show oV (some n) = n from rfl, show oB (some n) = true from rfl]
              clear R3 PI hA
              go_wp2_with (at_builtin; refine wpList_append_own _ rfl _ _ 38 rfl w1.heap.size 3 i0 (.int .i64 0) 1 8 Try.underlying38 hi0 hz0 hz1 hz2 rfl (by decide) _ _ _ rfl (oo.alloc _) ⟨wu.heap.size, 0, none⟩ 1 1 (intC n) rfl rfl (R11.news_at wu (intC n) _) (by simp [intC, Value.oneCell']) (by unfold maxLen; omega) (by omega) (by simp; omega) ?_)
              intro v5 w5 hown hgrow _
              have B5 := hid ((B3.out.alloc hsz2 _).grown hgrow (B3.out.alloc hsz2 _).size (fun j hj => (oo.lt j hj).1))
              have O5 := hid hown
              clear hown hgrow oo
              go_wp2
              go_roundw
              case rel => exact ⟨_, i' + 1, acc ++ [n], rfl, by simp, by omega, by simp; omega, E, A2, hid (by
                simp only [List.length_append, List.length_singleton, List.flatMap_append, List.flatMap_cons, List.flatMap_nil, List.append_nil]
                exact O5.out), B5⟩
              case measure => simp [intOf]; omega
        · have E := hid (show R = some acc by
            rw [hR.out, List.drop_of_length_le (by omega)]
            show some (acc ++ []) = _
            rw [List.append_nil])
          have BF := hid (X.out _ hb.out).2
          have OF := hO.out
          rw [SZ.out] at OF
          have OF := hid OF
          have LN := hid (show acc.length ≤ 16 by omega)
          clear hR
          go_wp2
          go_ret2
          rw [E.out]
          exact ⟨_, rfl, OF.out, hA.out, LN.out, BF.out⟩
end Go.Proofs.Ytjgogpaedaffkaa.Pg
