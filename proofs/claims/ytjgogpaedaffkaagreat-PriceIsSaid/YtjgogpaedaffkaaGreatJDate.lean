/- Many cells at once: structs loaded and stored whole, rows that are written in the middle, a struct result in a cell. No function of the program is named here. -/
import Derived.Test.YtjgogpaedaffkaaGreatJPureS
import Derived.Deep.MidRow
import Derived.Deep.WholeRow
import Derived.Deep.Onto
import Derived.Deep.Quiet
import Derived.Laws.OwnMore
import Derived.Test.YtjgogpaedaffkaaGreatJAdjP
import Derived.Test.YtjgogpaedaffkaaGreatJL06d
import Derived.Test.YtjgogpaedaffkaaGreatJRef6
import Derived.Deep.CutBlock
import Derived.Deep.CutRange
import Derived.Deep.DeepCutAuto
import Derived.Test.YtjgogpaedaffkaaGreatJLexJ
import Derived.Test.YtjgogpaedaffkaaGreatRows
import Derived.Test.YtjgogpaedaffkaaGreatJParP
import Derived.Test.YtjgogpaedaffkaaGreatJDatB
namespace Go.Proofs.YtjgogpaedaffkaaGreat.Mm
end Go.Proofs.YtjgogpaedaffkaaGreat.Mm
namespace Go.Proofs.YtjgogpaedaffkaaGreat.P
end Go.Proofs.YtjgogpaedaffkaaGreat.P
namespace Go.Proofs.YtjgogpaedaffkaaGreat.Md
end Go.Proofs.YtjgogpaedaffkaaGreat.Md
namespace Go.Proofs.YtjgogpaedaffkaaGreat.R6
end Go.Proofs.YtjgogpaedaffkaaGreat.R6
namespace Go.Proofs.YtjgogpaedaffkaaGreat.Tl
end Go.Proofs.YtjgogpaedaffkaaGreat.Tl
namespace Go.Proofs.YtjgogpaedaffkaaGreat.L06
end Go.Proofs.YtjgogpaedaffkaaGreat.L06
namespace Go.Proofs.YtjgogpaedaffkaaGreat.Te
end Go.Proofs.YtjgogpaedaffkaaGreat.Te
namespace Go.Proofs.YtjgogpaedaffkaaGreat.Md
open Go.RowKit Mm
/-- A struct goes into the block that was made last. -/
theorem wpList_store_new {P : Program} {ops : Array Oper} {rest : List Oper} {op : Oper} {a : Act} {Q : Exit → Act → World → Prop} (hgd : op.guard = none) (ty : TypeId) (x y : Operand) (ho : op.op = .store ty x y)
    (W : World) (z cs : Array Value) (hx : a.eval x = .pointer (some ⟨W.heap.size, 0, none⟩)) (hy : a.eval y = .agg cs) (hi : (P.info? ty).map (·.size) = some cs.size) (hz : z.size = cs.size) (h1 : cs.all (·.oneCell') = true)
    (h : wpList P ops Q rest (a.put op.dst undef) (W.alloc (.cells cs ty))) : wpList P ops Q (op :: rest) a (W.alloc (.cells z ty)) :=
  wpList_plain hgd fun K hK => by
    have := hK _ _ h
    unfold Oper.wp execOp
    simp only [ho, hx, hy, Sem.run_bind, run_storeAt_new W ty z cs hi hz h1, Result.andThen_ok]
    exact this
theorem range_of {w : World} {b : Nat} {cs : List Value} (h : ∀ j v, cs[j]? = some v → w.cell? ⟨b, j, none⟩ = some v) : w.rangeAt b 0 cs := fun j v hv => by rw [Nat.zero_add]; exact h j v hv
end Go.Proofs.YtjgogpaedaffkaaGreat.Md
/- Package core, walked: numbers between numbers, adjustments, sums; what 'all' answers of adjustments, tiers, sums. -/
namespace Go.Proofs.YtjgogpaedaffkaaGreat.Co
open Go.RowKit Go.Sort P Mm Md R6 Tl L06 Te
theorem rbb {a b : Bool} {w w' : World} {B : Nat} (h : a = b) (k : Below B w w') : (Ending.returned (.bool a) : Ending) = .returned (.bool b) ∧ Below B w w' := ⟨by rw [h], k⟩
theorem rbw {a b : Bool} {w : World} (h : a = b) : (Ending.returned (.bool a) : Ending) = .returned (.bool b) ∧ w = w := ⟨by rw [h], rfl⟩
theorem between_any (n a b : Int) (w : World) : Calls Tryz.prog 62 #[.int .i64 n, .int .i64 a, .int .i64 b] w fun e w' => e = .returned (.bool (inB n a b)) ∧ w = w' := by
  obtain ⟨R, hR⟩ : ∃ R, R = inB n a b := ⟨_, rfl⟩
  rw [← hR]
  have HR := hid hR
  clear hR
  by_cases h1 : a ≤ n
  · by_cases h2 : n ≤ b
    · have K : Hid (R = true) := hid (by rw [HR.out]; unfold inB; rw [decide_eq_true h1, decide_eq_true h2]; rfl)
      go_enter Tryz.func62, Tryz.ntmps62
      go_wp2
      go_ret
      exact rbw (by rw [K.out] <;> first | exact decide_eq_false (by omega) | exact decide_eq_true (by omega))
    · have K : Hid (R = false) := hid (by rw [HR.out]; unfold inB; rw [decide_eq_false h2, Bool.and_false])
      go_enter Tryz.func62, Tryz.ntmps62
      go_wp2
      go_ret
      exact rbw (by rw [K.out] <;> first | exact decide_eq_false (by omega) | exact decide_eq_true (by omega))
  · have K : Hid (R = false) := hid (by rw [HR.out]; unfold inB; rw [decide_eq_false h1]; rfl)
    go_enter Tryz.func62, Tryz.ntmps62
    go_wp2
    go_ret
    exact rbw (by rw [K.out])
theorem goodMode_any (m : Int) (w : World) : Calls Tryz.prog 68 #[.int .i64 m] w fun e w' => e = .returned (.bool (inB m 0 3)) ∧ w = w' := by
  have c := between_any m 0 3 w
  go_enter Tryz.func68, Tryz.ntmps68
  go_wp2_with fail
  refine c.mono ?_
  rintro e w' ⟨rfl, rfl⟩
  clear c
  go_wp2
  go_ret
  exact rbw rfl
theorem within_any (c : Cor) (x y : Int) (ma : Option Addr) (mc : Nat) (sa : Option Addr) (sc : Nat) (pa : Option Addr) (pc : Nat) (w : World) :
    Calls Tryz.prog 65 #[.agg #[.string c.cur, .int .i64 c.a, .int .i64 c.b, .slice ma c.meters.length mc, .slice sa c.sums.length sc, .slice pa c.parts.length pc], .int .i64 x, .int .i64 y] w fun e w' => e = .returned (.bool (spanB c.a c.b x y)) ∧ Below w.heap.size w w' := by
  obtain ⟨R, hR⟩ : ∃ R, R = spanB c.a c.b x y := ⟨_, rfl⟩
  rw [← hR]
  have HR := hid hR
  have BF := hid (bel_alloc w (.cells (corC c ma mc sa sc pa pc).toArray 26))
  unfold corC at BF
  clear hR
  by_cases h1 : c.a ≤ x
  · by_cases h2 : x ≤ y
    · by_cases h3 : y ≤ c.b
      · have K : Hid (R = true) := hid (by rw [HR.out]; unfold spanB; rw [decide_eq_true h1, decide_eq_true h2, decide_eq_true h3]; rfl)
        go_enter Tryz.func65, Tryz.ntmps65
        go_wp2
        go_ret
        exact rbb (by rw [K.out] <;> first | exact decide_eq_false (by omega) | exact decide_eq_true (by omega)) BF.out
      · have K : Hid (R = false) := hid (by rw [HR.out]; unfold spanB; rw [decide_eq_false h3, Bool.and_false])
        go_enter Tryz.func65, Tryz.ntmps65
        go_wp2
        go_ret
        exact rbb (by rw [K.out] <;> first | exact decide_eq_false (by omega) | exact decide_eq_true (by omega)) BF.out
    · have K : Hid (R = false) := hid (by rw [HR.out]; unfold spanB; rw [decide_eq_false h2, Bool.and_false, Bool.false_and])
      go_enter Tryz.func65, Tryz.ntmps65
      go_wp2
      go_ret
      exact rbb (by rw [K.out]) BF.out
  · have K : Hid (R = false) := hid (by rw [HR.out]; unfold spanB; rw [decide_eq_false h1, Bool.false_and, Bool.false_and])
    go_enter Tryz.func65, Tryz.ntmps65
    go_wp2
    go_ret
    exact rbb (by rw [K.out]) BF.out
set_option maxHeartbeats 2000000 in
theorem goodAdjust_any (a : Adj) (w : World) : Calls Tryz.prog 71 #[.agg #[.int .i64 a.kind, .int .i64 a.num, .int .i64 a.mode]] w fun e w' => e = .returned (.bool (adjB a)) ∧ Below w.heap.size w w' := by
  obtain ⟨R, hR⟩ : ∃ R, R = adjB a := ⟨_, rfl⟩
  rw [← hR]
  have HR := hid hR
  clear hR
  obtain ⟨k, n, m⟩ := a
  simp only at HR ⊢
  obtain ⟨w1, hw1⟩ : ∃ W, W = w.alloc (.cells [.int .i64 k, .int .i64 n, .int .i64 m].toArray 115) := ⟨_, rfl⟩
  have BF := hid (show Below w.heap.size w w1 by rw [hw1]; exact bel_alloc _ _)
  have X1 : Box w1 w.heap.size [.int .i64 k, .int .i64 n, .int .i64 m] := by rw [hw1]; exact Box.new _ _ _
  have a0 := X1.cell 0 _ rfl; have a1 := X1.cell 1 _ rfl; have a2 := X1.cell 2 _ rfl
  have HW := hid hw1
  clear hw1 X1
  have c1 := hid (between_any n 0 100000000 w1)
  have c2 := hid (between_any n 0 1000000000000 w1)
  have c3 := hid (goodMode_any m w1)
  by_cases e1 : k = 1
  · subst e1
    have K : Hid (R = (inB n 0 100000000 && inB m 0 3)) := hid (by rw [HR.out]; unfold adjB; rw [if_pos rfl])
    clear HR
    rcases Bool.eq_false_or_eq_true (inB n 0 100000000) with g | g
    · rw [g] at c1 K
      go_enter Tryz.func71, Tryz.ntmps71
      go_upto_region 1 with fail
      rw [← HW.out]
      clear HW
      go_wp2_with fail
      refine c1.out.mono ?_
      rintro e w' ⟨rfl, rfl⟩
      go_wp2_with fail
      refine c3.out.mono ?_
      rintro e w' ⟨rfl, rfl⟩
      go_wp2
      go_ret
      exact rbb (by rw [K.out]; rfl) BF.out
    · rw [g] at c1 K
      go_enter Tryz.func71, Tryz.ntmps71
      go_upto_region 1 with fail
      rw [← HW.out]
      clear HW
      go_wp2_with fail
      refine c1.out.mono ?_
      rintro e w' ⟨rfl, rfl⟩
      go_wp2
      go_ret
      exact rbb (by rw [K.out]; rfl) BF.out
  · by_cases e2 : k = 2 ∨ k = 3 ∨ k = 4
    · have K : Hid (R = (inB n 0 1000000000000 && decide (m = 0))) := hid (by rw [HR.out]; unfold adjB; rw [if_neg e1, if_pos e2])
      clear HR
      rcases Bool.eq_false_or_eq_true (inB n 0 1000000000000) with g | g <;> rw [g] at c2 K
      · by_cases hm : m = 0
        · subst hm
          rcases e2 with rfl | rfl | rfl
          all_goals
            go_enter Tryz.func71, Tryz.ntmps71
            go_upto_region 1 with fail
            rw [← HW.out]
            clear HW
            go_wp2_with fail
            refine c2.out.mono ?_
            rintro e w' ⟨rfl, rfl⟩
            go_wp2
            go_ret
            exact rbb (by rw [K.out] <;> rfl) BF.out
        · have gm : (m == 0) = false := by simpa using hm
          rcases e2 with rfl | rfl | rfl
          all_goals
            go_enter Tryz.func71, Tryz.ntmps71
            go_upto_region 1 with fail
            rw [← HW.out]
            clear HW
            go_wp2_with fail
            refine c2.out.mono ?_
            rintro e w' ⟨rfl, rfl⟩
            go_wp2
            go_ret
            exact rbb (by rw [K.out, decide_eq_false hm] <;> rfl) BF.out
      · rcases e2 with rfl | rfl | rfl
        all_goals
          go_enter Tryz.func71, Tryz.ntmps71
          go_upto_region 1 with fail
          rw [← HW.out]
          clear HW
          go_wp2_with fail
          refine c2.out.mono ?_
          rintro e w' ⟨rfl, rfl⟩
          go_wp2
          go_ret
          exact rbb (by rw [K.out]; rfl) BF.out
    · have K : Hid (R = false) := hid (by rw [HR.out]; unfold adjB; rw [if_neg e1, if_neg e2])
      have n2 : (k == 2) = false := by simp; omega
      have n3 : (k == 3) = false := by simp; omega
      have n4 : (k == 4) = false := by simp; omega
      have n1 : (k == 1) = false := by simpa using e1
      clear HR e1 e2
      go_enter Tryz.func71, Tryz.ntmps71
      go_upto_region 1 with fail
      rw [← HW.out]
      clear HW
      go_wp2
      go_ret
      exact rbb K.out.symm BF.out
theorem goodRate_any (t : Tier) (w : World) : Calls Tryz.prog 97 #[.agg #[.int .i64 t.upto, .int .i64 t.rate]] w fun e w' => e = .returned (.bool (inB t.rate 0 1000000000000)) ∧ Below w.heap.size w w' := by
  have c := hid (fun W => between_any t.rate 0 1000000000000 W)
  have BF := hid (bel_alloc w (.cells #[.int .i64 t.upto, .int .i64 t.rate] 54))
  go_enter Tryz.func97, Tryz.ntmps97
  go_wp2_with fail
  refine (c.out _).mono ?_
  rintro e w' ⟨rfl, rfl⟩
  clear c
  go_wp2
  go_ret
  exact rbb rfl BF.out
set_option maxHeartbeats 2000000 in
theorem goodSum_any (c : Cor) (s : Mm.Sm) (ma : Option Addr) (mc : Nat) (sa : Option Addr) (sc : Nat) (pa : Option Addr) (pc : Nat) (w : World) : Calls Tryz.prog 36 #[.agg #[.string c.cur, .int .i64 c.a, .int .i64 c.b, .slice ma c.meters.length mc, .slice sa c.sums.length sc, .slice pa c.parts.length pc], .agg #[.int .i64 s.amt, .int .i64 s.a, .int .i64 s.b]] w fun e w' => e = .returned (.bool (sumB c s)) ∧ Below w.heap.size w w' := by
  obtain ⟨w1, hw1⟩ : ∃ W, W = (w.alloc (.cells ([.string c.cur, .int .i64 c.a, .int .i64 c.b, .slice ma c.meters.length mc, .slice sa c.sums.length sc, .slice pa c.parts.length pc] : List Value).toArray 26)).alloc (.cells ([.int .i64 s.amt, .int .i64 s.a, .int .i64 s.b] : List Value).toArray 52) := ⟨_, rfl⟩
  have b1 : Below w.heap.size w w1 := by rw [hw1]; exact bel_alloc2 ..
  have X2 : Box w1 (w.heap.size + 1) [.int .i64 s.amt, .int .i64 s.a, .int .i64 s.b] := by
    rw [hw1]
    have := Box.new (w.alloc (.cells ([.string c.cur, .int .i64 c.a, .int .i64 c.b, .slice ma c.meters.length mc, .slice sa c.sums.length sc, .slice pa c.parts.length pc] : List Value).toArray 26)) [.int .i64 s.amt, .int .i64 s.a, .int .i64 s.b] 52
    simpa using this
  have X1 : Box w1 w.heap.size [.string c.cur, .int .i64 c.a, .int .i64 c.b, .slice ma c.meters.length mc, .slice sa c.sums.length sc, .slice pa c.parts.length pc] := by rw [hw1]; exact (Box.new w _ 26).on (bel_alloc _ _)
  have a0 := X2.cell 0 _ rfl; have a1 := X2.cell 1 _ rfl; have a2 := X2.cell 2 _ rfl
  have d0 := X1.cell 0 _ rfl; have d1 := X1.cell 1 _ rfl; have d2 := X1.cell 2 _ rfl; have d3 := X1.cell 3 _ rfl; have d4 := X1.cell 4 _ rfl; have d5 := X1.cell 5 _ rfl
  have HW := hid hw1
  have B1 := hid b1
  clear hw1 X1 X2 b1
  obtain ⟨R, hR⟩ : ∃ R, R = sumB c s := ⟨_, rfl⟩
  rw [← hR]
  have K : Hid (R = (inB s.amt 0 1000000000000 && spanB c.a c.b s.a s.b)) := hid hR
  clear hR
  have c1 := hid (between_any s.amt 0 1000000000000 w1)
  have c2 := hid (within_any c s.a s.b ma mc sa sc pa pc w1)
  rcases Bool.eq_false_or_eq_true (inB s.amt 0 1000000000000) with g | g <;> rw [g] at c1 K
  · go_enter Tryz.func36, Tryz.ntmps36
    go_upto_region 1 with fail
    rw [← HW.out]
    clear HW
    go_wp2_with fail
    refine c1.out.mono ?_
    rintro e w' ⟨rfl, rfl⟩
    go_wp2_with fail
    refine c2.out.mono ?_
    rintro e w' ⟨rfl, b⟩
    have BF := hid (bel_on B1.out b)
    clear b
    go_wp2
    go_ret
    exact rbb (by rw [K.out]; rfl) BF.out
  · go_enter Tryz.func36, Tryz.ntmps36
    go_upto_region 1 with fail
    rw [← HW.out]
    clear HW
    go_wp2_with fail
    refine c1.out.mono ?_
    rintro e w' ⟨rfl, rfl⟩
    go_wp2
    go_ret
    exact rbb (by rw [K.out]; rfl) B1.out
theorem goodSum1_any (c : Cor) (s : Mm.Sm) (ma : Option Addr) (mc : Nat) (sa : Option Addr) (sc : Nat) (pa : Option Addr) (pc : Nat) (k : Nat) (w : World) (X : Box w k [.string c.cur, .int .i64 c.a, .int .i64 c.b, .slice ma c.meters.length mc, .slice sa c.sums.length sc, .slice pa c.parts.length pc]) : Calls Tryz.prog 35 #[.agg #[.int .i64 s.amt, .int .i64 s.a, .int .i64 s.b], .pointer (some ⟨k, 0, none⟩)] w fun e w' => e = .returned (.bool (sumB c s)) ∧ Below w.heap.size w w' := by
  have b1 := bel_alloc w (.cells #[.int .i64 s.amt, .int .i64 s.a, .int .i64 s.b] 52)
  have d0 := X.cell 0 _ rfl; have d1 := X.cell 1 _ rfl; have d2 := X.cell 2 _ rfl; have d3 := X.cell 3 _ rfl; have d4 := X.cell 4 _ rfl; have d5 := X.cell 5 _ rfl
  have lk := X.lt
  have B1 := hid b1
  have c2 := hid (fun W => goodSum_any c s ma mc sa sc pa pc W)
  clear b1 X
  go_enter Tryz.func35, Tryz.ntmps35
  go_wp2_with fail
  refine (c2.out _).mono ?_
  rintro e w' ⟨rfl, b⟩
  have BF := hid (bel_on B1.out b)
  clear b
  go_wp2
  go_ret
  exact rbb rfl BF.out
/-- Where the first one of a row stands that isn't as it must be. -/
def scanB {α : Type} (q : α → Bool) : List α → Int → Int
  | [], _ => -1
  | x :: r, i => if q x then scanB q r (i + 1) else i
theorem scanB_drop {α : Type} {q : α → Bool} {l : List α} {i : Nat} {x : α} (h : l[i]? = some x) : scanB q (l.drop i) i = if q x then scanB q (l.drop (i + 1)) ((i : Int) + 1) else (i : Int) := by
  obtain ⟨hl, e⟩ := List.getElem?_eq_some_iff.1 h
  rw [List.drop_eq_getElem_cons hl, scanB, e]
theorem scanB_all {α : Type} {q : α → Bool} : ∀ (l : List α) (i : Int), 0 ≤ i → decide (scanB q l i < 0) = l.all q
  | [], i, _ => rfl
  | x :: r, i, h => by
    unfold scanB
    rcases Bool.eq_false_or_eq_true (q x) with g | g
    · rw [g, if_pos rfl, scanB_all r (i + 1) (by omega), List.all_cons, g, Bool.true_and]
    · rw [g, if_neg (by simp), List.all_cons, g, Bool.false_and]
      exact decide_eq_false (by omega)
theorem sum_at {w : World} {ao : Option Addr} {len cap : Nat} {xs : List Mm.Sm} (h : Row tSm w ao len cap xs) {j : Nat} {m : Mm.Sm} (hj : xs[j]? = some m) :
    ∃ b o, ao = some ⟨b, o, none⟩ ∧ b < w.heap.size ∧ w.cell? ⟨b, o + j * 3, none⟩ = some (.int .i64 m.amt) ∧ w.cell? ⟨b, o + j * 3 + 1, none⟩ = some (.int .i64 m.a) ∧ w.cell? ⟨b, o + j * 3 + 2, none⟩ = some (.int .i64 m.b) ∧ I64 m.amt ∧ I64 m.a ∧ I64 m.b := by
  obtain ⟨b, o, cs, h1, h2, ⟨h3, h5⟩, h4⟩ := h.at hj
  subst h3
  exact ⟨b, o, h1, h2, lies0 (h4 0 _ rfl), h4 1 _ rfl, h4 2 _ rfl, h5⟩
theorem notA_any (x : Adj) (b : Nat) (w : World) (hb : b < w.heap.size) (hk : w.cell? ⟨b, 0, none⟩ = some (.func (.func 71) #[] #[])) : Calls Tryz.prog 99 #[.agg #[.int .i64 x.kind, .int .i64 x.num, .int .i64 x.mode], .pointer (some ⟨b, 0, none⟩)] w fun e w' => e = .returned (.bool (!adjB x)) ∧ Below w.heap.size w w' := by
  have b1 := bel_alloc w (.cells #[.int .i64 x.kind, .int .i64 x.num, .int .i64 x.mode] 115)
  have c1 := hid (fun (W : World) (bw : Below w.heap.size w W) => goodAdjust_any x W)
  have HB := hid b1
  clear b1 
  go_enter Tryz.func99, Tryz.ntmps99
  go_wp2_with fail
  refine (c1.out _ HB.out).mono ?_
  rintro e w' ⟨rfl, b2⟩
  have BF := hid (bel_on HB.out b2)
  clear b2 c1
  go_wp2
  go_ret
  exact rbb rfl BF.out
set_option maxHeartbeats 4000000 in
set_option maxRecDepth 100000 in
theorem idxA_any (xs : List Adj) (xa : Option Addr) (xc : Nat) (b : Nat) (w : World) (hx : Row tAdj w xa xs.length xc xs) (hb : b < w.heap.size) (hk : w.cell? ⟨b, 0, none⟩ = some (.func (.func 71) #[] #[])) :
    Calls Tryz.prog 110 #[.slice xa xs.length xc, .func (.func 99) #[] #[.pointer (some ⟨b, 0, none⟩)]] w fun e w' => e = .returned (.int .i64 (scanB adjB xs 0)) ∧ Below w.heap.size w w' := by
  obtain ⟨n, hn⟩ : ∃ n, n = xs.length := ⟨_, rfl⟩
  have u1 := hx.hcap
  have u2 := hx.hmax
  obtain ⟨R, hR⟩ : ∃ R, R = scanB adjB xs 0 := ⟨_, rfl⟩
  rw [← hR]
  have HR := hid hR
  rw [← hn] at hx u1 ⊢
  have HX := hid hx
  have HN := hid hn
  have cN := hid (fun (x : Adj) (W : World) (bw : Below w.heap.size w W) => notA_any x b W (Nat.lt_of_lt_of_le hb bw.size) (by rw [bw.cell hb]; exact hk) )
  clear hR hx hn hb hk 
  go_enter Tryz.func110, Tryz.ntmps110
  go_wp2
  go_loopw [8] (fun i wr => ∃ i' : Int, i = .int .i64 i' ∧ 0 ≤ i' ∧ i' ≤ n ∧ Hid (R = scanB adjB (xs.drop i'.toNat) i') ∧ Hid (Below w.heap.size w wr)) (fun i _ => ((n : Int) - intOf i).toNat)
  case atStart => exact ⟨0, rfl, by omega, by omega, hid HR.out, hid (Below.refl _ _)⟩
  case round =>
    obtain ⟨i', rfl, i0, i1, hh, hb⟩ := hrel
    by_cases hlt : i' < n
    · obtain ⟨x, tx⟩ : ∃ x, xs[i'.toNat]? = some x := ⟨_, List.getElem?_eq_getElem (by have := HN.out; omega)⟩
      have K : Hid (R = if adjB x then scanB adjB (xs.drop (i' + 1).toNat) (i' + 1) else i') := hid (by
        have := scanB_drop (q := adjB) tx
        rw [show ((i'.toNat : Nat) : Int) = i' by omega] at this
        rw [hh.out, this, show (i' + 1).toNat = i'.toNat + 1 by omega])
      obtain ⟨bx, ox, e, lbx, x0, x1, x2, _⟩ := adj_at (HX.out.on hb.out) tx
      subst e
      have cS := hid (cN.out x wr hb.out)
      clear tx hh
      go_wp2_with fail
      refine cS.out.mono ?_
      rintro e w' ⟨rfl, b3⟩
      have HB := hid (bel_on hb.out b3)
      clear cS b3
      rcases Bool.eq_false_or_eq_true (adjB x) with g | g
      · have K2 : Hid (R = scanB adjB (xs.drop (i' + 1).toNat) (i' + 1)) := hid (by rw [K.out, if_pos g])
        rw [g]
        clear g K
        go_wp2
        go_roundw
        case rel => exact ⟨i' + 1, rfl, by omega, by omega, K2, HB⟩
        case measure => simp [intOf]; omega
      · have K2 : Hid (R = i') := hid (by rw [K.out, g]; rfl)
        rw [g]
        clear g K
        go_wp2
        go_ret
        exact ⟨by rw [K2.out]; rfl, HB.out⟩
    · obtain rfl : i' = n := by omega
      have K2 : Hid (R = -1) := hid (by rw [hh.out, List.drop_eq_nil_of_le (by have := HN.out; omega)]; rfl)
      go_wp2
      go_ret
      exact ⟨by rw [K2.out]; rfl, hb.out⟩
theorem findA_any (xs : List Adj) (xa : Option Addr) (xc : Nat) (b : Nat) (w : World) (hx : Row tAdj w xa xs.length xc xs) (hb : b < w.heap.size) (hk : w.cell? ⟨b, 0, none⟩ = some (.func (.func 71) #[] #[])) :
    Calls Tryz.prog 98 #[.slice xa xs.length xc, .func (.func 99) #[] #[.pointer (some ⟨b, 0, none⟩)]] w fun e w' => e = .returned (.int .i64 (scanB adjB xs 0)) ∧ Below w.heap.size w w' := by
  have cI := idxA_any xs xa xc b w hx hb hk 
  clear hx hb hk 
  go_enter Tryz.func98, Tryz.ntmps98
  go_wp2_with fail
  refine cI.mono ?_
  rintro e w' ⟨rfl, b⟩
  clear cI
  go_wp2
  go_ret
  exact ⟨rfl, b⟩
theorem allA_any (xs : List Adj) (xa : Option Addr) (xc : Nat) (w : World) (hx : Row tAdj w xa xs.length xc xs) :
    Calls Tryz.prog 70 #[.slice xa xs.length xc, .func (.func 71) #[] #[]] w fun e w' => e = .returned (.bool (xs.all adjB)) ∧ Below w.heap.size w w' := by
  obtain ⟨w1, hw1⟩ : ∃ W, W = w.alloc (.cells ([.func (.func 71) #[] #[]] : List Value).toArray 129) := ⟨_, rfl⟩
  have b1 : Below w.heap.size w w1 := by rw [hw1]; exact bel_alloc _ _
  have X1 : Box w1 w.heap.size [.func (.func 71) #[] #[]] := by rw [hw1]; exact Box.new _ _ _
  have cI := hid (findA_any xs xa xc w.heap.size w1 (hx.on b1) X1.lt (X1.cell 0 _ rfl) )
  have HW := hid hw1
  have B1 := hid b1
  have E : Hid (decide (scanB adjB xs 0 < 0) = xs.all adjB) := hid (scanB_all xs 0 (by omega))
  obtain ⟨r, hr⟩ : ∃ r, r = scanB adjB xs 0 := ⟨_, rfl⟩
  rw [← hr] at cI E
  clear hr hx X1 hw1 b1 
  go_enter Tryz.func70, Tryz.ntmps70
  go_wp2_with fail
  rw [← HW.out]
  refine cI.out.mono ?_
  rintro e w' ⟨rfl, b⟩
  have BF := hid (bel_on B1.out b)
  clear b cI HW
  go_wp2
  go_ret
  exact rbb E.out BF.out
theorem notT_any (x : Tier) (b : Nat) (w : World) (hb : b < w.heap.size) (hk : w.cell? ⟨b, 0, none⟩ = some (.func (.func 97) #[] #[])) : Calls Tryz.prog 109 #[.agg #[.int .i64 x.upto, .int .i64 x.rate], .pointer (some ⟨b, 0, none⟩)] w fun e w' => e = .returned (.bool (!rateB x)) ∧ Below w.heap.size w w' := by
  have b1 := bel_alloc w (.cells #[.int .i64 x.upto, .int .i64 x.rate] 54)
  have c1 := hid (fun (W : World) (bw : Below w.heap.size w W) => goodRate_any x W)
  have HB := hid b1
  clear b1 
  go_enter Tryz.func109, Tryz.ntmps109
  go_wp2_with fail
  refine (c1.out _ HB.out).mono ?_
  rintro e w' ⟨rfl, b2⟩
  have BF := hid (bel_on HB.out b2)
  clear b2 c1
  go_wp2
  go_ret
  exact rbb rfl BF.out
set_option maxHeartbeats 4000000 in
set_option maxRecDepth 100000 in
theorem idxT_any (xs : List Tier) (xa : Option Addr) (xc : Nat) (b : Nat) (w : World) (hx : Row tTier w xa xs.length xc xs) (hb : b < w.heap.size) (hk : w.cell? ⟨b, 0, none⟩ = some (.func (.func 97) #[] #[])) :
    Calls Tryz.prog 120 #[.slice xa xs.length xc, .func (.func 109) #[] #[.pointer (some ⟨b, 0, none⟩)]] w fun e w' => e = .returned (.int .i64 (scanB rateB xs 0)) ∧ Below w.heap.size w w' := by
  obtain ⟨n, hn⟩ : ∃ n, n = xs.length := ⟨_, rfl⟩
  have u1 := hx.hcap
  have u2 := hx.hmax
  obtain ⟨R, hR⟩ : ∃ R, R = scanB rateB xs 0 := ⟨_, rfl⟩
  rw [← hR]
  have HR := hid hR
  rw [← hn] at hx u1 ⊢
  have HX := hid hx
  have HN := hid hn
  have cN := hid (fun (x : Tier) (W : World) (bw : Below w.heap.size w W) => notT_any x b W (Nat.lt_of_lt_of_le hb bw.size) (by rw [bw.cell hb]; exact hk) )
  clear hR hx hn hb hk 
  go_enter Tryz.func120, Tryz.ntmps120
  go_wp2
  go_loopw [8] (fun i wr => ∃ i' : Int, i = .int .i64 i' ∧ 0 ≤ i' ∧ i' ≤ n ∧ Hid (R = scanB rateB (xs.drop i'.toNat) i') ∧ Hid (Below w.heap.size w wr)) (fun i _ => ((n : Int) - intOf i).toNat)
  case atStart => exact ⟨0, rfl, by omega, by omega, hid HR.out, hid (Below.refl _ _)⟩
  case round =>
    obtain ⟨i', rfl, i0, i1, hh, hb⟩ := hrel
    by_cases hlt : i' < n
    · obtain ⟨x, tx⟩ : ∃ x, xs[i'.toNat]? = some x := ⟨_, List.getElem?_eq_getElem (by have := HN.out; omega)⟩
      have K : Hid (R = if rateB x then scanB rateB (xs.drop (i' + 1).toNat) (i' + 1) else i') := hid (by
        have := scanB_drop (q := rateB) tx
        rw [show ((i'.toNat : Nat) : Int) = i' by omega] at this
        rw [hh.out, this, show (i' + 1).toNat = i'.toNat + 1 by omega])
      obtain ⟨bx, ox, e, lbx, x0, x1, _⟩ := tier_at (HX.out.on hb.out) tx
      subst e
      have cS := hid (cN.out x wr hb.out)
      clear tx hh
      go_wp2_with fail
      refine cS.out.mono ?_
      rintro e w' ⟨rfl, b3⟩
      have HB := hid (bel_on hb.out b3)
      clear cS b3
      rcases Bool.eq_false_or_eq_true (rateB x) with g | g
      · have K2 : Hid (R = scanB rateB (xs.drop (i' + 1).toNat) (i' + 1)) := hid (by rw [K.out, if_pos g])
        rw [g]
        clear g K
        go_wp2
        go_roundw
        case rel => exact ⟨i' + 1, rfl, by omega, by omega, K2, HB⟩
        case measure => simp [intOf]; omega
      · have K2 : Hid (R = i') := hid (by rw [K.out, g]; rfl)
        rw [g]
        clear g K
        go_wp2
        go_ret
        exact ⟨by rw [K2.out]; rfl, HB.out⟩
    · obtain rfl : i' = n := by omega
      have K2 : Hid (R = -1) := hid (by rw [hh.out, List.drop_eq_nil_of_le (by have := HN.out; omega)]; rfl)
      go_wp2
      go_ret
      exact ⟨by rw [K2.out]; rfl, hb.out⟩
theorem findT_any (xs : List Tier) (xa : Option Addr) (xc : Nat) (b : Nat) (w : World) (hx : Row tTier w xa xs.length xc xs) (hb : b < w.heap.size) (hk : w.cell? ⟨b, 0, none⟩ = some (.func (.func 97) #[] #[])) :
    Calls Tryz.prog 108 #[.slice xa xs.length xc, .func (.func 109) #[] #[.pointer (some ⟨b, 0, none⟩)]] w fun e w' => e = .returned (.int .i64 (scanB rateB xs 0)) ∧ Below w.heap.size w w' := by
  have cI := idxT_any xs xa xc b w hx hb hk 
  clear hx hb hk 
  go_enter Tryz.func108, Tryz.ntmps108
  go_wp2_with fail
  refine cI.mono ?_
  rintro e w' ⟨rfl, b⟩
  clear cI
  go_wp2
  go_ret
  exact ⟨rfl, b⟩
theorem allT_any (xs : List Tier) (xa : Option Addr) (xc : Nat) (w : World) (hx : Row tTier w xa xs.length xc xs) :
    Calls Tryz.prog 96 #[.slice xa xs.length xc, .func (.func 97) #[] #[]] w fun e w' => e = .returned (.bool (xs.all rateB)) ∧ Below w.heap.size w w' := by
  obtain ⟨w1, hw1⟩ : ∃ W, W = w.alloc (.cells ([.func (.func 97) #[] #[]] : List Value).toArray 143) := ⟨_, rfl⟩
  have b1 : Below w.heap.size w w1 := by rw [hw1]; exact bel_alloc _ _
  have X1 : Box w1 w.heap.size [.func (.func 97) #[] #[]] := by rw [hw1]; exact Box.new _ _ _
  have cI := hid (findT_any xs xa xc w.heap.size w1 (hx.on b1) X1.lt (X1.cell 0 _ rfl) )
  have HW := hid hw1
  have B1 := hid b1
  have E : Hid (decide (scanB rateB xs 0 < 0) = xs.all rateB) := hid (scanB_all xs 0 (by omega))
  obtain ⟨r, hr⟩ : ∃ r, r = scanB rateB xs 0 := ⟨_, rfl⟩
  rw [← hr] at cI E
  clear hr hx X1 hw1 b1 
  go_enter Tryz.func96, Tryz.ntmps96
  go_wp2_with fail
  rw [← HW.out]
  refine cI.out.mono ?_
  rintro e w' ⟨rfl, b⟩
  have BF := hid (bel_on B1.out b)
  clear b cI HW
  go_wp2
  go_ret
  exact rbb E.out BF.out
theorem notS_any (x : Mm.Sm) (c : Cor) (ma : Option Addr) (mc : Nat) (sa : Option Addr) (sc : Nat) (pa : Option Addr) (pc : Nat) (k : Nat) (b : Nat) (w : World) (hb : b < w.heap.size) (hk : w.cell? ⟨b, 0, none⟩ = some (.func (.func 35) #[] #[.pointer (some ⟨k, 0, none⟩)])) (X : Box w k [.string c.cur, .int .i64 c.a, .int .i64 c.b, .slice ma c.meters.length mc, .slice sa c.sums.length sc, .slice pa c.parts.length pc]) : Calls Tryz.prog 64 #[.agg #[.int .i64 x.amt, .int .i64 x.a, .int .i64 x.b], .pointer (some ⟨b, 0, none⟩)] w fun e w' => e = .returned (.bool (!sumB c x)) ∧ Below w.heap.size w w' := by
  have b1 := bel_alloc w (.cells #[.int .i64 x.amt, .int .i64 x.a, .int .i64 x.b] 52)
  have c1 := hid (fun (W : World) (bw : Below w.heap.size w W) => goodSum1_any c x ma mc sa sc pa pc k W (X.on bw))
  have HB := hid b1
  clear b1 X
  go_enter Tryz.func64, Tryz.ntmps64
  go_wp2_with fail
  refine (c1.out _ HB.out).mono ?_
  rintro e w' ⟨rfl, b2⟩
  have BF := hid (bel_on HB.out b2)
  clear b2 c1
  go_wp2
  go_ret
  exact rbb rfl BF.out
set_option maxHeartbeats 4000000 in
set_option maxRecDepth 100000 in
theorem idxS_any (xs : List Mm.Sm) (xa : Option Addr) (xc : Nat) (c : Cor) (ma : Option Addr) (mc : Nat) (sa : Option Addr) (sc : Nat) (pa : Option Addr) (pc : Nat) (k : Nat) (b : Nat) (w : World) (hx : Row tSm w xa xs.length xc xs) (hb : b < w.heap.size) (hk : w.cell? ⟨b, 0, none⟩ = some (.func (.func 35) #[] #[.pointer (some ⟨k, 0, none⟩)])) (X : Box w k [.string c.cur, .int .i64 c.a, .int .i64 c.b, .slice ma c.meters.length mc, .slice sa c.sums.length sc, .slice pa c.parts.length pc]) :
    Calls Tryz.prog 94 #[.slice xa xs.length xc, .func (.func 64) #[] #[.pointer (some ⟨b, 0, none⟩)]] w fun e w' => e = .returned (.int .i64 (scanB (sumB c) xs 0)) ∧ Below w.heap.size w w' := by
  obtain ⟨n, hn⟩ : ∃ n, n = xs.length := ⟨_, rfl⟩
  have u1 := hx.hcap
  have u2 := hx.hmax
  obtain ⟨R, hR⟩ : ∃ R, R = scanB (sumB c) xs 0 := ⟨_, rfl⟩
  rw [← hR]
  have HR := hid hR
  rw [← hn] at hx u1 ⊢
  have HX := hid hx
  have HN := hid hn
  have cN := hid (fun (x : Mm.Sm) (W : World) (bw : Below w.heap.size w W) => notS_any x c ma mc sa sc pa pc k b W (Nat.lt_of_lt_of_le hb bw.size) (by rw [bw.cell hb]; exact hk) (X.on bw))
  clear hR hx hn hb hk X
  go_enter Tryz.func94, Tryz.ntmps94
  go_wp2
  go_loopw [8] (fun i wr => ∃ i' : Int, i = .int .i64 i' ∧ 0 ≤ i' ∧ i' ≤ n ∧ Hid (R = scanB (sumB c) (xs.drop i'.toNat) i') ∧ Hid (Below w.heap.size w wr)) (fun i _ => ((n : Int) - intOf i).toNat)
  case atStart => exact ⟨0, rfl, by omega, by omega, hid HR.out, hid (Below.refl _ _)⟩
  case round =>
    obtain ⟨i', rfl, i0, i1, hh, hb⟩ := hrel
    by_cases hlt : i' < n
    · obtain ⟨x, tx⟩ : ∃ x, xs[i'.toNat]? = some x := ⟨_, List.getElem?_eq_getElem (by have := HN.out; omega)⟩
      have K : Hid (R = if sumB c x then scanB (sumB c) (xs.drop (i' + 1).toNat) (i' + 1) else i') := hid (by
        have := scanB_drop (q := (sumB c)) tx
        rw [show ((i'.toNat : Nat) : Int) = i' by omega] at this
        rw [hh.out, this, show (i' + 1).toNat = i'.toNat + 1 by omega])
      obtain ⟨bx, ox, e, lbx, x0, x1, x2, _⟩ := sum_at (HX.out.on hb.out) tx
      subst e
      have cS := hid (cN.out x wr hb.out)
      clear tx hh
      go_wp2_with fail
      refine cS.out.mono ?_
      rintro e w' ⟨rfl, b3⟩
      have HB := hid (bel_on hb.out b3)
      clear cS b3
      rcases Bool.eq_false_or_eq_true (sumB c x) with g | g
      · have K2 : Hid (R = scanB (sumB c) (xs.drop (i' + 1).toNat) (i' + 1)) := hid (by rw [K.out, if_pos g])
        rw [g]
        clear g K
        go_wp2
        go_roundw
        case rel => exact ⟨i' + 1, rfl, by omega, by omega, K2, HB⟩
        case measure => simp [intOf]; omega
      · have K2 : Hid (R = i') := hid (by rw [K.out, g]; rfl)
        rw [g]
        clear g K
        go_wp2
        go_ret
        exact ⟨by rw [K2.out]; rfl, HB.out⟩
    · obtain rfl : i' = n := by omega
      have K2 : Hid (R = -1) := hid (by rw [hh.out, List.drop_eq_nil_of_le (by have := HN.out; omega)]; rfl)
      go_wp2
      go_ret
      exact ⟨by rw [K2.out]; rfl, hb.out⟩
theorem findS_any (xs : List Mm.Sm) (xa : Option Addr) (xc : Nat) (c : Cor) (ma : Option Addr) (mc : Nat) (sa : Option Addr) (sc : Nat) (pa : Option Addr) (pc : Nat) (k : Nat) (b : Nat) (w : World) (hx : Row tSm w xa xs.length xc xs) (hb : b < w.heap.size) (hk : w.cell? ⟨b, 0, none⟩ = some (.func (.func 35) #[] #[.pointer (some ⟨k, 0, none⟩)])) (X : Box w k [.string c.cur, .int .i64 c.a, .int .i64 c.b, .slice ma c.meters.length mc, .slice sa c.sums.length sc, .slice pa c.parts.length pc]) :
    Calls Tryz.prog 63 #[.slice xa xs.length xc, .func (.func 64) #[] #[.pointer (some ⟨b, 0, none⟩)]] w fun e w' => e = .returned (.int .i64 (scanB (sumB c) xs 0)) ∧ Below w.heap.size w w' := by
  have cI := idxS_any xs xa xc c ma mc sa sc pa pc k b w hx hb hk X
  clear hx hb hk X
  go_enter Tryz.func63, Tryz.ntmps63
  go_wp2_with fail
  refine cI.mono ?_
  rintro e w' ⟨rfl, b⟩
  clear cI
  go_wp2
  go_ret
  exact ⟨rfl, b⟩
theorem allS_any (xs : List Mm.Sm) (xa : Option Addr) (xc : Nat) (c : Cor) (ma : Option Addr) (mc : Nat) (sa : Option Addr) (sc : Nat) (pa : Option Addr) (pc : Nat) (k : Nat) (w : World) (hx : Row tSm w xa xs.length xc xs) (X : Box w k [.string c.cur, .int .i64 c.a, .int .i64 c.b, .slice ma c.meters.length mc, .slice sa c.sums.length sc, .slice pa c.parts.length pc]) :
    Calls Tryz.prog 34 #[.slice xa xs.length xc, .func (.func 35) #[] #[.pointer (some ⟨k, 0, none⟩)]] w fun e w' => e = .returned (.bool (xs.all (sumB c))) ∧ Below w.heap.size w w' := by
  obtain ⟨w1, hw1⟩ : ∃ W, W = w.alloc (.cells ([.func (.func 35) #[] #[.pointer (some ⟨k, 0, none⟩)]] : List Value).toArray 95) := ⟨_, rfl⟩
  have b1 : Below w.heap.size w w1 := by rw [hw1]; exact bel_alloc _ _
  have X1 : Box w1 w.heap.size [.func (.func 35) #[] #[.pointer (some ⟨k, 0, none⟩)]] := by rw [hw1]; exact Box.new _ _ _
  have cI := hid (findS_any xs xa xc c ma mc sa sc pa pc k w.heap.size w1 (hx.on b1) X1.lt (X1.cell 0 _ rfl) (X.on b1))
  have HW := hid hw1
  have B1 := hid b1
  have E : Hid (decide (scanB (sumB c) xs 0 < 0) = xs.all (sumB c)) := hid (scanB_all xs 0 (by omega))
  obtain ⟨r, hr⟩ : ∃ r, r = scanB (sumB c) xs 0 := ⟨_, rfl⟩
  rw [← hr] at cI E
  clear hr hx X1 hw1 b1 X
  go_enter Tryz.func34, Tryz.ntmps34
  go_wp2_with fail
  rw [← HW.out]
  refine cI.out.mono ?_
  rintro e w' ⟨rfl, b⟩
  have BF := hid (bel_on B1.out b)
  clear b cI HW
  go_wp2
  go_ret
  exact rbb E.out BF.out
end Go.Proofs.YtjgogpaedaffkaaGreat.Co
/- What package date does. -/
namespace Go.Proofs.YtjgogpaedaffkaaGreat.Dt
open Go.RowKit Go.Sort P
theorem leap_any (y : Int) (w : World) :
    Calls Tryz.prog 107 #[.int .i64 y] w fun e w' => e = .returned (.bool (leap y)) ∧ w' = w := by
  go_enter Tryz.func107, Tryz.ntmps107
  go_wp2
  all_goals
    go_ret
    refine ⟨ret_b ?_, rfl⟩
    unfold leap
    simp_all [tm0]
    try exact tmb _ _
theorem days_any (y m : Int) (w : World) :
    Calls Tryz.prog 93 #[.int .i64 y, .int .i64 m] w fun e w' => e = .returned (.int .i64 (days y m)) ∧ w' = w := by
  go_enter Tryz.func93, Tryz.ntmps93
  go_wp2_with (go_at_call 107; refine (leap_any _ _).mono ?_; rintro e w' ⟨rfl, rfl⟩)
  all_goals
    go_ret
    refine ⟨ret_i ?_, rfl⟩
    unfold days lp
    simp_all
    try omega
theorem yrs_any (y : Int) (w : World) (h0 : 1 ≤ y) (h1 : y ≤ 10001) :
    Calls Tryz.prog 92 #[.int .i64 y] w fun e w' => e = .returned (.int .i64 (yrs y)) ∧ w' = w := by
  go_enter Tryz.func92, Tryz.ntmps92
  go_wp2
  go_ret
  exact ⟨ret_i (by unfold yrs; rfl), rfl⟩
theorem of_no (n : Int) (w : World) (h : n < 0 ∨ 3652059 ≤ n) :
    Calls Tryz.prog 61 #[.int .i64 n] w fun e w' => e = .returned (.tuple #[dv 0 0 0, .bool false]) ∧ Below w.heap.size w w' := by
  have cA : ∀ W, Calls Tryz.prog 92 #[.int .i64 10000] W fun e w' => e = .returned (.int .i64 3652059) ∧ w' = W := fun W => by
    have := yrs_any 10000 W (by omega) (by omega)
    rwa [yrs_10000] at this
  by_cases h0 : n < 0
  · go_enter Tryz.func61, Tryz.ntmps61
    go_wp2
    exact bodyPost_ret (v := .tuple #[.agg #[.int .i64 0, .int .i64 0, .int .i64 0], .bool false]) (by simp [results, Tryz.results61, go_sem]) rfl ⟨rfl, (Below.refl _ _).alloc (Nat.le_refl _) _⟩
  · have h1 : 3652059 ≤ n := by omega
    clear h
    go_enter Tryz.func61, Tryz.ntmps61
    go_wp2_with (go_at_call 92; refine (cA _).mono ?_; rintro e w' ⟨rfl, rfl⟩)
    exact bodyPost_ret (v := .tuple #[.agg #[.int .i64 0, .int .i64 0, .int .i64 0], .bool false]) (by simp [results, Tryz.results61, go_sem]) rfl ⟨rfl, (Below.refl _ _).alloc (Nat.le_refl _) _⟩
theorem of_yes (n : Int) (w : World) (h0 : 0 ≤ n) (h1 : n < 3652059) :
    Calls Tryz.prog 61 #[.int .i64 n] w fun e w' => (∃ y m d, good y m d = true ∧ num y m d = n ∧ e = .returned (.tuple #[dv y m d, .bool true])) ∧ Below w.heap.size w w' := by
  have cA : ∀ W, Calls Tryz.prog 92 #[.int .i64 10000] W fun e w' => e = .returned (.int .i64 3652059) ∧ w' = W := fun W => by
    have := yrs_any 10000 W (by omega) (by omega)
    rwa [yrs_10000] at this
  have g1 := yrs_guess h0
  have g0 : 0 ≤ n / 366 := by omega
  have g2 : n / 366 < 9999 := by omega
  go_enter Tryz.func61, Tryz.ntmps61
  go_wp2_with (go_at_call 92; refine (cA _).mono ?_; rintro e w' ⟨rfl, rfl⟩)
  go_loop [4] (fun s => ∃ y : Int, s = .int .i64 y ∧ 1 ≤ y ∧ y ≤ 9999 ∧ yrs y ≤ n) (fun s => (10000 - intOf s).toNat)
  case atStart => exact ⟨n / 366 + 1, rfl, by omega, by omega, g1⟩
  case round =>
    obtain ⟨y, rfl, y0, y1, hy⟩ := hrel
    have hb := yrs_bound (y := y + 1) (by omega) (by omega)
    by_cases ht : yrs (y + 1) ≤ n
    · have hlt : y + 1 ≤ 9999 := by
        rcases Decidable.em (y + 1 ≤ 9999) with k | k
        · exact k
        · have : y + 1 = 10000 := by omega
          rw [this, yrs_10000] at ht; omega
      go_wp2_with (go_at_call 92; refine (yrs_any _ _ (by omega) (by omega)).mono ?_; rintro e w' ⟨rfl, rfl⟩)
      go_round
      case rel => exact ⟨y + 1, rfl, by omega, hlt, ht⟩
      case measure => simp [intOf]; omega
    · have hs := yrs_step y
      have hl := lp_is y
      have hb0 := yrs_bound (y := y) (by omega) (by omega)
      have h13 := mon_13 y
      go_wp2_with (go_at_call 92; refine (yrs_any _ _ (by omega) (by omega)).mono ?_; rintro e w' ⟨rfl, rfl⟩)
      go_loop [5, 6] (fun r k => ∃ r' k' : Int, r = .int .i64 r' ∧ k = .int .i64 k' ∧ 1 ≤ k' ∧ k' ≤ 12 ∧ 0 ≤ r' ∧ r' + mon y k' + yrs y = n) (fun _ k => (13 - intOf k).toNat)
      case atStart => exact ⟨n - yrs y, 1, rfl, rfl, by omega, by omega, by omega, by rw [mon_1]; omega⟩
      case round =>
        obtain ⟨r', k', rfl, rfl, k0, k1, r0, hr⟩ := hrel
        have hst := mon_step (y := y) k0 k1
        have hd := days_in (y := y) k0 k1
        have hm := mon_bound (y := y) k0 (by omega)
        by_cases hc : days y k' ≤ r'
        · have hlt : k' + 1 ≤ 12 := by
            rcases Decidable.em (k' + 1 ≤ 12) with k | k
            · exact k
            · obtain rfl : k' = 12 := by omega
              rw [show (12 : Int) + 1 = 13 from rfl, h13] at hst; omega
          go_wp2_with (go_at_call 93; refine (days_any _ _ _).mono ?_; rintro e w' ⟨rfl, rfl⟩)
          go_round
          case rel => exact ⟨r' - days y k', k' + 1, rfl, rfl, by omega, hlt, by omega, by rw [hst]; omega⟩
          case measure => simp [intOf]; omega
        · go_wp2_with (go_at_call 93; refine (days_any _ _ _).mono ?_; rintro e w' ⟨rfl, rfl⟩)
          have g : good y k' (r' + 1) = true := good_iff.2 ⟨y0, y1, k0, k1, by omega, by omega⟩
          have e : num y k' (r' + 1) = n := by unfold num; omega
          exact bodyPost_ret (v := .tuple #[.agg #[.int .i64 y, .int .i64 k', .int .i64 (r' + 1)], .bool true]) (by simp [results, Tryz.results61, go_sem]) rfl ⟨⟨y, k', r' + 1, g, e, rfl⟩, (Below.refl _ _).alloc (Nat.le_refl _) _⟩
end Go.Proofs.YtjgogpaedaffkaaGreat.Dt
