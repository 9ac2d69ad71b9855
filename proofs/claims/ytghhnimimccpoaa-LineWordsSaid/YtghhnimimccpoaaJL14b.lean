/- The document's lines (poundageref14): Mix. -/
import Derived.Test.YtghhnimimccpoaaJRef14b
import Derived.Deep.RegionLaw
import Derived.Deep.RegionHeldLaw
import Derived.Deep.AppendLies
import Derived.RangeFuncNested
import Derived.RangeFuncBound
import Derived.RangeFuncCalls
import Derived.RangeFuncLeaves
import Derived.RangeFuncBox
import Derived.Shelf.Abstract
import Derived.Shelf.RegionOpen
import Derived.WalkKit
import Derived.OwnWalkIn
import Derived.TacticsInMore
import Derived.LoopNIn
import Derived.LoopIn
import Derived.Maps.AppendAt
namespace Go.Proofs.Ytghhnimimccpoaa.P
end Go.Proofs.Ytghhnimimccpoaa.P
namespace Go.Proofs.Ytghhnimimccpoaa.Mm
end Go.Proofs.Ytghhnimimccpoaa.Mm
namespace Go.Proofs.Ytghhnimimccpoaa.R6
end Go.Proofs.Ytghhnimimccpoaa.R6
namespace Go.Proofs.Ytghhnimimccpoaa.R14
end Go.Proofs.Ytghhnimimccpoaa.R14
namespace Go.Proofs.Ytghhnimimccpoaa.R14
open Go.RowKit Go.Sort P Mm R6
def mixF (a b : Int) : Int := (2 * a.tmod 1000 + 3 * b.tmod 1000).tmod 5
theorem tm1000 (a : Int) : -1000 < a.tmod 1000 ∧ a.tmod 1000 < 1000 := by
  have h1 := Int.tmod_lt_of_pos a (show (0 : Int) < 1000 by decide)
  have h2 := Int.lt_tmod_of_pos a (show (0 : Int) < 1000 by decide)
  exact ⟨h2, h1⟩
set_option maxHeartbeats 1600000 in
set_option maxRecDepth 100000 in
theorem mix_any (a b : Int) (w : World) : Calls Try.prog 23 #[.int .i64 a, .int .i64 b] w fun e w' => e = .returned (.int .i64 (mixF a b)) ∧ w = w' := by
  have h1 := tm1000 a
  have h2 := tm1000 b
  unfold mixF
  have w3 : wrap64 (2 * a.tmod 1000) = 2 * a.tmod 1000 := wrap_in (by unfold I64; omega)
  have w4 : wrap64 (3 * b.tmod 1000) = 3 * b.tmod 1000 := wrap_in (by unfold I64; omega)
  have w5 : wrap64 (2 * a.tmod 1000 + 3 * b.tmod 1000) = 2 * a.tmod 1000 + 3 * b.tmod 1000 := wrap_in (by unfold I64; omega)
  have H := hid (And.intro w3 (And.intro w4 w5))
  clear h1 h2 w3 w4 w5
  go_enter Try.func23, Try.ntmps23
  go_wp2
  go_ret
  refine ⟨?_, rfl⟩
  show Ending.returned (.int .i64 ((wrap64 (wrap64 (2 * a.tmod 1000) + wrap64 (3 * b.tmod 1000))).tmod 5)) = _
  rw [H.out.1, H.out.2.1, H.out.2.2]
/-- What comes of two lines' values, at the numbers that both have. -/
def zipL (f : Int → Int → Int) (k : Int) (l : List Int) (k' : Int) (l' : List Int) : List Int := List.zipWith f (l.drop (max k k' - k).toNat) (l'.drop (max k k' - k').toNat)
theorem zip_len (f : Int → Int → Int) (k : Int) (l : List Int) (k' : Int) (l' : List Int) : (zipL f k l k' l').length ≤ l.length := by
  unfold zipL
  rw [List.length_zipWith, List.length_drop]
  omega
theorem at_zip (k m : Int) (l : List Int) (i : Nat) (h : k ≤ m) : atL k l (m + i) = (l.drop (m - k).toNat)[i]? := by
  unfold atL
  rw [if_neg (by omega), List.getElem?_drop]
  congr 1
  omega
theorem zip_get (f : Int → Int → Int) (k : Int) (l : List Int) (k' : Int) (l' : List Int) (i : Nat) : (zipL f k l k' l')[i]? = match atL k l (max k k' + i), atL k' l' (max k k' + i) with
    | some a, some b => some (f a b)
    | _, _ => none := by
  rw [at_zip k (max k k') l i (by omega), at_zip k' (max k k') l' i (by omega)]
  unfold zipL
  rw [List.getElem?_zipWith]
  cases (List.drop (max k k' - k).toNat l)[i]? <;> cases (List.drop (max k k' - k').toNat l')[i]? <;> rfl
theorem mix_in (a b : Int) : I64 (mixF a b) := by
  unfold mixF I64
  have h1 := Int.tmod_lt_of_pos (2 * a.tmod 1000 + 3 * b.tmod 1000) (show (0 : Int) < 5 by decide)
  have h2 := Int.lt_tmod_of_pos (2 * a.tmod 1000 + 3 * b.tmod 1000) (show (0 : Int) < 5 by decide)
  omega
theorem zip_i {f : Int → Int → Int} (hf : ∀ a b, I64 (f a b)) (k : Int) (l : List Int) (k' : Int) (l' : List Int) : ∀ x ∈ zipL f k l k' l', I64 x := fun x hx => by
  unfold zipL at hx
  obtain ⟨i, hi, e⟩ := List.mem_iff_getElem.1 hx
  rw [← e, List.getElem_zipWith]
  exact hf _ _
theorem grown_unalloc {w w' : World} {x : Obj} {row : Option Nat} (h : (w.alloc x).grownBy w' row) : w.grownBy w' row :=
  ⟨h.os, h.tape, h.output, by have := h.size; simp at this; omega, fun k hk hne => (h.block k (by simp; omega) hne).trans (Below.heap_alloc w x k hk)⟩
theorem step_int {ops : Array Oper} {o : Oper} {a : Act} {K : Act → World → Prop} {Q : Exit → Act → World → Prop} {E : Prop} {W : World} {base : Nat} (t : Int) (d : Tmp) (hd : o.dst = some d) (hgd : o.guard = none) (s x : Operand)
    (ho : o.op = .call { callee := .builtin .append, args := #[s, x], argTypes := #[22, 22] }) (v : Value) (n : Nat) (xs : List Value) (hs : a.eval s = v) (hown : W.ownsRow base 3 1 v n xs)
    (hx : a.eval x = .slice (some ⟨W.heap.size, 0, none⟩) 1 1) (hn : n + 1 ≤ 1000000) (hbase : base ≤ W.heap.size)
    (h : ∀ g cap w', w'.ownsRow base 3 1 (.slice (some ⟨g, 0, none⟩) (n + 1) cap) (n + 1) (xs ++ intC t) → W.grownBy w' v.ownBlock → K (a.put (some d) (.slice (some ⟨g, 0, none⟩) (n + 1) cap)) w') :
    if Region.wanted o (yielded ops a.tmps) = true then Oper.wp Try.prog o a (W.alloc (.cells (intC t).toArray 3)) K Q else E := by
  obtain ⟨i0, hi, hz0, hz1, hz2⟩ := info_parts info_int
  refine step_append_lies _ hgd s x 22 ho base 3 i0 (.int .i64 0) 1 8 Try.underlying22 hi hz0 hz1 hz2 rfl (by decide) v n xs hs (hown.alloc _) ⟨W.heap.size, 0, none⟩ 1 1 (intC t) hx rfl (news_at W (intC t) _) (by simp [intC, Value.oneCell']) (by decide) (by unfold maxLen; omega) (by omega) (by simp; omega) _ rfl ?_
  intro g cap w' k1 k2 _ _
  rw [hd]
  exact h g cap w' k1 (grown_unalloc k2)
/-- Between two rounds of Zip. -/
structure ZI (w0 w : World) (n0 k1 k2 k3 k4 : Nat) (m k k' : Int) (la lb : Value) (n : Nat) (acc : List Int) : Prop where
  out : ∃ V, Box w k4 [.int .i64 m, V] ∧ w.ownsRow n0 3 1 V n (acc.flatMap intC)
  one : Box w k1 [.int .i64 k, la]
  two : Box w k2 [.int .i64 k', lb]
  res : Box w k3 [.int .i64 0, .slice none 0 0]
  bel : Below w0.heap.size w0 w
  size : n0 ≤ w.heap.size
theorem ZI.on {w0 w w' : World} {n0 k1 k2 k3 k4 : Nat} {m k k' : Int} {la lb : Value} {n : Nat} {acc : List Int} (h : ZI w0 w n0 k1 k2 k3 k4 m k k' la lb n acc) (b : Below w.heap.size w w') : ZI w0 w' n0 k1 k2 k3 k4 m k k' la lb n acc := by
  obtain ⟨V, h1, h2⟩ := h.out
  exact ⟨⟨V, h1.on b, owns_on h2 b⟩, h.one.on b, h.two.on b, h.res.on b, bel_on h.bel b, Nat.le_trans h.size b.size⟩
set_option maxHeartbeats 1600000 in
set_option maxRecDepth 100000 in
theorem zip_any (k : Int) (l : List Int) (ao : Option Addr) (cap : Nat) (k' : Int) (l' : List Int) (bo : Option Addr) (bcap : Nat) (w : World) (hl : Row tInt w ao l.length cap l) (hl' : Row tInt w bo l'.length bcap l') (hk : -2097152 ≤ k ∧ k ≤ 2097152) (hk' : -2097152 ≤ k' ∧ k' ≤ 2097152) (hn : l.length ≤ 100000) :
    Calls Try.prog 24 #[.agg #[.int .i64 k, .slice ao l.length cap], .agg #[.int .i64 k', .slice bo l'.length bcap]] w fun e w' => (∃ ao' cap', e = .returned (.agg #[.int .i64 (max k k'), .slice ao' (zipL mixF k l k' l').length cap']) ∧ Row tInt w' ao' (zipL mixF k l k' l').length cap' (zipL mixF k l k' l')) ∧ Below w.heap.size w w' := by
  obtain ⟨w1, hw1⟩ : ∃ W, W = w.alloc (.cells ([.int .i64 k, .slice ao l.length cap] : List Value).toArray 30) := ⟨_, rfl⟩
  obtain ⟨k1, hk1⟩ : ∃ k, k = w.heap.size := ⟨_, rfl⟩
  have b1 : Below w.heap.size w w1 := by rw [hw1]; exact bel_alloc _ _
  have X1 : Box w1 k1 [.int .i64 k, .slice ao l.length cap] := by rw [hw1, hk1]; exact Box.new w _ _
  obtain ⟨w2, hw2⟩ : ∃ W, W = w1.alloc (.cells ([.int .i64 k', .slice bo l'.length bcap] : List Value).toArray 30) := ⟨_, rfl⟩
  obtain ⟨k2, hk2⟩ : ∃ k, k = w1.heap.size := ⟨_, rfl⟩
  have b2 : Below w1.heap.size w1 w2 := by rw [hw2]; exact bel_alloc _ _
  have X2 : Box w2 k2 [.int .i64 k', .slice bo l'.length bcap] := by rw [hw2, hk2]; exact Box.new w1 _ _
  obtain ⟨w3, hw3⟩ : ∃ W, W = w2.alloc (.cells ([.int .i64 0, .slice none 0 0] : List Value).toArray 30) := ⟨_, rfl⟩
  obtain ⟨k3, hk3⟩ : ∃ k, k = w2.heap.size := ⟨_, rfl⟩
  have b3 : Below w2.heap.size w2 w3 := by rw [hw3]; exact bel_alloc _ _
  have X3 : Box w3 k3 [.int .i64 0, .slice none 0 0] := by rw [hw3, hk3]; exact Box.new w2 _ _
  obtain ⟨m, hm'⟩ : ∃ m, m = if k < k' then k' else k := ⟨_, rfl⟩
  have hm : m = max k k' := by rw [hm']; split <;> omega
  obtain ⟨w4, hw4⟩ : ∃ W, W = w3.alloc (.cells ([.int .i64 m, .slice none 0 0] : List Value).toArray 30) := ⟨_, rfl⟩
  obtain ⟨k4, hk4⟩ : ∃ k, k = w3.heap.size := ⟨_, rfl⟩
  have b4 : Below w3.heap.size w3 w4 := by rw [hw4]; exact bel_alloc _ _
  have X4 : Box w4 k4 [.int .i64 m, .slice none 0 0] := by rw [hw4, hk4]; exact Box.new w3 _ _
  obtain ⟨n0, hn0⟩ : ∃ n, n = w4.heap.size := ⟨_, rfl⟩
  have e1 : w1.heap.size = w.heap.size + 1 := by rw [hw1]; simp
  have e2 : w2.heap.size = w.heap.size + 2 := by rw [hw2]; simp [e1]
  have e3 : w3.heap.size = w.heap.size + 3 := by rw [hw3]; simp [e2]
  have e4 : w4.heap.size = w.heap.size + 4 := by rw [hw4]; simp [e3]
  have HW1 := hid hw1; have HW2 := hid hw2; have HW3 := hid hw3
  have HK1 := hid hk1
  have HK2 := hid (show k2 = k1 + 1 by omega)
  have HK3 := hid (show k3 = k2 + 1 by omega)
  have HK4 := hid hk4
  rw [hm'] at hw4
  have HW4 := hid hw4
  have HMI := hid hm'
  have HM := hid hm
  have HB := hid (show k1 < k2 ∧ k2 < k3 ∧ k3 < k4 ∧ k4 < n0 ∧ w.heap.size ≤ k1 by omega)
  have Y3 := hid (And.intro ((X1.on b2).on b3) (X2.on b3))
  have ZZ := hid (show ZI w w4 n0 k1 k2 k3 k4 m k k' (.slice ao l.length cap) (.slice bo l'.length bcap) 0 [] from
    ⟨⟨_, X4, World.ownsRow_nil _ _ _ _⟩, ((X1.on b2).on b3).on b4, (X2.on b3).on b4, X3.on b4, bel_on b1 (bel_on b2 (bel_on b3 b4)), by omega⟩)
  have HL := hid hl; have HL' := hid hl'
  have GK := hid (And.intro hk hk')
  have HN := hid hn
  have ZL := hid (zip_len mixF k l k' l')
  obtain ⟨i0, hi0, hz0, hz1, hz2⟩ := info_parts info_int
  clear hw1 hk1 X1 b1 hw2 hk2 X2 b2 hw3 hk3 X3 b3 hw4 hk4 X4 b4 hl hl' hk hk' e1 e2 e3 e4 hn0 hm hm' hn
  obtain ⟨L, hL⟩ : ∃ L, L = (zipL mixF k l k' l').length := ⟨_, rfl⟩
  have L5 := ZL.out
  rw [← hL] at L5 ⊢
  have L6 := HN.out
  have HLL := hid hL
  clear hL
  go_enter Try.func24, Try.ntmps24
  go_upto_region 1 with fail
  rw [← HW1.out, ← HK1.out, ← HW2.out, ← HK2.out, ← HW3.out, ← HK3.out]
  have c0 := Y3.out.1.cell 0 _ rfl
  have l1 := Y3.out.1.lt
  have d0 := Y3.out.2.cell 0 _ rfl
  have l2 := Y3.out.2.lt
  go_upto_region 2 with fail
  rw [← HW4.out, ← HK4.out, ← HMI.out]
  clear HW1 HW2 HW3 HW4 HK1 HK2 HK3 HK4 HMI c0 l1 d0 l2 Y3
  obtain ⟨V0, BV0, -⟩ := ZZ.out.out
  have c0 := BV0.cell 0 _ rfl
  have l4 := BV0.lt
  clear BV0
  go_wp2
  clear c0 l4
  go_loopw [6] (fun x wr => ∃ i' : Nat, x = .int .i64 (m + (i' : Int)) ∧ i' ≤ L ∧ Hid (ZI w wr n0 k1 k2 k3 k4 m k k' (.slice ao l.length cap) (.slice bo l'.length bcap) i' ((zipL mixF k l k' l').take i'))) (fun x _ => L + 1 - (intOf x - m).toNat)
  case atStart => exact ⟨0, by simp, Nat.zero_le _, ZZ⟩
  case round =>
    obtain ⟨i', rfl, hi, hZ⟩ := hrel
    clear ZZ
    have lx : Lim (m + (i' : Int)) := by
      have h1 := HM.out
      have h2 := GK.out
      unfold Lim
      omega
    have lk : Lim k := by have h2 := GK.out; unfold Lim; omega
    have lk' : Lim k' := by have h2 := GK.out; unfold Lim; omega
    have cA := at_any k (m + (i' : Int)) l ao cap wr (HL.out.on hZ.out.bel) lk lx
    have cB := fun (W : World) (b : Below wr.heap.size wr W) => at_any k' (m + (i' : Int)) l' bo bcap W ((HL'.out.on hZ.out.bel).on b) lk' lx
    have G := zip_get mixF k l k' l' i'
    rw [← HM.out] at G
    obtain ⟨A, hA⟩ : ∃ A, A = atL k l (m + (i' : Int)) := ⟨_, rfl⟩
    obtain ⟨B, hB⟩ : ∃ B, B = atL k' l' (m + (i' : Int)) := ⟨_, rfl⟩
    rw [← hA] at cA G
    rw [← hB] at cB G
    have cA := hid cA
    have cB := hid cB
    have HG := hid G
    have x0 := hZ.out.one.cell 0 _ rfl
    have x1 := hZ.out.one.cell 1 _ rfl
    have l1 := hZ.out.one.lt
    clear hA hB lx lk lk' G
    go_wp2_with fail
    refine cA.out.mono ?_
    rintro e w5 ⟨rfl, b5⟩
    have B5 := hid b5
    have Z5 := hid (hZ.out.on b5)
    have y0 := Z5.out.two.cell 0 _ rfl
    have y1 := Z5.out.two.cell 1 _ rfl
    have l2 := Z5.out.two.lt
    clear cA b5 x0 x1 l1 hZ
    go_wp2_with fail
    refine (cB.out w5 B5.out).mono ?_
    rintro e w6 ⟨rfl, b6⟩
    have Z6 := hid (Z5.out.on b6)
    clear cB b6 y0 y1 l2 Z5 B5
    have stop : Hid ((zipL mixF k l k' l')[i']? = none → ∃ V ao2 cp w7, V = .slice ao2 L cp ∧ Box w6 k4 [.int .i64 m, V] ∧ w7 = (w6.setCell ⟨k3, 0, none⟩ (.int .i64 m)).setCell ⟨k3, 1, none⟩ V ∧ Box w7 k3 [.int .i64 m, V] ∧ Row tInt w7 ao2 L cp (zipL mixF k l k' l') ∧ Below w.heap.size w w7) := hid (fun hn => by
      have hi2 : L ≤ i' := by rw [HLL.out]; exact List.getElem?_eq_none_iff.1 hn
      obtain rfl : i' = L := by omega
      obtain ⟨V, BV, oV⟩ := Z6.out.out
      have e0 : (zipL mixF k l k' l').take i' = zipL mixF k l k' l' := by rw [HLL.out, List.take_length]
      rw [e0] at oV
      have oW := oV
      rw [HLL.out] at oW
      obtain ⟨w7, hw7⟩ : ∃ W, W = (w6.setCell ⟨k3, 0, none⟩ (.int .i64 m)).setCell ⟨k3, 1, none⟩ V := ⟨_, rfl⟩
      have o7 : w7.ownsRow n0 3 1 V (zipL mixF k l k' l').length ((zipL mixF k l k' l').flatMap intC) := by
        rw [hw7]
        exact other_own (other_own oW (by have := HB.out; omega) _) (by have := HB.out; omega) _
      obtain ⟨ao2, cp, e, R2⟩ := row_own (n := 1) (cells := intC) (ok := I64) (hn := fun _ => rfl) o7 (zip_i mix_in k l k' l')
      rw [← HLL.out] at e R2
      exact ⟨V, ao2, cp, w7, e, BV, hw7, by rw [hw7]; exact (Z6.out.res.set 0 _).set 1 _, R2, by rw [hw7]; exact (Z6.out.bel.setCell (p := ⟨k3, 0, none⟩) (by have := HB.out; show w.heap.size ≤ k3; omega) _).setCell (p := ⟨k3, 1, none⟩) (by have := HB.out; show w.heap.size ≤ k3; omega) _⟩)
    cases A with
    | none =>
      obtain ⟨V, ao2, cp, w7, e, BV, hw7, X7, R7, B7⟩ := stop.out (by rw [HG.out])
      subst e
      have HW7 := hid hw7; have X7 := hid X7; have R7 := hid R7; have B7 := hid B7
      have m0 := BV.cell 0 _ rfl
      have m1 := BV.cell 1 _ rfl
      have l3 := BV.lt
      have g0 := Z6.out.res.cell 0 _ rfl
      have g1 := Z6.out.res.cell 1 _ rfl
      have h0 := Z6.out.res.free 0
      have h1 := Z6.out.res.free 1
      have l2 := Z6.out.res.lt
      clear BV hw7 stop HG Z6
      rw [show bO none = false from rfl]
      go_wp2
      rw [← HW7.out]
      refine bodyPost_ret (v := .agg #[.int .i64 m, .slice ao2 L cp]) ?_ rfl ⟨⟨ao2, cp, by rw [HM.out], R7.out⟩, B7.out⟩
      exact Md.results_mid rfl _ _ k3 [.int .i64 m, .slice ao2 L cp] _ rfl (fun j u h => by rw [Nat.zero_add]; exact X7.out.cell j u h) Try.underlying30 rfl (by kernel_rfl)
    | some a =>
      cases B with
      | none =>
        obtain ⟨V, ao2, cp, w7, e, BV, hw7, X7, R7, B7⟩ := stop.out (by rw [HG.out])
        subst e
        have HW7 := hid hw7; have X7 := hid X7; have R7 := hid R7; have B7 := hid B7
        have m0 := BV.cell 0 _ rfl
        have m1 := BV.cell 1 _ rfl
        have l3 := BV.lt
        have g0 := Z6.out.res.cell 0 _ rfl
        have g1 := Z6.out.res.cell 1 _ rfl
        have h0 := Z6.out.res.free 0
        have h1 := Z6.out.res.free 1
        have l2 := Z6.out.res.lt
        clear BV hw7 stop HG Z6
        rw [show bO none = false from rfl, show bO (some a) = true from rfl]
        go_wp2
        rw [← HW7.out]
        refine bodyPost_ret (v := .agg #[.int .i64 m, .slice ao2 L cp]) ?_ rfl ⟨⟨ao2, cp, by rw [HM.out], R7.out⟩, B7.out⟩
        exact Md.results_mid rfl _ _ k3 [.int .i64 m, .slice ao2 L cp] _ rfl (fun j u h => by rw [Nat.zero_add]; exact X7.out.cell j u h) Try.underlying30 rfl (by kernel_rfl)
      | some b =>
        have G2 := HG.out
        have G2 : (zipL mixF k l k' l')[i']? = some (mixF a b) := G2
        have hlt : i' < L := by rw [HLL.out]; exact (List.getElem?_eq_some_iff.1 G2).1
        have TK := hid (show (zipL mixF k l k' l').take (i' + 1) = (zipL mixF k l k' l').take i' ++ [mixF a b] by rw [List.take_add_one, G2]; rfl)
        rw [show bO (some a) = true from rfl, show bO (some b) = true from rfl, show vO (some a) = a from rfl, show vO (some b) = b from rfl]
        obtain ⟨V, BV, oV⟩ := Z6.out.out
        obtain ⟨vo, vc, eV⟩ : ∃ ao cap, V = .slice ao i' cap := by
          rcases oV.2 with ⟨h1, h2⟩ | ⟨g, cap, cur, h1, _⟩
          · exact ⟨none, 0, by rw [h1, h2]⟩
          · exact ⟨_, cap, h1⟩
        subst eV
        have HSZ := hid (show n0 ≤ w6.drew.heap.size from Z6.out.size)
        have HBV := hid BV
        have HOV := hid oV
        have x1 := BV.cell 1 _ rfl
        have x2 := BV.free 1
        have x3 := BV.lt
        clear stop HG G2 BV oV
        go_upto_region 8 with fail
        go_region_law
          (first
          | (rw [if_pos (by first | rfl | kernel_rfl)]
             go_simp
             go_at_call 23
             refine (mix_any a b _).mono ?_
             rintro e w20 ⟨rfl, rfl⟩)
          | (refine step_int (mixF a b) _ rfl rfl _ _ rfl _ _ _ rfl HOV.out.drew rfl (show i' + 1 ≤ 1000000 by omega) HSZ.out ?_
             intro gg cap7 w21 hown hgrow
             have Z21 := (HBV.out.on ((Below.refl _ _).drew)).grown hgrow (own_ne HOV.out (by have := HB.out; omega))
             have y1 := Z21.cell 1 _ rfl
             have y2 := Z21.free 1
             have y3 := Z21.lt
             have H21 := hid Z21
             have HO21 := hid hown
             have HG21 := hid hgrow
             clear Z21 hown hgrow))
        all_goals
          clear y1 y2 y3 x1 x2 x3
          have NZ := hid (show ZI w (w21.setCell ⟨k4, 1, none⟩ (.slice (some ⟨gg, 0, none⟩) (i' + 1) cap7)) n0 k1 k2 k3 k4 m k k' (.slice ao l.length cap) (.slice bo l'.length bcap) (i' + 1) ((zipL mixF k l k' l').take (i' + 1)) from
            ⟨⟨_, H21.out.set 1 _, by
                rw [TK.out, List.flatMap_append]
                exact other_own HO21.out HB.out.2.2.2.1 _⟩,
              ((Z6.out.one.on ((Below.refl _ _).drew)).grown HG21.out (own_ne HOV.out (by have := HB.out; omega))).other (p := ⟨k4, 1, none⟩) (by have := HB.out; show k1 ≠ k4; omega) _,
              ((Z6.out.two.on ((Below.refl _ _).drew)).grown HG21.out (own_ne HOV.out (by have := HB.out; omega))).other (p := ⟨k4, 1, none⟩) (by have := HB.out; show k2 ≠ k4; omega) _,
              ((Z6.out.res.on ((Below.refl _ _).drew)).grown HG21.out (own_ne HOV.out (by have := HB.out; omega))).other (p := ⟨k4, 1, none⟩) (by have := HB.out; show k3 ≠ k4; omega) _,
              ((bel_on Z6.out.bel ((Below.refl _ _).drew)).grown HG21.out (by have h1 := Z6.out.bel.size; simpa using h1) (fun j hj => by have := (HOV.out.lt j hj).1; have := HB.out; omega)).setCell (p := ⟨k4, 1, none⟩) (by have := HB.out; show w.heap.size ≤ k4; omega) _,
              by have h1 := HG21.out.size; have h2 := Z6.out.size; simp at h1 ⊢; omega⟩)
          have wx : IntKind.i64.wrap (m + (i' : Int) + 1) = m + (i' : Int) + 1 := wrap_l (by have h1 := HM.out; have h2 := GK.out; unfold I64; omega)
          clear H21 HO21 HG21 TK Z6 HOV HBV HSZ
          go_wp2
          go_roundw
          case rel => exact ⟨i' + 1, vi (by omega), by omega, NZ⟩
          case measure => simp [intOf]; omega
end Go.Proofs.Ytghhnimimccpoaa.R14
/- The laws of layer 14 (line), over what the package answers: what the document tells; what is played. -/
namespace Go.Proofs.Ytghhnimimccpoaa.L14
open Go.RowKit Go.Sort P Mm R6 R14
/-- Blocks from one number to another one, and the block of an address where there is something, are kept. -/
def KeepL (a b : Nat) (ta : Option Addr) (ne : Prop) (A B : World) : Prop := ∀ j, ((a ≤ j ∧ j < b) ∨ (ne ∧ ∃ ad : Addr, ta = some ad ∧ j = ad.block)) → B.heap[j]? = A.heap[j]?
def encR (s : Rn Int) : Array Value := #[.agg #[.int .i64 s.a, .int .i64 s.b, .int .i64 s.v]]
/-- Numbers that are played: from where, and how many. -/
def Ply (k : Int) (l : List Int) : Prop := -2147483648 ≤ k ∧ k ≤ 2147483648 ∧ l.length ≤ 8589934592 ∧ (∀ v ∈ l, I64 v) ∧ (runsF k l).length ≤ 100000
/-- What package line answers, of lines of numbers. -/
structure Ln : Prop where
  of : ∀ (k : Int) (l : List Int) (ao : Option Addr) (cap : Nat) (w : World), Row tInt w ao l.length cap l → -2147483648 ≤ k → k ≤ 2147483648 → l.length ≤ 100000 →
    Calls Try.prog 11 #[.int .i64 k, .slice ao l.length cap] w fun e w' => (∃ ao' cap', e = .returned (.agg #[.slice ao' (runsF k l).length cap']) ∧ Row tRn w' ao' (runsF k l).length cap' (runsF k l)) ∧ Below w.heap.size w w'
  count : ∀ (k : Int) (l : List Int) (ao : Option Addr) (cap : Nat) (w : World), Row tRn w ao (runsF k l).length cap (runsF k l) → Ply k l →
    Calls Try.prog 12 #[.agg #[.slice ao (runsF k l).length cap]] w fun e w' => e = .returned (.int .i64 ((runsF k l).length : Int)) ∧ Below w.heap.size w w'
  span : ∀ (k : Int) (l : List Int) (ao : Option Addr) (cap : Nat) (w : World), Row tRn w ao (runsF k l).length cap (runsF k l) → Ply k l →
    Calls Try.prog 20 #[.agg #[.slice ao (runsF k l).length cap]] w fun e w' => e = .returned (.tuple #[.int .i64 (spanR (runsF k l)).1, .int .i64 (spanR (runsF k l)).2.1, .bool (spanR (runsF k l)).2.2]) ∧ Below w.heap.size w w'
  at' : ∀ (k x : Int) (l : List Int) (ao : Option Addr) (cap : Nat) (w : World), Row tRn w ao (runsF k l).length cap (runsF k l) → Ply k l → Lim x →
    Calls Try.prog 21 #[.agg #[.slice ao (runsF k l).length cap], .int .i64 x] w fun e w' => e = .returned (.tuple #[.int .i64 (vO (atL k l x)), .bool (bO (atL k l x))]) ∧ Below w.heap.size w w'
  runs : ∀ (k : Int) (l : List Int) (ao : Option Addr) (cap : Nat) (w : World), Row tRn w ao (runsF k l).length cap (runsF k l) → Ply k l →
    Calls Try.prog 36 #[.agg #[.slice ao (runsF k l).length cap]] w fun e w' => Below w.heap.size w w' ∧ ∃ (gf : Nat) (lb : Array Value), e = .returned (.func (.func gf) #[] lb) ∧ (∀ args W, (callFunc gf args).run Try.prog W = .ok (.enter gf args) W) ∧
      ∀ (n : Nat), 1 ≤ n → ∀ Kp : World → World → Prop, (∀ A B, Kp A B → KeepL w.heap.size w'.heap.size ao (runsF k l ≠ []) A B) → SeqStopsK Fence.wide n Try.prog gf lb encR Kp (fun ys => ys = runsF k l) (fun pre => pre <+: runsF k l) (runsF k l).length w'
  equal : ∀ (k : Int) (l : List Int) (ao : Option Addr) (cap : Nat) (k' : Int) (l' : List Int) (bo : Option Addr) (bcap : Nat) (w : World), Row tRn w ao (runsF k l).length cap (runsF k l) → Ply k l → Row tRn w bo (runsF k' l').length bcap (runsF k' l') → Ply k' l' →
    Calls Try.prog 14 #[.agg #[.slice ao (runsF k l).length cap], .agg #[.slice bo (runsF k' l').length bcap]] w fun e w' => e = .returned (.bool (decide (runsF k l = runsF k' l'))) ∧ Below w.heap.size w w'
theorem ply_of {k : Int} {l : List Int} (h1 : -2147483648 ≤ k) (h2 : k ≤ 2147483648) (h3 : l.length ≤ 100000) (h4 : ∀ v ∈ l, I64 v) : Ply k l :=
  ⟨h1, h2, by omega, h4, Nat.le_trans (runs_len l k) h3⟩
def greatB (k : Int) (l : List Int) : Bool := decide (1048576 < k) || decide (k < -1048576) || decide (300 < l.length)
set_option maxHeartbeats 1600000 in
theorem great_any (k : Int) (l : List Int) (ao : Option Addr) (cap : Nat) (w : World) (hl : Row tInt w ao l.length cap l) :
    Calls Try.prog 10 #[.int .i64 k, .slice ao l.length cap] w fun e w' => e = .returned (.bool (greatB k l)) ∧ w = w' := by
  have lm := hl.hmax
  have lc := hl.hcap
  unfold greatB
  obtain ⟨q1, z1⟩ : ∃ q, decide (1048576 < k) = q := ⟨_, rfl⟩
  obtain ⟨q2, z2⟩ : ∃ q, decide (k < -1048576) = q := ⟨_, rfl⟩
  obtain ⟨q3, z3⟩ : ∃ q, decide ((300 : Int) < (l.length : Int)) = q := ⟨_, rfl⟩
  have e3 : decide (300 < l.length) = q3 := by rw [← z3]; exact decide_eq_decide.2 (by omega)
  rw [z1, z2, e3]
  clear e3 hl
  go_enter Try.func10, Try.ntmps10
  cases q1 <;> cases q2 <;> cases q3 <;>
    (go_wp2
     go_ret
     exact ⟨rfl, rfl⟩)
theorem great_not {k : Int} {l : List Int} (h : greatB k l = false) : -1048576 ≤ k ∧ k ≤ 1048576 ∧ l.length ≤ 300 := by
  unfold greatB at h
  simp only [Bool.or_eq_false_iff, decide_eq_false_iff_not] at h
  omega
set_option maxHeartbeats 1600000 in
set_option maxRecDepth 100000 in
theorem alive_any (A : Ln) (w : World) : Calls Try.prog 9 #[] w fun e w' => e = .returned (.bool true) ∧ Below w.heap.size w w' := by
  have X := Box.new w [.int .i64 1, .int .i64 1, .int .i64 2] 3
  have R : Row tInt (w.alloc (.cells #[.int .i64 1, .int .i64 1, .int .i64 2] 3)) (some ⟨w.heap.size, 0, none⟩) 3 3 [1, 1, 2] := box_row (α := Int) (n := 1) (cells := fun x => [.int .i64 x]) (ok := I64) (hn := fun _ => rfl) (xs := [1, 1, 2]) X (fun x hx => by
    simp only [List.mem_cons, List.not_mem_nil, or_false] at hx
    unfold I64
    omega) (by decide)
  have P : Ply 5 [1, 1, 2] := ply_of (by decide) (by decide) (by decide) (fun v hv => by
    simp only [List.mem_cons, List.not_mem_nil, or_false] at hv
    unfold I64
    omega)
  have c1 := (A.of 5 [1, 1, 2] (some ⟨w.heap.size, 0, none⟩) 3 _ R (by decide) (by decide) (by decide)).mono (fun e w' h => (⟨h.1, bel_on (bel_alloc w _) h.2⟩ : _ ∧ Below w.heap.size w w'))
  rw [show runsF 5 [(1 : Int), 1, 2] = [⟨5, 6, 1⟩, ⟨7, 7, 2⟩] by decide] at c1
  have c2 := fun ao cap W h => A.at' 5 6 [1, 1, 2] ao cap W h P (by unfold Lim; omega)
  have c3 := fun ao cap W h => A.span 5 [1, 1, 2] ao cap W h P
  have c4 := fun ao cap W h => A.count 5 [1, 1, 2] ao cap W h P
  rw [show runsF 5 [(1 : Int), 1, 2] = [⟨5, 6, 1⟩, ⟨7, 7, 2⟩] by decide] at c2 c3 c4
  rw [show vO (atL 5 [(1 : Int), 1, 2] 6) = 1 by decide, show bO (atL 5 [(1 : Int), 1, 2] 6) = true by decide] at c2
  rw [show spanR [(⟨5, 6, 1⟩ : Rn Int), ⟨7, 7, 2⟩] = (5, 7, true) by decide] at c3
  have c1 := hid c1
  have c2 := hid c2
  have c3 := hid c3
  have c4 := hid c4
  clear X R P
  go_enter Try.func9, Try.ntmps9
  go_wp2_with fail
  refine c1.out.mono ?_
  rintro e w1 ⟨⟨ao, cap, rfl, R1⟩, b1⟩
  obtain ⟨w2, hw2⟩ : ∃ W, W = w1.alloc (.cells #[.slice ao 2 cap] 27) := ⟨_, rfl⟩
  obtain ⟨k2, hk2⟩ : ∃ k, k = w1.heap.size := ⟨_, rfl⟩
  have b12 : Below w1.heap.size w1 w2 := by rw [hw2]; exact bel_alloc _ _
  have X2 : Box w2 k2 [.slice ao 2 cap] := by rw [hw2, hk2]; exact Box.new w1 [.slice ao 2 cap] _
  have R2 := hid (R1.on b12)
  have B2 := hid (bel_on b1 b12)
  have HX := hid X2
  have HW := hid hw2
  have HK := hid hk2
  have d0 := X2.cell 0 _ rfl
  have l2 := X2.lt
  clear c1 hw2 hk2 b12 X2 R1 b1
  go_upto_region 2 with fail
  rw [← HW.out, ← HK.out]
  clear HW HK
  go_wp2_with fail
  refine (c2.out ao cap w2 R2.out).mono ?_
  rintro e w3 ⟨rfl, b3⟩
  have B3 := hid (bel_on B2.out b3)
  have HX3 := hid (HX.out.on b3)
  have R3 := hid (R2.out.on b3)
  have d0 := HX3.out.cell 0 _ rfl
  have l3 := HX3.out.lt
  clear c2 b3 l2 HX R2 B2
  go_wp2_with fail
  refine (c3.out ao cap w3 R3.out).mono ?_
  rintro e w4 ⟨rfl, b4⟩
  have B4 := hid (bel_on B3.out b4)
  have HX4 := hid (HX3.out.on b4)
  have R4 := hid (R3.out.on b4)
  have d0 := HX4.out.cell 0 _ rfl
  have l4 := HX4.out.lt
  clear c3 b4 l3 HX3 R3 B3
  go_wp2_with fail
  refine (c4.out ao cap w4 R4.out).mono ?_
  rintro e w5 ⟨rfl, b5⟩
  have B5 := hid (bel_on B4.out b5)
  clear c4 b5 l4 HX4 R4 B4 d0
  rw [show (([(⟨5, 6, 1⟩ : Rn Int), ⟨7, 7, 2⟩].length : Nat) : Int) = 2 from rfl]
  go_wp2
  go_ret
  exact ⟨rfl, B5.out⟩
end Go.Proofs.Ytghhnimimccpoaa.L14
/- The law's own loop over the runs of a line (layer 14): a range over a function that may be left at any time. -/
namespace Go.Proofs.Ytghhnimimccpoaa.L14
open Go.RowKit Go.Sort P Mm R6 R14
attribute [local go_sem] Oper.semAt_some
def goneL (R : List (Rn Int)) (most : Int) : List (Rn Int) := R.take (max most 0).toNat
theorem info_lrun : (Try.prog.info? 69).map (fun i => (i.zero, i.size, i.bytes)) = some (some (.agg #[.int .i64 0, .int .i64 0, .int .i64 0]), 3, 24) := by kernel_rfl
/-- A block of cells, whole. -/
def Cells (W : World) (B : Nat) (t : TypeId) (cs : List Value) : Prop := W.heap[B]? = some (.cells cs.toArray t (0, 0))
theorem Cells.lt {W : World} {B : Nat} {t : TypeId} {cs : List Value} (h : Cells W B t cs) : B < W.heap.size := (Array.getElem?_eq_some_iff.1 h).1
theorem Cells.cell {W : World} {B : Nat} {t : TypeId} {cs : List Value} (h : Cells W B t cs) (i : Nat) : W.cell? ⟨B, i, none⟩ = cs[i]? := by simp [World.cell?, show W.heap[B]? = _ from h]
theorem Cells.kept {W W' : World} {row : Option Nat} {B : Nat} {t : TypeId} {cs : List Value} (h : Cells W B t cs) (hg : W.grownBy W' row) (hne : some B ≠ row) : Cells W' B t cs := (hg.block B h.lt hne).trans h
theorem cells_own {β : Type} (B : Nat) (t : TypeId) (cs : List Value) (n : Nat) : OwnFrom n (fun (_ : β) W => Cells W B t cs) := fun _ X _ _ hs hg hr =>
  Cells.kept hs hg (fun e' => by obtain ⟨_, o, ho, hc⟩ := hr B e'.symm; rw [show X.heap[B]? = _ from hs] at ho; cases ho; cases hc)
/-- Between two rounds: what has come lies in the variable's own row. -/
structure GI (w : World) (n0 KM KO : Nat) (most : Int) (pre : List (Rn Int)) (W : World) : Prop where
  out : ∃ v, Boxed W KO 25 v ∧ W.ownsRow n0 69 3 v pre.length (pre.flatMap rnC) ∧ True
  mst : Boxed W KM 3 (.int .i64 most)
  few : (pre.length : Int) ≤ max most 0
  bel : Below w.heap.size w W
  size : n0 ≤ W.heap.size
theorem gi_own {w : World} {n0 KM KO : Nat} {most : Int} {B : Nat} (hB : w.heap.size ≤ B) : OwnFrom B (GI w n0 KM KO most) := by
  intro pre A C row h hg hr
  have o1 := (Own.from (holdsRow_own n0 KO 25 69 3 (fun pre : List (Rn Int) => pre.length) (fun pre => pre.flatMap rnC) (fun _ _ => True)) B) pre A C row h.out hg hr
  have o2 := (Own.from (boxed_own (β := Unit) KM 3 (fun _ => .int .i64 most)) B) () A C row h.mst hg hr
  have o3 := (ownFrom_below (β := Unit) (w₀ := w) (Nat.le_refl w.heap.size) hB) () A C row h.bel hg hr
  exact ⟨o1, o2, h.few, o3, Nat.le_trans h.size hg.size⟩
theorem appended2 {W w1 : World} {n₀ m B : Nat} {t e : TypeId} {size : Nat} {v v' : Value} {k k' : Nat} {xs ys : List Value} {tmp : Obj}
    (hv : Boxed W B t v) (hte : t ≠ e) (hrow : W.ownsRow n₀ e size v k xs) (hn₀ : n₀ ≤ W.heap.size) (hm : m ≤ B) (hmn : m ≤ n₀)
    (hown' : w1.ownsRow n₀ e size v' k' ys) (hgrow : (W.alloc tmp).grownBy w1 v.ownBlock) :
    Boxed w1 B t v ∧ Boxed (w1.setCell ⟨B, 0, none⟩ v') B t v' ∧ (w1.setCell ⟨B, 0, none⟩ v').ownsRow n₀ e size v' k' ys ∧ KeepsOthers W (w1.setCell ⟨B, 0, none⟩ v') ∧ Below m W (w1.setCell ⟨B, 0, none⟩ v') ∧
      (∀ j, j < n₀ → j ≠ B → (w1.setCell ⟨B, 0, none⟩ v').heap[j]? = W.heap[j]?) ∧ (∀ B2 t2 u2, Boxed W B2 t2 u2 → B2 ≠ B → t2 ≠ e → Boxed (w1.setCell ⟨B, 0, none⟩ v') B2 t2 u2) ∧ W.heap.size ≤ (w1.setCell ⟨B, 0, none⟩ v').heap.size := by
  have hv1 : Boxed w1 B t v := (hv.alloc tmp).kept hgrow (hv.not_row hte hrow)
  have own : ∀ j, v.ownBlock = some j → n₀ ≤ j := fun j ej => by
    rcases hrow.2 with ⟨rfl, _⟩ | ⟨g, cap, cur, rfl, hb, _, _⟩
    · simp [Value.ownBlock] at ej
    · obtain rfl : g = j := by simpa [Value.ownBlock] using ej
      exact hb
  have sz : W.heap.size ≤ (w1.setCell ⟨B, 0, none⟩ v').heap.size := by
    have h1 := hgrow.size
    simp at h1 ⊢
    omega
  refine ⟨hv1, hv1.set v', hown'.kept (grownBy_setCell' w1 B v') (.inr (hv1.not_row hte hown').symm), ?_, ?_, ?_, ?_, sz⟩
  · refine ((KeepsOthers.alloc W tmp).trans (KeepsOthers.of_grownBy hgrow fun j o ej hj => ?_)).trans (KeepsOthers.setCell _ _ _)
    rcases (hrow.alloc tmp).2 with ⟨rfl, _⟩ | ⟨g, cap, cur, rfl, _, hgb, _⟩
    · simp [Value.ownBlock] at ej
    · obtain rfl : g = j := by simpa [Value.ownBlock] using ej
      rw [hgb] at hj; cases hj; rfl
  · exact (((Below.refl m W).alloc (Nat.le_trans hmn hn₀) tmp).grown hgrow (by simp; omega) fun j ej => Nat.le_trans hmn (own j ej)).setCell (p := ⟨B, 0, none⟩) hm v'
  · intro j hj hne
    rw [Below.heap_setCell w1 ⟨B, 0, none⟩ v' j hne, hgrow.block j (by simp; omega) (fun e => by have := own j e.symm; omega)]
    exact Below.heap_alloc W tmp j (by omega)
  · intro B2 t2 u2 h2 hne hte2
    exact ((h2.alloc tmp).kept hgrow (h2.not_row hte2 hrow)).other hne v'
set_option maxHeartbeats 8000000 in
set_option maxRecDepth 100000 in
theorem gone_any (S : Ln) (k : Int) (l : List Int) (ao : Option Addr) (cap : Nat) (most : Int) (w : World) (hr : Row tRn w ao (runsF k l).length cap (runsF k l)) (hp : Ply k l) :
    Calls Try.prog 13 #[.agg #[.slice ao (runsF k l).length cap], .int .i64 most] w fun e w' => (∃ ao cap, e = .returned (.slice ao (goneL (runsF k l) most).length cap) ∧ Row tRn w' ao (goneL (runsF k l) most).length cap (goneL (runsF k l) most)) ∧ Below w.heap.size w w' := by
  have SI : ∀ s ∈ runsF k l, I64 s.a ∧ I64 s.b ∧ I64 s.v := fun s hs => by
    obtain ⟨h1, h2, h3, h4⟩ := runs_in l k s hs
    obtain ⟨p1, p2, p3, p4, p5⟩ := hp
    have p3 : (l.length : Int) ≤ 8589934592 := by omega
    exact ⟨by unfold I64; omega, by unfold I64; omega, p4 _ h4⟩
  have SL : (runsF k l).length ≤ 100000 := hp.2.2.2.2
  have cS := fun W (h : Row tRn W ao (runsF k l).length cap (runsF k l)) => S.runs k l ao cap W h hp
  have taL0 : runsF k l ≠ [] → ∀ a : Addr, ao = some a → a.block < w.heap.size := fun hne a e => by
    obtain ⟨b, o, e2, h, _⟩ := hr.lie hne
    rw [e] at e2
    obtain rfl := Option.some.inj e2
    exact h
  obtain ⟨R, hR⟩ : ∃ R, R = runsF k l := ⟨_, rfl⟩
  rw [← hR] at SI SL cS taL0 hr ⊢
  obtain ⟨N, hN⟩ : ∃ N, N = R.length := ⟨_, rfl⟩
  rw [← hN] at cS hr ⊢
  have SN : N ≤ 100000 := by rw [hN]; exact SL
  have taL := hid taL0
  have HN := hid hN
  clear hR hp taL0 hN
  refine (callsIn_wide (n := 5)).1 ?_
  have hro : Fence.wide.round = none := rfl
  obtain ⟨w1, hw1⟩ : ∃ W, W = ((w.alloc (.cells ([.slice ao N cap] : List Value).toArray 27)).alloc (.cells #[.int .i64 most] 3)).alloc (.cells #[.slice none 0 0] 25) := ⟨_, rfl⟩
  have CS := hid cS
  obtain ⟨KM, hKM⟩ : ∃ k, k = w.heap.size + 1 := ⟨_, rfl⟩
  obtain ⟨KO, hKO⟩ : ∃ k, k = w.heap.size + 1 + 1 := ⟨_, rfl⟩
  have b1 : Below w.heap.size w w1 := by rw [hw1]; exact (((Below.refl _ w).alloc (Nat.le_refl _) _).alloc (by simp) _).alloc (by simp; omega) _
  have z1 : w1.heap.size = w.heap.size + 3 := by rw [hw1]; simp
  have bM1 : Boxed w1 KM 3 (.int .i64 most) := by
    rw [hw1, hKM]
    have := (Boxed.new (w.alloc (.cells ([.slice ao N cap] : List Value).toArray 27)) 3 (.int .i64 most)).alloc (.cells #[.slice none 0 0] 25)
    simpa using this
  have bO1 : Boxed w1 KO 25 (.slice none 0 0) := by
    rw [hw1, hKO]
    have := Boxed.new ((w.alloc (.cells ([.slice ao N cap] : List Value).toArray 27)).alloc (.cells #[.int .i64 most] 3)) 25 (.slice none 0 0)
    simpa using this
  obtain ⟨i0, hi0, hz0, hz1, hz2⟩ := info_parts info_lrun
  clear cS
  refine callsIn_of_wp_marks Try.func13 rfl trivial ?_ hro
  simp only [Try.ntmps13, List.size_toArray, List.length_cons, List.length_nil, Nat.reduceAdd, Nat.reduceSub, Array.replicate_succ, Array.replicate_zero, List.push_toArray, List.append_toArray, List.nil_append, List.cons_append]
  gi_wp2_with fail
  rw [← hw1]
  rw [← hKO, ← hKM]
  refine ⟨trivial, (callsIn_wide.2 (CS.out w1 (hr.on b1))).mono ?_⟩
  rintro e w2 ⟨b2, gf, lb, rfl, hen, hseq⟩
  have bM2 : Boxed w2 KM 3 (.int .i64 most) := (b2.block KM bM1.lt).trans bM1
  have bO2 : Boxed w2 KO 25 (.slice none 0 0) := (b2.block KO bO1.lt).trans bO1
  have B02 : Below w.heap.size w w2 := bel_on b1 b2
  have z2 : w1.heap.size ≤ w2.heap.size := b2.size
  obtain ⟨n0, hn0⟩ : ∃ n, n = w2.heap.size := ⟨_, rfl⟩
  have K1 : w.heap.size ≤ n0 := by omega
  have K2 : KO < n0 := by omega
  have K3 : w.heap.size ≤ KO := by omega
  have K4 : KM ≠ KO := by omega
  have K5 : w1.heap.size = KO + 1 := by omega
  have K6 : n0 ≤ w2.heap.size := by omega
  have K7 : w2.heap.size ≤ n0 := by omega
  have KK := hid (show w1.heap.size = KO + 1 from K5)
  clear hw1 hKM hKO hn0 z1 z2 K5
  gi_wp2
  refine wpIn_rangeFunc_ownH hro (by omega : 1 ≤ 5) (gf := gf) (lb := lb) rfl trivial hen
    (hseq 4 (by omega) (fun A B => ∀ j, j < n0 → j ≠ KO → B.heap[j]? = A.heap[j]?) (fun A B h j hj => h j (by
      rcases hj with ⟨_, h2⟩ | ⟨hne, ad, e, rfl⟩
      · omega
      · have := taL.out hne ad e; omega) (by
      rcases hj with ⟨h2, _⟩ | ⟨hne, ad, e, rfl⟩
      · have := KK.out; omega
      · have := taL.out hne ad e; omega)))
    (fun h k j hj hne => (k j hj hne).trans (h j hj hne)) (fun W l o o' hl _ _ _ j hj hne => World.putObj_heap_other (by omega)) (Below.refl _ _) (fun _ => rfl)
    (GI w n0 KM KO most)
    (fun c pre' W => c = Code.exit 0 ∧ ∃ pre s, pre' = pre ++ [s] ∧ most ≤ (pre.length : Int) ∧ GI w n0 KM KO most pre W)
    (gi_own (by omega))
    (fun c pre' A C row h hg hr => by
      obtain ⟨h1, pre, s, h2, h3, h4⟩ := h
      exact ⟨h1, pre, s, h2, h3, gi_own (by omega) pre A C row h4 hg hr⟩)
    ⟨⟨_, bO2, World.ownsRow_nil _ _ _ _, trivial⟩, bM2, by simp; omega, B02, by omega⟩
    (fun s a' W => ∃ Bx, KO < Bx ∧ Cells W Bx 69 [.int .i64 s.a, .int .i64 s.b, .int .i64 s.v] ∧ a' = { tmps := #[.agg #[.slice ao N cap], .int .i64 most, .pointer (some ⟨w.heap.size, 0, none⟩), .pointer (some ⟨KM, 0, none⟩), .slice none 0 0, .pointer (some ⟨KO, 0, none⟩), .pointer (some ⟨Bx, 0, none⟩), .agg #[.slice ao N cap], .func (.func gf) #[] lb, .agg #[.int .i64 s.a, .int .i64 s.b, .int .i64 s.v], undef, undef, undef, undef, undef, undef, undef, undef, undef], defers := [] })
    (fun s a' u A C row h hg hr => by
      obtain ⟨Bx, h1, h2, h3⟩ := h
      exact ⟨Bx, h1, cells_own Bx _ _ _ u A C row h2 hg hr, h3⟩)
    ?assign ?body ?done ?stop
  case assign =>
    intro l pre s W K hI hK
    unfold encR
    gi_wp2
    exact hK _ _ ((KeepsOthers.alloc _ _).from _) (fun j hj hne => Below.heap_alloc W _ j (by have := hI.size; omega)) ((gi_own (B := W.heap.size) hI.bel.size).alloc _ hI) ⟨W.heap.size, by have := hI.size; omega, World.alloc_heap_new W _, rfl⟩
  case body =>
    rintro l pre s a' W hl hrr hI ⟨Bx, hBx, hC, rfl⟩ hlt
    obtain ⟨v, hv, hrow, _⟩ := hI.out
    obtain ⟨ao3, cap3, rfl⟩ : ∃ ao cap, v = .slice ao pre.length cap := by
      rcases hrow.2 with ⟨h1, h2⟩ | ⟨g, cap, cur, h1, _⟩
      · exact ⟨none, 0, by rw [h1, h2]⟩
      · exact ⟨_, cap, h1⟩
    have hc := hv.cell
    have hc2 := hI.mst.cell
    have hs0 : W.cell? ⟨Bx, 0, none⟩ = some (.int .i64 s.a) := hC.cell 0
    have hs1 : W.cell? ⟨Bx, 1, none⟩ = some (.int .i64 s.b) := hC.cell 1
    have hs2 : W.cell? ⟨Bx, 2, none⟩ = some (.int .i64 s.v) := hC.cell 2
    have hlB := hC.lt
    have few := hI.few
    by_cases hge : most ≤ (pre.length : Int)
    · have z : decide (most ≤ (pre.length : Int)) = true := decide_eq_true hge
      have HI := hid hI
      clear hI hv hrow hC few
      gi_wp2
      exact ⟨KeepsFrom.refl _ _, rfl, pre, s, rfl, hge, HI.out⟩
    · have z : decide (most ≤ (pre.length : Int)) = false := decide_eq_false hge
      have HI := hid hI
      have HC := hid hC
      have hsz := hI.size
      clear hI hC
      gi_wp2_with (gi_at_builtin; refine wpListIn_append_own _ rfl _ _ 25 rfl n0 69 i0 (.agg #[.int .i64 0, .int .i64 0, .int .i64 0]) 3 24 Try.underlying25 hi0 hz0 hz1 hz2 rfl (by decide) _ _ _ rfl (hrow.alloc _) ⟨W.heap.size, 0, none⟩ 1 1 (rnC s) rfl rfl (news_at W (rnC s) _) (by simp [rnC, Value.oneCell']) (by unfold maxLen; omega) (by omega) (by simp; omega) ?_; intro v' w1 hown' hgrow _; obtain ⟨g', cap', rfl⟩ := ownsRow_succ hown'; obtain ⟨hv1, hv2, hr2, hk2, hb2, hk3, hk4, hsz2⟩ := appended2 (m := w.heap.size) hv (by decide) hrow hsz K3 K1 hown' hgrow; have hc1 := hv1.cell; have hf1 := hv1.frozen)
      refine ⟨hk2.from _, hk3, ⟨_, hv2, ?_, trivial⟩, hk4 KM _ _ HI.out.mst K4 (by decide), ?_, HI.out.bel.trans hb2, Nat.le_trans hsz hsz2⟩
      · rw [List.length_append, List.flatMap_append]
        simpa using hr2
      · rw [List.length_append]
        simp
        omega
  case done =>
    rintro D ys W hD rfl hI hK
    have few := hI.few
    obtain ⟨v, hv, hrow, _⟩ := hI.out
    have hc := hv.cell
    have EG := hid (show ys = goneL ys most from (List.take_of_length_le (by omega)).symm)
    have HI := hid hI
    clear hI few
    gi_wp2
    refine ⟨by simp, .inl ⟨_, _, rfl, run_takeDeferred hK, ?_⟩⟩
    refine ⟨_, results_tmp rfl _ _ _, ?_, HI.out.bel.trans (belowK_b (w := w) (Nat.le_refl _) W D _ _ (by have := HI.out.bel.size; omega) hK rfl rfl)⟩
    obtain ⟨ao3, cap3, e, RR⟩ := row_own (n := 3) (cells := rnC) (ok := fun s : Rn Int => I64 s.a ∧ I64 s.b ∧ I64 s.v) (hn := fun _ => rfl) (ownsRow_putObj hrow _ hK rfl) SI
    rw [← EG.out]
    exact ⟨ao3, cap3, by rw [← e]; rfl, RR⟩
  case stop =>
    rintro D c pre' W hD hSp hIx hK
    obtain ⟨rfl, pre, s, rfl, hge, hI⟩ := hIx
    have few := hI.few
    obtain ⟨v, hv, hrow, _⟩ := hI.out
    have hc := hv.cell
    have EG := hid (show pre = goneL R most from by
      obtain ⟨r, hr⟩ := hSp
      unfold goneL
      rw [← hr, show (max most 0).toNat = pre.length by omega, List.append_assoc, List.take_left' rfl])
    have SP := hid (show ∀ s ∈ pre, I64 s.a ∧ I64 s.b ∧ I64 s.v from fun z hz => by
      obtain ⟨r, hr⟩ := hSp
      exact SI z (by rw [← hr]; exact List.mem_append_left _ (List.mem_append_left _ hz)))
    have HI := hid hI
    clear hI few hge hSp
    gi_wp2
    refine ⟨by simp, .inl ⟨_, _, rfl, run_takeDeferred hK, ?_⟩⟩
    refine ⟨_, results_tmp rfl _ _ _, ?_, HI.out.bel.trans (belowK_b (w := w) (Nat.le_refl _) W D _ _ (by have := HI.out.bel.size; omega) hK rfl rfl)⟩
    obtain ⟨ao3, cap3, e, RR⟩ := row_own (n := 3) (cells := rnC) (ok := fun s : Rn Int => I64 s.a ∧ I64 s.b ∧ I64 s.v) (hn := fun _ => rfl) (ownsRow_putObj hrow _ hK rfl) SP.out
    rw [← EG.out]
    exact ⟨ao3, cap3, by rw [← e]; rfl, RR⟩
end Go.Proofs.Ytghhnimimccpoaa.L14
/- Whether a line is the document's (layer 14): same, of lines that hold the same. -/
namespace Go.Proofs.Ytghhnimimccpoaa.L14
open Go.RowKit Go.Sort P Mm R6 R14
theorem gone_all {R : List (Rn Int)} (h : R.length ≤ 1000) : goneL R 1000 = R := List.take_of_length_le (by omega)
theorem runs_pos {k : Int} {l : List Int} (h : l ≠ []) : 0 < (runsF k l).length := by
  cases l with
  | nil => exact absurd rfl h
  | cons v l =>
    obtain ⟨r, rs, e, _⟩ := runsF_head (k := k) (v := v) (l := l)
    rw [e]
    exact Nat.succ_pos _
set_option maxHeartbeats 4000000 in
set_option maxRecDepth 100000 in
theorem same_any (S : Ln) (k : Int) (l : List Int) (ao : Option Addr) (cap : Nat) (bo : Option Addr) (bcap : Nat) (w : World) (hr : Row tRn w ao (runsF k l).length cap (runsF k l)) (hl : Row tInt w bo l.length bcap l) (hk : -2097152 ≤ k ∧ k ≤ 2097152) (hn : l.length ≤ 1000) :
    Calls Try.prog 15 #[.agg #[.slice ao (runsF k l).length cap], .agg #[.int .i64 k, .slice bo l.length bcap]] w fun e w' => e = .returned (.bool true) ∧ Below w.heap.size w w' := by
  obtain ⟨N, hN⟩ : ∃ N, N = (runsF k l).length := ⟨_, rfl⟩
  obtain ⟨w1, hw1⟩ : ∃ W, W = w.alloc (.cells ([.slice ao N cap] : List Value).toArray 27) := ⟨_, rfl⟩
  obtain ⟨k1, hk1⟩ : ∃ k, k = w.heap.size := ⟨_, rfl⟩
  have b1 : Below w.heap.size w w1 := by rw [hw1]; exact bel_alloc _ _
  have X1 : Box w1 k1 [.slice ao N cap] := by rw [hw1, hk1]; exact Box.new w _ _
  obtain ⟨w2, hw2⟩ : ∃ W, W = w1.alloc (.cells ([.int .i64 k, .slice bo l.length bcap] : List Value).toArray 30) := ⟨_, rfl⟩
  obtain ⟨k2, hk2⟩ : ∃ k, k = w1.heap.size := ⟨_, rfl⟩
  have b2 : Below w1.heap.size w1 w2 := by rw [hw2]; exact bel_alloc _ _
  have X2 : Box w2 k2 [.int .i64 k, .slice bo l.length bcap] := by rw [hw2, hk2]; exact Box.new w1 _ _
  have b02 := bel_on b1 b2
  have HX := hid (fun (W : World) (b : Below w2.heap.size w2 W) => (⟨(X1.on b2).on b, X2.on b, bel_on b02 b⟩ : Box W k1 [.slice ao N cap] ∧ Box W k2 [.int .i64 k, .slice bo l.length bcap] ∧ Below w.heap.size w W))
  have hp : Ply k l := ply_of (by omega) (by omega) (by omega) (row_vals hl)
  have hlim : Lim k := by unfold Lim; omega
  have HR := hid (fun (W : World) (b : Below w2.heap.size w2 W) => hr.on (bel_on b02 b))
  have HL := hid (fun (W : World) (b : Below w2.heap.size w2 W) => hl.on (bel_on b02 b))
  have cR := fun (W : World) (b : Below w2.heap.size w2 W) => runs_any k l bo bcap W (HL.out W b) hlim (by omega)
  have cG := fun (W : World) (b : Below w2.heap.size w2 W) => gone_any S k l ao cap 1000 W (HR.out W b) hp
  have cS := fun (W : World) (b : Below w2.heap.size w2 W) => S.span k l ao cap W (HR.out W b) hp
  have cC := fun (W : World) (b : Below w2.heap.size w2 W) => S.count k l ao cap W (HR.out W b) hp
  have cA := fun (x : Int) (hx : Lim x) (W : World) (b : Below w2.heap.size w2 W) => S.at' k x l ao cap W (HR.out W b) hp hx
  have cB := hid (fun (x : Int) (hx : Lim x) (W : World) (b : Below w2.heap.size w2 W) => R14.at_any k x l bo bcap W (HL.out W b) hlim hx)
  have nl : N ≤ 1000 := by rw [hN]; exact Nat.le_trans (runs_len l k) hn
  rw [gone_all (by rw [← hN]; exact nl)] at cG
  have sp := span_runs k l
  obtain ⟨R, hR⟩ : ∃ R, R = runsF k l := ⟨_, rfl⟩
  rw [← hR] at cR cG cS cC cA hN sp
  have ok0 : ∀ r ∈ R, RnOk r := by rw [hR]; exact runs_ok hlim (by omega) (row_vals hl)
  have np : l ≠ [] → 0 < N := fun h => by rw [hN, hR]; exact runs_pos h
  have nz : l = [] → N = 0 := fun h => by rw [hN, hR, h]; rfl
  rw [← hR, ← hN]
  rw [← hN] at cR cG cS cC cA
  rw [sp] at cS
  have cR := hid cR; have cG := hid cG; have cS := hid cS; have cC := hid cC; have cA := hid cA
  have HN := hid hN
  have HW := hid (show w2 = (w.alloc (.cells #[.slice ao N cap] 27)).alloc (.cells #[.int .i64 k, .slice bo l.length bcap] 30) by rw [hw2, hw1])
  have HK1 := hid hk1
  have HK2 := hid (show k2 = w.heap.size + 1 by rw [hk2, hw1]; simp)
  have B0 := hid (Below.refl w2.heap.size w2)
  have lm := hl.hmax
  have lc := hl.hcap
  have rm := hr.hmax
  have rc := hr.hcap
  rw [← hR, ← hN] at rc
  have x0 := (X1.on b2).cell 0 _ rfl
  have y0 := X2.cell 0 _ rfl
  have y1 := X2.cell 1 _ rfl
  have l1 := (X1.on b2).lt
  have l2 := X2.lt
  have GK := hid hk
  have NP := hid np
  have NZ := hid nz
  clear hw1 hk1 b1 X1 hw2 hk2 b2 X2 b02 hp hlim hR hN hr hl sp ok0 np nz hk
  go_enter Try.func15, Try.ntmps15
  go_upto_region 1 with fail
  rw [← HW.out, ← HK2.out, ← HK1.out]
  clear HW HK1 HK2
  go_wp2_with fail
  refine (cR.out w2 B0.out).mono ?_
  rintro e w3 ⟨⟨ro, rcap, rfl, RR⟩, b3⟩
  have B3 := hid b3
  have HRR := hid (fun (W : World) (b : Below w3.heap.size w3 W) => RR.on b)
  have rr1 := RR.hmax
  have rr2 := RR.hcap
  have Y := HX.out w3 b3
  have x0 := Y.1.cell 0 _ rfl; have y0 := Y.2.1.cell 0 _ rfl; have y1 := Y.2.1.cell 1 _ rfl; have l1 := Y.1.lt; have l2 := Y.2.1.lt
  clear cR b3 RR Y B0
  go_wp2_with fail
  refine (cG.out w3 B3.out).mono ?_
  rintro e w4 ⟨⟨go', gcap, rfl, RG⟩, b4⟩
  have B34 := hid b4
  have B4 := hid (bel_on B3.out b4)
  have HRG := hid (fun (W : World) (b : Below w4.heap.size w4 W) => RG.on b)
  have gg1 := RG.hmax
  have gg2 := RG.hcap
  have Y := HX.out w4 B4.out
  have x0 := Y.1.cell 0 _ rfl; have y0 := Y.2.1.cell 0 _ rfl; have y1 := Y.2.1.cell 1 _ rfl; have l1 := Y.1.lt; have l2 := Y.2.1.lt
  clear cG b4 RG Y B3
  by_cases hl0 : l = []
  · rw [if_pos hl0] at cS
    obtain rfl := NZ.out hl0
    go_wp2_with fail
    refine (cS.out w4 B4.out).mono ?_
    rintro e w5 ⟨rfl, b5⟩
    have B5 := hid (bel_on B4.out b5)
    have Y := HX.out w5 B5.out
    have x0 := Y.1.cell 0 _ rfl; have l1 := Y.1.lt
    clear cS b5 Y y0 y1 l2
    go_wp2_with fail
    refine (cC.out w5 B5.out).mono ?_
    rintro e w6 ⟨rfl, b6⟩
    have BF := hid (HX.out w6 (bel_on B5.out b6)).2.2
    clear cC b6 x0 l1
    go_wp2
    go_ret
    exact ⟨rfl, BF.out⟩
  · rw [if_neg hl0] at cS
    have n0 := NP.out hl0
    have n1 : (0 : Int) < (N : Int) := by omega
    have z0 : decide ((0 : Int) < (N : Int)) = true := decide_eq_true n1
    have zn : ((N : Int) == (N : Int)) = true := by simp
    go_wp2_with fail
    refine (cS.out w4 B4.out).mono ?_
    rintro e w5 ⟨rfl, b5⟩
    have B45 := hid b5
    have B5 := hid (bel_on B4.out b5)
    have Y := HX.out w5 B5.out
    have x0 := Y.1.cell 0 _ rfl; have l1 := Y.1.lt
    clear cS b5 Y y0 y1 l2
    go_wp2_with fail
    refine (cC.out w5 B5.out).mono ?_
    rintro e w6 ⟨rfl, b6⟩
    have B46 := hid (bel_on B45.out b6)
    have B6 := hid (bel_on B5.out b6)
    clear cC b6 x0 l1 B45 B5
    go_wp2
    clear z0 zn
    go_loopw [56] (fun i wr => ∃ i' : Nat, i = .int .i64 (i' : Int) ∧ i' ≤ N ∧ Hid (Below w4.heap.size w4 wr)) (fun i _ => N - (intOf i).toNat)
    case atStart => exact ⟨0, rfl, Nat.zero_le _, B46⟩
    case round =>
      obtain ⟨i', rfl, hi, hb⟩ := hrel
      clear B46 B6
      by_cases hlt : i' < N
      · obtain ⟨r, hr⟩ : ∃ r, R[i']? = some r := ⟨_, List.getElem?_eq_getElem (by rw [← HN.out]; exact hlt)⟩
        obtain ⟨gb, go2, eg, lgb, g0, g1, g2, -⟩ := rn_at (HRG.out wr hb.out) hr
        subst eg
        obtain ⟨wt, hwt⟩ : ∃ W, W = wr.alloc (.cells ([.int .i64 r.a, .int .i64 r.b, .int .i64 r.v] : List Value).toArray 69) := ⟨_, rfl⟩
        obtain ⟨kt, hkt⟩ : ∃ k, k = wr.heap.size := ⟨_, rfl⟩
        have bt2 : Below wr.heap.size wr wt := by rw [hwt]; exact bel_alloc _ _
        have XT : Box wt kt [.int .i64 r.a, .int .i64 r.b, .int .i64 r.v] := by rw [hwt, hkt]; exact Box.new _ _ _
        have BT := hid (bel_on hb.out bt2)
        obtain ⟨rb, ro2, er, lrb, r0, r1, r2, -⟩ := rn_at (HRR.out wt (bel_on B34.out BT.out)) hr
        subst er
        have f0 := cell_regrown (XT.cell 0 _ rfl); have f1 := cell_regrown (XT.cell 1 _ rfl); have f2 := cell_regrown (XT.cell 2 _ rfl)
        have p0 := cell_regrown r0; have p1 := cell_regrown r1; have p2 := cell_regrown r2
        have z0 : (r.a != r.a) = false := by simp
        have z1 : (r.b != r.b) = false := by simp
        have z2 : (r.v != r.v) = false := by simp
        have HWT := hid hwt
        have HKT := hid hkt
        clear hwt hkt bt2 XT hr hb r0 r1 r2
        go_upto_region 11 with fail
        rw [← HWT.out, ← HKT.out]
        clear HWT HKT g0 g1 g2 lgb
        refine wp_region_quiet_below (by kernel_rfl) (by kernel_rfl) ?_
        repeat (go_big_quiet_step (fail))
        refine wpQuiet_nil ?_
        intro _ hw'
        obtain ⟨⟨dq, osq⟩, hw''⟩ := hw'
        subst hw''
        have BQ := hid (bel_on BT.out (below_regrown wt dq osq))
        clear f0 f1 f2 p0 p1 p2
        go_wp2
        go_roundw
        case rel => exact ⟨i' + 1, by simp, by omega, BQ⟩
        case measure => simp [intOf]; omega
      · obtain ⟨wq, hwq⟩ : ∃ W, W = wr := ⟨_, rfl⟩
        have B7 := hid (bel_on B4.out hb.out)
        rw [← hwq] at B7 ⊢
        clear hb hwq B34 B4
        have wk1 : IntKind.i64.wrap (k - 2) = k - 2 := wrap_l (by have := GK.out; unfold I64; omega)
        have Y := HX.out wq B7.out
        have y0 := Y.2.1.cell 0 _ rfl; have l2 := Y.2.1.lt
        clear Y
        go_wp2
        clear y0 l2
        go_loopw [12] (fun x wr => ∃ i' : Nat, x = .int .i64 (k - 2 + (i' : Int)) ∧ i' ≤ l.length + 4 ∧ Hid (Below w2.heap.size w2 wr)) (fun x _ => l.length + 5 - (intOf x - (k - 2)).toNat)
        case atStart => exact ⟨0, by simp, Nat.zero_le _, B7⟩
        case round =>
          clear B7 hi hlt
          obtain ⟨j, rfl, hj, hb⟩ := hrel
          have Y := HX.out wr hb.out
          have x0 := Y.1.cell 0 _ rfl; have y0 := Y.2.1.cell 0 _ rfl; have y1 := Y.2.1.cell 1 _ rfl; have l1 := Y.1.lt; have l2 := Y.2.1.lt
          clear Y
          have gk := GK.out
          have wk2 : IntKind.i64.wrap (k + (l.length : Int)) = k + (l.length : Int) := wrap_l (by unfold I64; omega)
          have wk3 : IntKind.i64.wrap (k + (l.length : Int) + 1) = k + (l.length : Int) + 1 := wrap_l (by unfold I64; omega)
          by_cases hlt : j < l.length + 4
          · have z3 : decide (k - 2 + (j : Int) ≤ k + (l.length : Int) + 1) = true := decide_eq_true (by omega)
            have lx : Lim (k - 2 + (j : Int)) := by unfold Lim; omega
            have c1 := cA.out (k - 2 + (j : Int)) lx
            have c2 := cB.out (k - 2 + (j : Int)) lx
            have wk4 : IntKind.i64.wrap (k - 2 + (j : Int) + 1) = k - 2 + (j : Int) + 1 := wrap_l (by unfold I64; omega)
            obtain ⟨A, hA⟩ : ∃ A, A = atL k l (k - 2 + (j : Int)) := ⟨_, rfl⟩
            rw [← hA] at c1 c2
            have c1 := hid c1
            have c2 := hid c2
            clear hA lx gk
            go_wp2_with fail
            refine (c1.out wr hb.out).mono ?_
            rintro e w7 ⟨rfl, b7⟩
            have B7 := hid (bel_on hb.out b7)
            have Y := HX.out w7 B7.out
            have y0 := Y.2.1.cell 0 _ rfl; have y1 := Y.2.1.cell 1 _ rfl; have l2 := Y.2.1.lt
            clear c1 b7 Y x0 l1 hb
            go_wp2_with fail
            refine (c2.out w7 B7.out).mono ?_
            rintro e w8 ⟨rfl, b8⟩
            have B8 := hid (bel_on B7.out b8)
            clear c2 b8 y0 y1 l2 B7
            have t1 : (vO A != vO A) = false := by simp
            have t2 : (bO A != bO A) = false := by simp
            have t3 : (vO A == vO A) = true := by simp
            have t4 : (bO A == bO A) = true := by simp
            go_wp2
            go_roundw
            case rel => exact ⟨j + 1, vi (by omega), by omega, B8⟩
            case measure => simp [intOf]; omega
          · have z3 : decide (k - 2 + (j : Int) ≤ k + (l.length : Int) + 1) = false := decide_eq_false (by omega)
            have BF := hid (HX.out wr hb.out).2.2
            have wk5 : IntKind.i64.wrap (k + (l.length : Int) - 1) = k + (l.length : Int) - 1 := wrap_l (by unfold I64; omega)
            have t1 : (k == k) = true := by simp
            have t2 : (k + (l.length : Int) - 1 == k + (l.length : Int) - 1) = true := by simp
            clear gk hb
            go_wp2
            go_ret
            exact ⟨rfl, BF.out⟩
end Go.Proofs.Ytghhnimimccpoaa.L14
