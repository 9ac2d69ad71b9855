/- The laws of layer 13 (price), over what the package answers: PriceIs, PriceParts. -/
import Derived.Test.YtjgogpaedaffkaaJL11
import Derived.Test.YtjgogpaedaffkaaJAdjP
import Derived.RangeFuncNested
import Derived.RangeFuncBound
import Derived.RangeFuncCalls
import Derived.RangeFuncLeaves
import Derived.RangeFuncBox
import Derived.Shelf.Abstract
import Derived.Shelf.RegionOpen
import Derived.WalkKit
import Derived.OwnWalkIn
import Derived.TacticsInMore
import Derived.LoopNIn
import Derived.LoopIn
import Derived.Maps.AppendAt
import Derived.Test.YtjgogpaedaffkaaJPureS
import Derived.Test.YtjgogpaedaffkaaRows
import Derived.ProofKit
import Derived.BigQuiet
import Derived.Deep.QuietTactic
import Derived.Lib.Strings
import Derived.Lib.Small
import Derived.Lib.Walk
import Derived.Lib.BitFns
import Derived.Deep.CutBlock
import Derived.Deep.CutRange
import Derived.Deep.DeepCutAuto
import Derived.Deep.LoopGhost
namespace Go.Proofs.Ytjgogpaedaffkaa.P
end Go.Proofs.Ytjgogpaedaffkaa.P
namespace Go.Proofs.Ytjgogpaedaffkaa.Mm
end Go.Proofs.Ytjgogpaedaffkaa.Mm
namespace Go.Proofs.Ytjgogpaedaffkaa.Md
end Go.Proofs.Ytjgogpaedaffkaa.Md
namespace Go.Proofs.Ytjgogpaedaffkaa.R6
end Go.Proofs.Ytjgogpaedaffkaa.R6
namespace Go.Proofs.Ytjgogpaedaffkaa.Te
end Go.Proofs.Ytjgogpaedaffkaa.Te
namespace Go.Proofs.Ytjgogpaedaffkaa.Co
end Go.Proofs.Ytjgogpaedaffkaa.Co
namespace Go.Proofs.Ytjgogpaedaffkaa.R10
end Go.Proofs.Ytjgogpaedaffkaa.R10
namespace Go.Proofs.Ytjgogpaedaffkaa.R11
end Go.Proofs.Ytjgogpaedaffkaa.R11
namespace Go.Proofs.Ytjgogpaedaffkaa.L13
open Go.RowKit Go.Sort P Mm Md R6 Te Co R10 R11
/-- What package price answers. -/
structure Pr : Prop where
  part : ∀ (x : Prt) (ta : Option Addr) (tc : Nat) (aa : Option Addr) (ac : Nat) (q : Int) (w : World), Row tTier w ta x.tiers.length tc x.tiers → Row tAdj w aa x.adjusts.length ac x.adjusts → I64 q → GoodT x →
    Calls Try.prog 8 #[.agg #[.int .i64 x.mt, .int .i64 x.a, .int .i64 x.b, .int .i64 x.allowance, .int .i64 x.block, .int .i64 x.kind, .slice ta x.tiers.length tc, .int .i64 x.mode, .slice aa x.adjusts.length ac], .int .i64 q] w fun e w' => e = .returned (.tuple #[.int .i64 (oV (partO x q)), .bool (oB (partO x q))]) ∧ Below w.heap.size w w'
  price : ∀ (c : Cor) (ma : Option Addr) (mc : Nat) (sa : Option Addr) (sc : Nat) (pa : Option Addr) (pc : Nat) (d : Int) (bk : List Int) (bo : Option Addr) (bcap : Nat) (w : World), CorLies w (corC c ma mc sa sc pa pc) c ma mc sa sc pa pc → Row tInt w bo bk.length bcap bk → c.meters.length ≤ 100000 → bk.length ≤ 100000 →
    Calls Try.prog 11 #[.agg #[.string c.cur, .int .i64 c.a, .int .i64 c.b, .slice ma c.meters.length mc, .slice sa c.sums.length sc, .slice pa c.parts.length pc], .int .i64 d, .slice bo bk.length bcap] w fun e w' => e = .returned (.tuple #[.int .i64 (priceV c d bk).1, .int .i64 (priceV c d bk).2]) ∧ Below w.heap.size w w'
theorem row_prt1 {W : World} {k : Nat} {x : Prt} {ta : Option Addr} {tc : Nat} {aa : Option Addr} {ac : Nat} (X : Box W k (prtC x ta tc aa ac)) (h : PrtLies W (prtC x ta tc aa ac) x ta tc aa ac) : Row tPrt W (some ⟨k, 0, none⟩) 1 1 [x] :=
  ⟨rfl, Nat.le_refl _, by decide, fun _ => ⟨k, 0, rfl, X.lt, fun j y hj => by
    cases j with
    | zero =>
      obtain rfl : x = y := by simpa using hj
      refine ⟨prtC x ta tc aa ac, ⟨ta, tc, aa, ac, h⟩, fun i v hi => ?_⟩
      have := X.cell i v hi
      simpa using this
    | succ j => simp at hj⟩⟩
/-- Price of a basket of one quantity, in a new block. -/
theorem price_one (A : Pr) (c : Cor) (ma : Option Addr) (mc : Nat) (sa : Option Addr) (sc : Nat) (pa : Option Addr) (pc : Nat) (d q : Int) (W : World) (hc : CorLies W (corC c ma mc sa sc pa pc) c ma mc sa sc pa pc) (hm : c.meters.length ≤ 100000) (hq : I64 q) :
    Calls Try.prog 11 #[.agg #[.string c.cur, .int .i64 c.a, .int .i64 c.b, .slice ma c.meters.length mc, .slice sa c.sums.length sc, .slice pa c.parts.length pc], .int .i64 d, .slice (some ⟨W.heap.size, 0, none⟩) 1 1] (W.alloc (.cells #[.int .i64 q] 3)) fun e w' => e = .returned (.tuple #[.int .i64 (priceV c d [q]).1, .int .i64 (priceV c d [q]).2]) ∧ Below W.heap.size W w' := by
  have X := Box.new W [.int .i64 q] 3
  have R : Row tInt (W.alloc (.cells #[.int .i64 q] 3)) (some ⟨W.heap.size, 0, none⟩) 1 1 [q] := L11.row_box (α := Int) (n := 1) (cells := fun x => [.int .i64 x]) (ok := I64) (hn := fun _ => rfl) (xs := [q]) X (fun x hx => by
    rw [List.mem_singleton] at hx
    rw [hx]
    exact hq) (by show (1 : Nat) ≤ 1000; decide)
  exact (A.price c ma mc sa sc pa pc d [q] (some ⟨W.heap.size, 0, none⟩) 1 _ (hc.on (bel_alloc W _)) R hm (by show (1 : Nat) ≤ 100000; decide)).mono fun e w' h => ⟨h.1, bel_on (bel_alloc W _) h.2⟩
def mA : Meter := ⟨⟨#[109]⟩, ⟨#[]⟩, 5, 0, 0⟩
def sA : Mm.Sm := ⟨5, 0, 9⟩
def xA : Prt := ⟨0, 0, 9, 0, 1, 1, [⟨0, 2000000⟩], 0, []⟩
def cA : Cor := ⟨⟨#[]⟩, 0, 9, [mA], [sA], [xA]⟩
set_option maxHeartbeats 4000000 in
set_option maxRecDepth 100000 in
theorem alive_any (A : Pr) (w : World) : Calls Try.prog 6 #[] w fun e w' => e = .returned (.bool true) ∧ Below w.heap.size w w' := by
  obtain ⟨w1, hw1⟩ : ∃ W, W = w.alloc (.cells ([.string ⟨#[109]⟩, .string ⟨#[]⟩, .int .i64 5, .int .i64 0, .int .i64 0] : List Value).toArray 29) := ⟨_, rfl⟩
  obtain ⟨k1, hk1⟩ : ∃ k, k = w.heap.size := ⟨_, rfl⟩
  have b1 : Below w.heap.size w w1 := by rw [hw1]; exact bel_alloc _ _
  have X1 : Box w1 k1 [.string ⟨#[109]⟩, .string ⟨#[]⟩, .int .i64 5, .int .i64 0, .int .i64 0] := by rw [hw1, hk1]; exact Box.new w _ 29
  obtain ⟨w2, hw2⟩ : ∃ W, W = w1.alloc (.cells ([.int .i64 5, .int .i64 0, .int .i64 9] : List Value).toArray 45) := ⟨_, rfl⟩
  obtain ⟨k2, hk2⟩ : ∃ k, k = w1.heap.size := ⟨_, rfl⟩
  have b2 : Below w1.heap.size w1 w2 := by rw [hw2]; exact bel_alloc _ _
  have X2 : Box w2 k2 [.int .i64 5, .int .i64 0, .int .i64 9] := by rw [hw2, hk2]; exact Box.new w1 _ 45
  obtain ⟨w3, hw3⟩ : ∃ W, W = w2.alloc (.cells ([.int .i64 0, .int .i64 2000000] : List Value).toArray 48) := ⟨_, rfl⟩
  obtain ⟨k3, hk3⟩ : ∃ k, k = w2.heap.size := ⟨_, rfl⟩
  have b3 : Below w2.heap.size w2 w3 := by rw [hw3]; exact bel_alloc _ _
  have X3 : Box w3 k3 [.int .i64 0, .int .i64 2000000] := by rw [hw3, hk3]; exact Box.new w2 _ 48
  obtain ⟨w4, hw4⟩ : ∃ W, W = w3.alloc (.cells ([.int .i64 0, .int .i64 0, .int .i64 9, .int .i64 0, .int .i64 1, .int .i64 1, .slice (some ⟨k3, 0, none⟩) 1 1, .int .i64 0, .slice none 0 0] : List Value).toArray 25) := ⟨_, rfl⟩
  obtain ⟨k4, hk4⟩ : ∃ k, k = w3.heap.size := ⟨_, rfl⟩
  have b4 : Below w3.heap.size w3 w4 := by rw [hw4]; exact bel_alloc _ _
  have X4 : Box w4 k4 [.int .i64 0, .int .i64 0, .int .i64 9, .int .i64 0, .int .i64 1, .int .i64 1, .slice (some ⟨k3, 0, none⟩) 1 1, .int .i64 0, .slice none 0 0] := by rw [hw4, hk4]; exact Box.new w3 _ 25
  obtain ⟨w5, hw5⟩ : ∃ W, W = w4.alloc (.cells ([.string ⟨#[]⟩, .int .i64 0, .int .i64 9, .slice (some ⟨k1, 0, none⟩) 1 1, .slice (some ⟨k2, 0, none⟩) 1 1, .slice (some ⟨k4, 0, none⟩) 1 1] : List Value).toArray 34) := ⟨_, rfl⟩
  obtain ⟨k5, hk5⟩ : ∃ k, k = w4.heap.size := ⟨_, rfl⟩
  have b5 : Below w4.heap.size w4 w5 := by rw [hw5]; exact bel_alloc _ _
  have X5 : Box w5 k5 [.string ⟨#[]⟩, .int .i64 0, .int .i64 9, .slice (some ⟨k1, 0, none⟩) 1 1, .slice (some ⟨k2, 0, none⟩) 1 1, .slice (some ⟨k4, 0, none⟩) 1 1] := by rw [hw5, hk5]; exact Box.new w4 _ 34
  have b35 := bel_on b4 b5
  have b25 := bel_on b3 b35
  have b15 := bel_on b2 b25
  have b05 := bel_on b1 b15
  have r1 : Row tMeter w5 (some ⟨k1, 0, none⟩) 1 1 [mA] := L11.row_box (α := Meter) (n := 5) (cells := meterC) (ok := fun m => strOk m.name ∧ strOk m.unit ∧ I64 m.max ∧ I64 m.line ∧ I64 m.col) (hn := fun _ => rfl) (xs := [mA]) (X1.on b15) (fun x hx => by
    rw [List.mem_singleton] at hx
    rw [hx]
    exact ⟨by show (1 : Nat) ≤ _; decide, by show (0 : Nat) ≤ _; decide, by show I64 5; unfold I64; omega, by show I64 0; unfold I64; omega, by show I64 0; unfold I64; omega⟩) (by decide)
  have r2 : Row tSm w5 (some ⟨k2, 0, none⟩) 1 1 [sA] := L11.row_box (α := Mm.Sm) (n := 3) (cells := smC) (ok := fun s => I64 s.amt ∧ I64 s.a ∧ I64 s.b) (hn := fun _ => rfl) (xs := [sA]) (X2.on b25) (fun x hx => by
    rw [List.mem_singleton] at hx
    rw [hx]
    exact ⟨by show I64 5; unfold I64; omega, by show I64 0; unfold I64; omega, by show I64 9; unfold I64; omega⟩) (by decide)
  have r3 : Row tTier w5 (some ⟨k3, 0, none⟩) 1 1 [⟨0, 2000000⟩] := L11.row_box (α := Tier) (n := 2) (cells := tierC) (ok := fun t => I64 t.upto ∧ I64 t.rate) (hn := fun _ => rfl) (xs := [⟨0, 2000000⟩]) (X3.on b35) (fun x hx => by
    rw [List.mem_singleton] at hx
    rw [hx]
    exact ⟨by show I64 0; unfold I64; omega, by show I64 2000000; unfold I64; omega⟩) (by decide)
  have r4 : Row tPrt w5 (some ⟨k4, 0, none⟩) 1 1 [xA] := row_prt1 (x := xA) (ta := some ⟨k3, 0, none⟩) (tc := 1) (aa := none) (ac := 0) (X4.on b5) ⟨rfl, r3, ⟨rfl, Nat.le_refl _, by decide, fun h => absurd rfl h⟩, by
    have z : I64 0 := by unfold I64; omega
    have o : I64 1 := by unfold I64; omega
    have n : I64 9 := by unfold I64; omega
    exact ⟨z, z, n, z, o, o, z⟩⟩
  have lie : CorLies w5 (corC cA (some ⟨k1, 0, none⟩) 1 (some ⟨k2, 0, none⟩) 1 (some ⟨k4, 0, none⟩) 1) cA (some ⟨k1, 0, none⟩) 1 (some ⟨k2, 0, none⟩) 1 (some ⟨k4, 0, none⟩) 1 :=
    ⟨rfl, r1, r2, r4, by show (0 : Nat) ≤ _; decide, by show I64 0; unfold I64; omega, by show I64 9; unfold I64; omega⟩
  have c1 := hid (fun (W : World) (b : Below w5.heap.size w5 W) => show Calls Try.prog 11 #[.agg #[.string ⟨#[]⟩, .int .i64 0, .int .i64 9, .slice (some ⟨k1, 0, none⟩) 1 1, .slice (some ⟨k2, 0, none⟩) 1 1, .slice (some ⟨k4, 0, none⟩) 1 1], .int .i64 4, .slice (some ⟨W.heap.size, 0, none⟩) 1 1] (W.alloc (.cells #[.int .i64 3] 3)) fun e w' => e = .returned (.tuple #[.int .i64 11, .int .i64 0]) ∧ Below W.heap.size W w' by
    have := price_one A cA (some ⟨k1, 0, none⟩) 1 (some ⟨k2, 0, none⟩) 1 (some ⟨k4, 0, none⟩) 1 4 3 W (lie.on b) (by decide) (by unfold I64; omega)
    rw [show priceV cA 4 [3] = (11, 0) by decide +kernel] at this
    exact this)
  have c2 := hid (fun (W : World) (b : Below w5.heap.size w5 W) => show Calls Try.prog 11 #[.agg #[.string ⟨#[]⟩, .int .i64 0, .int .i64 9, .slice (some ⟨k1, 0, none⟩) 1 1, .slice (some ⟨k2, 0, none⟩) 1 1, .slice (some ⟨k4, 0, none⟩) 1 1], .int .i64 4, .slice (some ⟨W.heap.size, 0, none⟩) 1 1] (W.alloc (.cells #[.int .i64 6] 3)) fun e w' => e = .returned (.tuple #[.int .i64 0, .int .i64 8]) ∧ Below W.heap.size W w' by
    have := price_one A cA (some ⟨k1, 0, none⟩) 1 (some ⟨k2, 0, none⟩) 1 (some ⟨k4, 0, none⟩) 1 4 6 W (lie.on b) (by decide) (by unfold I64; omega)
    rw [show priceV cA 4 [6] = (0, 8) by decide +kernel] at this
    exact this)
  have e2 : k2 = w.heap.size + 1 := by rw [hk2, hw1]; simp
  have e3 : k3 = w.heap.size + 1 + 1 := by rw [hk3, hw2, hw1]; simp
  have e4 : k4 = w.heap.size + 1 + 1 + 1 := by rw [hk4, hw3, hw2, hw1]; simp
  have e5 : k5 = w.heap.size + 1 + 1 + 1 + 1 := by rw [hk5, hw4, hw3, hw2, hw1]; simp
  have HW := hid (show w5 = ((((w.alloc (.cells #[.string ⟨#[109]⟩, .string ⟨#[]⟩, .int .i64 5, .int .i64 0, .int .i64 0] 29)).alloc (.cells #[.int .i64 5, .int .i64 0, .int .i64 9] 45)).alloc (.cells #[.int .i64 0, .int .i64 2000000] 48)).alloc (.cells #[.int .i64 0, .int .i64 0, .int .i64 9, .int .i64 0, .int .i64 1, .int .i64 1, .slice (some ⟨w.heap.size + 1 + 1, 0, none⟩) 1 1, .int .i64 0, .slice none 0 0] 25)).alloc (.cells #[.string ⟨#[]⟩, .int .i64 0, .int .i64 9, .slice (some ⟨w.heap.size, 0, none⟩) 1 1, .slice (some ⟨w.heap.size + 1, 0, none⟩) 1 1, .slice (some ⟨w.heap.size + 1 + 1 + 1, 0, none⟩) 1 1] 34) by rw [hw5, hw4, hw3, hw2, hw1, hk1, e2, e3, e4])
  have HK := hid (And.intro hk1 (And.intro e2 (And.intro e3 (And.intro e4 e5))))
  have HX := hid X5
  have B5 := hid b05
  have d0 := X5.cell 0 _ rfl; have d1 := X5.cell 1 _ rfl; have d2 := X5.cell 2 _ rfl; have d3 := X5.cell 3 _ rfl; have d4 := X5.cell 4 _ rfl; have d5 := X5.cell 5 _ rfl
  have l5 := X5.lt
  clear hw1 hk1 b1 X1 hw2 hk2 b2 X2 hw3 hk3 b3 X3 hw4 hk4 b4 X4 hw5 hk5 b5 X5 b35 b25 b15 b05 r1 r2 r3 r4 lie e2 e3 e4 e5
  go_enter Try.func6, Try.ntmps6
  go_upto_region 2 with fail
  rw [← HW.out, ← HK.out.2.2.2.2]
  clear HW
  go_wp2_with fail
  refine (c1.out _ (Below.refl _ _)).mono ?_
  rintro e w6 ⟨rfl, b6⟩
  have B6 := hid b6
  have Y := HX.out.on b6
  have d0 := Y.cell 0 _ rfl; have d1 := Y.cell 1 _ rfl; have d2 := Y.cell 2 _ rfl; have d3 := Y.cell 3 _ rfl; have d4 := Y.cell 4 _ rfl; have d5 := Y.cell 5 _ rfl
  have l6 := Y.lt
  clear b6 c1 Y
  go_wp2_with fail
  refine (c2.out _ B6.out).mono ?_
  rintro e w7 ⟨rfl, b7⟩
  have B7 := hid (bel_on B5.out (bel_on B6.out b7))
  clear b7 c2
  go_wp2
  go_ret
  exact ⟨rfl, B7.out⟩
set_option maxHeartbeats 4000000 in
set_option maxRecDepth 100000 in
theorem parts_walk (A : Pr) (x : Prt) (ta : Option Addr) (tc : Nat) (aa : Option Addr) (ac : Nat) (q : Int) (w : World) (ht : Row tTier w ta x.tiers.length tc x.tiers) (ha : Row tAdj w aa x.adjusts.length ac x.adjusts) (hq : I64 q) :
    Calls Try.prog 3 #[.agg #[.int .i64 x.mt, .int .i64 x.a, .int .i64 x.b, .int .i64 x.allowance, .int .i64 x.block, .int .i64 x.kind, .slice ta x.tiers.length tc, .int .i64 x.mode, .slice aa x.adjusts.length ac], .int .i64 q] w fun e w' => e = .returned (.bool true) ∧ Below w.heap.size w w' := by
  obtain ⟨w1, hw1⟩ : ∃ W, W = w.alloc (.cells ([.int .i64 x.mt, .int .i64 x.a, .int .i64 x.b, .int .i64 x.allowance, .int .i64 x.block, .int .i64 x.kind, .slice ta x.tiers.length tc, .int .i64 x.mode, .slice aa x.adjusts.length ac] : List Value).toArray 25) := ⟨_, rfl⟩
  obtain ⟨k1, hk1⟩ : ∃ k, k = w.heap.size := ⟨_, rfl⟩
  have b1 : Below w.heap.size w w1 := by rw [hw1]; exact bel_alloc _ _
  have X1 : Box w1 k1 [.int .i64 x.mt, .int .i64 x.a, .int .i64 x.b, .int .i64 x.allowance, .int .i64 x.block, .int .i64 x.kind, .slice ta x.tiers.length tc, .int .i64 x.mode, .slice aa x.adjusts.length ac] := by rw [hw1, hk1]; exact Box.new w _ 25
  have X := hid (fun (W : World) (b : Below w1.heap.size w1 W) => (⟨X1.on b, bel_on b1 b⟩ : Box W k1 [.int .i64 x.mt, .int .i64 x.a, .int .i64 x.b, .int .i64 x.allowance, .int .i64 x.block, .int .i64 x.kind, .slice ta x.tiers.length tc, .int .i64 x.mode, .slice aa x.adjusts.length ac] ∧ Below w.heap.size w W))
  have HT := hid (fun (W : World) (b : Below w1.heap.size w1 W) => ht.on (bel_on b1 b))
  have HA := hid (fun (W : World) (b : Below w1.heap.size w1 W) => ha.on (bel_on b1 b))
  have cA := hid (alive_any A w1)
  have HW := hid hw1
  have HK := hid hk1
  have HQ := hid hq
  have tm := ht.hmax
  have am := ha.hmax
  clear hw1 hk1 X1 b1 ht ha hq
  go_enter Try.func3, Try.ntmps3
  go_upto_region 1 with fail
  rw [← HW.out, ← HK.out]
  clear HW HK
  go_wp2_with fail
  refine cA.out.mono ?_
  rintro e w2 ⟨rfl, b2⟩
  have B2 := hid b2
  have Y := (X.out w2 b2).1
  have BF := hid (X.out w2 b2).2
  have f0 := Y.cell 0 _ rfl; have f1 := Y.cell 1 _ rfl; have f2 := Y.cell 2 _ rfl; have f3 := Y.cell 3 _ rfl; have f4 := Y.cell 4 _ rfl; have f5 := Y.cell 5 _ rfl; have f6 := Y.cell 6 _ rfl; have f7 := Y.cell 7 _ rfl; have f8 := Y.cell 8 _ rfl
  have l2 := Y.lt
  clear cA b2 Y
  by_cases t40 : 40 < x.tiers.length
  · have z1 : decide ((40 : Int) < (x.tiers.length : Int)) = true := decide_eq_true (by omega)
    go_wp2
    go_ret
    exact ⟨rfl, BF.out⟩
  have z1 : decide ((40 : Int) < (x.tiers.length : Int)) = false := decide_eq_false (by omega)
  by_cases a40 : 40 < x.adjusts.length
  · have z2 : decide ((40 : Int) < (x.adjusts.length : Int)) = true := decide_eq_true (by omega)
    go_wp2
    go_ret
    exact ⟨rfl, BF.out⟩
  have z2 : decide ((40 : Int) < (x.adjusts.length : Int)) = false := decide_eq_false (by omega)
  clear t40 a40
  obtain ⟨w3, hw3⟩ : ∃ W, W = w2.alloc (.cells ([.int .i64 x.mt, .int .i64 x.a, .int .i64 x.b, .int .i64 x.allowance, .int .i64 x.block, .int .i64 x.kind, .slice ta x.tiers.length tc, .int .i64 x.mode, .slice aa x.adjusts.length ac] : List Value).toArray 25) := ⟨_, rfl⟩
  obtain ⟨k3, hk3⟩ : ∃ k, k = w2.heap.size := ⟨_, rfl⟩
  have b3 : Below w2.heap.size w2 w3 := by rw [hw3]; exact bel_alloc _ _
  have X3 : Box w3 k3 [.int .i64 x.mt, .int .i64 x.a, .int .i64 x.b, .int .i64 x.allowance, .int .i64 x.block, .int .i64 x.kind, .slice ta x.tiers.length tc, .int .i64 x.mode, .slice aa x.adjusts.length ac] := by rw [hw3, hk3]; exact Box.new w2 _ 25
  obtain ⟨w4, hw4⟩ : ∃ W, W = ((w3.setCell ⟨k3, 0, none⟩ (.int .i64 0)).setCell ⟨k3, 1, none⟩ (.int .i64 0)).setCell ⟨k3, 2, none⟩ (.int .i64 0) := ⟨_, rfl⟩
  have X4 : Box w4 k3 [.int .i64 0, .int .i64 0, .int .i64 0, .int .i64 x.allowance, .int .i64 x.block, .int .i64 x.kind, .slice ta x.tiers.length tc, .int .i64 x.mode, .slice aa x.adjusts.length ac] := by
    rw [hw4]
    exact ((X3.set 0 (.int .i64 0)).set 1 (.int .i64 0)).set 2 (.int .i64 0)
  have hk0 : w2.heap.size ≤ k3 := by omega
  have b4 : Below w2.heap.size w2 w4 := by rw [hw4]; exact ((b3.setCell (p := ⟨k3, 0, none⟩) hk0 _).setCell (p := ⟨k3, 1, none⟩) hk0 _).setCell (p := ⟨k3, 2, none⟩) hk0 _
  obtain ⟨w5, hw5⟩ : ∃ W, W = w4.alloc (.cells ([.string ⟨#[]⟩, .string ⟨#[]⟩, .int .i64 0, .int .i64 0, .int .i64 0] : List Value).toArray 29) := ⟨_, rfl⟩
  obtain ⟨k5, hk5⟩ : ∃ k, k = w4.heap.size := ⟨_, rfl⟩
  have b45 : Below w4.heap.size w4 w5 := by rw [hw5]; exact bel_alloc _ _
  have B5 := hid (bel_on B2.out (bel_on b4 b45))
  have cP := R10.part_any L11.core0 (L11.bare x) (some ⟨k5, 0, none⟩) 1 none 0 none 0 ta tc aa ac w5 (HT.out w5 B5.out) (HA.out w5 B5.out)
  obtain ⟨R, hR⟩ : ∃ R, R = L11.goodX x := ⟨_, rfl⟩
  rw [show partB L11.core0 (L11.bare x) = R by rw [hR]; rfl] at cP
  have cP := hid cP
  have e0 := X3.cell 0 _ rfl; have e1 := X3.cell 1 _ rfl; have e2 := X3.cell 2 _ rfl
  have g0 := X3.free 0
  have g1 := X3.free 1
  have g2 := X3.free 2
  have l3 := X3.lt
  have HX4 := hid X4
  have HW3 := hid hw3
  have HK3 := hid hk3
  have HW4 := hid hw4
  have HW5 := hid hw5
  have HK5 := hid hk5
  have HR := hid hR
  clear hw3 hk3 b3 X3 hw4 X4 hk0 b4 hw5 hk5 b45 hR
  go_upto_region 6 with fail
  rw [← HW3.out, ← HK3.out]
  clear HW3 HK3 f0 f1 f2 f3 f4 f5 f6 f7 f8 l2
  go_upto_region 9 with fail
  rw [← HW4.out]
  clear HW4 e0 e1 e2 g0 g1 g2 l3
  have d0 := HX4.out.cell 0 _ rfl; have d1 := HX4.out.cell 1 _ rfl; have d2 := HX4.out.cell 2 _ rfl; have d3 := HX4.out.cell 3 _ rfl; have d4 := HX4.out.cell 4 _ rfl; have d5 := HX4.out.cell 5 _ rfl; have d6 := HX4.out.cell 6 _ rfl; have d7 := HX4.out.cell 7 _ rfl; have d8 := HX4.out.cell 8 _ rfl
  have l4 := HX4.out.lt
  go_wp2_with fail
  rw [← HW5.out, ← HK5.out]
  refine cP.out.mono ?_
  rintro e w6 ⟨rfl, b6⟩
  have B6 := hid (bel_on B5.out b6)
  have BF := hid (X.out w6 B6.out).2
  clear b6 cP d0 d1 d2 d3 d4 d5 d6 d7 d8 l4 HW5 HK5
  rcases Bool.eq_false_or_eq_true R with k | k
  rotate_left
  · rw [k]
    clear k
    go_wp2
    go_ret
    exact ⟨rfl, BF.out⟩
  obtain ⟨gt, _⟩ := L11.goodX_t (HR.out.symm.trans k)
  rw [k]
  have c1 := fun (W : World) (b : Below w1.heap.size w1 W) => A.part x ta tc aa ac q W (HT.out W b) (HA.out W b) HQ.out gt
  have c2 := fun (W : World) (b : Below w1.heap.size w1 W) => R13.part_any x ta tc aa ac q W (HT.out W b) (HA.out W b) HQ.out gt
  obtain ⟨V, hV⟩ : ∃ V, V = partO x q := ⟨_, rfl⟩
  rw [← hV] at c1 c2
  have c1 := hid c1
  have c2 := hid c2
  have Y := (X.out w6 B6.out).1
  have f0 := Y.cell 0 _ rfl; have f1 := Y.cell 1 _ rfl; have f2 := Y.cell 2 _ rfl; have f3 := Y.cell 3 _ rfl; have f4 := Y.cell 4 _ rfl; have f5 := Y.cell 5 _ rfl; have f6 := Y.cell 6 _ rfl; have f7 := Y.cell 7 _ rfl; have f8 := Y.cell 8 _ rfl
  have l6 := Y.lt
  clear k gt hV Y BF
  go_wp2_with fail
  refine (c1.out w6 B6.out).mono ?_
  rintro e w7 ⟨rfl, b7⟩
  have B7 := hid (bel_on B6.out b7)
  have Y := (X.out w7 B7.out).1
  have f0 := Y.cell 0 _ rfl; have f1 := Y.cell 1 _ rfl; have f2 := Y.cell 2 _ rfl; have f3 := Y.cell 3 _ rfl; have f4 := Y.cell 4 _ rfl; have f5 := Y.cell 5 _ rfl; have f6 := Y.cell 6 _ rfl; have f7 := Y.cell 7 _ rfl; have f8 := Y.cell 8 _ rfl
  have l7 := Y.lt
  clear c1 b7 Y l6 B6
  go_wp2_with fail
  refine (c2.out w7 B7.out).mono ?_
  rintro e w8 ⟨rfl, b8⟩
  have BF := hid (X.out w8 (bel_on B7.out b8)).2
  clear c2 b8 f0 f1 f2 f3 f4 f5 f6 f7 f8 l7
  have y1 : (oV V == oV V) = true := by simp
  have y2 : (oB V == oB V) = true := by simp
  go_wp2
  go_ret
  exact ⟨rfl, BF.out⟩
end Go.Proofs.Ytjgogpaedaffkaa.L13
/- A part (api.Part) that is an argument; a row of adjustments that is one. -/
namespace Go.Proofs.Ytjgogpaedaffkaa.Mm
open Go.RowKit Go.Deep Go.ChangeShapes Go.WideShapes P
section
variable {H : Type} {enc : TypeId × Value → H} {w : World} {base : Nat} {spare : Nat → Bool} {held : Bool}
set_option maxRecDepth 100000 in
theorem open_prt {d : DataW H} {v : Value} {ps : List MemPlace} {r : Reach} {b0 : Nat} (hv : Value.okWide Try.prog w r b0 25 v) (h : DataW.Trod enc Try.prog w base spare held 25 v d ps) :
    ∃ x ta tc aa ac, v = .agg (prtC x ta tc aa ac).toArray ∧ PrtLies w (prtC x ta tc aa ac) x ta tc aa ac := by
  obtain ⟨fuel, hf⟩ := h
  obtain ⟨p, ta, tc, aa, ac, hp⟩ := down_prt hf
  have hx := okWide_struct (P := Try.prog) (t := 25) Try.underlying25 hv
  obtain ⟨cs, hx, _⟩ := hx
  subst hx
  have e : cs.toList = prtC p ta tc aa ac := hp.cells
  exact ⟨p, ta, tc, aa, ac, by rw [← e], rfl, hp.tiers, hp.adjusts, hp.nums⟩
end
end Go.Proofs.Ytjgogpaedaffkaa.Mm
/- How far a tier reaches; steps tier by tier, with the quantity that is reached; sums of steps as far as one has come. As plain data. -/
namespace Go.Proofs.Ytjgogpaedaffkaa.P
open Go.RowKit Mm
/-- How far the tier at a place reaches within a quantity. -/
def reachP (ts : List Tier) (q : Int) (i : Nat) : Int := if i + 1 = ts.length then q else min q (((ts[i]?).map (·.upto)).getD 0)
/-- The steps from a quantity that is reached on, by the tiers from a place on. -/
def walkS (ts : List Tier) (q : Int) : Nat → Nat → Int → List Stp
  | 0, _, _ => []
  | n + 1, i, u => if reachP ts q i ≤ u then walkS ts q n (i + 1) u else ⟨u, reachP ts q i, ((ts[i]?).map (·.rate)).getD 0⟩ :: walkS ts q n (i + 1) (reachP ts q i)
theorem reachP_le (ts : List Tier) (q : Int) (i : Nat) : reachP ts q i ≤ q := by unfold reachP; split <;> omega
theorem walkS_none (ts : List Tier) (q : Int) : ∀ (n i : Nat) (u : Int), q ≤ u → walkS ts q n i u = []
  | 0, _, _, _ => rfl
  | n + 1, i, u, h => by
    unfold walkS
    rw [if_pos (Int.le_trans (reachP_le ts q i) h)]
    exact walkS_none ts q n (i + 1) u h
theorem drop_cons {α : Type} {l : List α} {i : Nat} {t : α} (h : l[i]? = some t) : l.drop i = t :: l.drop (i + 1) := by
  obtain ⟨hlt, rfl⟩ := List.getElem?_eq_some_iff.1 h
  exact List.drop_eq_getElem_cons hlt
theorem walkS_grad (ts : List Tier) (q : Int) : ∀ (n i : Nat) (u : Int), i + n = ts.length → tiersB u (ts.drop i) = true → walkS ts q n i u = gradS q u (ts.drop i)
  | 0, i, u, h, _ => by rw [List.drop_of_length_le (by omega)]; rfl
  | n + 1, i, u, h, hB => by
    obtain ⟨t, ht⟩ : ∃ t, ts[i]? = some t := ⟨_, List.getElem?_eq_getElem (by omega)⟩
    unfold walkS
    rw [ht]
    cases n with
    | zero =>
      have e : reachP ts q i = q := by unfold reachP; rw [if_pos (by omega)]
      rw [e, drop_cons ht, List.drop_of_length_le (by omega)]
      unfold gradS
      by_cases k : q ≤ u
      · rw [if_pos k, if_neg (by omega)]; rfl
      · rw [if_neg k, if_pos (by omega)]; rfl
    | succ n =>
      obtain ⟨s, hs⟩ : ∃ s, ts[i + 1]? = some s := ⟨_, List.getElem?_eq_getElem (by omega)⟩
      have e : reachP ts q i = min q t.upto := by unfold reachP; rw [if_neg (by omega), ht]; rfl
      rw [e, drop_cons ht, drop_cons hs]
      rw [drop_cons ht, drop_cons hs] at hB
      obtain ⟨_, _, h1, _, h2⟩ := tiersB_cons hB
      rw [← drop_cons hs] at h2
      unfold gradS
      rw [← drop_cons hs]
      by_cases k : q ≤ u
      · rw [if_pos (by omega), if_neg (by omega), walkS_none ts q (n + 1) (i + 1) u k, gradS_none _ _ _ h2 (by omega)]; rfl
      · rw [if_neg (by omega), if_pos (by omega)]
        show _ :: _ = _ :: _
        refine congrArg (_ :: ·) ?_
        rcases Int.lt_or_le t.upto q with k2 | k2
        · rw [Int.min_eq_right (by omega)]
          exact walkS_grad ts q (n + 1) (i + 1) t.upto (by omega) h2
        · rw [Int.min_eq_left k2, walkS_none ts q (n + 1) (i + 1) q (Int.le_refl _), gradS_none _ _ _ h2 k2]
          rfl
theorem walkS_all {x : Prt} (g : GoodT x) (hk : x.kind ≠ 2) (q : Int) : walkS x.tiers q x.tiers.length 0 0 = stepsP x q := by
  unfold stepsP
  rw [if_neg hk]
  exact walkS_grad x.tiers q x.tiers.length 0 0 (by omega) g.tiers
theorem volR_reach {ts : List Tier} {q : Int} {i : Nat} {t : Tier} (h : ts[i]? = some t) (hr : reachP ts q i = q) : volR q (ts.drop i) = t.rate := by
  rw [drop_cons h]
  rcases Nat.lt_or_ge (i + 1) ts.length with k | k
  · obtain ⟨s, hs⟩ : ∃ s, ts[i + 1]? = some s := ⟨_, List.getElem?_eq_getElem k⟩
    rw [drop_cons hs]
    have e : reachP ts q i = min q t.upto := by unfold reachP; rw [if_neg (by omega), h]; rfl
    unfold volR
    rw [if_pos (by omega)]
  · rw [List.drop_of_length_le (by omega)]
    rfl
theorem volR_more {ts : List Tier} {q : Int} {i : Nat} (h : i < ts.length) (hr : reachP ts q i ≠ q) : i + 1 < ts.length ∧ volR q (ts.drop i) = volR q (ts.drop (i + 1)) := by
  have k : i + 1 ≠ ts.length := fun k => hr (by unfold reachP; rw [if_pos k])
  obtain ⟨t, ht⟩ : ∃ t, ts[i]? = some t := ⟨_, List.getElem?_eq_getElem h⟩
  obtain ⟨s, hs⟩ : ∃ s, ts[i + 1]? = some s := ⟨_, List.getElem?_eq_getElem (by omega)⟩
  have e : reachP ts q i = min q t.upto := by unfold reachP; rw [if_neg k, ht]; rfl
  refine ⟨by omega, ?_⟩
  rw [drop_cons ht, drop_cons hs]
  show (if q ≤ t.upto then t.rate else volR q (s :: ts.drop (i + 1 + 1))) = _
  rw [if_neg (by omega)]
/-- The sum of what has come, and the rest to come. -/
def SumTo (t : Int) (pre : List Stp) : Prop := I64 t ∧ ∀ rest, sumS 0 (pre ++ rest) = sumS t rest
theorem sumTo_nil : SumTo 0 [] := ⟨by unfold I64; omega, fun _ => rfl⟩
theorem sumTo_next {t : Int} {pre : List Stp} {s : Stp} (h : SumTo t pre) (h1 : I64 (stW s)) (h2 : I64 (t + stW s)) : SumTo (t + stW s) (pre ++ [s]) := by
  refine ⟨h2, fun rest => ?_⟩
  rw [List.append_assoc, h.2]
  show (if (ok64 (stW s) && ok64 (t + stW s)) = true then sumS (t + stW s) rest else none) = _
  rw [ok64_t h1, ok64_t h2]
  exact if_pos rfl
theorem sumTo_nope {t : Int} {pre : List Stp} {s : Stp} (h : SumTo t pre) (hn : ¬ I64 (stW s) ∨ ¬ I64 (t + stW s)) (rest : List Stp) : sumS 0 (pre ++ s :: rest) = none := by
  rw [h.2]
  show (if (ok64 (stW s) && ok64 (t + stW s)) = true then sumS (t + stW s) rest else none) = _
  rcases hn with k | k
  · rw [ok64_f k]; rfl
  · rw [ok64_f k, Bool.and_false]; rfl
theorem sumTo_all {t : Int} {pre : List Stp} (h : SumTo t pre) : sumS 0 pre = some t := by
  have := h.2 []
  rw [List.append_nil] at this
  exact this
end Go.Proofs.Ytjgogpaedaffkaa.P
/- The law's own loop over the steps (layer 11): a range over a function that may be left at any time. -/
namespace Go.Proofs.Ytjgogpaedaffkaa.L11
open Go.RowKit Go.Sort P Mm Md R6 Te Co R10 R11
attribute [local go_sem] Oper.semAt_some
def encS (s : Stp) : Array Value := #[.agg #[.int .i64 s.a, .int .i64 s.b, .int .i64 s.r]]
/-- A block of cells, whole. -/
def Cells (W : World) (B : Nat) (t : TypeId) (cs : List Value) : Prop := W.heap[B]? = some (.cells cs.toArray t (0, 0))
theorem Cells.lt {W : World} {B : Nat} {t : TypeId} {cs : List Value} (h : Cells W B t cs) : B < W.heap.size := (Array.getElem?_eq_some_iff.1 h).1
theorem Cells.cell {W : World} {B : Nat} {t : TypeId} {cs : List Value} (h : Cells W B t cs) (i : Nat) : W.cell? ⟨B, i, none⟩ = cs[i]? := by simp [World.cell?, show W.heap[B]? = _ from h]
theorem Cells.kept {W W' : World} {row : Option Nat} {B : Nat} {t : TypeId} {cs : List Value} (h : Cells W B t cs) (hg : W.grownBy W' row) (hne : some B ≠ row) : Cells W' B t cs := (hg.block B h.lt hne).trans h
theorem cells_own {β : Type} (B : Nat) (t : TypeId) (cs : List Value) (n : Nat) : OwnFrom n (fun (_ : β) W => Cells W B t cs) := fun _ X _ _ hs hg hr =>
  Cells.kept hs hg (fun e' => by obtain ⟨_, o, ho, hc⟩ := hr B e'.symm; rw [show X.heap[B]? = _ from hs] at ho; cases ho; cases hc)
end Go.Proofs.Ytjgogpaedaffkaa.L11
/- What math/bits answers in this program: Mul64, Len64, LeadingZeros64: contracts over the walked program. -/
namespace Go.Proofs.Ytjgogpaedaffkaa.Bt
open Go.RowKit P
theorem mask_any {n : Int} : bits .and .u64 (IntKind.u64.wrap n) 4294967295 = IntKind.u64.wrap n % 4294967296 := and32 (by rw [u64_mod]; omega) (by rw [u64_mod]; omega)
/-- The product's upper half, out of four products of halves. -/
theorem upper_half (X Y : Int) (x0 : 0 ≤ X) (x1 : X < 18446744073709551616) (y0 : 0 ≤ Y) (y1 : Y < 18446744073709551616) :
    IntKind.u64.wrap (IntKind.u64.wrap (IntKind.u64.wrap (X / 4294967296 * (Y / 4294967296)) + IntKind.u64.wrap (IntKind.u64.wrap (X / 4294967296 * (Y % 4294967296)) + IntKind.u64.wrap (X % 4294967296 * (Y % 4294967296)) / 4294967296) / 4294967296) +
      IntKind.u64.wrap (IntKind.u64.wrap (IntKind.u64.wrap (X / 4294967296 * (Y % 4294967296)) + IntKind.u64.wrap (X % 4294967296 * (Y % 4294967296)) / 4294967296) % 4294967296 + IntKind.u64.wrap (X % 4294967296 * (Y / 4294967296))) / 4294967296) = X * Y / 18446744073709551616 := by
  have le : ∀ a b : Int, 0 ≤ a → a ≤ 4294967295 → 0 ≤ b → b ≤ 4294967295 → 0 ≤ a * b ∧ a * b ≤ 18446744065119617025 := fun a b h1 h2 h3 h4 => by
    have h5 := Int.mul_le_mul h2 h4 h3 (by omega : (0 : Int) ≤ 4294967295)
    exact ⟨Int.mul_nonneg h1 h3, by omega⟩
  have e : X * Y = X / 4294967296 * (Y / 4294967296) * 18446744073709551616 + (X / 4294967296 * (Y % 4294967296) + X % 4294967296 * (Y / 4294967296)) * 4294967296 + X % 4294967296 * (Y % 4294967296) := by
    have hx := Int.mul_ediv_add_emod X 4294967296
    have hy := Int.mul_ediv_add_emod Y 4294967296
    have key : ∀ a b c d : Int, (4294967296 * a + b) * (4294967296 * c + d) = a * c * 18446744073709551616 + (a * d + b * c) * 4294967296 + b * d := by intro a b c d; grind
    have := key (X / 4294967296) (X % 4294967296) (Y / 4294967296) (Y % 4294967296)
    rw [hx, hy] at this
    exact this
  have p1 := le (X / 4294967296) (Y / 4294967296) (by omega) (by omega) (by omega) (by omega)
  have p2 := le (X / 4294967296) (Y % 4294967296) (by omega) (by omega) (by omega) (by omega)
  have p3 := le (X % 4294967296) (Y / 4294967296) (by omega) (by omega) (by omega) (by omega)
  have p4 := le (X % 4294967296) (Y % 4294967296) (by omega) (by omega) (by omega) (by omega)
  rw [e]
  generalize X / 4294967296 * (Y / 4294967296) = A at *
  generalize X / 4294967296 * (Y % 4294967296) = B at *
  generalize X % 4294967296 * (Y / 4294967296) = C at *
  generalize X % 4294967296 * (Y % 4294967296) = D at *
  simp only [u64_mod]
  clear e le x0 x1 y0 y1
  omega
theorem mul64_int (X Y : Int) (x0 : 0 ≤ X) (x1 : X < 18446744073709551616) (y0 : 0 ≤ Y) (y1 : Y < 18446744073709551616) (w : World) :
    Calls Try.prog 71 #[.int .u64 X, .int .u64 Y] w fun e w' => e = .returned (.tuple #[.int .u64 (X * Y / 18446744073709551616), .int .u64 (IntKind.u64.wrap (X * Y))]) ∧ w = w' := by
  have E := hid (upper_half X Y x0 x1 y0 y1)
  have EX := hid (and32 x0 x1)
  have EY := hid (and32 y0 y1)
  clear x0 x1 y0 y1
  go_enter Try.func71, Try.ntmps71
  go_wp2
  rw [EX.out, EY.out, mask_any, E.out]
  go_ret2
  exact ⟨rfl, rfl⟩
theorem mul64_any (x y : Nat) (hx : x < 18446744073709551616) (hy : y < 18446744073709551616) (w : World) :
    Calls Try.prog 71 #[.int .u64 x, .int .u64 y] w fun e w' => e = .returned (.tuple #[.int .u64 (hiN (x * y)), .int .u64 (loN (x * y))]) ∧ w = w' := by
  have h := mul64_int x y (by omega) (by omega) (by omega) (by omega) w
  have e1 : (x : Int) * y / 18446744073709551616 = (hiN (x * y) : Int) := by rw [← Int.natCast_mul]; unfold hiN; omega
  have e2 : IntKind.u64.wrap ((x : Int) * y) = (loN (x * y) : Int) := by rw [← Int.natCast_mul, u64_mod]; unfold loN; omega
  rw [e1, e2] at h
  exact h
theorem tab_len (n : Nat) (h : n < Lib.len8tab.size) : (Lib.len8tab[n]'h).toNat = Lib.bitLen n := by
  have h2 : n < 256 := by rw [Lib.len8tab_size] at h; exact h
  have e := Lib.len8_eq ⟨n, h2⟩
  simp only [Lib.len8, Int.toNat_natCast, ByteArray.getElem?_lt' _ _ h, Option.getD_some] at e
  omega
theorem tab_le (n : Nat) (h : n < Lib.len8tab.size) : Lib.bitLen n ≤ 8 := by
  have h2 : n < 256 := by rw [Lib.len8tab_size] at h; exact h
  exact Lib.bitLen_le8 ⟨n, h2⟩
theorem len_close {k : Nat} {x d : Int} {e : Int} (h : d.toNat < Lib.len8tab.size) (hk : e = k) (h1 : x ≤ 18446744073709551615) (h0 : 0 ≤ x) (hx : 2 ^ k ≤ x.toNat) (hd : d.toNat = x.toNat / 2 ^ k) (k56 : k ≤ 56) :
    wrap64 (e + wrap64 ((Lib.len8tab[d.toNat]'h).toNat : Int)) = (Lib.bitLen x.toNat : Int) := by
  rw [tab_len, Lib.bitLen_shift k x.toNat hx (by omega), ← hd]
  have := tab_le _ h
  unfold wrap64
  omega
theorem len_close0 {x : Int} (h : x.toNat < Lib.len8tab.size) : wrap64 (wrap64 ((Lib.len8tab[x.toNat]'h).toNat : Int)) = (Lib.bitLen x.toNat : Int) := by
  rw [tab_len]
  have := tab_le _ h
  unfold wrap64
  omega
set_option maxHeartbeats 4000000 in
set_option maxRecDepth 100000 in
theorem len64_int (x : Int) (w : World) (h0 : 0 ≤ x) (h1 : x ≤ 18446744073709551615) :
    Calls Try.prog 101 #[.int .u64 x] w fun e w' => e = .returned (.int .i64 (Lib.bitLen x.toNat)) ∧ w = w' := by
  have hs := Lib.len8tab_size
  go_enter Try.func101, Try.ntmps101
  go_wp2
  all_goals first
    | (exfalso; omega)
    | (go_ret
       refine ⟨congrArg Ending.returned (congrArg (Value.int IntKind.i64) ?_), rfl⟩
       first
         | exact len_close0 _
         | exact len_close (k := 56) _ rfl h1 h0 (by omega) (by omega) (by omega)
         | exact len_close (k := 48) _ rfl h1 h0 (by omega) (by omega) (by omega)
         | exact len_close (k := 40) _ rfl h1 h0 (by omega) (by omega) (by omega)
         | exact len_close (k := 32) _ rfl h1 h0 (by omega) (by omega) (by omega)
         | exact len_close (k := 24) _ rfl h1 h0 (by omega) (by omega) (by omega)
         | exact len_close (k := 16) _ rfl h1 h0 (by omega) (by omega) (by omega)
         | exact len_close (k := 8) _ rfl h1 h0 (by omega) (by omega) (by omega))
theorem len_bounds (x : Nat) (hx : x < 2 ^ 64) (h0 : x ≠ 0) : ∃ k, Lib.bitLen x = k + 1 ∧ 2 ^ k ≤ x ∧ x < 2 ^ (k + 1) := by
  induction x using Nat.strongRecOn with
  | ind x ih =>
    by_cases h1 : x = 1
    · subst h1; exact ⟨0, by decide, by decide, by decide⟩
    · obtain ⟨k, e, l, u⟩ := ih (x / 2) (by omega) (by omega) (by omega)
      refine ⟨k + 1, by rw [Lib.bitLen_half x h0 hx, e]; omega, ?_, ?_⟩
      · rw [Nat.pow_succ] at *; omega
      · rw [Nat.pow_succ] at *; omega
/-- How many noughts lead a number of 64 bits. -/
def lz (x : Nat) : Nat := 64 - Lib.bitLen x
theorem lz_le (x : Nat) (hx : x < 2 ^ 64) (h0 : x ≠ 0) : lz x ≤ 63 := by
  obtain ⟨k, e, _, _⟩ := len_bounds x hx h0
  unfold lz; omega
theorem lz_norm (x : Nat) (hx : x < 2 ^ 64) (h0 : x ≠ 0) : 2 ^ 63 ≤ x * 2 ^ lz x ∧ x * 2 ^ lz x < 2 ^ 64 := by
  obtain ⟨k, e, l, u⟩ := len_bounds x hx h0
  have hk : k < 64 := by
    rcases Nat.lt_or_ge k 64 with h | h
    · exact h
    · exact absurd (Nat.le_trans (Nat.pow_le_pow_right (by omega) h) l) (by omega)
  have e1 : lz x = 63 - k := by unfold lz; omega
  rw [e1]
  have p1 : (2 : Nat) ^ 63 = 2 ^ k * 2 ^ (63 - k) := by rw [← Nat.pow_add]; congr 1; omega
  have p2 : (2 : Nat) ^ 64 = 2 ^ (k + 1) * 2 ^ (63 - k) := by rw [← Nat.pow_add]; congr 1; omega
  rw [p1, p2]
  exact ⟨Nat.mul_le_mul_right _ l, Nat.mul_lt_mul_of_pos_right u (Nat.pow_pos (by omega))⟩
theorem lead_any (x : Int) (w : World) (h0 : 0 ≤ x) (h1 : x ≤ 18446744073709551615) :
    Calls Try.prog 95 #[.int .u64 x] w fun e w' => e = .returned (.int .i64 (64 - (Lib.bitLen x.toNat : Int))) ∧ w = w' := by
  have hl : Lib.bitLen x.toNat ≤ 64 := Lib.bitLen_le _ _ (Nat.le_refl _) (by omega)
  have E : Hid (wrap64 (64 - (Lib.bitLen x.toNat : Int)) = 64 - (Lib.bitLen x.toNat : Int)) := by show _ = _; unfold wrap64; omega
  clear hl
  go_enter Try.func95, Try.ntmps95
  go_wp2_with (go_at_call 101; refine (len64_int _ _ h0 h1).mono ?_; rintro e w' ⟨rfl, rfl⟩)
  go_ret
  exact ⟨by rw [E.out]; rfl, rfl⟩
theorem lead_ex (x : Int) (w : World) (h0 : 0 < x) (h1 : x ≤ 18446744073709551615) :
    Calls Try.prog 95 #[.int .u64 x] w fun e w' => ∃ s : Nat, s ≤ 63 ∧ 9223372036854775808 ≤ x * 2 ^ s ∧ x * 2 ^ s < 18446744073709551616 ∧ e = .returned (.int .i64 s) ∧ w = w' := by
  have hx : x.toNat < 2 ^ 64 := by omega
  have hn : x.toNat ≠ 0 := by omega
  have hl : Lib.bitLen x.toNat ≤ 64 := Lib.bitLen_le _ _ (Nat.le_refl _) hx
  have h2 := lz_norm x.toNat hx hn
  have e2 : ((x.toNat * 2 ^ lz x.toNat : Nat) : Int) = x * 2 ^ lz x.toNat := by
    rw [Int.natCast_mul, Int.natCast_pow, Int.toNat_of_nonneg (by omega)]; rfl
  refine (lead_any x w (by omega) h1).mono ?_
  rintro e w' ⟨rfl, rfl⟩
  refine ⟨lz x.toNat, lz_le _ hx hn, by omega, by omega, ?_, rfl⟩
  rw [show ((lz x.toNat : Nat) : Int) = 64 - (Lib.bitLen x.toNat : Int) by unfold lz; omega]
end Go.Proofs.Ytjgogpaedaffkaa.Bt
/- What math/bits.Div64 answers in this program: the quotient and the rest of 128 bits by 64. -/
namespace Go.Proofs.Ytjgogpaedaffkaa.Bt
open Go.RowKit P
theorem div64_low (lo y : Int) (w : World) (h2 : 0 < y) (h3 : y ≤ 18446744073709551615) (h4 : 0 ≤ lo) (h5 : lo ≤ 18446744073709551615) :
    Calls Try.prog 73 #[.int .u64 0, .int .u64 lo, .int .u64 y] w fun e w' => e = .returned (.tuple #[.int .u64 (lo / y), .int .u64 (lo % y)]) ∧ ∃ n, w' = w.drewN n := by
  have e1 : (y == 0) = false := by simp; omega
  have e2 : decide (y ≤ 0) = false := by simp; omega
  have d1 : lo.tdiv y = lo / y := Int.tdiv_eq_ediv_of_nonneg h4
  have d2 : lo.tmod y = lo % y := Int.tmod_eq_emod_of_nonneg h4
  have d3 : 0 ≤ lo / y := Int.ediv_nonneg h4 (by omega)
  have d4 : lo / y ≤ lo := Int.ediv_le_self _ h4
  have D1 : Hid (IntKind.u64.wrap (lo.tdiv y) = lo / y) := by show _ = _; rw [d1]; exact u64_in d3 (by omega)
  have D2 := hid d2
  clear d1 d2 d3 d4 h3 h4 h5
  go_enter Try.func73, Try.ntmps73
  go_wp2
  go_quiet (fail)
  go_wp2
  go_ret2
  exact ⟨by rw [D1.out, D2.out]; rfl, _, rfl⟩
set_option maxHeartbeats 1000000 in
theorem div64_big (hi lo y : Int) (w : World) (h1 : 0 < hi) (h2 : hi < y) (h3 : y ≤ 18446744073709551615) (h4 : 0 ≤ lo) (h5 : lo ≤ 18446744073709551615) :
    Calls Try.prog 73 #[.int .u64 hi, .int .u64 lo, .int .u64 y] w fun e w' => e = .returned (.tuple #[.int .u64 ((hi * 18446744073709551616 + lo) / y), .int .u64 ((hi * 18446744073709551616 + lo) % y)]) ∧ w = w' := by
  have e1 : (y == 0) = false := by simp; omega
  have e2 : decide (y ≤ hi) = false := by simp; omega
  have e3 : (hi == 0) = false := by simp; omega
  go_enter Try.func73, Try.ntmps73
  go_upto_block 0 with (go_at_call 95; refine (lead_ex _ _ (by omega) h3).mono ?_; rintro e w' ⟨s, hs, n1, n2, rfl, rfl⟩)
  obtain ⟨u, y1, y0, c1, c0, f1, f2, f3, f4, f5, f6, f7, f8, f9, g1, g2, g3, g4, g5, g6, g7, g8⟩ := div_front h1 h2 h4 h5 hs n1 n2
  rw [f1, f2, f3, f4, f5]
  have F7 := hid f7
  have F6 := hid f6
  have N1 := hid n1
  have N2 := hid n2
  have d1 : IntKind.u64.wrap (u.tdiv y1) = u / y1 := by
    rw [Int.tdiv_eq_ediv_of_nonneg f8]
    exact u64_in (Int.ediv_nonneg f8 (by omega)) (by have := Int.ediv_le_self y1 f8; omega)
  have d2 : IntKind.u64.wrap (u - IntKind.u64.wrap (u / y1 * y1)) = u % y1 := by
    have a1 := Int.mul_ediv_add_emod u y1
    have a2 := Int.emod_nonneg u (show y1 ≠ 0 by omega)
    have a3 := Int.emod_lt_of_pos u (show 0 < y1 by omega)
    rw [Int.mul_comm] at a1
    rw [u64_mod, u64_mod]
    omega
  rw [d1, d2]
  obtain ⟨Q1, R1, q1, q2, q3⟩ : ∃ Q R : Int, u * 4294967296 + c1 = Q * (y1 * 4294967296 + y0) + R ∧ 0 ≤ R ∧ R < y1 * 4294967296 + y0 :=
    ⟨(u * 4294967296 + c1) / (y1 * 4294967296 + y0), (u * 4294967296 + c1) % (y1 * 4294967296 + y0), by have := Int.mul_ediv_add_emod (u * 4294967296 + c1) (y1 * 4294967296 + y0); rw [Int.mul_comm] at this; omega, Int.emod_nonneg _ (by omega), Int.emod_lt_of_pos _ (by omega)⟩
  have S1 : Hid (Step u y1 y0 c1 Q1) := ⟨g1, g2, g3, g4, g5, g6, f8, by omega, by omega, by omega⟩
  rw [f6] 
  clear f1 f2 f3 f4 f5 f6 f7 d1 d2 n1 n2
  go_cut [15, 16] (fun q _r wx => q = .int .u64 Q1 ∧ w = wx)
  case first =>
    go_wp2_with fail
    go_loop [15, 16] (fun q r => ∃ q' r' : Int, q = .int .u64 q' ∧ r = .int .u64 r' ∧ Hid (Guess u y1 y0 c1 Q1 q' r')) (fun q _ => (intOf q).toNat)
    case atStart => exact ⟨_, _, rfl, rfl, S1.out.start⟩
    case round =>
      obtain ⟨q, r, rfl, rfl, G⟩ := hrel
      have r0 := G.out.r0
      have r1 := G.out.r1
      have k0 := S1.out.small.1
      have k1 := G.out.le
      have k2 := G.out.top
      by_cases hq : 4294967296 ≤ q
      · have hlt := S1.out.big G.out hq
        by_cases hr : 4294967296 ≤ r + y1
        · have E := hid (G.out.last S1.out hlt hr)
          go_wp2
          go_meet
          exact ⟨by rw [E.out], rfl⟩
        · have G2 := hid (G.out.next S1.out hlt (by omega))
          go_wp2
          go_round
          case rel => exact ⟨q - 1, r + y1, rfl, rfl, G2.out⟩
          case measure => simp [intOf]; omega
      · obtain ⟨p0, p1, p2⟩ := S1.out.fits G.out (by omega)
        by_cases hc : 4294967296 * r + c1 < q * y0
        · have hlt := S1.out.yes G.out.eq hc
          by_cases hr : 4294967296 ≤ r + y1
          · have E := hid (G.out.last S1.out hlt hr)
            go_wp2
            go_meet
            exact ⟨by rw [E.out], rfl⟩
          · have G2 := hid (G.out.next S1.out hlt (by omega))
            go_wp2
            go_round
            case rel => exact ⟨q - 1, r + y1, rfl, rfl, G2.out⟩
            case measure => simp [intOf]; omega
        · have E := hid (G.out.done S1.out (by omega))
          go_wp2
          go_meet
          exact ⟨by rw [E.out], rfl⟩
  case rest =>
    obtain ⟨rfl, rfl⟩ := hcut
    go_upto_block 2 with fail
    have g9 := F6.out
    have g10 := N2.out
    rw [mid q1 q2 (by omega), quot_wrap q2 (by omega) (by omega), rest_wrap q2 (by omega) (by omega)]
    obtain ⟨Q2, R2, p1, p2, p3⟩ := cut_num (R1 * 4294967296 + c0) (y1 * 4294967296 + y0) (by omega)
    have S2 : Hid (Step R1 y1 y0 c0 Q2) := ⟨g1, g2, g3, g4, g7, g8, q2, q3, by omega, by omega⟩
    have P1 := hid p1
    have Q1' := hid q1
    clear p1 q1 g9 g10
    go_cut [18, 16] (fun q _r wx => q = .int .u64 Q2 ∧ w = wx)
    case first =>
      go_wp2_with fail
      go_loop [18, 16] (fun q r => ∃ q' r' : Int, q = .int .u64 q' ∧ r = .int .u64 r' ∧ Hid (Guess R1 y1 y0 c0 Q2 q' r')) (fun q _ => (intOf q).toNat)
      case atStart => exact ⟨_, _, rfl, rfl, S2.out.start⟩
      case round =>
        obtain ⟨q, r, rfl, rfl, G⟩ := hrel
        have r0 := G.out.r0
        have r1 := G.out.r1
        have k0 := S2.out.small.1
        have k1 := G.out.le
        have k2 := G.out.top
        by_cases hq : 4294967296 ≤ q
        · have hlt := S2.out.big G.out hq
          by_cases hr : 4294967296 ≤ r + y1
          · have E := hid (G.out.last S2.out hlt hr)
            go_wp2
            go_meet
            exact ⟨by rw [E.out], rfl⟩
          · have G2 := hid (G.out.next S2.out hlt (by omega))
            go_wp2
            go_round
            case rel => exact ⟨q - 1, r + y1, rfl, rfl, G2.out⟩
            case measure => simp [intOf]; omega
        · obtain ⟨p0, p1, p2⟩ := S2.out.fits G.out (by omega)
          by_cases hc : 4294967296 * r + c0 < q * y0
          · have hlt := S2.out.yes G.out.eq hc
            by_cases hr : 4294967296 ≤ r + y1
            · have E := hid (G.out.last S2.out hlt hr)
              go_wp2
              go_meet
              exact ⟨by rw [E.out], rfl⟩
            · have G2 := hid (G.out.next S2.out hlt (by omega))
              go_wp2
              go_round
              case rel => exact ⟨q - 1, r + y1, rfl, rfl, G2.out⟩
              case measure => simp [intOf]; omega
          · have E := hid (G.out.done S2.out (by omega))
            go_wp2
            go_meet
            exact ⟨by rw [E.out], rfl⟩
    case rest =>
      obtain ⟨rfl, rfl⟩ := hcut
      go_wp2
      have a1 := S1.out.small
      have a2 := S2.out.small
      have g9 := F6.out
      have g10 := N2.out
      obtain ⟨b1, b2⟩ := div_back (Int.pow_pos (by omega) : (0 : Int) < 2 ^ s) (by omega : 0 < y) F6.out F7.out Q1'.out P1.out p2 p3
      rw [quot_join a1.1 a1.2 a2.1 a2.2, mid P1.out p2 (by omega), b1, b2]
      go_ret2
      exact ⟨rfl, rfl⟩
theorem div64_any (hi lo y : Int) (w : World) (h1 : 0 ≤ hi) (h2 : hi < y) (h3 : y ≤ 18446744073709551615) (h4 : 0 ≤ lo) (h5 : lo ≤ 18446744073709551615) :
    Calls Try.prog 73 #[.int .u64 hi, .int .u64 lo, .int .u64 y] w fun e w' => e = .returned (.tuple #[.int .u64 ((hi * 18446744073709551616 + lo) / y), .int .u64 ((hi * 18446744073709551616 + lo) % y)]) ∧ ∃ n, w' = w.drewN n := by
  by_cases h : hi = 0
  · subst h
    rw [Int.zero_mul, Int.zero_add]
    exact div64_low lo y w h2 h3 h4 h5
  · refine (div64_big hi lo y w (by omega) h2 h3 h4 h5).mono ?_
    rintro e w' ⟨rfl, rfl⟩
    exact ⟨rfl, 0, rfl⟩
end Go.Proofs.Ytjgogpaedaffkaa.Bt
