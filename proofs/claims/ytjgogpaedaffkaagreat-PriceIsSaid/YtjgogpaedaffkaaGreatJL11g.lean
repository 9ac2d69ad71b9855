/- The document's answers for layer 13 (poundageref13): Cost. -/
import Derived.Test.YtjgogpaedaffkaaGreatJMem
import Derived.Test.YtjgogpaedaffkaaGreatJRef1L
import Derived.Lib.QuietBelow
import Derived.BigQuiet
import Derived.Test.YtjgogpaedaffkaaGreatJRef11
import Derived.Test.YtjgogpaedaffkaaGreatJAdjP
import Derived.RangeFuncNested
import Derived.RangeFuncBound
import Derived.RangeFuncCalls
import Derived.RangeFuncLeaves
import Derived.RangeFuncBox
import Derived.Shelf.Abstract
import Derived.Shelf.RegionOpen
import Derived.WalkKit
import Derived.OwnWalkIn
import Derived.TacticsInMore
import Derived.LoopNIn
import Derived.LoopIn
import Derived.Maps.AppendAt
namespace Go.Proofs.YtjgogpaedaffkaaGreat.P
end Go.Proofs.YtjgogpaedaffkaaGreat.P
namespace Go.Proofs.YtjgogpaedaffkaaGreat.Mm
end Go.Proofs.YtjgogpaedaffkaaGreat.Mm
namespace Go.Proofs.YtjgogpaedaffkaaGreat.Md
end Go.Proofs.YtjgogpaedaffkaaGreat.Md
namespace Go.Proofs.YtjgogpaedaffkaaGreat.R6
end Go.Proofs.YtjgogpaedaffkaaGreat.R6
namespace Go.Proofs.YtjgogpaedaffkaaGreat.Te
end Go.Proofs.YtjgogpaedaffkaaGreat.Te
namespace Go.Proofs.YtjgogpaedaffkaaGreat.Co
end Go.Proofs.YtjgogpaedaffkaaGreat.Co
namespace Go.Proofs.YtjgogpaedaffkaaGreat.R10
end Go.Proofs.YtjgogpaedaffkaaGreat.R10
namespace Go.Proofs.YtjgogpaedaffkaaGreat.R11
end Go.Proofs.YtjgogpaedaffkaaGreat.R11
namespace Go.Proofs.YtjgogpaedaffkaaGreat.R13
open Go.RowKit Go.Sort P Mm Md R6 Te Co R10 R11
theorem goodC_parts {c : Cor} (h : goodC c = true) : (∀ x ∈ c.parts, GoodT x ∧ x.adjusts.all adjB = true ∧ 0 ≤ x.mt ∧ x.mt < c.meters.length) ∧ c.meters.length ≤ 4 ∧ c.sums.length ≤ 8 ∧ c.parts.length ≤ 8 := by
  unfold goodC at h
  simp only [Bool.and_eq_true, decide_eq_true_eq] at h
  obtain ⟨_, ⟨h1, _⟩, h2, _, h3, h4⟩ := h
  refine ⟨fun x hx => ?_, h1, h2, h3⟩
  have := List.all_eq_true.1 h4 x hx
  unfold partB tierRow at this
  simp only [Bool.and_eq_true, inB_iff, decide_eq_true_eq] at this
  obtain ⟨_, ⟨m0, m1⟩, a1, a2, a3, a4, ⟨a5, a6⟩, a7, a8⟩ := this
  exact ⟨⟨a1, a2, by omega, a4, by omega, a6, a7⟩, a8, m0, by omega⟩
theorem sumsL_step {d : Int} {l : List Mm.Sm} {i : Nat} {s : Mm.Sm} (h : l[i]? = some s) : sumsL d (l.drop i) = if onB s.a s.b d = true then s.amt :: sumsL d (l.drop (i + 1)) else sumsL d (l.drop (i + 1)) := by
  rw [drop_at h]
  rfl
def bindP (o : Option Int) (r : Option (List Int)) : Option (List Int) := match o with
  | some n => r.map (n :: ·)
  | none => none
theorem partsO_step {d : Int} {bk : List Int} {l : List Prt} {i : Nat} {x : Prt} (h : l[i]? = some x) : partsO d bk (l.drop i) = if onB x.a x.b d = true then bindP (partO x (qAt bk x.mt)) (partsO d bk (l.drop (i + 1))) else partsO d bk (l.drop (i + 1)) := by
  rw [drop_at h]
  rfl
/-- What is left behind the sums: the parts' amounts, and all together. -/
def finO (acc : List Int) (o : Option (List Int)) : Int × Int := match o with
  | some l => if (sumTo 0 (acc ++ l)).2 = true then ((sumTo 0 (acc ++ l)).1, 0) else (0, 2)
  | none => (0, 2)
theorem finO_map (acc : List Int) (n : Int) (o : Option (List Int)) : finO acc (o.map (n :: ·)) = finO (acc ++ [n]) o := by
  cases o with
  | none => rfl
  | some l =>
    show (if (sumTo 0 (acc ++ n :: l)).2 = true then _ else _) = if (sumTo 0 ((acc ++ [n]) ++ l)).2 = true then _ else _
    rw [List.append_assoc]
    rfl
theorem adjsO_i : ∀ (l : List Adj) (n m : Int), I64 n → (∀ a ∈ l, I64 a.num) → adjsO n l = some m → I64 m
  | [], n, m, hn, _, h => by
    have h : some n = some m := h
    obtain rfl := Option.some.inj h
    exact hn
  | a :: l, n, m, hn, hl, h => by
    have h2 : (match adjO a n with
      | some m => adjsO m l
      | none => none) = some m := h
    cases e : adjO a n with
    | none => rw [e] at h2; cases h2
    | some k =>
      rw [e] at h2
      exact adjsO_i l k m (adjO_i64 hn (hl a (List.mem_cons_self ..)) e) (fun z hz => hl z (List.mem_cons_of_mem _ hz)) h2
theorem row_nums {w : World} {ao : Option Addr} {len cap : Nat} {xs : List Adj} (h : Row tAdj w ao len cap xs) : ∀ a ∈ xs, I64 a.num := fun a ha => by
  obtain ⟨j, hj, e⟩ := List.mem_iff_getElem.1 ha
  obtain ⟨_, _, _, _, _, _, _, _, h2, _⟩ := adj_at h (show xs[j]? = some a by rw [← e]; exact List.getElem?_eq_getElem hj)
  exact h2
theorem partO_i {x : Prt} (g : GoodT x) (ha : ∀ a ∈ x.adjusts, I64 a.num) {q n : Int} (h : partO x q = some n) : I64 n := by
  unfold partO at h
  cases e : chargeO x q with
  | none => rw [e] at h; cases h
  | some m =>
    rw [e] at h
    exact adjsO_i x.adjusts m n (chargeO_i g e) ha h
theorem bk_at {w : World} {bo : Option Addr} {len cap : Nat} {bk : List Int} (h : Row tInt w bo len cap bk) {i : Nat} (hi : i < bk.length) : ∃ b o, bo = some ⟨b, o, none⟩ ∧ b < w.heap.size ∧ w.cell? ⟨b, o + i, none⟩ = some (.int .i64 (bk.getD i 0)) ∧ I64 (bk.getD i 0) := by
  have hj : bk[i]? = some (bk.getD i 0) := by rw [List.getD_eq_getElem?_getD, List.getElem?_eq_getElem hi]; rfl
  obtain ⟨b, o, cs, h1, h2, ⟨h3, h5⟩, h4⟩ := h.at hj
  subst h3
  refine ⟨b, o, h1, h2, ?_, h5⟩
  have := h4 0 _ rfl
  rw [show tInt.n = 1 from rfl, Nat.mul_one] at this
  exact this
def intC (n : Int) : List Value := [.int .i64 n]
theorem info_int : (Tryz.prog.info? 3).map (fun i => (i.zero, i.size, i.bytes)) = some (some (.int .i64 0), 1, 8) := by kernel_rfl
def costV (c : Cor) (d : Int) (bk : List Int) : Int × Int := match costO c d bk with
  | some n => (n, 0)
  | none => (0, 2)
theorem costV_fin (c : Cor) (d : Int) (bk : List Int) : costV c d bk = finO (sumsL d c.sums) (partsO d bk c.parts) := by
  unfold costV costO finO
  cases partsO d bk c.parts with
  | none => rfl
  | some l =>
    show (match (if (sumTo 0 (sumsL d c.sums ++ l)).2 = true then some (sumTo 0 (sumsL d c.sums ++ l)).1 else none) with
      | some n => (n, (0 : Int))
      | none => (0, 2)) = if (sumTo 0 (sumsL d c.sums ++ l)).2 = true then ((sumTo 0 (sumsL d c.sums ++ l)).1, 0) else (0, 2)
    split
    · rename_i n hn
      split at hn
      · rename_i k
        rw [if_pos k]
        obtain rfl := Option.some.inj hn
        rfl
      · cases hn
    · rename_i hn
      split at hn
      · cases hn
      · rename_i k
        rw [if_neg k]
set_option maxHeartbeats 1600000 in
set_option maxRecDepth 100000 in
theorem cost_any (c : Cor) (ma : Option Addr) (mc : Nat) (sa : Option Addr) (sc : Nat) (pa : Option Addr) (pc : Nat) (d : Int) (bk : List Int) (bo : Option Addr) (bcap : Nat) (w : World) (hc : CorLies w (corC c ma mc sa sc pa pc) c ma mc sa sc pa pc) (hb : Row tInt w bo bk.length bcap bk) (hg : goodC c = true) (hl : bk.length = c.meters.length) :
    Calls Tryz.prog 18 #[.agg #[.string c.cur, .int .i64 c.a, .int .i64 c.b, .slice ma c.meters.length mc, .slice sa c.sums.length sc, .slice pa c.parts.length pc], .int .i64 d, .slice bo bk.length bcap] w fun e w' => e = .returned (.tuple #[.int .i64 (costV c d bk).1, .int .i64 (costV c d bk).2]) ∧ Below w.heap.size w w' := by
  obtain ⟨w1, hw1⟩ : ∃ W, W = w.alloc (.cells ([.string c.cur, .int .i64 c.a, .int .i64 c.b, .slice ma c.meters.length mc, .slice sa c.sums.length sc, .slice pa c.parts.length pc] : List Value).toArray 26) := ⟨_, rfl⟩
  obtain ⟨k1, hk1⟩ : ∃ k, k = w.heap.size := ⟨_, rfl⟩
  have b1 : Below w.heap.size w w1 := by rw [hw1]; exact bel_alloc _ _
  have X1 : Box w1 k1 [.string c.cur, .int .i64 c.a, .int .i64 c.b, .slice ma c.meters.length mc, .slice sa c.sums.length sc, .slice pa c.parts.length pc] := by rw [hw1, hk1]; exact Box.new w _ 26
  have X := hid (fun (W : World) (b : Below w1.heap.size w1 W) => (⟨X1.on b, bel_on b1 b⟩ : Box W k1 [.string c.cur, .int .i64 c.a, .int .i64 c.b, .slice ma c.meters.length mc, .slice sa c.sums.length sc, .slice pa c.parts.length pc] ∧ Below w.heap.size w W))
  have HC := hid (fun (W : World) (b : Below w1.heap.size w1 W) => hc.on (bel_on b1 b))
  have HB := hid (fun (W : World) (b : Below w1.heap.size w1 W) => hb.on (bel_on b1 b))
  have c4 := X1.cell 4 _ rfl
  have l1 := X1.lt
  have HW := hid hw1
  have HK := hid hk1
  obtain ⟨gp, g1, g2, g3⟩ := goodC_parts hg
  have GP := hid gp
  have sm := hc.sums.hmax
  have scl := hc.sums.hcap
  have pm := hc.parts.hmax
  have pcl := hc.parts.hcap
  have bm := hb.hmax
  have bcl := hb.hcap
  have HL := hid hl
  obtain ⟨i0, hi0, hz0, hz1, hz2⟩ := info_parts info_int
  obtain ⟨R, hR⟩ : ∃ R, R = costV c d bk := ⟨_, rfl⟩
  rw [← hR]
  have R0 := hid (show R = finO ([] ++ sumsL d (c.sums.drop 0)) (partsO d bk c.parts) by rw [hR, costV_fin]; rfl)
  have B0 := hid (Below.refl w1.heap.size w1)
  clear hw1 hk1 b1 X1 hc hb hg hl gp hR
  go_enter Tryz.func18, Tryz.ntmps18
  go_upto_region 1 with fail
  rw [← HW.out, ← HK.out]
  clear HW HK
  go_wp2
  clear c4 l1
  go_loopw [8, 20] (fun v i wr => ∃ (V : Value) (i' : Nat) (acc : List Int), v = V ∧ i = .int .i64 (i' : Int) ∧ i' ≤ c.sums.length ∧ acc.length ≤ i' ∧ Hid (R = finO (acc ++ sumsL d (c.sums.drop i')) (partsO d bk c.parts)) ∧ Hid (∀ n ∈ acc, I64 n) ∧ Hid (wr.ownsRow w1.heap.size 3 1 V acc.length (acc.flatMap intC)) ∧ Hid (Below w1.heap.size w1 wr)) (fun _ i _ => c.sums.length - (intOf i).toNat)
  case atStart => exact ⟨_, 0, [], rfl, rfl, Nat.zero_le _, Nat.zero_le _, R0, hid (fun n h => by cases h), hid (World.ownsRow_nil _ _ _ _), B0⟩
  case round =>
    obtain ⟨V, i', acc, rfl, rfl, hi, hal, hR, hA, hO, hb⟩ := hrel
    clear R0 B0
    by_cases hlt : i' < c.sums.length
    · obtain ⟨s, hs⟩ : ∃ s, c.sums[i']? = some s := ⟨_, List.getElem?_eq_getElem hlt⟩
      obtain ⟨bx, ox, ex, -, x0, x1, x2, xi, -⟩ := sum_at (HC.out _ hb.out).sums hs
      subst ex
      obtain ⟨wt, hwt⟩ : ∃ W, W = wr.alloc (.cells ([.int .i64 s.amt, .int .i64 s.a, .int .i64 s.b] : List Value).toArray 52) := ⟨_, rfl⟩
      obtain ⟨kt, hkt⟩ : ∃ k, k = wr.heap.size := ⟨_, rfl⟩
      have bt2 : Below wr.heap.size wr wt := by rw [hwt]; exact bel_alloc _ _
      have XT : Box wt kt [.int .i64 s.amt, .int .i64 s.a, .int .i64 s.b] := by rw [hwt, hkt]; exact Box.new _ _ _
      have BT := hid (bel_on hb.out bt2)
      have OT := hid (owns_on hO.out bt2)
      have e0 := XT.cell 0 _ rfl
      have e1 := XT.cell 1 _ rfl
      have e2 := XT.cell 2 _ rfl
      have lt1 := XT.lt
      have HWT := hid hwt
      have HKT := hid hkt
      have hsz : w1.heap.size ≤ wt.heap.size := BT.out.size
      have hR2 := hR.out
      rw [sumsL_step hs] at hR2
      have HI := hid xi
      have R2 := hid hR2
      clear hwt hkt bt2 XT hs hb hO hR hR2 xi
      go_upto_region 5 with fail
      rw [← HWT.out, ← HKT.out]
      clear HWT HKT x0 x1 x2
      by_cases h1 : s.a ≤ d
      rotate_left
      · have z1 : decide (s.a ≤ d) = false := decide_eq_false h1
        have E := hid (show R = finO (acc ++ sumsL d (c.sums.drop (i' + 1))) (partsO d bk c.parts) by rw [R2.out]; unfold onB; rw [z1]; rfl)
        clear R2 h1
        go_wp2
        go_roundw
        case rel => exact ⟨_, i' + 1, acc, rfl, by simp, by omega, by omega, E, hA, OT, BT⟩
        case measure => simp [intOf]; omega
      have z1 : decide (s.a ≤ d) = true := decide_eq_true h1
      by_cases h2 : d ≤ s.b
      rotate_left
      · have z2 : decide (d ≤ s.b) = false := decide_eq_false h2
        have E := hid (show R = finO (acc ++ sumsL d (c.sums.drop (i' + 1))) (partsO d bk c.parts) by rw [R2.out]; unfold onB; rw [z2, Bool.and_false]; rfl)
        clear R2 h1 h2
        go_wp2
        go_roundw
        case rel => exact ⟨_, i' + 1, acc, rfl, by simp, by omega, by omega, E, hA, OT, BT⟩
        case measure => simp [intOf]; omega
      have z2 : decide (d ≤ s.b) = true := decide_eq_true h2
      have E := hid (show R = finO ((acc ++ [s.amt]) ++ sumsL d (c.sums.drop (i' + 1))) (partsO d bk c.parts) by rw [R2.out]; unfold onB; rw [z1, z2, List.append_assoc]; rfl)
      have A2 := hid (show ∀ n ∈ acc ++ [s.amt], I64 n from fun n hn => by
        rcases List.mem_append.1 hn with h | h
        · exact hA.out n h
        · rw [List.mem_singleton] at h
          rw [h]
          exact HI.out)
      have oo := OT.out
      clear R2 h1 h2 hA
      go_wp2_with (at_builtin; refine wpList_append_own _ rfl _ _ 27 rfl w1.heap.size 3 i0 (.int .i64 0) 1 8 Tryz.underlying27 hi0 hz0 hz1 hz2 rfl (by decide) _ _ _ rfl (oo.alloc _) ⟨wt.heap.size, 0, none⟩ 1 1 (intC s.amt) rfl rfl (R11.news_at wt (intC s.amt) _) (by simp [intC, Value.oneCell']) (by unfold maxLen; omega) (by omega) (by simp; omega) ?_)
      intro v5 w5 hown hgrow _
      have B5 := hid ((BT.out.alloc hsz _).grown hgrow (BT.out.alloc hsz _).size (fun j hj => (oo.lt j hj).1))
      have O5 := hid hown
      clear hown hgrow oo
      go_wp2
      go_roundw
      case rel => exact ⟨_, i' + 1, acc ++ [s.amt], rfl, by simp, by omega, by simp; omega, E, A2, hid (by
        simp only [List.length_append, List.length_singleton, List.flatMap_append, List.flatMap_cons, List.flatMap_nil, List.append_nil]
        exact O5.out), B5⟩
      case measure => simp [intOf]; omega
    · have R2 := hid (show R = finO acc (partsO d bk (c.parts.drop 0)) by rw [hR.out, List.drop_of_length_le (by omega)]; show finO (acc ++ []) _ = _; rw [List.append_nil]; rfl)
      have hal8 : acc.length ≤ 8 := by omega
      have c5 := (X.out _ hb.out).1.cell 5 _ rfl
      have l1 := (X.out _ hb.out).1.lt
      clear hR hal
      obtain ⟨wq, hwq⟩ : ∃ W, W = wr := ⟨_, rfl⟩
      rw [← hwq] at c5 l1 hO hb ⊢
      clear hwq
      go_wp2
      clear c5 l1
      go_loopw [8, 43] (fun v i wr => ∃ (V : Value) (i' : Nat) (ac2 : List Int), v = V ∧ i = .int .i64 (i' : Int) ∧ i' ≤ c.parts.length ∧ ac2.length ≤ 8 + i' ∧ Hid (R = finO ac2 (partsO d bk (c.parts.drop i'))) ∧ Hid (∀ n ∈ ac2, I64 n) ∧ Hid (wr.ownsRow w1.heap.size 3 1 V ac2.length (ac2.flatMap intC)) ∧ Hid (Below w1.heap.size w1 wr)) (fun _ i _ => c.parts.length - (intOf i).toNat)
      case atStart => exact ⟨_, 0, acc, rfl, rfl, Nat.zero_le _, by omega, R2, hA, hO, hb⟩
      case round =>
        clear R2 hA hO hb hal8
        obtain ⟨V, i', acc, rfl, rfl, hi, hal, hR, hA, hO, hb⟩ := hrel
        by_cases hlt : i' < c.parts.length
        · obtain ⟨x, hx⟩ : ∃ x, c.parts[i']? = some x := ⟨_, List.getElem?_eq_getElem hlt⟩
          obtain ⟨bx, ox, ta, tc, aa, ac, ex, -, x0, x1, x2, x3, x4, x5, x6, x7, x8, hp⟩ := prt_at (HC.out _ hb.out).parts hx
          subst ex
          obtain ⟨gx, _, gm0, gm1⟩ := GP.out x (List.mem_of_getElem? hx)
          obtain ⟨wt, hwt⟩ : ∃ W, W = wr.alloc (.cells ([.int .i64 x.mt, .int .i64 x.a, .int .i64 x.b, .int .i64 x.allowance, .int .i64 x.block, .int .i64 x.kind, .slice ta x.tiers.length tc, .int .i64 x.mode, .slice aa x.adjusts.length ac] : List Value).toArray 58) := ⟨_, rfl⟩
          obtain ⟨kt, hkt⟩ : ∃ k, k = wr.heap.size := ⟨_, rfl⟩
          have bt2 : Below wr.heap.size wr wt := by rw [hwt]; exact bel_alloc _ _
          have XT : Box wt kt [.int .i64 x.mt, .int .i64 x.a, .int .i64 x.b, .int .i64 x.allowance, .int .i64 x.block, .int .i64 x.kind, .slice ta x.tiers.length tc, .int .i64 x.mode, .slice aa x.adjusts.length ac] := by rw [hwt, hkt]; exact Box.new _ _ _
          have BT := hid (bel_on hb.out bt2)
          have OT := hid (owns_on hO.out bt2)
          have HXT := hid XT
          have e1 := XT.cell 1 _ rfl
          have e2 := XT.cell 2 _ rfl
          have lt1 := XT.lt
          have HWT := hid hwt
          have HKT := hid hkt
          have hsz : w1.heap.size ≤ wt.heap.size := BT.out.size
          have hml : x.mt.toNat < bk.length := by have := HL.out; omega
          obtain ⟨bb, ob, eb, lb, q0, qi⟩ := bk_at (HB.out wt BT.out) hml
          subst eb
          obtain ⟨QV, hQV⟩ : ∃ v, v = qAt bk x.mt := ⟨_, rfl⟩
          have q0 : wt.cell? ⟨bb, ob + x.mt.toNat, none⟩ = some (.int .i64 QV) := by rw [hQV]; exact q0
          have cP := fun W (b : Below wt.heap.size wt W) => part_any x ta tc aa ac (qAt bk x.mt) W ((hp.tiers.on bt2).on b) ((hp.adjusts.on bt2).on b) qi gx
          have PI := hid (fun n (h : partO x (qAt bk x.mt) = some n) => partO_i gx (row_nums hp.adjusts) h)
          have hR2 := hR.out
          rw [partsO_step hx] at hR2
          obtain ⟨PO, hPO⟩ : ∃ P, P = partO x (qAt bk x.mt) := ⟨_, rfl⟩
          rw [← hPO] at cP PI hR2
          rw [← hQV] at cP
          have cP := hid cP
          have R2 := hid hR2
          have Q0 := hid q0
          clear hwt hkt bt2 XT hx hb hO hR hR2 hp hPO q0 hQV
          go_upto_region 11 with fail
          rw [← HWT.out, ← HKT.out]
          clear HWT HKT x0 x1 x2 x3 x4 x5 x6 x7 x8
          by_cases h1 : x.a ≤ d
          rotate_left
          · have z1 : decide (x.a ≤ d) = false := decide_eq_false h1
            have E := hid (show R = finO acc (partsO d bk (c.parts.drop (i' + 1))) by rw [R2.out]; unfold onB; rw [z1]; rfl)
            clear R2 h1
            go_wp2
            go_roundw
            case rel => exact ⟨_, i' + 1, acc, rfl, by simp, by omega, by omega, E, hA, OT, BT⟩
            case measure => simp [intOf]; omega
          have z1 : decide (x.a ≤ d) = true := decide_eq_true h1
          by_cases h2 : d ≤ x.b
          rotate_left
          · have z2 : decide (d ≤ x.b) = false := decide_eq_false h2
            have E := hid (show R = finO acc (partsO d bk (c.parts.drop (i' + 1))) by rw [R2.out]; unfold onB; rw [z2, Bool.and_false]; rfl)
            clear R2 h1 h2
            go_wp2
            go_roundw
            case rel => exact ⟨_, i' + 1, acc, rfl, by simp, by omega, by omega, E, hA, OT, BT⟩
            case measure => simp [intOf]; omega
          have z2 : decide (d ≤ x.b) = true := decide_eq_true h2
          have R3 := hid (show R = finO acc (bindP PO (partsO d bk (c.parts.drop (i' + 1)))) by rw [R2.out]; unfold onB; rw [z1, z2]; rfl)
          have m0 : 0 ≤ x.mt := gm0
          have m1 : x.mt < (bk.length : Int) := by omega
          clear R2 h1 h2
          go_upto_region 12 with fail
          have f0 := cell_regrown (HXT.out.cell 0 _ rfl); have f1 := cell_regrown (HXT.out.cell 1 _ rfl); have f2 := cell_regrown (HXT.out.cell 2 _ rfl); have f3 := cell_regrown (HXT.out.cell 3 _ rfl); have f4 := cell_regrown (HXT.out.cell 4 _ rfl); have f5 := cell_regrown (HXT.out.cell 5 _ rfl); have f6 := cell_regrown (HXT.out.cell 6 _ rfl); have f7 := cell_regrown (HXT.out.cell 7 _ rfl); have f8 := cell_regrown (HXT.out.cell 8 _ rfl)
          have rq := cell_regrown Q0.out
          have qP := fun dd os => Calls.regrown_of (cP.out (grow (redrawn wt dd) os) (below_regrown wt dd os))
          have B2 := fun dd os => hid (bel_on BT.out (below_regrown wt dd os))
          have O2 := fun dd os => hid (owns_on OT.out (below_regrown wt dd os))
          clear cP e1 e2
          refine wp_region_quiet_below (by kernel_rfl) (by kernel_rfl) ?_
          repeat (go_big_quiet_step (first | (go_at_call 45; exact qP _ _)))
          refine wpQuiet_nil ?_
          intro _ hw'
          obtain ⟨⟨dq, osq⟩, hw''⟩ := hw'
          subst hw''
          obtain ⟨wu, hwu⟩ : ∃ W, W = grow (redrawn wt dq) osq := ⟨_, rfl⟩
          have B3 := B2 dq osq
          have O3 := O2 dq osq
          rw [← hwu] at B3 O3 ⊢
          clear B2 O2 qP rq hwu f0 f1 f2 f3 f4 f5 f6 f7 f8 BT OT lt1
          cases PO with
          | none =>
            have E := hid (show R = (0, 2) from R3.out)
            have BF := hid (X.out _ B3.out).2
            rw [show oV none = 0 from rfl, show oB none = false from rfl]
            clear R3 PI
            go_wp2
            go_ret2
            exact ⟨by rw [E.out]; rfl, BF.out⟩
          | some n =>
            have E := hid (show R = finO (acc ++ [n]) (partsO d bk (c.parts.drop (i' + 1))) from R3.out.trans (finO_map acc n _))
            have A2 := hid (show ∀ k ∈ acc ++ [n], I64 k from fun k hk => by
              rcases List.mem_append.1 hk with h | h
              · exact hA.out k h
              · rw [List.mem_singleton] at h
                rw [h]
                exact PI.out n rfl)
            have oo := O3.out
            have hsz2 : w1.heap.size ≤ wu.heap.size := B3.out.size
            rw [show oV (some n) = n from rfl, show oB (some n) = true from rfl]
            clear R3 PI hA
            go_wp2_with (at_builtin; refine wpList_append_own _ rfl _ _ 27 rfl w1.heap.size 3 i0 (.int .i64 0) 1 8 Tryz.underlying27 hi0 hz0 hz1 hz2 rfl (by decide) _ _ _ rfl (oo.alloc _) ⟨wu.heap.size, 0, none⟩ 1 1 (intC n) rfl rfl (R11.news_at wu (intC n) _) (by simp [intC, Value.oneCell']) (by unfold maxLen; omega) (by omega) (by simp; omega) ?_)
            intro v5 w5 hown hgrow _
            have B5 := hid ((B3.out.alloc hsz2 _).grown hgrow (B3.out.alloc hsz2 _).size (fun j hj => (oo.lt j hj).1))
            have O5 := hid hown
            clear hown hgrow oo
            go_wp2
            go_roundw
            case rel => exact ⟨_, i' + 1, acc ++ [n], rfl, by simp, by omega, by simp; omega, E, A2, hid (by
              simp only [List.length_append, List.length_singleton, List.flatMap_append, List.flatMap_cons, List.flatMap_nil, List.append_nil]
              exact O5.out), B5⟩
            case measure => simp [intOf]; omega
        · have R2 := hid (show R = if (sumTo 0 acc).2 = true then ((sumTo 0 acc).1, 0) else (0, 2) by
            rw [hR.out, List.drop_of_length_le (by omega)]
            show (if (sumTo 0 (acc ++ [])).2 = true then ((sumTo 0 (acc ++ [])).1, (0 : Int)) else (0, 2)) = _
            rw [List.append_nil])
          have BF := hid (X.out _ hb.out).2
          clear hR
          rcases hO.out.2 with ⟨hV, h0⟩ | ⟨g, cap, cur, hV, hgb, -⟩
          · obtain rfl : acc = [] := List.eq_nil_of_length_eq_zero h0
            subst hV
            have cS := hid (fun (W : World) => R1.sum_none none 0 W)
            have E := hid (show R = (0, 0) from R2.out)
            clear R2 hO hA
            go_wp2_with fail
            refine (cS.out _).mono ?_
            rintro e w' ⟨rfl, rfl⟩
            clear cS
            go_wp2
            go_ret2
            exact ⟨by rw [E.out]; rfl, BF.out⟩
          · subst hV
            have own := hO.out
            have cS := hid (R1.sum_any g 0 cap acc wr (fun i hi => by
              have := own.cellAt i (by omega)
              rw [Nat.zero_add, this]
              have h2 := flat_get (cells := intC) (n := 1) (fun _ => rfl) acc i (acc.getD i 0) 0 _ (by rw [List.getD_eq_getElem?_getD, List.getElem?_eq_getElem hi]; rfl) rfl
              simpa using h2) (own.lt g rfl).2 hA.out (by omega))
            obtain ⟨P, hP⟩ : ∃ P, P = sumTo 0 acc := ⟨_, rfl⟩
            rw [← hP] at cS R2
            clear hO hA own hP
            go_wp2_with fail
            refine cS.out.mono ?_
            rintro e w' ⟨rfl, b'⟩
            have B' := hid (bel_on BF.out b')
            clear b' cS
            rcases Bool.eq_false_or_eq_true P.2 with k | k
            · have E := hid (show R = (P.1, 0) by rw [R2.out, k]; rfl)
              rw [k]
              clear R2 k
              go_wp2
              go_ret2
              exact ⟨by rw [E.out]; rfl, B'.out⟩
            · have E := hid (show R = (0, 2) by rw [R2.out, k]; rfl)
              rw [k]
              clear R2 k
              go_wp2
              go_ret2
              exact ⟨by rw [E.out]; rfl, B'.out⟩
end Go.Proofs.YtjgogpaedaffkaaGreat.R13
/- The document's answers for layer 13 (poundageref13): Price. -/
namespace Go.Proofs.YtjgogpaedaffkaaGreat.R13
open Go.RowKit Go.Sort P Mm Md R6 Te Co R10 R11
theorem inBk_step {ms : List Meter} {bk : List Int} {i : Nat} {m : Meter} {q : Int} (h1 : ms[i]? = some m) (h2 : bk[i]? = some q) : inBk (ms.drop i) (bk.drop i) = (decide (0 ≤ q) && decide (q ≤ m.max) && inBk (ms.drop (i + 1)) (bk.drop (i + 1))) := by
  rw [drop_at h1, drop_at h2]
  rfl
theorem priceV_bad {c : Cor} {d : Int} {bk : List Int} (h : goodC c = false) : priceV c d bk = (0, 1) := by
  unfold priceV
  rw [if_neg (by rw [h]; simp)]
theorem priceV_out {c : Cor} {d : Int} {bk : List Int} (h : goodC c = true) (k : (onB c.a c.b d && inBk c.meters bk) = false) : priceV c d bk = (0, 8) := by
  unfold priceV
  rw [if_pos h, if_neg (by rw [k]; simp)]
theorem priceV_in {c : Cor} {d : Int} {bk : List Int} (h : goodC c = true) (k : (onB c.a c.b d && inBk c.meters bk) = true) : priceV c d bk = costV c d bk := by
  unfold priceV
  rw [if_pos h, if_pos k]
  rfl
theorem inBk_ne {ms : List Meter} {bk : List Int} (h : bk.length ≠ ms.length) : inBk ms bk = false := by
  rcases Bool.eq_false_or_eq_true (inBk ms bk) with k | k
  · exact absurd (inBk_len ms bk k) h
  · exact k
set_option maxHeartbeats 1600000 in
set_option maxRecDepth 100000 in
theorem price_any (c : Cor) (ma : Option Addr) (mc : Nat) (sa : Option Addr) (sc : Nat) (pa : Option Addr) (pc : Nat) (d : Int) (bk : List Int) (bo : Option Addr) (bcap : Nat) (w : World) (hc : CorLies w (corC c ma mc sa sc pa pc) c ma mc sa sc pa pc) (hb : Row tInt w bo bk.length bcap bk) :
    Calls Tryz.prog 8 #[.agg #[.string c.cur, .int .i64 c.a, .int .i64 c.b, .slice ma c.meters.length mc, .slice sa c.sums.length sc, .slice pa c.parts.length pc], .int .i64 d, .slice bo bk.length bcap] w fun e w' => e = .returned (.tuple #[.int .i64 (priceV c d bk).1, .int .i64 (priceV c d bk).2]) ∧ Below w.heap.size w w' := by
  obtain ⟨w1, hw1⟩ : ∃ W, W = w.alloc (.cells ([.string c.cur, .int .i64 c.a, .int .i64 c.b, .slice ma c.meters.length mc, .slice sa c.sums.length sc, .slice pa c.parts.length pc] : List Value).toArray 26) := ⟨_, rfl⟩
  obtain ⟨k1, hk1⟩ : ∃ k, k = w.heap.size := ⟨_, rfl⟩
  have b1 : Below w.heap.size w w1 := by rw [hw1]; exact bel_alloc _ _
  have X1 : Box w1 k1 [.string c.cur, .int .i64 c.a, .int .i64 c.b, .slice ma c.meters.length mc, .slice sa c.sums.length sc, .slice pa c.parts.length pc] := by rw [hw1, hk1]; exact Box.new w _ 26
  have X := hid (fun (W : World) (b : Below w1.heap.size w1 W) => (⟨X1.on b, bel_on b1 b⟩ : Box W k1 [.string c.cur, .int .i64 c.a, .int .i64 c.b, .slice ma c.meters.length mc, .slice sa c.sums.length sc, .slice pa c.parts.length pc] ∧ Below w.heap.size w W))
  have HC := hid (fun (W : World) (b : Below w1.heap.size w1 W) => hc.on (bel_on b1 b))
  have HB := hid (fun (W : World) (b : Below w1.heap.size w1 W) => hb.on (bel_on b1 b))
  have cG := R10.good_any c ma mc sa sc pa pc w1 (hc.on b1)
  have c0 := X1.cell 0 _ rfl; have c1 := X1.cell 1 _ rfl; have c2 := X1.cell 2 _ rfl; have c3 := X1.cell 3 _ rfl; have c4 := X1.cell 4 _ rfl; have c5 := X1.cell 5 _ rfl
  have l1 := X1.lt
  have HW := hid hw1
  have HK := hid hk1
  have mm := hc.meters.hmax
  have mcl := hc.meters.hcap
  have bm := hb.hmax
  have bcl := hb.hcap
  obtain ⟨R, hR⟩ : ∃ R, R = priceV c d bk := ⟨_, rfl⟩
  rw [← hR]
  have RV := hid hR
  rcases Bool.eq_false_or_eq_true (goodC c) with g | g
  rotate_left
  · have E := hid (show R = (0, 1) by rw [hR, priceV_bad g])
    rw [g] at cG
    have cG := hid cG
    clear hw1 hk1 b1 X1 hc hb hR g
    go_enter Tryz.func8, Tryz.ntmps8
    go_upto_region 1 with fail
    rw [← HW.out, ← HK.out]
    go_wp2_with fail
    refine cG.out.mono ?_
    rintro e w2 ⟨rfl, b2⟩
    have BF := hid (X.out w2 b2).2
    clear b2 cG
    go_wp2
    go_ret2
    exact ⟨by rw [E.out]; rfl, BF.out⟩
  · have HG := hid g
    rw [g] at cG
    have cG := hid cG
    clear hw1 hk1 b1 X1 hc hb hR g
    go_enter Tryz.func8, Tryz.ntmps8
    go_upto_region 1 with fail
    rw [← HW.out, ← HK.out]
    go_wp2_with fail
    refine cG.out.mono ?_
    rintro e w2 ⟨rfl, b2⟩
    have B2 := hid b2
    have BF := hid (X.out w2 b2).2
    have c1 := (X.out w2 b2).1.cell 1 _ rfl
    have c2 := (X.out w2 b2).1.cell 2 _ rfl
    have c3 := (X.out w2 b2).1.cell 3 _ rfl
    have l1 := (X.out w2 b2).1.lt
    clear b2 cG HW HK
    by_cases h1 : d < c.a
    · have z1 : decide (d < c.a) = true := decide_eq_true h1
      have E := hid (show R = (0, 8) by
        rw [RV.out]
        refine priceV_out HG.out ?_
        unfold onB
        rw [decide_eq_false (by omega)]
        rfl)
      clear h1
      go_wp2
      go_ret2
      exact ⟨by rw [E.out]; rfl, BF.out⟩
    have z1 : decide (d < c.a) = false := decide_eq_false h1
    by_cases h2 : c.b < d
    · have z2 : decide (c.b < d) = true := decide_eq_true h2
      have E := hid (show R = (0, 8) by
        rw [RV.out]
        refine priceV_out HG.out ?_
        unfold onB
        rw [decide_eq_false (by omega : ¬ d ≤ c.b), Bool.and_false]
        rfl)
      clear h1 h2
      go_wp2
      go_ret2
      exact ⟨by rw [E.out]; rfl, BF.out⟩
    have z2 : decide (c.b < d) = false := decide_eq_false h2
    have ON := hid (show onB c.a c.b d = true by
      unfold onB
      rw [decide_eq_true (by omega : c.a ≤ d), decide_eq_true (by omega : d ≤ c.b)]
      rfl)
    clear h1 h2
    by_cases h3 : bk.length = c.meters.length
    rotate_left
    · have z3 : ((bk.length : Int) == (c.meters.length : Int)) = false := by
        rw [beq_eq_false_iff_ne]
        omega
      have E := hid (show R = (0, 8) by
        rw [RV.out]
        refine priceV_out HG.out ?_
        rw [inBk_ne h3, Bool.and_false])
      clear h3
      go_wp2
      go_ret2
      exact ⟨by rw [E.out]; rfl, BF.out⟩
    have z3 : ((bk.length : Int) == (c.meters.length : Int)) = true := by
      rw [beq_iff_eq]
      omega
    have HL := hid h3
    have I0 := hid (show inBk c.meters bk = inBk (c.meters.drop 0) (bk.drop 0) from rfl)
    clear h3
    go_wp2
    clear c1 c2 c3 l1
    go_loopw [33] (fun i wr => ∃ i' : Nat, i = .int .i64 (i' : Int) ∧ i' ≤ bk.length ∧ Hid (inBk c.meters bk = inBk (c.meters.drop i') (bk.drop i')) ∧ Hid (Below w1.heap.size w1 wr)) (fun i _ => bk.length - (intOf i).toNat)
    case atStart => exact ⟨0, rfl, Nat.zero_le _, I0, B2⟩
    case round =>
      obtain ⟨i', rfl, hi, hI, hb⟩ := hrel
      clear I0 B2 BF
      have BF := hid (X.out wr hb.out).2
      by_cases hlt : i' < bk.length
      · have hlm : i' < c.meters.length := by have := HL.out; omega
        obtain ⟨m, hm⟩ : ∃ m, c.meters[i']? = some m := ⟨_, List.getElem?_eq_getElem hlm⟩
        obtain ⟨bx, ox, ex, lx, -, -, x2, -, -, -⟩ := meter_at (HC.out _ hb.out).meters hm
        subst ex
        obtain ⟨bb, ob, eb, lb, q0, qi⟩ := bk_at (HB.out wr hb.out) hlt
        subst eb
        obtain ⟨QV, hQV⟩ : ∃ v, v = bk.getD i' 0 := ⟨_, rfl⟩
        have hq : bk[i']? = some QV := by rw [hQV, List.getD_eq_getElem?_getD, List.getElem?_eq_getElem hlt]; rfl
        rw [← hQV] at q0
        have c3 := (X.out wr hb.out).1.cell 3 _ rfl
        have l1 := (X.out wr hb.out).1.lt
        have hS := inBk_step hm hq
        have S := hid hS
        clear hQV hq hm hS qi
        by_cases h1 : QV < 0
        · have z4 : decide (QV < 0) = true := decide_eq_true h1
          have E := hid (show R = (0, 8) by
            rw [RV.out]
            refine priceV_out HG.out ?_
            rw [hI.out, S.out, decide_eq_false (by omega)]
            simp)
          clear h1
          go_wp2
          go_ret2
          exact ⟨by rw [E.out]; rfl, BF.out⟩
        have z4 : decide (QV < 0) = false := decide_eq_false h1
        by_cases h2 : m.max < QV
        · have z5 : decide (m.max < QV) = true := decide_eq_true h2
          have E := hid (show R = (0, 8) by
            rw [RV.out]
            refine priceV_out HG.out ?_
            rw [hI.out, S.out, decide_eq_false (by omega : ¬ QV ≤ m.max)]
            simp)
          clear h1 h2
          go_wp2
          go_ret2
          exact ⟨by rw [E.out]; rfl, BF.out⟩
        have z5 : decide (m.max < QV) = false := decide_eq_false h2
        have I2 := hid (show inBk c.meters bk = inBk (c.meters.drop (i' + 1)) (bk.drop (i' + 1)) by
          rw [hI.out, S.out, decide_eq_true (by omega), decide_eq_true (by omega : QV ≤ m.max)]
          rfl)
        clear h1 h2 hI S
        go_wp2
        go_roundw
        case rel => exact ⟨i' + 1, by simp, by omega, I2, hb⟩
        case measure => simp [intOf]; omega
      · have E := hid (show R = costV c d bk by
          rw [RV.out]
          refine priceV_in HG.out ?_
          rw [ON.out, hI.out, List.drop_of_length_le (by omega : bk.length ≤ i'), List.drop_of_length_le (by have := HL.out; omega : c.meters.length ≤ i')]
          rfl)
        have cC := hid (cost_any c ma mc sa sc pa pc d bk bo bcap wr (HC.out _ hb.out) (HB.out _ hb.out) HG.out HL.out)
        have e0 := (X.out wr hb.out).1.cell 0 _ rfl; have e1 := (X.out wr hb.out).1.cell 1 _ rfl; have e2 := (X.out wr hb.out).1.cell 2 _ rfl; have e3 := (X.out wr hb.out).1.cell 3 _ rfl; have e4 := (X.out wr hb.out).1.cell 4 _ rfl; have e5 := (X.out wr hb.out).1.cell 5 _ rfl
        have l1 := (X.out wr hb.out).1.lt
        clear hI
        go_wp2_with fail
        refine cC.out.mono ?_
        rintro e w3 ⟨rfl, b3⟩
        have B3 := hid (bel_on BF.out b3)
        clear b3 cC e0 e1 e2 e3 e4 e5 l1
        go_wp2
        go_ret2
        exact ⟨by rw [E.out]; rfl, B3.out⟩
end Go.Proofs.YtjgogpaedaffkaaGreat.R13
/- What the laws of layer 11 (tiers) ask ahead: whether a part can be; what the document tells. -/
namespace Go.Proofs.YtjgogpaedaffkaaGreat.L11
open Go.RowKit Go.Sort P Mm Md R6 Te Co R10 R11
theorem row_box {α : Type} {n : Nat} {cells : α → List Value} {ok : α → Prop} {hn : ∀ x, (cells x).length = n} {W : World} {k : Nat} {xs : List α} (X : Box W k (xs.flatMap cells)) (hok : ∀ x ∈ xs, ok x) (hl : xs.length ≤ 1000) :
    Row (leaf n cells ok hn) W (some ⟨k, 0, none⟩) xs.length xs.length xs :=
  ⟨rfl, Nat.le_refl _, by omega, fun _ => ⟨k, 0, rfl, X.lt, fun j x hj => ⟨cells x, ⟨rfl, hok x (List.mem_of_getElem? hj)⟩, fun i v hi => by
    have := X.cell (j * n + i) v (flat_get hn xs j x i v hj hi)
    show W.cell? ⟨k, 0 + j * n + i, none⟩ = some v
    rw [Nat.zero_add]
    exact this⟩⟩⟩
end Go.Proofs.YtjgogpaedaffkaaGreat.L11
/- The laws of layer 13 (price), over what the package answers: PriceIs, PriceParts. -/
namespace Go.Proofs.YtjgogpaedaffkaaGreat.L13
open Go.RowKit Go.Sort P Mm Md R6 Te Co R10 R11
/-- What package price answers. -/
structure Pr : Prop where
  part : ∀ (x : Prt) (ta : Option Addr) (tc : Nat) (aa : Option Addr) (ac : Nat) (q : Int) (w : World), Row tTier w ta x.tiers.length tc x.tiers → Row tAdj w aa x.adjusts.length ac x.adjusts → I64 q → GoodT x →
    Calls Tryz.prog 40 #[.agg #[.int .i64 x.mt, .int .i64 x.a, .int .i64 x.b, .int .i64 x.allowance, .int .i64 x.block, .int .i64 x.kind, .slice ta x.tiers.length tc, .int .i64 x.mode, .slice aa x.adjusts.length ac], .int .i64 q] w fun e w' => e = .returned (.tuple #[.int .i64 (oV (partO x q)), .bool (oB (partO x q))]) ∧ Below w.heap.size w w'
  price : ∀ (c : Cor) (ma : Option Addr) (mc : Nat) (sa : Option Addr) (sc : Nat) (pa : Option Addr) (pc : Nat) (d : Int) (bk : List Int) (bo : Option Addr) (bcap : Nat) (w : World), CorLies w (corC c ma mc sa sc pa pc) c ma mc sa sc pa pc → Row tInt w bo bk.length bcap bk → c.meters.length ≤ 100000 → bk.length ≤ 100000 →
    Calls Tryz.prog 7 #[.agg #[.string c.cur, .int .i64 c.a, .int .i64 c.b, .slice ma c.meters.length mc, .slice sa c.sums.length sc, .slice pa c.parts.length pc], .int .i64 d, .slice bo bk.length bcap] w fun e w' => e = .returned (.tuple #[.int .i64 (priceV c d bk).1, .int .i64 (priceV c d bk).2]) ∧ Below w.heap.size w w'
theorem row_prt1 {W : World} {k : Nat} {x : Prt} {ta : Option Addr} {tc : Nat} {aa : Option Addr} {ac : Nat} (X : Box W k (prtC x ta tc aa ac)) (h : PrtLies W (prtC x ta tc aa ac) x ta tc aa ac) : Row tPrt W (some ⟨k, 0, none⟩) 1 1 [x] :=
  ⟨rfl, Nat.le_refl _, by decide, fun _ => ⟨k, 0, rfl, X.lt, fun j y hj => by
    cases j with
    | zero =>
      obtain rfl : x = y := by simpa using hj
      refine ⟨prtC x ta tc aa ac, ⟨ta, tc, aa, ac, h⟩, fun i v hi => ?_⟩
      have := X.cell i v hi
      simpa using this
    | succ j => simp at hj⟩⟩
/-- Price of a basket of one quantity, in a new block. -/
theorem price_one (A : Pr) (c : Cor) (ma : Option Addr) (mc : Nat) (sa : Option Addr) (sc : Nat) (pa : Option Addr) (pc : Nat) (d q : Int) (W : World) (hc : CorLies W (corC c ma mc sa sc pa pc) c ma mc sa sc pa pc) (hm : c.meters.length ≤ 100000) (hq : I64 q) :
    Calls Tryz.prog 7 #[.agg #[.string c.cur, .int .i64 c.a, .int .i64 c.b, .slice ma c.meters.length mc, .slice sa c.sums.length sc, .slice pa c.parts.length pc], .int .i64 d, .slice (some ⟨W.heap.size, 0, none⟩) 1 1] (W.alloc (.cells #[.int .i64 q] 3)) fun e w' => e = .returned (.tuple #[.int .i64 (priceV c d [q]).1, .int .i64 (priceV c d [q]).2]) ∧ Below W.heap.size W w' := by
  have X := Box.new W [.int .i64 q] 3
  have R : Row tInt (W.alloc (.cells #[.int .i64 q] 3)) (some ⟨W.heap.size, 0, none⟩) 1 1 [q] := L11.row_box (α := Int) (n := 1) (cells := fun x => [.int .i64 x]) (ok := I64) (hn := fun _ => rfl) (xs := [q]) X (fun x hx => by
    rw [List.mem_singleton] at hx
    rw [hx]
    exact hq) (by show (1 : Nat) ≤ 1000; decide)
  exact (A.price c ma mc sa sc pa pc d [q] (some ⟨W.heap.size, 0, none⟩) 1 _ (hc.on (bel_alloc W _)) R hm (by show (1 : Nat) ≤ 100000; decide)).mono fun e w' h => ⟨h.1, bel_on (bel_alloc W _) h.2⟩
def mA : Meter := ⟨⟨#[109]⟩, ⟨#[]⟩, 5, 0, 0⟩
def sA : Mm.Sm := ⟨5, 0, 9⟩
def xA : Prt := ⟨0, 0, 9, 0, 1, 1, [⟨0, 2000000⟩], 0, []⟩
def cA : Cor := ⟨⟨#[]⟩, 0, 9, [mA], [sA], [xA]⟩
set_option maxHeartbeats 4000000 in
set_option maxRecDepth 100000 in
theorem alive_any (A : Pr) (w : World) : Calls Tryz.prog 5 #[] w fun e w' => e = .returned (.bool true) ∧ Below w.heap.size w w' := by
  obtain ⟨w1, hw1⟩ : ∃ W, W = w.alloc (.cells ([.string ⟨#[109]⟩, .string ⟨#[]⟩, .int .i64 5, .int .i64 0, .int .i64 0] : List Value).toArray 39) := ⟨_, rfl⟩
  obtain ⟨k1, hk1⟩ : ∃ k, k = w.heap.size := ⟨_, rfl⟩
  have b1 : Below w.heap.size w w1 := by rw [hw1]; exact bel_alloc _ _
  have X1 : Box w1 k1 [.string ⟨#[109]⟩, .string ⟨#[]⟩, .int .i64 5, .int .i64 0, .int .i64 0] := by rw [hw1, hk1]; exact Box.new w _ 39
  obtain ⟨w2, hw2⟩ : ∃ W, W = w1.alloc (.cells ([.int .i64 5, .int .i64 0, .int .i64 9] : List Value).toArray 52) := ⟨_, rfl⟩
  obtain ⟨k2, hk2⟩ : ∃ k, k = w1.heap.size := ⟨_, rfl⟩
  have b2 : Below w1.heap.size w1 w2 := by rw [hw2]; exact bel_alloc _ _
  have X2 : Box w2 k2 [.int .i64 5, .int .i64 0, .int .i64 9] := by rw [hw2, hk2]; exact Box.new w1 _ 52
  obtain ⟨w3, hw3⟩ : ∃ W, W = w2.alloc (.cells ([.int .i64 0, .int .i64 2000000] : List Value).toArray 54) := ⟨_, rfl⟩
  obtain ⟨k3, hk3⟩ : ∃ k, k = w2.heap.size := ⟨_, rfl⟩
  have b3 : Below w2.heap.size w2 w3 := by rw [hw3]; exact bel_alloc _ _
  have X3 : Box w3 k3 [.int .i64 0, .int .i64 2000000] := by rw [hw3, hk3]; exact Box.new w2 _ 54
  obtain ⟨w4, hw4⟩ : ∃ W, W = w3.alloc (.cells ([.int .i64 0, .int .i64 0, .int .i64 9, .int .i64 0, .int .i64 1, .int .i64 1, .slice (some ⟨k3, 0, none⟩) 1 1, .int .i64 0, .slice none 0 0] : List Value).toArray 58) := ⟨_, rfl⟩
  obtain ⟨k4, hk4⟩ : ∃ k, k = w3.heap.size := ⟨_, rfl⟩
  have b4 : Below w3.heap.size w3 w4 := by rw [hw4]; exact bel_alloc _ _
  have X4 : Box w4 k4 [.int .i64 0, .int .i64 0, .int .i64 9, .int .i64 0, .int .i64 1, .int .i64 1, .slice (some ⟨k3, 0, none⟩) 1 1, .int .i64 0, .slice none 0 0] := by rw [hw4, hk4]; exact Box.new w3 _ 58
  obtain ⟨w5, hw5⟩ : ∃ W, W = w4.alloc (.cells ([.string ⟨#[]⟩, .int .i64 0, .int .i64 9, .slice (some ⟨k1, 0, none⟩) 1 1, .slice (some ⟨k2, 0, none⟩) 1 1, .slice (some ⟨k4, 0, none⟩) 1 1] : List Value).toArray 26) := ⟨_, rfl⟩
  obtain ⟨k5, hk5⟩ : ∃ k, k = w4.heap.size := ⟨_, rfl⟩
  have b5 : Below w4.heap.size w4 w5 := by rw [hw5]; exact bel_alloc _ _
  have X5 : Box w5 k5 [.string ⟨#[]⟩, .int .i64 0, .int .i64 9, .slice (some ⟨k1, 0, none⟩) 1 1, .slice (some ⟨k2, 0, none⟩) 1 1, .slice (some ⟨k4, 0, none⟩) 1 1] := by rw [hw5, hk5]; exact Box.new w4 _ 26
  have b35 := bel_on b4 b5
  have b25 := bel_on b3 b35
  have b15 := bel_on b2 b25
  have b05 := bel_on b1 b15
  have r1 : Row tMeter w5 (some ⟨k1, 0, none⟩) 1 1 [mA] := L11.row_box (α := Meter) (n := 5) (cells := meterC) (ok := fun m => strOk m.name ∧ strOk m.unit ∧ I64 m.max ∧ I64 m.line ∧ I64 m.col) (hn := fun _ => rfl) (xs := [mA]) (X1.on b15) (fun x hx => by
    rw [List.mem_singleton] at hx
    rw [hx]
    exact ⟨by show (1 : Nat) ≤ _; decide, by show (0 : Nat) ≤ _; decide, by show I64 5; unfold I64; omega, by show I64 0; unfold I64; omega, by show I64 0; unfold I64; omega⟩) (by decide)
  have r2 : Row tSm w5 (some ⟨k2, 0, none⟩) 1 1 [sA] := L11.row_box (α := Mm.Sm) (n := 3) (cells := smC) (ok := fun s => I64 s.amt ∧ I64 s.a ∧ I64 s.b) (hn := fun _ => rfl) (xs := [sA]) (X2.on b25) (fun x hx => by
    rw [List.mem_singleton] at hx
    rw [hx]
    exact ⟨by show I64 5; unfold I64; omega, by show I64 0; unfold I64; omega, by show I64 9; unfold I64; omega⟩) (by decide)
  have r3 : Row tTier w5 (some ⟨k3, 0, none⟩) 1 1 [⟨0, 2000000⟩] := L11.row_box (α := Tier) (n := 2) (cells := tierC) (ok := fun t => I64 t.upto ∧ I64 t.rate) (hn := fun _ => rfl) (xs := [⟨0, 2000000⟩]) (X3.on b35) (fun x hx => by
    rw [List.mem_singleton] at hx
    rw [hx]
    exact ⟨by show I64 0; unfold I64; omega, by show I64 2000000; unfold I64; omega⟩) (by decide)
  have r4 : Row tPrt w5 (some ⟨k4, 0, none⟩) 1 1 [xA] := row_prt1 (x := xA) (ta := some ⟨k3, 0, none⟩) (tc := 1) (aa := none) (ac := 0) (X4.on b5) ⟨rfl, r3, ⟨rfl, Nat.le_refl _, by decide, fun h => absurd rfl h⟩, by
    have z : I64 0 := by unfold I64; omega
    have o : I64 1 := by unfold I64; omega
    have n : I64 9 := by unfold I64; omega
    exact ⟨z, z, n, z, o, o, z⟩⟩
  have lie : CorLies w5 (corC cA (some ⟨k1, 0, none⟩) 1 (some ⟨k2, 0, none⟩) 1 (some ⟨k4, 0, none⟩) 1) cA (some ⟨k1, 0, none⟩) 1 (some ⟨k2, 0, none⟩) 1 (some ⟨k4, 0, none⟩) 1 :=
    ⟨rfl, r1, r2, r4, by show (0 : Nat) ≤ _; decide, by show I64 0; unfold I64; omega, by show I64 9; unfold I64; omega⟩
  have c1 := hid (fun (W : World) (b : Below w5.heap.size w5 W) => show Calls Tryz.prog 7 #[.agg #[.string ⟨#[]⟩, .int .i64 0, .int .i64 9, .slice (some ⟨k1, 0, none⟩) 1 1, .slice (some ⟨k2, 0, none⟩) 1 1, .slice (some ⟨k4, 0, none⟩) 1 1], .int .i64 4, .slice (some ⟨W.heap.size, 0, none⟩) 1 1] (W.alloc (.cells #[.int .i64 3] 3)) fun e w' => e = .returned (.tuple #[.int .i64 11, .int .i64 0]) ∧ Below W.heap.size W w' by
    have := price_one A cA (some ⟨k1, 0, none⟩) 1 (some ⟨k2, 0, none⟩) 1 (some ⟨k4, 0, none⟩) 1 4 3 W (lie.on b) (by decide) (by unfold I64; omega)
    rw [show priceV cA 4 [3] = (11, 0) by decide +kernel] at this
    exact this)
  have c2 := hid (fun (W : World) (b : Below w5.heap.size w5 W) => show Calls Tryz.prog 7 #[.agg #[.string ⟨#[]⟩, .int .i64 0, .int .i64 9, .slice (some ⟨k1, 0, none⟩) 1 1, .slice (some ⟨k2, 0, none⟩) 1 1, .slice (some ⟨k4, 0, none⟩) 1 1], .int .i64 4, .slice (some ⟨W.heap.size, 0, none⟩) 1 1] (W.alloc (.cells #[.int .i64 6] 3)) fun e w' => e = .returned (.tuple #[.int .i64 0, .int .i64 8]) ∧ Below W.heap.size W w' by
    have := price_one A cA (some ⟨k1, 0, none⟩) 1 (some ⟨k2, 0, none⟩) 1 (some ⟨k4, 0, none⟩) 1 4 6 W (lie.on b) (by decide) (by unfold I64; omega)
    rw [show priceV cA 4 [6] = (0, 8) by decide +kernel] at this
    exact this)
  have e2 : k2 = w.heap.size + 1 := by rw [hk2, hw1]; simp
  have e3 : k3 = w.heap.size + 1 + 1 := by rw [hk3, hw2, hw1]; simp
  have e4 : k4 = w.heap.size + 1 + 1 + 1 := by rw [hk4, hw3, hw2, hw1]; simp
  have e5 : k5 = w.heap.size + 1 + 1 + 1 + 1 := by rw [hk5, hw4, hw3, hw2, hw1]; simp
  have HW := hid (show w5 = ((((w.alloc (.cells #[.string ⟨#[109]⟩, .string ⟨#[]⟩, .int .i64 5, .int .i64 0, .int .i64 0] 39)).alloc (.cells #[.int .i64 5, .int .i64 0, .int .i64 9] 52)).alloc (.cells #[.int .i64 0, .int .i64 2000000] 54)).alloc (.cells #[.int .i64 0, .int .i64 0, .int .i64 9, .int .i64 0, .int .i64 1, .int .i64 1, .slice (some ⟨w.heap.size + 1 + 1, 0, none⟩) 1 1, .int .i64 0, .slice none 0 0] 58)).alloc (.cells #[.string ⟨#[]⟩, .int .i64 0, .int .i64 9, .slice (some ⟨w.heap.size, 0, none⟩) 1 1, .slice (some ⟨w.heap.size + 1, 0, none⟩) 1 1, .slice (some ⟨w.heap.size + 1 + 1 + 1, 0, none⟩) 1 1] 26) by rw [hw5, hw4, hw3, hw2, hw1, hk1, e2, e3, e4])
  have HK := hid (And.intro hk1 (And.intro e2 (And.intro e3 (And.intro e4 e5))))
  have HX := hid X5
  have B5 := hid b05
  have d0 := X5.cell 0 _ rfl; have d1 := X5.cell 1 _ rfl; have d2 := X5.cell 2 _ rfl; have d3 := X5.cell 3 _ rfl; have d4 := X5.cell 4 _ rfl; have d5 := X5.cell 5 _ rfl
  have l5 := X5.lt
  clear hw1 hk1 b1 X1 hw2 hk2 b2 X2 hw3 hk3 b3 X3 hw4 hk4 b4 X4 hw5 hk5 b5 X5 b35 b25 b15 b05 r1 r2 r3 r4 lie e2 e3 e4 e5
  go_enter Tryz.func5, Tryz.ntmps5
  go_upto_region 2 with fail
  rw [← HW.out, ← HK.out.2.2.2.2]
  clear HW
  go_wp2_with fail
  refine (c1.out _ (Below.refl _ _)).mono ?_
  rintro e w6 ⟨rfl, b6⟩
  have B6 := hid b6
  have Y := HX.out.on b6
  have d0 := Y.cell 0 _ rfl; have d1 := Y.cell 1 _ rfl; have d2 := Y.cell 2 _ rfl; have d3 := Y.cell 3 _ rfl; have d4 := Y.cell 4 _ rfl; have d5 := Y.cell 5 _ rfl
  have l6 := Y.lt
  clear b6 c1 Y
  go_wp2_with fail
  refine (c2.out _ B6.out).mono ?_
  rintro e w7 ⟨rfl, b7⟩
  have B7 := hid (bel_on B5.out (bel_on B6.out b7))
  clear b7 c2
  go_wp2
  go_ret
  exact ⟨rfl, B7.out⟩
set_option maxHeartbeats 4000000 in
set_option maxRecDepth 100000 in
theorem is_walk (A : Pr) (c : Cor) (ma : Option Addr) (mc : Nat) (sa : Option Addr) (sc : Nat) (pa : Option Addr) (pc : Nat) (d : Int) (bk : List Int) (bo : Option Addr) (bcap : Nat) (w : World) (hc : CorLies w (corC c ma mc sa sc pa pc) c ma mc sa sc pa pc) (hb : Row tInt w bo bk.length bcap bk) :
    Calls Tryz.prog 3 #[.agg #[.string c.cur, .int .i64 c.a, .int .i64 c.b, .slice ma c.meters.length mc, .slice sa c.sums.length sc, .slice pa c.parts.length pc], .int .i64 d, .slice bo bk.length bcap] w fun e w' => e = .returned (.bool true) ∧ Below w.heap.size w w' := by
  obtain ⟨w1, hw1⟩ : ∃ W, W = w.alloc (.cells ([.string c.cur, .int .i64 c.a, .int .i64 c.b, .slice ma c.meters.length mc, .slice sa c.sums.length sc, .slice pa c.parts.length pc] : List Value).toArray 26) := ⟨_, rfl⟩
  obtain ⟨k1, hk1⟩ : ∃ k, k = w.heap.size := ⟨_, rfl⟩
  have b1 : Below w.heap.size w w1 := by rw [hw1]; exact bel_alloc _ _
  have X1 : Box w1 k1 [.string c.cur, .int .i64 c.a, .int .i64 c.b, .slice ma c.meters.length mc, .slice sa c.sums.length sc, .slice pa c.parts.length pc] := by rw [hw1, hk1]; exact Box.new w _ 26
  have X := hid (fun (W : World) (b : Below w1.heap.size w1 W) => (⟨X1.on b, bel_on b1 b⟩ : Box W k1 [.string c.cur, .int .i64 c.a, .int .i64 c.b, .slice ma c.meters.length mc, .slice sa c.sums.length sc, .slice pa c.parts.length pc] ∧ Below w.heap.size w W))
  have HC := hid (fun (W : World) (b : Below w1.heap.size w1 W) => hc.on (bel_on b1 b))
  have HB := hid (fun (W : World) (b : Below w1.heap.size w1 W) => hb.on (bel_on b1 b))
  have cA := hid (alive_any A w1)
  have HW := hid hw1
  have HK := hid hk1
  have bm := hb.hmax
  have bcl := hb.hcap
  clear hw1 hk1 X1 b1 hc hb
  go_enter Tryz.func3, Tryz.ntmps3
  go_upto_region 1 with fail
  rw [← HW.out, ← HK.out]
  clear HW HK
  go_wp2_with fail
  refine cA.out.mono ?_
  rintro e w2 ⟨rfl, b2⟩
  have B2 := hid b2
  have Y := (X.out w2 b2).1
  have f0 := Y.cell 0 _ rfl; have f1 := Y.cell 1 _ rfl; have f2 := Y.cell 2 _ rfl; have f3 := Y.cell 3 _ rfl; have f4 := Y.cell 4 _ rfl; have f5 := Y.cell 5 _ rfl
  have l2 := Y.lt
  have cT := R10.great_any c ma mc sa sc pa pc w2 (HC.out w2 b2)
  clear cA b2 Y
  rcases Bool.eq_false_or_eq_true (R10.greatC c) with hg | hg
  · rw [hg] at cT
    have cT := hid cT
    clear hg
    go_wp2_with fail
    refine cT.out.mono ?_
    rintro e w3 ⟨rfl, b3⟩
    have BF := hid (X.out w3 (bel_on B2.out b3)).2
    clear b3 cT f0 f1 f2 f3 f4 f5 l2
    go_wp2
    go_ret
    exact ⟨rfl, BF.out⟩
  have ml : c.meters.length ≤ 100000 := by
    unfold R10.greatC at hg
    simp only [Bool.or_eq_false_iff, decide_eq_false_iff_not] at hg
    have := hg.1.1
    omega
  rw [hg] at cT
  have cT := hid cT
  have ML := hid ml
  clear hg ml
  go_wp2_with fail
  refine cT.out.mono ?_
  rintro e w3 ⟨rfl, b3⟩
  have B3 := hid (bel_on B2.out b3)
  have Y := (X.out w3 B3.out).1
  have BF := hid (X.out w3 B3.out).2
  have f0 := Y.cell 0 _ rfl; have f1 := Y.cell 1 _ rfl; have f2 := Y.cell 2 _ rfl; have f3 := Y.cell 3 _ rfl; have f4 := Y.cell 4 _ rfl; have f5 := Y.cell 5 _ rfl
  have l3 := Y.lt
  clear b3 cT l2 Y B2
  by_cases h1 : 100 < bk.length
  · have z1 : decide ((100 : Int) < (bk.length : Int)) = true := decide_eq_true (by omega)
    clear f0 f1 f2 f3 f4 f5 l3
    go_wp2
    go_ret
    exact ⟨rfl, BF.out⟩
  have z1 : decide ((100 : Int) < (bk.length : Int)) = false := decide_eq_false (by omega)
  have c1 := A.price c ma mc sa sc pa pc d bk bo bcap w3 (HC.out w3 B3.out) (HB.out w3 B3.out) ML.out (by omega)
  have c2 := fun (W : World) (b : Below w1.heap.size w1 W) => R13.price_any c ma mc sa sc pa pc d bk bo bcap W (HC.out W b) (HB.out W b)
  obtain ⟨V, hV⟩ : ∃ V, V = priceV c d bk := ⟨_, rfl⟩
  rw [← hV] at c1 c2
  have c1 := hid c1
  have c2 := hid c2
  clear hV h1
  go_wp2_with fail
  refine c1.out.mono ?_
  rintro e w4 ⟨rfl, b4⟩
  have B4 := hid (bel_on B3.out b4)
  have Y := (X.out w4 B4.out).1
  have f0 := Y.cell 0 _ rfl; have f1 := Y.cell 1 _ rfl; have f2 := Y.cell 2 _ rfl; have f3 := Y.cell 3 _ rfl; have f4 := Y.cell 4 _ rfl; have f5 := Y.cell 5 _ rfl
  have l4 := Y.lt
  clear b4 c1 l3 Y B3 BF
  go_wp2_with fail
  refine (c2.out w4 B4.out).mono ?_
  rintro e w5 ⟨rfl, b5⟩
  have BF := hid (X.out w5 (bel_on B4.out b5)).2
  clear b5 c2 f0 f1 f2 f3 f4 f5 l4 B4
  have y1 : (V.1 == V.1) = true := by simp
  have y2 : (V.2 == V.2) = true := by simp
  go_wp2
  go_ret
  exact ⟨rfl, BF.out⟩
end Go.Proofs.YtjgogpaedaffkaaGreat.L13
/- How far a tier reaches; steps tier by tier, with the quantity that is reached; sums of steps as far as one has come. As plain data. -/
namespace Go.Proofs.YtjgogpaedaffkaaGreat.P
open Go.RowKit Mm
/-- How far the tier at a place reaches within a quantity. -/
def reachP (ts : List Tier) (q : Int) (i : Nat) : Int := if i + 1 = ts.length then q else min q (((ts[i]?).map (·.upto)).getD 0)
/-- The steps from a quantity that is reached on, by the tiers from a place on. -/
def walkS (ts : List Tier) (q : Int) : Nat → Nat → Int → List Stp
  | 0, _, _ => []
  | n + 1, i, u => if reachP ts q i ≤ u then walkS ts q n (i + 1) u else ⟨u, reachP ts q i, ((ts[i]?).map (·.rate)).getD 0⟩ :: walkS ts q n (i + 1) (reachP ts q i)
theorem reachP_le (ts : List Tier) (q : Int) (i : Nat) : reachP ts q i ≤ q := by unfold reachP; split <;> omega
theorem walkS_none (ts : List Tier) (q : Int) : ∀ (n i : Nat) (u : Int), q ≤ u → walkS ts q n i u = []
  | 0, _, _, _ => rfl
  | n + 1, i, u, h => by
    unfold walkS
    rw [if_pos (Int.le_trans (reachP_le ts q i) h)]
    exact walkS_none ts q n (i + 1) u h
theorem drop_cons {α : Type} {l : List α} {i : Nat} {t : α} (h : l[i]? = some t) : l.drop i = t :: l.drop (i + 1) := by
  obtain ⟨hlt, rfl⟩ := List.getElem?_eq_some_iff.1 h
  exact List.drop_eq_getElem_cons hlt
theorem walkS_grad (ts : List Tier) (q : Int) : ∀ (n i : Nat) (u : Int), i + n = ts.length → tiersB u (ts.drop i) = true → walkS ts q n i u = gradS q u (ts.drop i)
  | 0, i, u, h, _ => by rw [List.drop_of_length_le (by omega)]; rfl
  | n + 1, i, u, h, hB => by
    obtain ⟨t, ht⟩ : ∃ t, ts[i]? = some t := ⟨_, List.getElem?_eq_getElem (by omega)⟩
    unfold walkS
    rw [ht]
    cases n with
    | zero =>
      have e : reachP ts q i = q := by unfold reachP; rw [if_pos (by omega)]
      rw [e, drop_cons ht, List.drop_of_length_le (by omega)]
      unfold gradS
      by_cases k : q ≤ u
      · rw [if_pos k, if_neg (by omega)]; rfl
      · rw [if_neg k, if_pos (by omega)]; rfl
    | succ n =>
      obtain ⟨s, hs⟩ : ∃ s, ts[i + 1]? = some s := ⟨_, List.getElem?_eq_getElem (by omega)⟩
      have e : reachP ts q i = min q t.upto := by unfold reachP; rw [if_neg (by omega), ht]; rfl
      rw [e, drop_cons ht, drop_cons hs]
      rw [drop_cons ht, drop_cons hs] at hB
      obtain ⟨_, _, h1, _, h2⟩ := tiersB_cons hB
      rw [← drop_cons hs] at h2
      unfold gradS
      rw [← drop_cons hs]
      by_cases k : q ≤ u
      · rw [if_pos (by omega), if_neg (by omega), walkS_none ts q (n + 1) (i + 1) u k, gradS_none _ _ _ h2 (by omega)]; rfl
      · rw [if_neg (by omega), if_pos (by omega)]
        show _ :: _ = _ :: _
        refine congrArg (_ :: ·) ?_
        rcases Int.lt_or_le t.upto q with k2 | k2
        · rw [Int.min_eq_right (by omega)]
          exact walkS_grad ts q (n + 1) (i + 1) t.upto (by omega) h2
        · rw [Int.min_eq_left k2, walkS_none ts q (n + 1) (i + 1) q (Int.le_refl _), gradS_none _ _ _ h2 k2]
          rfl
theorem walkS_all {x : Prt} (g : GoodT x) (hk : x.kind ≠ 2) (q : Int) : walkS x.tiers q x.tiers.length 0 0 = stepsP x q := by
  unfold stepsP
  rw [if_neg hk]
  exact walkS_grad x.tiers q x.tiers.length 0 0 (by omega) g.tiers
theorem volR_reach {ts : List Tier} {q : Int} {i : Nat} {t : Tier} (h : ts[i]? = some t) (hr : reachP ts q i = q) : volR q (ts.drop i) = t.rate := by
  rw [drop_cons h]
  rcases Nat.lt_or_ge (i + 1) ts.length with k | k
  · obtain ⟨s, hs⟩ : ∃ s, ts[i + 1]? = some s := ⟨_, List.getElem?_eq_getElem k⟩
    rw [drop_cons hs]
    have e : reachP ts q i = min q t.upto := by unfold reachP; rw [if_neg (by omega), h]; rfl
    unfold volR
    rw [if_pos (by omega)]
  · rw [List.drop_of_length_le (by omega)]
    rfl
theorem volR_more {ts : List Tier} {q : Int} {i : Nat} (h : i < ts.length) (hr : reachP ts q i ≠ q) : i + 1 < ts.length ∧ volR q (ts.drop i) = volR q (ts.drop (i + 1)) := by
  have k : i + 1 ≠ ts.length := fun k => hr (by unfold reachP; rw [if_pos k])
  obtain ⟨t, ht⟩ : ∃ t, ts[i]? = some t := ⟨_, List.getElem?_eq_getElem h⟩
  obtain ⟨s, hs⟩ : ∃ s, ts[i + 1]? = some s := ⟨_, List.getElem?_eq_getElem (by omega)⟩
  have e : reachP ts q i = min q t.upto := by unfold reachP; rw [if_neg k, ht]; rfl
  refine ⟨by omega, ?_⟩
  rw [drop_cons ht, drop_cons hs]
  show (if q ≤ t.upto then t.rate else volR q (s :: ts.drop (i + 1 + 1))) = _
  rw [if_neg (by omega)]
/-- The sum of what has come, and the rest to come. -/
def SumTo (t : Int) (pre : List Stp) : Prop := I64 t ∧ ∀ rest, sumS 0 (pre ++ rest) = sumS t rest
theorem sumTo_nil : SumTo 0 [] := ⟨by unfold I64; omega, fun _ => rfl⟩
theorem sumTo_next {t : Int} {pre : List Stp} {s : Stp} (h : SumTo t pre) (h1 : I64 (stW s)) (h2 : I64 (t + stW s)) : SumTo (t + stW s) (pre ++ [s]) := by
  refine ⟨h2, fun rest => ?_⟩
  rw [List.append_assoc, h.2]
  show (if (ok64 (stW s) && ok64 (t + stW s)) = true then sumS (t + stW s) rest else none) = _
  rw [ok64_t h1, ok64_t h2]
  exact if_pos rfl
theorem sumTo_nope {t : Int} {pre : List Stp} {s : Stp} (h : SumTo t pre) (hn : ¬ I64 (stW s) ∨ ¬ I64 (t + stW s)) (rest : List Stp) : sumS 0 (pre ++ s :: rest) = none := by
  rw [h.2]
  show (if (ok64 (stW s) && ok64 (t + stW s)) = true then sumS (t + stW s) rest else none) = _
  rcases hn with k | k
  · rw [ok64_f k]; rfl
  · rw [ok64_f k, Bool.and_false]; rfl
theorem sumTo_all {t : Int} {pre : List Stp} (h : SumTo t pre) : sumS 0 pre = some t := by
  have := h.2 []
  rw [List.append_nil] at this
  exact this
end Go.Proofs.YtjgogpaedaffkaaGreat.P
/- The law's own loop over the steps (layer 11): a range over a function that may be left at any time. -/
namespace Go.Proofs.YtjgogpaedaffkaaGreat.L11
open Go.RowKit Go.Sort P Mm Md R6 Te Co R10 R11
attribute [local go_sem] Oper.semAt_some
def encS (s : Stp) : Array Value := #[.agg #[.int .i64 s.a, .int .i64 s.b, .int .i64 s.r]]
/-- A block of cells, whole. -/
def Cells (W : World) (B : Nat) (t : TypeId) (cs : List Value) : Prop := W.heap[B]? = some (.cells cs.toArray t (0, 0))
theorem Cells.lt {W : World} {B : Nat} {t : TypeId} {cs : List Value} (h : Cells W B t cs) : B < W.heap.size := (Array.getElem?_eq_some_iff.1 h).1
theorem Cells.cell {W : World} {B : Nat} {t : TypeId} {cs : List Value} (h : Cells W B t cs) (i : Nat) : W.cell? ⟨B, i, none⟩ = cs[i]? := by simp [World.cell?, show W.heap[B]? = _ from h]
theorem Cells.kept {W W' : World} {row : Option Nat} {B : Nat} {t : TypeId} {cs : List Value} (h : Cells W B t cs) (hg : W.grownBy W' row) (hne : some B ≠ row) : Cells W' B t cs := (hg.block B h.lt hne).trans h
theorem cells_own {β : Type} (B : Nat) (t : TypeId) (cs : List Value) (n : Nat) : OwnFrom n (fun (_ : β) W => Cells W B t cs) := fun _ X _ _ hs hg hr =>
  Cells.kept hs hg (fun e' => by obtain ⟨_, o, ho, hc⟩ := hr B e'.symm; rw [show X.heap[B]? = _ from hs] at ho; cases ho; cases hc)
end Go.Proofs.YtjgogpaedaffkaaGreat.L11
