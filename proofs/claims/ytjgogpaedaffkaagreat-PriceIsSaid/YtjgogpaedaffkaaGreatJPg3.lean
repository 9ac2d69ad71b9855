/- Package price, walked: within, Part, fits. -/
import Derived.Test.YtjgogpaedaffkaaGreatJAj1
import Derived.Test.YtjgogpaedaffkaaGreatJL11g
import Derived.Test.YtjgogpaedaffkaaGreatJRef1L
namespace Go.Proofs.YtjgogpaedaffkaaGreat.P
end Go.Proofs.YtjgogpaedaffkaaGreat.P
namespace Go.Proofs.YtjgogpaedaffkaaGreat.Mm
end Go.Proofs.YtjgogpaedaffkaaGreat.Mm
namespace Go.Proofs.YtjgogpaedaffkaaGreat.Md
end Go.Proofs.YtjgogpaedaffkaaGreat.Md
namespace Go.Proofs.YtjgogpaedaffkaaGreat.R6
end Go.Proofs.YtjgogpaedaffkaaGreat.R6
namespace Go.Proofs.YtjgogpaedaffkaaGreat.Te
end Go.Proofs.YtjgogpaedaffkaaGreat.Te
namespace Go.Proofs.YtjgogpaedaffkaaGreat.Co
end Go.Proofs.YtjgogpaedaffkaaGreat.Co
namespace Go.Proofs.YtjgogpaedaffkaaGreat.R10
end Go.Proofs.YtjgogpaedaffkaaGreat.R10
namespace Go.Proofs.YtjgogpaedaffkaaGreat.R11
end Go.Proofs.YtjgogpaedaffkaaGreat.R11
namespace Go.Proofs.YtjgogpaedaffkaaGreat.R13
end Go.Proofs.YtjgogpaedaffkaaGreat.R13
namespace Go.Proofs.YtjgogpaedaffkaaGreat.Pg
open Go.RowKit Go.Sort P Mm Md R6 Te Co R10 R11 R13
theorem within_any (n a b : Int) (w : World) : Calls Tryz.prog 13 #[.int .i64 n, .int .i64 a, .int .i64 b] w fun e w' => e = .returned (.bool (onB a b n)) ∧ w = w' := by
  obtain ⟨R, hR⟩ : ∃ R, R = onB a b n := ⟨_, rfl⟩
  rw [← hR]
  have HR := hid hR
  clear hR
  by_cases h1 : a ≤ n
  · by_cases h2 : n ≤ b
    · have K : Hid (R = true) := hid (by rw [HR.out]; unfold onB; rw [decide_eq_true h1, decide_eq_true h2]; rfl)
      go_enter Tryz.func13, Tryz.ntmps13
      go_wp2
      go_ret
      exact rbw (by rw [K.out] <;> first | exact decide_eq_false (by omega) | exact decide_eq_true (by omega))
    · have K : Hid (R = false) := hid (by rw [HR.out]; unfold onB; rw [decide_eq_false h2, Bool.and_false])
      go_enter Tryz.func13, Tryz.ntmps13
      go_wp2
      go_ret
      exact rbw (by rw [K.out] <;> first | exact decide_eq_false (by omega) | exact decide_eq_true (by omega))
  · have K : Hid (R = false) := hid (by rw [HR.out]; unfold onB; rw [decide_eq_false h1]; rfl)
    go_enter Tryz.func13, Tryz.ntmps13
    go_wp2
    go_ret
    exact rbw (by rw [K.out])
set_option maxHeartbeats 4000000 in
set_option maxRecDepth 100000 in
theorem part_any (x : Prt) (ta : Option Addr) (tc : Nat) (aa : Option Addr) (ac : Nat) (q : Int) (w : World) (ht : Row tTier w ta x.tiers.length tc x.tiers) (ha : Row tAdj w aa x.adjusts.length ac x.adjusts) (hq : I64 q) (g : GoodT x) :
    Calls Tryz.prog 40 #[.agg #[.int .i64 x.mt, .int .i64 x.a, .int .i64 x.b, .int .i64 x.allowance, .int .i64 x.block, .int .i64 x.kind, .slice ta x.tiers.length tc, .int .i64 x.mode, .slice aa x.adjusts.length ac], .int .i64 q] w fun e w' => e = .returned (.tuple #[.int .i64 (oV (partO x q)), .bool (oB (partO x q))]) ∧ Below w.heap.size w w' := by
  obtain ⟨w1, hw1⟩ : ∃ W, W = w.alloc (.cells ([.int .i64 x.mt, .int .i64 x.a, .int .i64 x.b, .int .i64 x.allowance, .int .i64 x.block, .int .i64 x.kind, .slice ta x.tiers.length tc, .int .i64 x.mode, .slice aa x.adjusts.length ac] : List Value).toArray 58) := ⟨_, rfl⟩
  obtain ⟨k1, hk1⟩ : ∃ k, k = w.heap.size := ⟨_, rfl⟩
  have b1 : Below w.heap.size w w1 := by rw [hw1]; exact bel_alloc _ _
  have X1 : Box w1 k1 [.int .i64 x.mt, .int .i64 x.a, .int .i64 x.b, .int .i64 x.allowance, .int .i64 x.block, .int .i64 x.kind, .slice ta x.tiers.length tc, .int .i64 x.mode, .slice aa x.adjusts.length ac] := by rw [hw1, hk1]; exact Box.new w _ 58
  have X := hid (fun (W : World) (b : Below w1.heap.size w1 W) => (⟨X1.on b, bel_on b1 b⟩ : Box W k1 [.int .i64 x.mt, .int .i64 x.a, .int .i64 x.b, .int .i64 x.allowance, .int .i64 x.block, .int .i64 x.kind, .slice ta x.tiers.length tc, .int .i64 x.mode, .slice aa x.adjusts.length ac] ∧ Below w.heap.size w W))
  have c0 := X1.cell 0 _ rfl; have c1 := X1.cell 1 _ rfl; have c2 := X1.cell 2 _ rfl; have c3 := X1.cell 3 _ rfl; have c4 := X1.cell 4 _ rfl; have c5 := X1.cell 5 _ rfl; have c6 := X1.cell 6 _ rfl; have c7 := X1.cell 7 _ rfl; have c8 := X1.cell 8 _ rfl
  have l1 := X1.lt
  have HW := hid hw1
  have HK := hid hk1
  have cM := Tg.charge_any x ta tc aa ac q w1 (ht.on b1) hq g
  have MI := hid (fun n (h : chargeO x q = some n) => chargeO_i g h)
  have HA := hid (fun (W : World) (b : Below w1.heap.size w1 W) => ha.on (bel_on b1 b))
  have EC : partO x q = match chargeO x q with
      | some n => adjsO n x.adjusts
      | none => none := rfl
  rw [EC]
  obtain ⟨M, hM⟩ : ∃ M, M = chargeO x q := ⟨_, rfl⟩
  rw [← hM] at cM MI ⊢
  have cM := hid cM
  clear hw1 hk1 b1 X1 ht hq g hM EC ha
  cases M with
  | none =>
    go_enter Tryz.func40, Tryz.ntmps40
    go_upto_region 1 with fail
    rw [← HW.out, ← HK.out]
    go_wp2_with fail
    refine cM.out.mono ?_
    rintro e w2 ⟨rfl, b2⟩
    have B2 := hid (X.out w2 b2).2
    clear b2 cM c0 c1 c2 c3 c4 c5 c6 c7 c8 l1
    rw [show oV none = 0 from rfl, show oB none = false from rfl]
    go_wp2
    go_ret2
    exact ⟨rfl, B2.out⟩
  | some n =>
    show Calls _ _ _ _ fun e w' => e = .returned (.tuple #[.int .i64 (oV (adjsO n x.adjusts)), .bool (oB (adjsO n x.adjusts))]) ∧ Below w.heap.size w w'
    obtain ⟨O, hO⟩ : ∃ O, O = adjsO n x.adjusts := ⟨_, rfl⟩
    have cD := hid (fun (W : World) (b : Below w1.heap.size w1 W) => by
      have := Ag.all_any n x.adjusts aa ac W (HA.out W b) (MI.out n rfl)
      rw [← hO] at this
      exact this)
    rw [← hO]
    clear hO
    go_enter Tryz.func40, Tryz.ntmps40
    go_upto_region 1 with fail
    rw [← HW.out, ← HK.out]
    go_wp2_with fail
    refine cM.out.mono ?_
    rintro e w2 ⟨rfl, b2⟩
    have B2 := hid b2
    have c8 := (X.out w2 b2).1.cell 8 _ rfl
    have l1 := (X.out w2 b2).1.lt
    clear b2 cM c0 c1 c2 c3 c4 c5 c6 c7
    rw [show oV (some n) = n from rfl, show oB (some n) = true from rfl]
    go_wp2_with fail
    refine (cD.out w2 B2.out).mono ?_
    rintro e w3 ⟨rfl, b3⟩
    have B3 := hid (X.out w3 (bel_on B2.out b3)).2
    clear b3 cD
    go_wp2
    go_ret2
    exact ⟨rfl, B3.out⟩
end Go.Proofs.YtjgogpaedaffkaaGreat.Pg
/- Package price, walked: amounts. -/
namespace Go.Proofs.YtjgogpaedaffkaaGreat.Pg
open Go.RowKit Go.Sort P Mm Md R6 Te Co R10 R11 R13
/-- What is left behind the sums: all amounts. -/
def finA (acc : List Int) (o : Option (List Int)) : Option (List Int) := o.map (acc ++ ·)
theorem finA_map (acc : List Int) (n : Int) (o : Option (List Int)) : finA acc (o.map (n :: ·)) = finA (acc ++ [n]) o := by
  cases o with
  | none => rfl
  | some l =>
    show some (acc ++ n :: l) = some ((acc ++ [n]) ++ l)
    rw [List.append_assoc]
    rfl
/-- All amounts of a day and a basket. -/
def amtO (c : Cor) (d : Int) (bk : List Int) : Option (List Int) := finA (sumsL d c.sums) (partsO d bk c.parts)
def AmtOut (w w' : World) (e : Ending) : Option (List Int) → Prop
  | none => e = .returned (.tuple #[.slice none 0 0, .bool false]) ∧ Below w.heap.size w w'
  | some l => ∃ V, e = .returned (.tuple #[V, .bool true]) ∧ w'.ownsRow (w.heap.size + 1) 3 1 V l.length (l.flatMap intC) ∧ (∀ n ∈ l, I64 n) ∧ l.length ≤ 16 ∧ Below w.heap.size w w'
set_option maxHeartbeats 1600000 in
set_option maxRecDepth 100000 in
theorem amounts_any (c : Cor) (ma : Option Addr) (mc : Nat) (sa : Option Addr) (sc : Nat) (pa : Option Addr) (pc : Nat) (d : Int) (bk : List Int) (bo : Option Addr) (bcap : Nat) (w : World) (hc : CorLies w (corC c ma mc sa sc pa pc) c ma mc sa sc pa pc) (hb : Row tInt w bo bk.length bcap bk) (hg : goodC c = true) (hl : bk.length = c.meters.length) :
    Calls Tryz.prog 15 #[.agg #[.string c.cur, .int .i64 c.a, .int .i64 c.b, .slice ma c.meters.length mc, .slice sa c.sums.length sc, .slice pa c.parts.length pc], .int .i64 d, .slice bo bk.length bcap] w fun e w' => AmtOut w w' e (amtO c d bk) := by
  obtain ⟨w1, hw1⟩ : ∃ W, W = w.alloc (.cells ([.string c.cur, .int .i64 c.a, .int .i64 c.b, .slice ma c.meters.length mc, .slice sa c.sums.length sc, .slice pa c.parts.length pc] : List Value).toArray 26) := ⟨_, rfl⟩
  obtain ⟨k1, hk1⟩ : ∃ k, k = w.heap.size := ⟨_, rfl⟩
  have b1 : Below w.heap.size w w1 := by rw [hw1]; exact bel_alloc _ _
  have X1 : Box w1 k1 [.string c.cur, .int .i64 c.a, .int .i64 c.b, .slice ma c.meters.length mc, .slice sa c.sums.length sc, .slice pa c.parts.length pc] := by rw [hw1, hk1]; exact Box.new w _ 26
  have X := hid (fun (W : World) (b : Below w1.heap.size w1 W) => (⟨X1.on b, bel_on b1 b⟩ : Box W k1 [.string c.cur, .int .i64 c.a, .int .i64 c.b, .slice ma c.meters.length mc, .slice sa c.sums.length sc, .slice pa c.parts.length pc] ∧ Below w.heap.size w W))
  have HC := hid (fun (W : World) (b : Below w1.heap.size w1 W) => hc.on (bel_on b1 b))
  have HB := hid (fun (W : World) (b : Below w1.heap.size w1 W) => hb.on (bel_on b1 b))
  have SZ := hid (show w1.heap.size = w.heap.size + 1 by rw [hw1]; exact World.size_alloc _ _)
  have c4 := X1.cell 4 _ rfl
  have l1 := X1.lt
  have HW := hid hw1
  have HK := hid hk1
  obtain ⟨gp, g1, g2, g3⟩ := goodC_parts hg
  have GP := hid gp
  have sm := hc.sums.hmax
  have scl := hc.sums.hcap
  have pm := hc.parts.hmax
  have pcl := hc.parts.hcap
  have bm := hb.hmax
  have bcl := hb.hcap
  have HL := hid hl
  obtain ⟨i0, hi0, hz0, hz1, hz2⟩ := info_parts R13.info_int
  obtain ⟨R, hR⟩ : ∃ R, R = amtO c d bk := ⟨_, rfl⟩
  rw [← hR]
  have R0 := hid (show R = finA ([] ++ sumsL d (c.sums.drop 0)) (partsO d bk c.parts) by rw [hR]; rfl)
  have B0 := hid (Below.refl w1.heap.size w1)
  clear hw1 hk1 b1 X1 hc hb hg hl gp hR
  go_enter Tryz.func15, Tryz.ntmps15
  go_upto_region 1 with fail
  rw [← HW.out, ← HK.out]
  clear HW HK
  go_wp2
  clear c4 l1
  go_loopw [8, 18] (fun v i wr => ∃ (V : Value) (i' : Nat) (acc : List Int), v = V ∧ i = .int .i64 (i' : Int) ∧ i' ≤ c.sums.length ∧ acc.length ≤ i' ∧ Hid (R = finA (acc ++ sumsL d (c.sums.drop i')) (partsO d bk c.parts)) ∧ Hid (∀ n ∈ acc, I64 n) ∧ Hid (wr.ownsRow w1.heap.size 3 1 V acc.length (acc.flatMap intC)) ∧ Hid (Below w1.heap.size w1 wr)) (fun _ i _ => c.sums.length - (intOf i).toNat)
  case atStart => exact ⟨_, 0, [], rfl, rfl, Nat.zero_le _, Nat.zero_le _, R0, hid (fun n h => by cases h), hid (World.ownsRow_nil _ _ _ _), B0⟩
  case round =>
    obtain ⟨V, i', acc, rfl, rfl, hi, hal, hR, hA, hO, hb⟩ := hrel
    clear R0 B0
    by_cases hlt : i' < c.sums.length
    · obtain ⟨s, hs⟩ : ∃ s, c.sums[i']? = some s := ⟨_, List.getElem?_eq_getElem hlt⟩
      obtain ⟨bx, ox, ex, -, x0, x1, x2, xi, -⟩ := sum_at (HC.out _ hb.out).sums hs
      subst ex
      obtain ⟨wt, hwt⟩ : ∃ W, W = wr.alloc (.cells ([.int .i64 s.amt, .int .i64 s.a, .int .i64 s.b] : List Value).toArray 52) := ⟨_, rfl⟩
      obtain ⟨kt, hkt⟩ : ∃ k, k = wr.heap.size := ⟨_, rfl⟩
      have bt2 : Below wr.heap.size wr wt := by rw [hwt]; exact bel_alloc _ _
      have XT : Box wt kt [.int .i64 s.amt, .int .i64 s.a, .int .i64 s.b] := by rw [hwt, hkt]; exact Box.new _ _ _
      have BT := hid (bel_on hb.out bt2)
      have OT := hid (owns_on hO.out bt2)
      have e0 := XT.cell 0 _ rfl
      have e1 := XT.cell 1 _ rfl
      have e2 := XT.cell 2 _ rfl
      have lt1 := XT.lt
      have HWT := hid hwt
      have HKT := hid hkt
      have hsz : w1.heap.size ≤ wt.heap.size := BT.out.size
      have hR2 := hR.out
      rw [sumsL_step hs] at hR2
      have HI := hid xi
      have cI := within_any d s.a s.b wt
      obtain ⟨Q, hQ⟩ : ∃ q, q = onB s.a s.b d := ⟨_, rfl⟩
      rw [← hQ] at cI hR2
      have R2 := hid hR2
      have cI := hid cI
      clear hwt hkt bt2 XT hs hb hO hR hR2 xi hQ
      go_upto_region 5 with fail
      rw [← HWT.out, ← HKT.out]
      clear HWT HKT x0 x1 x2
      cases Q with
      | false =>
        have E := hid (show R = finA (acc ++ sumsL d (c.sums.drop (i' + 1))) (partsO d bk c.parts) from R2.out)
        clear R2
        go_wp2_with fail
        refine cI.out.mono ?_
        rintro e w' ⟨rfl, rfl⟩
        clear cI
        go_wp2
        go_roundw
        case rel => exact ⟨_, i' + 1, acc, rfl, by simp, by omega, by omega, E, hA, OT, BT⟩
        case measure => simp [intOf]; omega
      | true =>
        have E := hid (show R = finA ((acc ++ [s.amt]) ++ sumsL d (c.sums.drop (i' + 1))) (partsO d bk c.parts) by rw [R2.out, List.append_assoc]; rfl)
        have A2 := hid (show ∀ n ∈ acc ++ [s.amt], I64 n from fun n hn => by
          rcases List.mem_append.1 hn with h | h
          · exact hA.out n h
          · rw [List.mem_singleton] at h
            rw [h]
            exact HI.out)
        have oo := OT.out
        clear R2 hA
        go_wp2_with fail
        refine cI.out.mono ?_
        rintro e w' ⟨rfl, rfl⟩
        clear cI
        go_wp2_with (at_builtin; refine wpList_append_own _ rfl _ _ 27 rfl w1.heap.size 3 i0 (.int .i64 0) 1 8 Tryz.underlying27 hi0 hz0 hz1 hz2 rfl (by decide) _ _ _ rfl (oo.alloc _) ⟨wt.heap.size, 0, none⟩ 1 1 (intC s.amt) rfl rfl (R11.news_at wt (intC s.amt) _) (by simp [intC, Value.oneCell']) (by unfold maxLen; omega) (by omega) (by simp; omega) ?_)
        intro v5 w5 hown hgrow _
        have B5 := hid ((BT.out.alloc hsz _).grown hgrow (BT.out.alloc hsz _).size (fun j hj => (oo.lt j hj).1))
        have O5 := hid hown
        clear hown hgrow oo
        go_wp2
        go_roundw
        case rel => exact ⟨_, i' + 1, acc ++ [s.amt], rfl, by simp, by omega, by simp; omega, E, A2, hid (by
          simp only [List.length_append, List.length_singleton, List.flatMap_append, List.flatMap_cons, List.flatMap_nil, List.append_nil]
          exact O5.out), B5⟩
        case measure => simp [intOf]; omega
    · have R2 := hid (show R = finA acc (partsO d bk (c.parts.drop 0)) by rw [hR.out, List.drop_of_length_le (by omega)]; show finA (acc ++ []) _ = _; rw [List.append_nil]; rfl)
      have hal8 : acc.length ≤ 8 := by omega
      have c5 := (X.out _ hb.out).1.cell 5 _ rfl
      have l1 := (X.out _ hb.out).1.lt
      clear hR hal
      obtain ⟨wq, hwq⟩ : ∃ W, W = wr := ⟨_, rfl⟩
      rw [← hwq] at c5 l1 hO hb ⊢
      clear hwq
      go_wp2
      clear c5 l1
      go_loopw [8, 37] (fun v i wr => ∃ (V : Value) (i' : Nat) (ac2 : List Int), v = V ∧ i = .int .i64 (i' : Int) ∧ i' ≤ c.parts.length ∧ ac2.length ≤ 8 + i' ∧ Hid (R = finA ac2 (partsO d bk (c.parts.drop i'))) ∧ Hid (∀ n ∈ ac2, I64 n) ∧ Hid (wr.ownsRow w1.heap.size 3 1 V ac2.length (ac2.flatMap intC)) ∧ Hid (Below w1.heap.size w1 wr)) (fun _ i _ => c.parts.length - (intOf i).toNat)
      case atStart => exact ⟨_, 0, acc, rfl, rfl, Nat.zero_le _, by omega, R2, hA, hO, hb⟩
      case round =>
        clear R2 hA hO hb hal8
        obtain ⟨V, i', acc, rfl, rfl, hi, hal, hR, hA, hO, hb⟩ := hrel
        by_cases hlt : i' < c.parts.length
        · obtain ⟨x, hx⟩ : ∃ x, c.parts[i']? = some x := ⟨_, List.getElem?_eq_getElem hlt⟩
          obtain ⟨bx, ox, ta, tc, aa, ac, ex, -, x0, x1, x2, x3, x4, x5, x6, x7, x8, hp⟩ := prt_at (HC.out _ hb.out).parts hx
          subst ex
          obtain ⟨gx, _, gm0, gm1⟩ := GP.out x (List.mem_of_getElem? hx)
          obtain ⟨wt, hwt⟩ : ∃ W, W = wr.alloc (.cells ([.int .i64 x.mt, .int .i64 x.a, .int .i64 x.b, .int .i64 x.allowance, .int .i64 x.block, .int .i64 x.kind, .slice ta x.tiers.length tc, .int .i64 x.mode, .slice aa x.adjusts.length ac] : List Value).toArray 58) := ⟨_, rfl⟩
          obtain ⟨kt, hkt⟩ : ∃ k, k = wr.heap.size := ⟨_, rfl⟩
          have bt2 : Below wr.heap.size wr wt := by rw [hwt]; exact bel_alloc _ _
          have XT : Box wt kt [.int .i64 x.mt, .int .i64 x.a, .int .i64 x.b, .int .i64 x.allowance, .int .i64 x.block, .int .i64 x.kind, .slice ta x.tiers.length tc, .int .i64 x.mode, .slice aa x.adjusts.length ac] := by rw [hwt, hkt]; exact Box.new _ _ _
          have BT := hid (bel_on hb.out bt2)
          have OT := hid (owns_on hO.out bt2)
          have HXT := hid XT
          have e1 := XT.cell 1 _ rfl
          have e2 := XT.cell 2 _ rfl
          have lt1 := XT.lt
          have HWT := hid hwt
          have HKT := hid hkt
          have hsz : w1.heap.size ≤ wt.heap.size := BT.out.size
          have hml : x.mt.toNat < bk.length := by have := HL.out; omega
          obtain ⟨bb, ob, eb, lb, q0, qi⟩ := bk_at (HB.out wt BT.out) hml
          subst eb
          obtain ⟨QV, hQV⟩ : ∃ v, v = qAt bk x.mt := ⟨_, rfl⟩
          have q0 : wt.cell? ⟨bb, ob + x.mt.toNat, none⟩ = some (.int .i64 QV) := by rw [hQV]; exact q0
          have cP := fun W (b : Below wt.heap.size wt W) => part_any x ta tc aa ac (qAt bk x.mt) W ((hp.tiers.on bt2).on b) ((hp.adjusts.on bt2).on b) qi gx
          have PI := hid (fun n (h : partO x (qAt bk x.mt) = some n) => partO_i gx (row_nums hp.adjusts) h)
          have hR2 := hR.out
          rw [partsO_step hx] at hR2
          obtain ⟨PO, hPO⟩ : ∃ P, P = partO x (qAt bk x.mt) := ⟨_, rfl⟩
          rw [← hPO] at cP PI hR2
          rw [← hQV] at cP
          have cI := within_any d x.a x.b wt
          obtain ⟨Q, hQ⟩ : ∃ q, q = onB x.a x.b d := ⟨_, rfl⟩
          rw [← hQ] at cI hR2
          have cI := hid cI
          have cP := hid cP
          have R2 := hid hR2
          have Q0 := hid q0
          clear hwt hkt bt2 XT hx hb hO hR hR2 hp hPO q0 hQV hQ
          go_upto_region 11 with fail
          rw [← HWT.out, ← HKT.out]
          clear HWT HKT x0 x1 x2 x3 x4 x5 x6 x7 x8
          cases Q with
          | false =>
            have E := hid (show R = finA acc (partsO d bk (c.parts.drop (i' + 1))) from R2.out)
            clear R2
            go_wp2_with fail
            refine cI.out.mono ?_
            rintro e w' ⟨rfl, rfl⟩
            clear cI
            go_wp2
            go_roundw
            case rel => exact ⟨_, i' + 1, acc, rfl, by simp, by omega, by omega, E, hA, OT, BT⟩
            case measure => simp [intOf]; omega
          | true =>
            have R3 := hid (show R = finA acc (bindP PO (partsO d bk (c.parts.drop (i' + 1)))) from R2.out)
            have m0 : 0 ≤ x.mt := gm0
            have m1 : x.mt < (bk.length : Int) := by omega
            clear R2
            go_wp2_with fail
            refine cI.out.mono ?_
            rintro e w' ⟨rfl, rfl⟩
            clear cI
            go_upto_region 12 with fail
            have f0 := cell_regrown (HXT.out.cell 0 _ rfl); have f1 := cell_regrown (HXT.out.cell 1 _ rfl); have f2 := cell_regrown (HXT.out.cell 2 _ rfl); have f3 := cell_regrown (HXT.out.cell 3 _ rfl); have f4 := cell_regrown (HXT.out.cell 4 _ rfl); have f5 := cell_regrown (HXT.out.cell 5 _ rfl); have f6 := cell_regrown (HXT.out.cell 6 _ rfl); have f7 := cell_regrown (HXT.out.cell 7 _ rfl); have f8 := cell_regrown (HXT.out.cell 8 _ rfl)
            have rq := cell_regrown Q0.out
            have qP := fun dd os => Calls.regrown_of (cP.out (grow (redrawn wt dd) os) (below_regrown wt dd os))
            have B2 := fun dd os => hid (bel_on BT.out (below_regrown wt dd os))
            have O2 := fun dd os => hid (owns_on OT.out (below_regrown wt dd os))
            clear cP e1 e2
            refine wp_region_quiet_below (by kernel_rfl) (by kernel_rfl) ?_
            repeat (go_big_quiet_step (first | (go_at_call 40; exact qP _ _)))
            refine wpQuiet_nil ?_
            intro _ hw'
            obtain ⟨⟨dq, osq⟩, hw''⟩ := hw'
            subst hw''
            obtain ⟨wu, hwu⟩ : ∃ W, W = grow (redrawn wt dq) osq := ⟨_, rfl⟩
            have B3 := B2 dq osq
            have O3 := O2 dq osq
            rw [← hwu] at B3 O3 ⊢
            clear B2 O2 qP rq hwu f0 f1 f2 f3 f4 f5 f6 f7 f8 BT OT lt1
            cases PO with
            | none =>
              have E := hid (show R = none from R3.out)
              have BF := hid (X.out _ B3.out).2
              rw [show oV none = 0 from rfl, show oB none = false from rfl]
              clear R3 PI
              go_wp2
              go_ret2
              rw [E.out]
              exact ⟨rfl, BF.out⟩
            | some n =>
              have E := hid (show R = finA (acc ++ [n]) (partsO d bk (c.parts.drop (i' + 1))) from R3.out.trans (finA_map acc n _))
              have A2 := hid (show ∀ k ∈ acc ++ [n], I64 k from fun k hk => by
                rcases List.mem_append.1 hk with h | h
                · exact hA.out k h
                · rw [List.mem_singleton] at h
                  rw [h]
                  exact PI.out n rfl)
              have oo := O3.out
              have hsz2 : w1.heap.size ≤ wu.heap.size := B3.out.size
              rw [show oV (some n) = n from rfl, show oB (some n) = true from rfl]
              clear R3 PI hA
              go_wp2_with (at_builtin; refine wpList_append_own _ rfl _ _ 27 rfl w1.heap.size 3 i0 (.int .i64 0) 1 8 Tryz.underlying27 hi0 hz0 hz1 hz2 rfl (by decide) _ _ _ rfl (oo.alloc _) ⟨wu.heap.size, 0, none⟩ 1 1 (intC n) rfl rfl (R11.news_at wu (intC n) _) (by simp [intC, Value.oneCell']) (by unfold maxLen; omega) (by omega) (by simp; omega) ?_)
              intro v5 w5 hown hgrow _
              have B5 := hid ((B3.out.alloc hsz2 _).grown hgrow (B3.out.alloc hsz2 _).size (fun j hj => (oo.lt j hj).1))
              have O5 := hid hown
              clear hown hgrow oo
              go_wp2
              go_roundw
              case rel => exact ⟨_, i' + 1, acc ++ [n], rfl, by simp, by omega, by simp; omega, E, A2, hid (by
                simp only [List.length_append, List.length_singleton, List.flatMap_append, List.flatMap_cons, List.flatMap_nil, List.append_nil]
                exact O5.out), B5⟩
              case measure => simp [intOf]; omega
        · have E := hid (show R = some acc by
            rw [hR.out, List.drop_of_length_le (by omega)]
            show some (acc ++ []) = _
            rw [List.append_nil])
          have BF := hid (X.out _ hb.out).2
          have OF := hO.out
          rw [SZ.out] at OF
          have OF := hid OF
          have LN := hid (show acc.length ≤ 16 by omega)
          clear hR
          go_wp2
          go_ret2
          rw [E.out]
          exact ⟨_, rfl, OF.out, hA.out, LN.out, BF.out⟩
end Go.Proofs.YtjgogpaedaffkaaGreat.Pg
/- Package price, walked: fits, Price; what the laws ask of it. -/
namespace Go.Proofs.YtjgogpaedaffkaaGreat.Pg
open Go.RowKit Go.Sort P Mm Md R6 Te Co R10 R11 R13
set_option maxHeartbeats 800000 in
theorem fits_any (ms : List Meter) (ma : Option Addr) (mc : Nat) (bk : List Int) (bo : Option Addr) (bcap : Nat) (w : World) (hm : Row tMeter w ma ms.length mc ms) (hb : Row tInt w bo bk.length bcap bk) :
    Calls Tryz.prog 14 #[.slice ma ms.length mc, .slice bo bk.length bcap] w fun e w' => e = .returned (.bool (inBk ms bk)) ∧ w = w' := by
  have HM := hid hm
  have HB := hid hb
  have mm := hm.hmax
  have mcl := hm.hcap
  have bm := hb.hmax
  have bcl := hb.hcap
  obtain ⟨R, hR⟩ : ∃ R, R = inBk ms bk := ⟨_, rfl⟩
  rw [← hR]
  have RV := hid hR
  clear hm hb hR
  by_cases h3 : bk.length = ms.length
  rotate_left
  · have z3 : ((bk.length : Int) != (ms.length : Int)) = true := by
      rw [bne_iff_ne]
      omega
    have E := hid (show R = false by rw [RV.out]; exact inBk_ne h3)
    clear h3
    go_enter Tryz.func14, Tryz.ntmps14
    go_wp2
    go_ret
    exact rbw (by rw [E.out])
  have z3 : ((bk.length : Int) != (ms.length : Int)) = false := by
    rw [bne_eq_false_iff_eq]
    omega
  have HL := hid h3
  have I0 := hid (show R = inBk (ms.drop 0) (bk.drop 0) from RV.out)
  clear h3 RV
  go_enter Tryz.func14, Tryz.ntmps14
  go_wp2
  go_loop [14] (fun i => ∃ i' : Nat, i = .int .i64 (i' : Int) ∧ i' ≤ bk.length ∧ Hid (R = inBk (ms.drop i') (bk.drop i'))) (fun i => bk.length - (intOf i).toNat)
  case atStart => exact ⟨0, rfl, Nat.zero_le _, I0⟩
  case round =>
    obtain ⟨i', rfl, hi, hI⟩ := hrel
    clear I0
    by_cases hlt : i' < bk.length
    · have hlm : i' < ms.length := by have := HL.out; omega
      obtain ⟨m, hm⟩ : ∃ m, ms[i']? = some m := ⟨_, List.getElem?_eq_getElem hlm⟩
      obtain ⟨bx, ox, ex, lx, -, -, x2, -, -, -⟩ := meter_at HM.out hm
      subst ex
      obtain ⟨bb, ob, eb, lb, q0, qi⟩ := bk_at HB.out hlt
      subst eb
      obtain ⟨QV, hQV⟩ : ∃ v, v = bk.getD i' 0 := ⟨_, rfl⟩
      have hq : bk[i']? = some QV := by rw [hQV, List.getD_eq_getElem?_getD, List.getElem?_eq_getElem hlt]; rfl
      rw [← hQV] at q0
      have hS := inBk_step hm hq
      have cI := within_any QV 0 m.max w
      obtain ⟨Q, hQ⟩ : ∃ q, q = onB 0 m.max QV := ⟨_, rfl⟩
      have hS : R = (Q && inBk (ms.drop (i' + 1)) (bk.drop (i' + 1))) := by rw [hI.out, hS, hQ]; rfl
      rw [← hQ] at cI
      have S := hid hS
      have cI := hid cI
      clear hQV hq hm hS qi hQ hI
      cases Q with
      | false =>
        have E := hid (show R = false from S.out)
        clear S
        go_wp2_with fail
        refine cI.out.mono ?_
        rintro e w' ⟨rfl, rfl⟩
        clear cI
        go_wp2
        go_ret
        exact rbw (by rw [E.out])
      | true =>
        have I2 := hid (show R = inBk (ms.drop (i' + 1)) (bk.drop (i' + 1)) from S.out)
        clear S
        go_wp2_with fail
        refine cI.out.mono ?_
        rintro e w' ⟨rfl, rfl⟩
        clear cI
        go_wp2
        go_round
        case rel => exact ⟨i' + 1, by go_num, by omega, I2⟩
        case measure => simp [intOf]; omega
    · have E := hid (show R = true by
        rw [hI.out, List.drop_of_length_le (by omega : bk.length ≤ i'), List.drop_of_length_le (by have := HL.out; omega : ms.length ≤ i')]
        rfl)
      clear hI
      go_wp2
      go_ret
      exact rbw (by rw [E.out])
theorem cost_amt (c : Cor) (d : Int) (bk : List Int) : costV c d bk = match amtO c d bk with
    | some l => if (sumTo 0 l).2 = true then ((sumTo 0 l).1, 0) else (0, 2)
    | none => (0, 2) := by
  rw [costV_fin]
  unfold amtO finA finO
  cases partsO d bk c.parts with
  | none => rfl
  | some l => rfl
set_option maxHeartbeats 1600000 in
set_option maxRecDepth 100000 in
theorem price_any (c : Cor) (ma : Option Addr) (mc : Nat) (sa : Option Addr) (sc : Nat) (pa : Option Addr) (pc : Nat) (d : Int) (bk : List Int) (bo : Option Addr) (bcap : Nat) (w : World) (hc : CorLies w (corC c ma mc sa sc pa pc) c ma mc sa sc pa pc) (hb : Row tInt w bo bk.length bcap bk) (hml : c.meters.length ≤ 100000) :
    Calls Tryz.prog 7 #[.agg #[.string c.cur, .int .i64 c.a, .int .i64 c.b, .slice ma c.meters.length mc, .slice sa c.sums.length sc, .slice pa c.parts.length pc], .int .i64 d, .slice bo bk.length bcap] w fun e w' => e = .returned (.tuple #[.int .i64 (priceV c d bk).1, .int .i64 (priceV c d bk).2]) ∧ Below w.heap.size w w' := by
  obtain ⟨w1, hw1⟩ : ∃ W, W = w.alloc (.cells ([.string c.cur, .int .i64 c.a, .int .i64 c.b, .slice ma c.meters.length mc, .slice sa c.sums.length sc, .slice pa c.parts.length pc] : List Value).toArray 26) := ⟨_, rfl⟩
  obtain ⟨k1, hk1⟩ : ∃ k, k = w.heap.size := ⟨_, rfl⟩
  have b1 : Below w.heap.size w w1 := by rw [hw1]; exact bel_alloc _ _
  have X1 : Box w1 k1 [.string c.cur, .int .i64 c.a, .int .i64 c.b, .slice ma c.meters.length mc, .slice sa c.sums.length sc, .slice pa c.parts.length pc] := by rw [hw1, hk1]; exact Box.new w _ 26
  have X := hid (fun (W : World) (b : Below w1.heap.size w1 W) => (⟨X1.on b, bel_on b1 b⟩ : Box W k1 [.string c.cur, .int .i64 c.a, .int .i64 c.b, .slice ma c.meters.length mc, .slice sa c.sums.length sc, .slice pa c.parts.length pc] ∧ Below w.heap.size w W))
  have HC := hid (fun (W : World) (b : Below w1.heap.size w1 W) => hc.on (bel_on b1 b))
  have HB := hid (fun (W : World) (b : Below w1.heap.size w1 W) => hb.on (bel_on b1 b))
  have cG := Co.good_any c ma mc sa sc pa pc w1 (hc.on b1) hml
  have c0 := X1.cell 0 _ rfl; have c1 := X1.cell 1 _ rfl; have c2 := X1.cell 2 _ rfl; have c3 := X1.cell 3 _ rfl; have c4 := X1.cell 4 _ rfl; have c5 := X1.cell 5 _ rfl
  have l1 := X1.lt
  have HW := hid hw1
  have HK := hid hk1
  obtain ⟨R, hR⟩ : ∃ R, R = priceV c d bk := ⟨_, rfl⟩
  rw [← hR]
  have RV := hid hR
  rcases Bool.eq_false_or_eq_true (goodC c) with g | g
  rotate_left
  · have E := hid (show R = (0, 1) by rw [hR, priceV_bad g])
    rw [g] at cG
    have cG := hid cG
    clear hw1 hk1 b1 X1 hc hb hR g
    go_enter Tryz.func7, Tryz.ntmps7
    go_upto_region 1 with fail
    rw [← HW.out, ← HK.out]
    go_wp2_with fail
    refine cG.out.mono ?_
    rintro e w2 ⟨rfl, b2⟩
    have BF := hid (X.out w2 b2).2
    clear b2 cG
    go_wp2
    go_ret2
    exact ⟨by rw [E.out]; rfl, BF.out⟩
  · have HG := hid g
    rw [g] at cG
    have cG := hid cG
    clear hw1 hk1 b1 X1 hc hb hR g
    go_enter Tryz.func7, Tryz.ntmps7
    go_upto_region 1 with fail
    rw [← HW.out, ← HK.out]
    go_wp2_with fail
    refine cG.out.mono ?_
    rintro e w2 ⟨rfl, b2⟩
    have B2 := hid b2
    have BF := hid (X.out w2 b2).2
    have c0 := (X.out w2 b2).1.cell 0 _ rfl
    have c1 := (X.out w2 b2).1.cell 1 _ rfl
    have c2 := (X.out w2 b2).1.cell 2 _ rfl
    have c3 := (X.out w2 b2).1.cell 3 _ rfl
    have c4 := (X.out w2 b2).1.cell 4 _ rfl
    have c5 := (X.out w2 b2).1.cell 5 _ rfl
    have l1 := (X.out w2 b2).1.lt
    have cI := within_any d c.a c.b w2
    have cF := fits_any c.meters ma mc bk bo bcap w2 (HC.out w2 b2).meters (HB.out w2 b2)
    obtain ⟨Q, hQ⟩ : ∃ q, q = onB c.a c.b d := ⟨_, rfl⟩
    obtain ⟨F, hF⟩ : ∃ q, q = inBk c.meters bk := ⟨_, rfl⟩
    rw [← hQ] at cI
    rw [← hF] at cF
    have cI := hid cI
    have cF := hid cF
    have HQ := hid hQ
    have HF := hid hF
    clear b2 cG HW HK hQ hF
    cases Q with
    | false =>
      have E := hid (show R = (0, 8) by
        rw [RV.out]
        refine priceV_out HG.out ?_
        rw [← HQ.out]
        rfl)
      go_wp2_with fail
      refine cI.out.mono ?_
      rintro e w' ⟨rfl, rfl⟩
      clear cI cF
      go_wp2
      go_ret2
      exact ⟨by rw [E.out]; rfl, BF.out⟩
    | true =>
    cases F with
    | false =>
      have E := hid (show R = (0, 8) by
        rw [RV.out]
        refine priceV_out HG.out ?_
        rw [← HF.out, Bool.and_false])
      go_wp2_with fail
      refine cI.out.mono ?_
      rintro e w' ⟨rfl, rfl⟩
      clear cI
      go_wp2_with fail
      refine cF.out.mono ?_
      rintro e w' ⟨rfl, rfl⟩
      clear cF
      go_wp2
      go_ret2
      exact ⟨by rw [E.out]; rfl, BF.out⟩
    | true =>
      have E0 := hid (show R = match amtO c d bk with
          | some l => if (sumTo 0 l).2 = true then ((sumTo 0 l).1, 0) else (0, 2)
          | none => (0, 2) by
        rw [← cost_amt, RV.out]
        refine priceV_in HG.out ?_
        rw [← HF.out, ← HQ.out]
        rfl)
      have cA := hid (amounts_any c ma mc sa sc pa pc d bk bo bcap w2 (HC.out w2 B2.out) (HB.out w2 B2.out) HG.out (inBk_len _ _ HF.out.symm))
      go_wp2_with fail
      refine cI.out.mono ?_
      rintro e w' ⟨rfl, rfl⟩
      clear cI
      go_wp2_with fail
      refine cF.out.mono ?_
      rintro e w' ⟨rfl, rfl⟩
      clear cF HQ HF RV
      obtain ⟨L, hL⟩ : ∃ L, L = amtO c d bk := ⟨_, rfl⟩
      have cA := cA.out
      have E0 := E0.out
      rw [← hL] at cA E0
      have cA := hid cA
      clear hL
      cases L with
      | none =>
        have E := hid (show R = (0, 2) from E0)
        clear E0
        go_wp2_with fail
        refine cA.out.mono ?_
        rintro e w3 ⟨rfl, b3⟩
        have B3 := hid (bel_on BF.out b3)
        clear b3 cA
        go_wp2
        go_ret2
        exact ⟨by rw [E.out]; rfl, B3.out⟩
      | some l =>
        have R2 := hid (show R = if (sumTo 0 l).2 = true then ((sumTo 0 l).1, 0) else (0, 2) from E0)
        clear E0
        go_wp2_with fail
        refine cA.out.mono ?_
        rintro e w3 ⟨V, rfl, own, hA, hl, b3⟩
        have B3 := hid (bel_on BF.out b3)
        clear b3 cA c0 c1 c2 c3 c4 c5 l1
        rcases own.2 with ⟨hV, h0⟩ | ⟨g, cap, cur, hV, hgb, -⟩
        · obtain rfl : l = [] := List.eq_nil_of_length_eq_zero h0
          subst hV
          have cS := hid (Ex.sum_none none 0 w3)
          have E := hid (show R = (0, 0) from R2.out)
          clear R2 own hA hl h0
          go_wp2_with fail
          refine cS.out.mono ?_
          rintro e w' ⟨rfl, rfl⟩
          clear cS
          go_wp2
          go_ret2
          exact ⟨by rw [E.out]; rfl, B3.out⟩
        · subst hV
          have cS := hid (Ex.sum_any g 0 cap l w3 (fun i hi => by
            have := own.cellAt i (by omega)
            rw [Nat.zero_add, this]
            have h2 := flat_get (cells := intC) (n := 1) (fun _ => rfl) l i (l.getD i 0) 0 _ (by rw [List.getD_eq_getElem?_getD, List.getElem?_eq_getElem hi]; rfl) rfl
            simpa using h2) hA (by omega))
          obtain ⟨P, hP⟩ : ∃ P, P = sumTo 0 l := ⟨_, rfl⟩
          rw [← hP] at cS R2
          clear hA own hP hl hgb
          go_wp2_with fail
          refine cS.out.mono ?_
          rintro e w' ⟨rfl, rfl⟩
          clear cS
          rcases Bool.eq_false_or_eq_true P.2 with k | k
          · have E := hid (show R = (P.1, 0) by rw [R2.out, k]; rfl)
            rw [k]
            clear R2 k
            go_wp2
            go_ret2
            exact ⟨by rw [E.out]; rfl, B3.out⟩
          · have E := hid (show R = (0, 2) by rw [R2.out, k]; rfl)
            rw [k]
            clear R2 k
            go_wp2
            go_ret2
            exact ⟨by rw [E.out]; rfl, B3.out⟩
theorem pr : L13.Pr := ⟨fun x ta tc aa ac q w ht ha hq g => part_any x ta tc aa ac q w ht ha hq g, fun c ma mc sa sc pa pc d bk bo bcap w hc hb hm _ => price_any c ma mc sa sc pa pc d bk bo bcap w hc hb hm⟩
end Go.Proofs.YtjgogpaedaffkaaGreat.Pg
