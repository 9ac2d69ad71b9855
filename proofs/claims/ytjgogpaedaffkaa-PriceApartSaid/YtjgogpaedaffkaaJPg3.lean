/- Package price, walked: fits, Price; what the laws ask of it. -/
import Derived.Test.YtjgogpaedaffkaaJPg2
import Derived.Test.YtjgogpaedaffkaaJL11
import Derived.Test.YtjgogpaedaffkaaJDiv
namespace Go.Proofs.Ytjgogpaedaffkaa.P
end Go.Proofs.Ytjgogpaedaffkaa.P
namespace Go.Proofs.Ytjgogpaedaffkaa.Mm
end Go.Proofs.Ytjgogpaedaffkaa.Mm
namespace Go.Proofs.Ytjgogpaedaffkaa.Md
end Go.Proofs.Ytjgogpaedaffkaa.Md
namespace Go.Proofs.Ytjgogpaedaffkaa.R6
end Go.Proofs.Ytjgogpaedaffkaa.R6
namespace Go.Proofs.Ytjgogpaedaffkaa.Te
end Go.Proofs.Ytjgogpaedaffkaa.Te
namespace Go.Proofs.Ytjgogpaedaffkaa.Co
end Go.Proofs.Ytjgogpaedaffkaa.Co
namespace Go.Proofs.Ytjgogpaedaffkaa.R10
end Go.Proofs.Ytjgogpaedaffkaa.R10
namespace Go.Proofs.Ytjgogpaedaffkaa.R11
end Go.Proofs.Ytjgogpaedaffkaa.R11
namespace Go.Proofs.Ytjgogpaedaffkaa.R13
end Go.Proofs.Ytjgogpaedaffkaa.R13
namespace Go.Proofs.Ytjgogpaedaffkaa.Pg
open Go.RowKit Go.Sort P Mm Md R6 Te Co R10 R11 R13
set_option maxHeartbeats 800000 in
theorem fits_any (ms : List Meter) (ma : Option Addr) (mc : Nat) (bk : List Int) (bo : Option Addr) (bcap : Nat) (w : World) (hm : Row tMeter w ma ms.length mc ms) (hb : Row tInt w bo bk.length bcap bk) :
    Calls Try.prog 21 #[.slice ma ms.length mc, .slice bo bk.length bcap] w fun e w' => e = .returned (.bool (inBk ms bk)) ∧ w = w' := by
  have HM := hid hm
  have HB := hid hb
  have mm := hm.hmax
  have mcl := hm.hcap
  have bm := hb.hmax
  have bcl := hb.hcap
  obtain ⟨R, hR⟩ : ∃ R, R = inBk ms bk := ⟨_, rfl⟩
  rw [← hR]
  have RV := hid hR
  clear hm hb hR
  by_cases h3 : bk.length = ms.length
  rotate_left
  · have z3 : ((bk.length : Int) != (ms.length : Int)) = true := by
      rw [bne_iff_ne]
      omega
    have E := hid (show R = false by rw [RV.out]; exact inBk_ne h3)
    clear h3
    go_enter Try.func21, Try.ntmps21
    go_wp2
    go_ret
    exact rbw (by rw [E.out])
  have z3 : ((bk.length : Int) != (ms.length : Int)) = false := by
    rw [bne_eq_false_iff_eq]
    omega
  have HL := hid h3
  have I0 := hid (show R = inBk (ms.drop 0) (bk.drop 0) from RV.out)
  clear h3 RV
  go_enter Try.func21, Try.ntmps21
  go_wp2
  go_loop [14] (fun i => ∃ i' : Nat, i = .int .i64 (i' : Int) ∧ i' ≤ bk.length ∧ Hid (R = inBk (ms.drop i') (bk.drop i'))) (fun i => bk.length - (intOf i).toNat)
  case atStart => exact ⟨0, rfl, Nat.zero_le _, I0⟩
  case round =>
    obtain ⟨i', rfl, hi, hI⟩ := hrel
    clear I0
    by_cases hlt : i' < bk.length
    · have hlm : i' < ms.length := by have := HL.out; omega
      obtain ⟨m, hm⟩ : ∃ m, ms[i']? = some m := ⟨_, List.getElem?_eq_getElem hlm⟩
      obtain ⟨bx, ox, ex, lx, -, -, x2, -, -, -⟩ := meter_at HM.out hm
      subst ex
      obtain ⟨bb, ob, eb, lb, q0, qi⟩ := bk_at HB.out hlt
      subst eb
      obtain ⟨QV, hQV⟩ : ∃ v, v = bk.getD i' 0 := ⟨_, rfl⟩
      have hq : bk[i']? = some QV := by rw [hQV, List.getD_eq_getElem?_getD, List.getElem?_eq_getElem hlt]; rfl
      rw [← hQV] at q0
      have hS := inBk_step hm hq
      have cI := within_any QV 0 m.max w
      obtain ⟨Q, hQ⟩ : ∃ q, q = onB 0 m.max QV := ⟨_, rfl⟩
      have hS : R = (Q && inBk (ms.drop (i' + 1)) (bk.drop (i' + 1))) := by rw [hI.out, hS, hQ]; rfl
      rw [← hQ] at cI
      have S := hid hS
      have cI := hid cI
      clear hQV hq hm hS qi hQ hI
      cases Q with
      | false =>
        have E := hid (show R = false from S.out)
        clear S
        go_wp2_with fail
        refine cI.out.mono ?_
        rintro e w' ⟨rfl, rfl⟩
        clear cI
        go_wp2
        go_ret
        exact rbw (by rw [E.out])
      | true =>
        have I2 := hid (show R = inBk (ms.drop (i' + 1)) (bk.drop (i' + 1)) from S.out)
        clear S
        go_wp2_with fail
        refine cI.out.mono ?_
        rintro e w' ⟨rfl, rfl⟩
        clear cI
        go_wp2
        go_round
        case rel => exact ⟨i' + 1, by go_num, by omega, I2⟩
        case measure => simp [intOf]; omega
    · have E := hid (show R = true by
        rw [hI.out, List.drop_of_length_le (by omega : bk.length ≤ i'), List.drop_of_length_le (by have := HL.out; omega : ms.length ≤ i')]
        rfl)
      clear hI
      go_wp2
      go_ret
      exact rbw (by rw [E.out])
theorem cost_amt (c : Cor) (d : Int) (bk : List Int) : costV c d bk = match amtO c d bk with
    | some l => if (sumTo 0 l).2 = true then ((sumTo 0 l).1, 0) else (0, 2)
    | none => (0, 2) := by
  rw [costV_fin]
  unfold amtO finA finO
  cases partsO d bk c.parts with
  | none => rfl
  | some l => rfl
set_option maxHeartbeats 1600000 in
set_option maxRecDepth 100000 in
theorem price_any (c : Cor) (ma : Option Addr) (mc : Nat) (sa : Option Addr) (sc : Nat) (pa : Option Addr) (pc : Nat) (d : Int) (bk : List Int) (bo : Option Addr) (bcap : Nat) (w : World) (hc : CorLies w (corC c ma mc sa sc pa pc) c ma mc sa sc pa pc) (hb : Row tInt w bo bk.length bcap bk) (hml : c.meters.length ≤ 100000) :
    Calls Try.prog 11 #[.agg #[.string c.cur, .int .i64 c.a, .int .i64 c.b, .slice ma c.meters.length mc, .slice sa c.sums.length sc, .slice pa c.parts.length pc], .int .i64 d, .slice bo bk.length bcap] w fun e w' => e = .returned (.tuple #[.int .i64 (priceV c d bk).1, .int .i64 (priceV c d bk).2]) ∧ Below w.heap.size w w' := by
  obtain ⟨w1, hw1⟩ : ∃ W, W = w.alloc (.cells ([.string c.cur, .int .i64 c.a, .int .i64 c.b, .slice ma c.meters.length mc, .slice sa c.sums.length sc, .slice pa c.parts.length pc] : List Value).toArray 34) := ⟨_, rfl⟩
  obtain ⟨k1, hk1⟩ : ∃ k, k = w.heap.size := ⟨_, rfl⟩
  have b1 : Below w.heap.size w w1 := by rw [hw1]; exact bel_alloc _ _
  have X1 : Box w1 k1 [.string c.cur, .int .i64 c.a, .int .i64 c.b, .slice ma c.meters.length mc, .slice sa c.sums.length sc, .slice pa c.parts.length pc] := by rw [hw1, hk1]; exact Box.new w _ 34
  have X := hid (fun (W : World) (b : Below w1.heap.size w1 W) => (⟨X1.on b, bel_on b1 b⟩ : Box W k1 [.string c.cur, .int .i64 c.a, .int .i64 c.b, .slice ma c.meters.length mc, .slice sa c.sums.length sc, .slice pa c.parts.length pc] ∧ Below w.heap.size w W))
  have HC := hid (fun (W : World) (b : Below w1.heap.size w1 W) => hc.on (bel_on b1 b))
  have HB := hid (fun (W : World) (b : Below w1.heap.size w1 W) => hb.on (bel_on b1 b))
  have cG := Co.good_any c ma mc sa sc pa pc w1 (hc.on b1) hml
  have c0 := X1.cell 0 _ rfl; have c1 := X1.cell 1 _ rfl; have c2 := X1.cell 2 _ rfl; have c3 := X1.cell 3 _ rfl; have c4 := X1.cell 4 _ rfl; have c5 := X1.cell 5 _ rfl
  have l1 := X1.lt
  have HW := hid hw1
  have HK := hid hk1
  obtain ⟨R, hR⟩ : ∃ R, R = priceV c d bk := ⟨_, rfl⟩
  rw [← hR]
  have RV := hid hR
  rcases Bool.eq_false_or_eq_true (goodC c) with g | g
  rotate_left
  · have E := hid (show R = (0, 1) by rw [hR, priceV_bad g])
    rw [g] at cG
    have cG := hid cG
    clear hw1 hk1 b1 X1 hc hb hR g
    go_enter Try.func11, Try.ntmps11
    go_upto_region 1 with fail
    rw [← HW.out, ← HK.out]
    go_wp2_with fail
    refine cG.out.mono ?_
    rintro e w2 ⟨rfl, b2⟩
    have BF := hid (X.out w2 b2).2
    clear b2 cG
    go_wp2
    go_ret2
    exact ⟨by rw [E.out]; rfl, BF.out⟩
  · have HG := hid g
    rw [g] at cG
    have cG := hid cG
    clear hw1 hk1 b1 X1 hc hb hR g
    go_enter Try.func11, Try.ntmps11
    go_upto_region 1 with fail
    rw [← HW.out, ← HK.out]
    go_wp2_with fail
    refine cG.out.mono ?_
    rintro e w2 ⟨rfl, b2⟩
    have B2 := hid b2
    have BF := hid (X.out w2 b2).2
    have c0 := (X.out w2 b2).1.cell 0 _ rfl
    have c1 := (X.out w2 b2).1.cell 1 _ rfl
    have c2 := (X.out w2 b2).1.cell 2 _ rfl
    have c3 := (X.out w2 b2).1.cell 3 _ rfl
    have c4 := (X.out w2 b2).1.cell 4 _ rfl
    have c5 := (X.out w2 b2).1.cell 5 _ rfl
    have l1 := (X.out w2 b2).1.lt
    have cI := within_any d c.a c.b w2
    have cF := fits_any c.meters ma mc bk bo bcap w2 (HC.out w2 b2).meters (HB.out w2 b2)
    obtain ⟨Q, hQ⟩ : ∃ q, q = onB c.a c.b d := ⟨_, rfl⟩
    obtain ⟨F, hF⟩ : ∃ q, q = inBk c.meters bk := ⟨_, rfl⟩
    rw [← hQ] at cI
    rw [← hF] at cF
    have cI := hid cI
    have cF := hid cF
    have HQ := hid hQ
    have HF := hid hF
    clear b2 cG HW HK hQ hF
    cases Q with
    | false =>
      have E := hid (show R = (0, 8) by
        rw [RV.out]
        refine priceV_out HG.out ?_
        rw [← HQ.out]
        rfl)
      go_wp2_with fail
      refine cI.out.mono ?_
      rintro e w' ⟨rfl, rfl⟩
      clear cI cF
      go_wp2
      go_ret2
      exact ⟨by rw [E.out]; rfl, BF.out⟩
    | true =>
    cases F with
    | false =>
      have E := hid (show R = (0, 8) by
        rw [RV.out]
        refine priceV_out HG.out ?_
        rw [← HF.out, Bool.and_false])
      go_wp2_with fail
      refine cI.out.mono ?_
      rintro e w' ⟨rfl, rfl⟩
      clear cI
      go_wp2_with fail
      refine cF.out.mono ?_
      rintro e w' ⟨rfl, rfl⟩
      clear cF
      go_wp2
      go_ret2
      exact ⟨by rw [E.out]; rfl, BF.out⟩
    | true =>
      have E0 := hid (show R = match amtO c d bk with
          | some l => if (sumTo 0 l).2 = true then ((sumTo 0 l).1, 0) else (0, 2)
          | none => (0, 2) by
        rw [← cost_amt, RV.out]
        refine priceV_in HG.out ?_
        rw [← HF.out, ← HQ.out]
        rfl)
      have cA := hid (amounts_any c ma mc sa sc pa pc d bk bo bcap w2 (HC.out w2 B2.out) (HB.out w2 B2.out) HG.out (inBk_len _ _ HF.out.symm))
      go_wp2_with fail
      refine cI.out.mono ?_
      rintro e w' ⟨rfl, rfl⟩
      clear cI
      go_wp2_with fail
      refine cF.out.mono ?_
      rintro e w' ⟨rfl, rfl⟩
      clear cF HQ HF RV
      obtain ⟨L, hL⟩ : ∃ L, L = amtO c d bk := ⟨_, rfl⟩
      have cA := cA.out
      have E0 := E0.out
      rw [← hL] at cA E0
      have cA := hid cA
      clear hL
      cases L with
      | none =>
        have E := hid (show R = (0, 2) from E0)
        clear E0
        go_wp2_with fail
        refine cA.out.mono ?_
        rintro e w3 ⟨rfl, b3⟩
        have B3 := hid (bel_on BF.out b3)
        clear b3 cA
        go_wp2
        go_ret2
        exact ⟨by rw [E.out]; rfl, B3.out⟩
      | some l =>
        have R2 := hid (show R = if (sumTo 0 l).2 = true then ((sumTo 0 l).1, 0) else (0, 2) from E0)
        clear E0
        go_wp2_with fail
        refine cA.out.mono ?_
        rintro e w3 ⟨V, rfl, own, hA, hl, b3⟩
        have B3 := hid (bel_on BF.out b3)
        clear b3 cA c0 c1 c2 c3 c4 c5 l1
        rcases own.2 with ⟨hV, h0⟩ | ⟨g, cap, cur, hV, hgb, -⟩
        · obtain rfl : l = [] := List.eq_nil_of_length_eq_zero h0
          subst hV
          have cS := hid (Ex.sum_none none 0 w3)
          have E := hid (show R = (0, 0) from R2.out)
          clear R2 own hA hl h0
          go_wp2_with fail
          refine cS.out.mono ?_
          rintro e w' ⟨rfl, rfl⟩
          clear cS
          go_wp2
          go_ret2
          exact ⟨by rw [E.out]; rfl, B3.out⟩
        · subst hV
          have cS := hid (Ex.sum_any g 0 cap l w3 (fun i hi => by
            have := own.cellAt i (by omega)
            rw [Nat.zero_add, this]
            have h2 := flat_get (cells := intC) (n := 1) (fun _ => rfl) l i (l.getD i 0) 0 _ (by rw [List.getD_eq_getElem?_getD, List.getElem?_eq_getElem hi]; rfl) rfl
            simpa using h2) hA (by omega))
          obtain ⟨P, hP⟩ : ∃ P, P = sumTo 0 l := ⟨_, rfl⟩
          rw [← hP] at cS R2
          clear hA own hP hl hgb
          go_wp2_with fail
          refine cS.out.mono ?_
          rintro e w' ⟨rfl, rfl⟩
          clear cS
          rcases Bool.eq_false_or_eq_true P.2 with k | k
          · have E := hid (show R = (P.1, 0) by rw [R2.out, k]; rfl)
            rw [k]
            clear R2 k
            go_wp2
            go_ret2
            exact ⟨by rw [E.out]; rfl, B3.out⟩
          · have E := hid (show R = (0, 2) by rw [R2.out, k]; rfl)
            rw [k]
            clear R2 k
            go_wp2
            go_ret2
            exact ⟨by rw [E.out]; rfl, B3.out⟩
theorem pr : L13.Pr := ⟨fun x ta tc aa ac q w ht ha hq g => part_any x ta tc aa ac q w ht ha hq g, fun c ma mc sa sc pa pc d bk bo bcap w hc hb hm _ => price_any c ma mc sa sc pa pc d bk bo bcap w hc hb hm⟩
end Go.Proofs.Ytjgogpaedaffkaa.Pg
