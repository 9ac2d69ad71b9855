/- The laws of layer 7: ParseCuts. -/
import Derived.Test.YtabcoahenlaehaaDoorJL07a
import Derived.Test.YtabcoahenlaehaaDoorJParY
namespace Go.Proofs.YtabcoahenlaehaaDoor.L07
open Go.RowKit Go.Sort P Mm Md Pa L05

theorem take_cut {X : List Tok} {j : Nat} {t : Tok} (h : X[j]? = some t) : cutT (X.take (j + 1)) = cutT (X.take j) ++ (t.t ++ [32]) := by
  rw [List.take_add_one, h]
  unfold cutT
  rw [List.flatMap_append]
  simp
theorem dp_at {X : List Tok} {j : Nat} {t : Tok} (h : X[j]? = some t) : dp X (j + 1) = dp X j + dlt t.t := by
  show dp X j + dlt (X.getD j nil0).t = _
  rw [List.getD_eq_getElem?_getD, h]
  rfl
theorem wl_tok {X : List Tok} {j : Nat} {t : Tok} (h : X[j]? = some t) : wl X (j + 1) = ((decide (t.t = sSemi) || decide (t.t = sShut)) && decide (dp X (j + 1) = 0)) := by
  rw [wl_at, List.getD_eq_getElem?_getD, h]
  rfl
theorem lex_room (s : ByteArray) (w : World) : Calls Tryd.prog 9 #[.string s] w fun e w' => ∃ ao cap, e = .returned (.tuple #[.slice ao (lexed s.data.toList).1.length cap, .int .i64 (lexed s.data.toList).2.1, .int .i64 (lexed s.data.toList).2.2.1, .int .i64 (lexed s.data.toList).2.2.2]) ∧
    ((lexed s.data.toList).1.length ≤ cap ∧ cap ≤ 9223372036854775807 ∧ L05.Form w' ao (lexed s.data.toList).1) ∧ Below w.heap.size w w' :=
  (R5.lex_any s w).mono fun _ _ ⟨_, h1, h2, h3⟩ => by
    obtain ⟨ao, cap, e, k1, k2, k3⟩ := holdsC_own h2
    subst e
    exact ⟨ao, cap, h1, ⟨k1, k2, fun n => by obtain ⟨b, q1, q2⟩ := k3 n; exact ⟨b, 0, q1, q2⟩⟩, h3⟩
theorem ba_eq {T : ByteArray} {l : List UInt8} (h : T.data.toList = l) : T = ⟨l.toArray⟩ := by
  cases T with
  | mk d => rw [← h]
set_option maxHeartbeats 16000000 in
set_option maxRecDepth 100000 in
theorem cuts_walk (s : ByteArray) (n0 : Int) (w : World) (k : Ky w) : Calls Tryd.prog 4 #[.string s, .int .i64 n0] w fun e w' => e = .returned (.bool true) ∧ Below w.heap.size w w' := by
  have cA := alive_any w k
  by_cases hs : (4096 : Int) < (s.size : Int)
  · clear k
    go_enter Tryd.func4, Tryd.ntmps4
    go_wp2_with (go_at_call 6; refine cA.mono ?_; rintro e w1 ⟨rfl, b1⟩)
    go_ret
    exact ⟨rfl, b1⟩
  · have K := hid k
    obtain ⟨p, hp⟩ : ∃ p, p = (parsed s.data.toList).1 := ⟨_, rfl⟩
    obtain ⟨x, hx⟩ : ∃ x, x = (parsed s.data.toList).2.1 := ⟨_, rfl⟩
    obtain ⟨y, hy⟩ : ∃ y, y = (parsed s.data.toList).2.2.1 := ⟨_, rfl⟩
    obtain ⟨z, hz⟩ : ∃ z, z = (parsed s.data.toList).2.2.2 := ⟨_, rfl⟩
    obtain ⟨X, hX⟩ : ∃ X, X = (lexed s.data.toList).1 := ⟨_, rfl⟩
    obtain ⟨E, hE⟩ : ∃ E : Int, E = ((lexed s.data.toList).2.1 : Int) := ⟨_, rfl⟩
    obtain ⟨PP, hPP⟩ : ∃ E : Int, E = ((lexed s.data.toList).2.2.1 : Int) := ⟨_, rfl⟩
    obtain ⟨Q, hQ⟩ : ∃ E : Int, E = ((lexed s.data.toList).2.2.2 : Int) := ⟨_, rfl⟩
    have cP := fun W k => parse_lies s W k
    have cL := fun W => lex_room s W
    unfold fl3 at cP
    rw [← hp, ← hx, ← hy, ← hz] at cP
    rw [← hX, ← hE, ← hPP, ← hQ] at cL
    have CP := hid cP
    have CL := hid cL
    have XZ : Hid (x = 0 → y = 0 ∧ z = 0) := hid (by rw [hx, hy, hz]; exact parsed_zero)
    have hsl : s.data.toList.length ≤ 4096 := by
      have : s.data.toList.length = s.size := by simp
      omega
    have PU : Hid (x = 0 → ∀ n, n < X.length → (cutT (X.take n)).length ≤ 8192 ∧ (parsed (cutT (X.take n))).2 = if wl X n = true ∧ 2 ≤ ens X n then (0, 0, 0) else (4, 1, ((cutT (X.take n)).length : Int) + 1)) := hid (fun h n hn => by
      rw [hX] at hn ⊢
      exact parsed_cut _ hsl (by rw [← hx]; exact h) n hn)
    have XC : Hid (∀ t ∈ X, t.t.length ≤ 8192) := hid (by rw [hX]; exact fun t ht => (lexed_toks s.data.toList t ht).1)
    have XN : X.length ≤ 8193 := by
      have := lexed_count s.data.toList
      rw [hX]
      omega
    clear cP cL k hp hx hy hz hX hE hPP hQ hsl
    go_enter Tryd.func4, Tryd.ntmps4
    go_wp2_with fail
    refine cA.mono ?_
    rintro e w1 ⟨rfl, b1⟩
    have K1 := hid (K.out.later b1)
    clear cA
    go_wp2_with fail
    refine (CP.out w1 K1.out).mono ?_
    rintro e w2 ⟨ma, mc, fa, fc, ca, cc, rfl, lA, b2⟩
    have B2 := hid (bel_on b1 b2)
    clear b1 b2
    have T1 := hid (there_pf w2 29 32)
    have F1 := flt_pf w2 29 32 [.string p.name, .string p.cur, .int .i64 p.a.y, .int .i64 p.a.m, .int .i64 p.a.d, .int .i64 p.b.y, .int .i64 p.b.m, .int .i64 p.b.d, .slice ma p.meters.length mc, .slice fa p.fees.length fc, .slice ca p.charges.length cc, .int .i64 p.line, .int .i64 p.col]
    have z0 := F1.cell 0 _ rfl
    have z1 := F1.cell 1 _ rfl
    have z2 := F1.cell 2 _ rfl
    have f0 := F1.free 0
    have f1 := F1.free 1
    have f2 := F1.free 2
    have lz := F1.lt
    obtain ⟨PF, BF⟩ := pf_new (x := x) (y := y) (z := z) lA 29 32
    obtain ⟨wA, hwA⟩ : ∃ W, W = (((((w2.alloc (.cells #[.string ⟨#[]⟩, .string ⟨#[]⟩, .int .i64 0, .int .i64 0, .int .i64 0, .int .i64 0, .int .i64 0, .int .i64 0, .slice none 0 0, .slice none 0 0, .slice none 0 0, .int .i64 0, .int .i64 0] 29)).alloc (.cells #[.int .i64 0, .int .i64 0, .int .i64 0] 32)).setCells w2.heap.size 0 [.string p.name, .string p.cur, .int .i64 p.a.y, .int .i64 p.a.m, .int .i64 p.a.d, .int .i64 p.b.y, .int .i64 p.b.m, .int .i64 p.b.d, .slice ma p.meters.length mc, .slice fa p.fees.length fc, .slice ca p.charges.length cc, .int .i64 p.line, .int .i64 p.col]).setCell ⟨w2.heap.size + 1, 0, none⟩ (.int .i64 (x))).setCell ⟨w2.heap.size + 1, 1, none⟩ (.int .i64 (y))).setCell ⟨w2.heap.size + 1, 2, none⟩ (.int .i64 (z)) := ⟨_, rfl⟩
    obtain ⟨k1, hk1⟩ : ∃ k, k = w2.heap.size := ⟨_, rfl⟩
    have HP1 : Hid (Pf wA k1 p ma mc fa fc ca cc (x) (y) (z)) := hid (by rw [hwA, hk1]; exact PF)
    have HB1 : Hid (Below w2.heap.size w2 wA) := hid (by rw [hwA]; exact BF)
    have HW1 := hid hwA
    have HK1 := hid hk1
    clear F1 PF BF hwA hk1
    unfold planC
    go_upto_region 6 with (first
      | (with_reducible refine wpList_store_mid (op := Oper.mk none (Op.store 29 (Operand.tmp 5) (Operand.tmp 27)) _ _ _ _) ?_ 29 (.tmp 5) (.tmp 27) ?_ w2.heap.size 0 #[.string p.name, .string p.cur, .int .i64 p.a.y, .int .i64 p.a.m, .int .i64 p.a.d, .int .i64 p.b.y, .int .i64 p.b.m, .int .i64 p.b.d, .slice ma p.meters.length mc, .slice fa p.fees.length fc, .slice ca p.charges.length cc, .int .i64 p.line, .int .i64 p.col] ?_ ?_ ?_ ?_ ?_ ?_; rfl; rfl; go_simp; go_simp; (simpa using T1.out); kernel_rfl; (simp [Value.oneCell']))
      | (fail))
    rw [← HW1.out, ← HK1.out]
    clear z0 z1 z2 f0 f1 f2 lz T1
    have c0 := HP1.out.flt.cell 0 _ rfl
    have c1 := HP1.out.flt.cell 1 _ rfl
    have c2 := HP1.out.flt.cell 2 _ rfl
    have BA := hid (bel_on B2.out HB1.out)
    have KA := hid ((K.out.later B2.out).later (HB1.out.mono (Nat.le_refl _)))
    clear B2 HB1 HW1 HK1 lA hs K1 CP HP1
    by_cases hx0 : x = 0
    · obtain ⟨rfl, rfl⟩ := XZ.out hx0
      subst hx0
      replace PU := hid (PU.out rfl)
      go_wp2_with fail
      refine (CL.out wA).mono ?_
      rintro e w3 ⟨ao, cap, rfl, ⟨hc1, hc2, fX⟩, b3⟩
      have B3 := hid (bel_on BA.out b3)
      have K3 := hid (KA.out.later b3)
      have FX := hid fX
      clear c0 c1 c2 b3 fX BA KA CL XZ
      obtain ⟨N, hN⟩ : ∃ N, N = X.length := ⟨_, rfl⟩
      rw [← hN] at XN hc1 ⊢
      have HN := hid hN
      clear hN
      by_cases h1 : n0 < 0
      · go_wp2
        go_ret
        exact ⟨rfl, B3.out⟩
      · obtain ⟨n, rfl⟩ : ∃ n : Nat, n0 = n := ⟨n0.toNat, by omega⟩
        by_cases h2 : n < N
        · have h3 : ¬ (N : Int) ≤ (n : Int) := by omega
          have h4 : (n : Int) < (N : Int) := by omega
          obtain ⟨b, o, rfl, hL0⟩ := FX.out (fun h => by
            have := HN.out
            rw [h] at this
            simp at this
            omega)
          have HL0 := hid hL0
          have hnc : n ≤ cap := by omega
          clear hL0 FX
          go_wp2
          go_loopw [11, 12, 13, 14, 51] (fun zv dv0 ev0 wv0 iv wr => ∃ (j : Nat) (Z : ByteArray) (dv ev : Int) (wv : Bool), zv = .string Z ∧ dv0 = .int .i64 dv ∧ ev0 = .int .i64 ev ∧ wv0 = .bool wv ∧ iv = .int .i64 (j : Int) ∧ j ≤ n ∧ Z.size ≤ j * 9000 ∧ -(j : Int) ≤ dv ∧ dv ≤ j ∧ 0 ≤ ev ∧ ev ≤ j ∧ Hid (Z.data.toList = cutT (X.take j) ∧ dv = dp X j ∧ ev = (ens X j : Int) ∧ wv = wl X j) ∧ Hid (LieAt wr b o X ∧ Below w.heap.size w wr)) (fun _ _ _ _ iv _ => n - (intOf iv).toNat)
          case atStart => exact ⟨0, ⟨#[]⟩, 0, 0, false, rfl, rfl, rfl, rfl, rfl, Nat.zero_le _, Nat.zero_le _, by omega, by omega, by omega, by omega, hid ⟨rfl, rfl, rfl, rfl⟩, hid ⟨HL0.out, B3.out⟩⟩
          case round =>
            obtain ⟨j, Z, dv, ev, wv, rfl, rfl, rfl, rfl, rfl, hj, hz, hd0, hd1, he0, he1, hF, hst⟩ := hrel
            by_cases hlt : j < n
            · have hltI : (j : Int) < (n : Int) := by omega
              have hjl : j < X.length := by rw [← HN.out]; omega
              obtain ⟨hL, hB⟩ := hst.out
              have ht : X[j]? = some (X[j]'hjl) := List.getElem?_eq_getElem hjl
              have htl := XC.out _ (List.getElem_mem hjl)
              obtain ⟨t, htt⟩ : ∃ t, t = X[j]'hjl := ⟨_, rfl⟩
              rw [← htt] at ht htl
              obtain ⟨a0, a1, a2, a3⟩ := hL.2 _ _ ht
              have lb := hL.1
              obtain ⟨tk, htk0⟩ : ∃ z : Int, z = (t.k : Int) := ⟨_, rfl⟩
              obtain ⟨tl, htl0⟩ : ∃ z : Int, z = (t.ln : Int) := ⟨_, rfl⟩
              obtain ⟨tc, htc0⟩ : ∃ z : Int, z = (t.cl : Int) := ⟨_, rfl⟩
              obtain ⟨T, hT⟩ : ∃ T : ByteArray, T = ⟨t.t.toArray⟩ := ⟨_, rfl⟩
              rw [← htk0] at a0
              rw [← hT] at a1
              rw [← htl0] at a2
              rw [← htc0] at a3
              have hTz : T.size ≤ 8192 := by rw [hT, ba_size]; exact htl
              have hTl : T.data.toList = t.t := by rw [hT]
              have hz2 : Z.size ≤ 80000000 := by omega
              have i1 : (Z ++ T ++ ⟨#[32]⟩).data.toList = cutT (X.take (j + 1)) := by rw [take_cut ht, ← hF.out.1, ← hTl]; simp
              have i2 := dp_at ht
              have i3 := wl_tok ht
              have i4 : ens X (j + 1) = ens X j + if wl X (j + 1) = true then 1 else 0 := rfl
              have hsz : (Z ++ T ++ ⟨#[32]⟩).size ≤ (j + 1) * 9000 := by
                simp only [ByteArray.size_append]
                show Z.size + T.size + 1 ≤ _
                omega
              rw [← hF.out.2.1] at i2
              have HL := hid hL
              have HB := hid hB
              have I1 := hid i1
              have fin : ∀ (u : Obj), Hid (LieAt (wr.alloc u) b o X ∧ Below w.heap.size w (wr.alloc u)) := fun u => hid ⟨HL.out.alloc _, HB.out.alloc HB.out.size _⟩
              clear hL hB hst htt htk0 htl0 htc0 htl ht
              by_cases nA : t.t = [123]
              · have hTe : T = ⟨#[123]⟩ := by rw [hT, nA]
                have nB : ¬ t.t = [125] := by rw [nA]; decide
                have nC : ¬ t.t = [59] := by rw [nA]; decide
                have rA : (T.toList == [123]) = true := by rw [Lib.toList_data]; rw [hTe]; decide
                have rB : (T.toList == [125]) = false := by rw [Lib.toList_data]; exact beq_eq_false_iff_ne.2 (fun h => nB (by rw [← hTl, h]))
                have rC : (T.toList == [59]) = false := by rw [Lib.toList_data]; exact beq_eq_false_iff_ne.2 (fun h => nC (by rw [← hTl, h]))
                have d2 : dp X (j + 1) = dv + 1 := by rw [i2, nA]; rfl
                have W : wl X (j + 1) = false := by rw [i3, nA]; rfl
                clear hTe
                have e2 : (ev : Int) = (ens X (j + 1) : Int) := by rw [i4, W, hF.out.2.2.1]; rfl
                have D2 := hid d2
                have E2 := hid e2
                have W2 := hid W
                clear i1 i2 i3 i4 d2 e2 W hF hT hTl
                go_wp2
                go_roundw
                case rel => exact ⟨j + 1, _, _, _, _, rfl, rfl, rfl, rfl, by simp, by omega, hsz, by omega, by omega, by omega, by omega, hid ⟨I1.out, D2.out.symm, E2.out, W2.out.symm⟩, fin _⟩
                case measure => simp [intOf]; omega
              · by_cases nB : t.t = [125]
                · have hTe : T = ⟨#[125]⟩ := by rw [hT, nB]
                  have nC : ¬ t.t = [59] := by rw [nB]; decide
                  have rA : (T.toList == [123]) = false := by rw [Lib.toList_data]; exact beq_eq_false_iff_ne.2 (fun h => nA (by rw [← hTl, h]))
                  have rB : (T.toList == [125]) = true := by rw [Lib.toList_data]; rw [hTe]; decide
                  have rC : (T.toList == [59]) = false := by rw [Lib.toList_data]; exact beq_eq_false_iff_ne.2 (fun h => nC (by rw [← hTl, h]))
                  have d2 : dp X (j + 1) = dv - 1 := by rw [i2, nB]; rfl
                  by_cases g : dv - 1 = 0
                  · have W : wl X (j + 1) = true := by rw [i3, d2, nB, g]; rfl
                    have g2 : (dv - 1 == 0) = true := by rw [g]; rfl
                    clear g
                    clear hTe
                    have e2 : (ev + 1 : Int) = (ens X (j + 1) : Int) := by rw [i4, W, hF.out.2.2.1]; rfl
                    have D2 := hid d2
                    have E2 := hid e2
                    have W2 := hid W
                    clear i1 i2 i3 i4 d2 e2 W hF hT hTl
                    go_wp2
                    go_roundw
                    case rel => exact ⟨j + 1, _, _, _, _, rfl, rfl, rfl, rfl, by simp, by omega, hsz, by omega, by omega, by omega, by omega, hid ⟨I1.out, D2.out.symm, E2.out, W2.out.symm⟩, fin _⟩
                    case measure => simp [intOf]; omega
                  · have W : wl X (j + 1) = false := by rw [i3, d2, decide_eq_false g, Bool.and_false]
                    have g2 : (dv - 1 == 0) = false := beq_eq_false_iff_ne.2 g
                    clear g
                    clear hTe
                    have e2 : (ev : Int) = (ens X (j + 1) : Int) := by rw [i4, W, hF.out.2.2.1]; rfl
                    have D2 := hid d2
                    have E2 := hid e2
                    have W2 := hid W
                    clear i1 i2 i3 i4 d2 e2 W hF hT hTl
                    go_wp2
                    go_roundw
                    case rel => exact ⟨j + 1, _, _, _, _, rfl, rfl, rfl, rfl, by simp, by omega, hsz, by omega, by omega, by omega, by omega, hid ⟨I1.out, D2.out.symm, E2.out, W2.out.symm⟩, fin _⟩
                    case measure => simp [intOf]; omega
                · by_cases nC : t.t = [59]
                  · have hTe : T = ⟨#[59]⟩ := by rw [hT, nC]
                    have rA : (T.toList == [123]) = false := by rw [Lib.toList_data]; exact beq_eq_false_iff_ne.2 (fun h => nA (by rw [← hTl, h]))
                    have rB : (T.toList == [125]) = false := by rw [Lib.toList_data]; exact beq_eq_false_iff_ne.2 (fun h => nB (by rw [← hTl, h]))
                    have rC : (T.toList == [59]) = true := by rw [Lib.toList_data]; rw [hTe]; decide
                    have d2 : dp X (j + 1) = dv := by rw [i2, nC]; exact Int.add_zero _
                    by_cases g : dv = 0
                    · have W : wl X (j + 1) = true := by rw [i3, d2, nC, g]; rfl
                      have g2 : (dv == 0) = true := by rw [g]; rfl
                      clear g
                      clear hTe
                      have e2 : (ev + 1 : Int) = (ens X (j + 1) : Int) := by rw [i4, W, hF.out.2.2.1]; rfl
                      have D2 := hid d2
                      have E2 := hid e2
                      have W2 := hid W
                      clear i1 i2 i3 i4 d2 e2 W hF hT hTl
                      go_wp2
                      go_roundw
                      case rel => exact ⟨j + 1, _, _, _, _, rfl, rfl, rfl, rfl, by simp, by omega, hsz, by omega, by omega, by omega, by omega, hid ⟨I1.out, D2.out.symm, E2.out, W2.out.symm⟩, fin _⟩
                      case measure => simp [intOf]; omega
                    · have W : wl X (j + 1) = false := by rw [i3, d2, decide_eq_false g, Bool.and_false]
                      have g2 : (dv == 0) = false := beq_eq_false_iff_ne.2 g
                      clear g
                      clear hTe
                      have e2 : (ev : Int) = (ens X (j + 1) : Int) := by rw [i4, W, hF.out.2.2.1]; rfl
                      have D2 := hid d2
                      have E2 := hid e2
                      have W2 := hid W
                      clear i1 i2 i3 i4 d2 e2 W hF hT hTl
                      go_wp2
                      go_roundw
                      case rel => exact ⟨j + 1, _, _, _, _, rfl, rfl, rfl, rfl, by simp, by omega, hsz, by omega, by omega, by omega, by omega, hid ⟨I1.out, D2.out.symm, E2.out, W2.out.symm⟩, fin _⟩
                      case measure => simp [intOf]; omega
                  · have rA : (T.toList == [123]) = false := by rw [Lib.toList_data]; exact beq_eq_false_iff_ne.2 (fun h => nA (by rw [← hTl, h]))
                    have rB : (T.toList == [125]) = false := by rw [Lib.toList_data]; exact beq_eq_false_iff_ne.2 (fun h => nB (by rw [← hTl, h]))
                    have rC : (T.toList == [59]) = false := by rw [Lib.toList_data]; exact beq_eq_false_iff_ne.2 (fun h => nC (by rw [← hTl, h]))
                    have d2 : dp X (j + 1) = dv := by rw [i2]; unfold dlt; rw [if_neg (show ¬ t.t = sOpen from nA), if_neg (show ¬ t.t = sShut from nB)]; omega
                    have W : wl X (j + 1) = false := by rw [i3, decide_eq_false (show ¬ t.t = sSemi from nC), decide_eq_false (show ¬ t.t = sShut from nB)]; rfl
                    have e2 : (ev : Int) = (ens X (j + 1) : Int) := by rw [i4, W, hF.out.2.2.1]; rfl
                    have D2 := hid d2
                    have E2 := hid e2
                    have W2 := hid W
                    clear i1 i2 i3 i4 d2 e2 W hF hT hTl
                    go_wp2
                    go_roundw
                    case rel => exact ⟨j + 1, _, _, _, _, rfl, rfl, rfl, rfl, by simp, by omega, hsz, by omega, by omega, by omega, by omega, hid ⟨I1.out, D2.out.symm, E2.out, W2.out.symm⟩, fin _⟩
                    case measure => simp [intOf]; omega
            · obtain rfl : j = n := by omega
              obtain ⟨_, hB⟩ := hst.out
              obtain ⟨f1, f2, f3, f4⟩ := hF.out
              have pu := PU.out j (by rw [← HN.out]; exact h2)
              rw [← f1] at pu
              have zl : Z.data.toList.length = Z.size := by simp
              rw [zl] at pu
              have hz8 : Z.size ≤ 8192 := pu.1
              have cP2 := parse_lies Z wr (K.out.later hB)
              unfold fl3 at cP2
              obtain ⟨q, hq⟩ : ∃ q, q = (parsed Z.data.toList).1 := ⟨_, rfl⟩
              rw [← hq] at cP2
              have HB := hid hB
              have CPX := hid cP2
              by_cases g : wl X j = true ∧ 2 ≤ ens X j
              · have p2 := pu.2
                rw [if_pos g] at p2
                rw [p2] at cP2
                obtain rfl : wv = true := by rw [f4]; exact g.1
                have g2 : (2 : Int) ≤ ev := by rw [f3]; have := g.2; omega
                clear hst hF hB f1 f2 f3 f4 pu zl hq p2 g
                go_wp2_with fail
                refine cP2.mono ?_
                rintro e w4 ⟨maB, mcB, faB, fcB, caB, ccB, rfl, lB, b4⟩
                have T2 := hid (there_pf w4 29 32)
                have F2 := flt_pf w4 29 32 [.string q.name, .string q.cur, .int .i64 q.a.y, .int .i64 q.a.m, .int .i64 q.a.d, .int .i64 q.b.y, .int .i64 q.b.m, .int .i64 q.b.d, .slice maB q.meters.length mcB, .slice faB q.fees.length fcB, .slice caB q.charges.length ccB, .int .i64 q.line, .int .i64 q.col]
                have z0 := F2.cell 0 _ rfl
                have z1 := F2.cell 1 _ rfl
                have z2 := F2.cell 2 _ rfl
                have f0 := F2.free 0
                have f1 := F2.free 1
                have f2 := F2.free 2
                have lz := F2.lt
                obtain ⟨PF, BF⟩ := pf_new (x := 0) (y := 0) (z := 0) lB 29 32
                obtain ⟨wB, hwB⟩ : ∃ W, W = (((((w4.alloc (.cells #[.string ⟨#[]⟩, .string ⟨#[]⟩, .int .i64 0, .int .i64 0, .int .i64 0, .int .i64 0, .int .i64 0, .int .i64 0, .slice none 0 0, .slice none 0 0, .slice none 0 0, .int .i64 0, .int .i64 0] 29)).alloc (.cells #[.int .i64 0, .int .i64 0, .int .i64 0] 32)).setCells w4.heap.size 0 [.string q.name, .string q.cur, .int .i64 q.a.y, .int .i64 q.a.m, .int .i64 q.a.d, .int .i64 q.b.y, .int .i64 q.b.m, .int .i64 q.b.d, .slice maB q.meters.length mcB, .slice faB q.fees.length fcB, .slice caB q.charges.length ccB, .int .i64 q.line, .int .i64 q.col]).setCell ⟨w4.heap.size + 1, 0, none⟩ (.int .i64 (0))).setCell ⟨w4.heap.size + 1, 1, none⟩ (.int .i64 (0))).setCell ⟨w4.heap.size + 1, 2, none⟩ (.int .i64 (0)) := ⟨_, rfl⟩
                obtain ⟨k2, hk2⟩ : ∃ k, k = w4.heap.size := ⟨_, rfl⟩
                have HP2 : Hid (Pf wB k2 q maB mcB faB fcB caB ccB (0) (0) (0)) := hid (by rw [hwB, hk2]; exact PF)
                have HB2 : Hid (Below w4.heap.size w4 wB) := hid (by rw [hwB]; exact BF)
                have HW2 := hid hwB
                have HK2 := hid hk2
                clear F2 PF BF hwB hk2
                unfold planC
                go_upto_region 26 with (first
                  | (with_reducible refine wpList_store_mid (op := Oper.mk none (Op.store 29 (Operand.tmp 17) (Operand.tmp 89)) _ _ _ _) ?_ 29 (.tmp 17) (.tmp 89) ?_ w4.heap.size 0 #[.string q.name, .string q.cur, .int .i64 q.a.y, .int .i64 q.a.m, .int .i64 q.a.d, .int .i64 q.b.y, .int .i64 q.b.m, .int .i64 q.b.d, .slice maB q.meters.length mcB, .slice faB q.fees.length fcB, .slice caB q.charges.length ccB, .int .i64 q.line, .int .i64 q.col] ?_ ?_ ?_ ?_ ?_ ?_; rfl; rfl; go_simp; go_simp; (simpa using T2.out); kernel_rfl; (simp [Value.oneCell']))
                  | (fail))
                rw [← HW2.out, ← HK2.out]
                clear z0 z1 z2 f0 f1 f2 lz T2
                have e0 := HP2.out.flt.cell 0 _ rfl
                have e1 := HP2.out.flt.cell 1 _ rfl
                have e2 := HP2.out.flt.cell 2 _ rfl
                have BB := hid (bel_on (bel_on HB.out b4) HB2.out)
                clear lB b4 HW2 HK2 HB2 HP2 HB HL0 CPX
                go_wp2
                go_ret
                exact ⟨rfl, BB.out⟩
              · have p2 := pu.2
                rw [if_neg g] at p2
                rw [p2] at cP2
                cases wv with
                | false =>
                  clear hst hF hB f1 f2 f3 f4 pu zl hq p2 g
                  go_wp2_with fail
                  refine cP2.mono ?_
                  rintro e w4 ⟨maB, mcB, faB, fcB, caB, ccB, rfl, lB, b4⟩
                  have T2 := hid (there_pf w4 29 32)
                  have F2 := flt_pf w4 29 32 [.string q.name, .string q.cur, .int .i64 q.a.y, .int .i64 q.a.m, .int .i64 q.a.d, .int .i64 q.b.y, .int .i64 q.b.m, .int .i64 q.b.d, .slice maB q.meters.length mcB, .slice faB q.fees.length fcB, .slice caB q.charges.length ccB, .int .i64 q.line, .int .i64 q.col]
                  have z0 := F2.cell 0 _ rfl
                  have z1 := F2.cell 1 _ rfl
                  have z2 := F2.cell 2 _ rfl
                  have f0 := F2.free 0
                  have f1 := F2.free 1
                  have f2 := F2.free 2
                  have lz := F2.lt
                  obtain ⟨PF, BF⟩ := pf_new (x := 4) (y := 1) (z := (Z.size : Int) + 1) lB 29 32
                  obtain ⟨wB, hwB⟩ : ∃ W, W = (((((w4.alloc (.cells #[.string ⟨#[]⟩, .string ⟨#[]⟩, .int .i64 0, .int .i64 0, .int .i64 0, .int .i64 0, .int .i64 0, .int .i64 0, .slice none 0 0, .slice none 0 0, .slice none 0 0, .int .i64 0, .int .i64 0] 29)).alloc (.cells #[.int .i64 0, .int .i64 0, .int .i64 0] 32)).setCells w4.heap.size 0 [.string q.name, .string q.cur, .int .i64 q.a.y, .int .i64 q.a.m, .int .i64 q.a.d, .int .i64 q.b.y, .int .i64 q.b.m, .int .i64 q.b.d, .slice maB q.meters.length mcB, .slice faB q.fees.length fcB, .slice caB q.charges.length ccB, .int .i64 q.line, .int .i64 q.col]).setCell ⟨w4.heap.size + 1, 0, none⟩ (.int .i64 (4))).setCell ⟨w4.heap.size + 1, 1, none⟩ (.int .i64 (1))).setCell ⟨w4.heap.size + 1, 2, none⟩ (.int .i64 ((Z.size : Int) + 1)) := ⟨_, rfl⟩
                  obtain ⟨k2, hk2⟩ : ∃ k, k = w4.heap.size := ⟨_, rfl⟩
                  have HP2 : Hid (Pf wB k2 q maB mcB faB fcB caB ccB (4) (1) ((Z.size : Int) + 1)) := hid (by rw [hwB, hk2]; exact PF)
                  have HB2 : Hid (Below w4.heap.size w4 wB) := hid (by rw [hwB]; exact BF)
                  have HW2 := hid hwB
                  have HK2 := hid hk2
                  clear F2 PF BF hwB hk2
                  unfold planC
                  go_upto_region 26 with (first
                    | (with_reducible refine wpList_store_mid (op := Oper.mk none (Op.store 29 (Operand.tmp 17) (Operand.tmp 89)) _ _ _ _) ?_ 29 (.tmp 17) (.tmp 89) ?_ w4.heap.size 0 #[.string q.name, .string q.cur, .int .i64 q.a.y, .int .i64 q.a.m, .int .i64 q.a.d, .int .i64 q.b.y, .int .i64 q.b.m, .int .i64 q.b.d, .slice maB q.meters.length mcB, .slice faB q.fees.length fcB, .slice caB q.charges.length ccB, .int .i64 q.line, .int .i64 q.col] ?_ ?_ ?_ ?_ ?_ ?_; rfl; rfl; go_simp; go_simp; (simpa using T2.out); kernel_rfl; (simp [Value.oneCell']))
                    | (fail))
                  rw [← HW2.out, ← HK2.out]
                  clear z0 z1 z2 f0 f1 f2 lz T2
                  have e0 := HP2.out.flt.cell 0 _ rfl
                  have e1 := HP2.out.flt.cell 1 _ rfl
                  have e2 := HP2.out.flt.cell 2 _ rfl
                  have BB := hid (bel_on (bel_on HB.out b4) HB2.out)
                  clear lB b4 HW2 HK2 HB2 HP2 HB HL0 CPX
                  go_wp2
                  go_ret
                  exact ⟨rfl, BB.out⟩
                | true =>
                  have g2 : ¬ (2 : Int) ≤ ev := by rw [f3]; intro h; exact g ⟨f4.symm, by omega⟩
                  clear hst hF hB f1 f2 f3 f4 pu zl hq p2 g
                  go_wp2_with fail
                  refine cP2.mono ?_
                  rintro e w4 ⟨maB, mcB, faB, fcB, caB, ccB, rfl, lB, b4⟩
                  have T2 := hid (there_pf w4 29 32)
                  have F2 := flt_pf w4 29 32 [.string q.name, .string q.cur, .int .i64 q.a.y, .int .i64 q.a.m, .int .i64 q.a.d, .int .i64 q.b.y, .int .i64 q.b.m, .int .i64 q.b.d, .slice maB q.meters.length mcB, .slice faB q.fees.length fcB, .slice caB q.charges.length ccB, .int .i64 q.line, .int .i64 q.col]
                  have z0 := F2.cell 0 _ rfl
                  have z1 := F2.cell 1 _ rfl
                  have z2 := F2.cell 2 _ rfl
                  have f0 := F2.free 0
                  have f1 := F2.free 1
                  have f2 := F2.free 2
                  have lz := F2.lt
                  obtain ⟨PF, BF⟩ := pf_new (x := 4) (y := 1) (z := (Z.size : Int) + 1) lB 29 32
                  obtain ⟨wB, hwB⟩ : ∃ W, W = (((((w4.alloc (.cells #[.string ⟨#[]⟩, .string ⟨#[]⟩, .int .i64 0, .int .i64 0, .int .i64 0, .int .i64 0, .int .i64 0, .int .i64 0, .slice none 0 0, .slice none 0 0, .slice none 0 0, .int .i64 0, .int .i64 0] 29)).alloc (.cells #[.int .i64 0, .int .i64 0, .int .i64 0] 32)).setCells w4.heap.size 0 [.string q.name, .string q.cur, .int .i64 q.a.y, .int .i64 q.a.m, .int .i64 q.a.d, .int .i64 q.b.y, .int .i64 q.b.m, .int .i64 q.b.d, .slice maB q.meters.length mcB, .slice faB q.fees.length fcB, .slice caB q.charges.length ccB, .int .i64 q.line, .int .i64 q.col]).setCell ⟨w4.heap.size + 1, 0, none⟩ (.int .i64 (4))).setCell ⟨w4.heap.size + 1, 1, none⟩ (.int .i64 (1))).setCell ⟨w4.heap.size + 1, 2, none⟩ (.int .i64 ((Z.size : Int) + 1)) := ⟨_, rfl⟩
                  obtain ⟨k2, hk2⟩ : ∃ k, k = w4.heap.size := ⟨_, rfl⟩
                  have HP2 : Hid (Pf wB k2 q maB mcB faB fcB caB ccB (4) (1) ((Z.size : Int) + 1)) := hid (by rw [hwB, hk2]; exact PF)
                  have HB2 : Hid (Below w4.heap.size w4 wB) := hid (by rw [hwB]; exact BF)
                  have HW2 := hid hwB
                  have HK2 := hid hk2
                  clear F2 PF BF hwB hk2
                  unfold planC
                  go_upto_region 26 with (first
                    | (with_reducible refine wpList_store_mid (op := Oper.mk none (Op.store 29 (Operand.tmp 17) (Operand.tmp 89)) _ _ _ _) ?_ 29 (.tmp 17) (.tmp 89) ?_ w4.heap.size 0 #[.string q.name, .string q.cur, .int .i64 q.a.y, .int .i64 q.a.m, .int .i64 q.a.d, .int .i64 q.b.y, .int .i64 q.b.m, .int .i64 q.b.d, .slice maB q.meters.length mcB, .slice faB q.fees.length fcB, .slice caB q.charges.length ccB, .int .i64 q.line, .int .i64 q.col] ?_ ?_ ?_ ?_ ?_ ?_; rfl; rfl; go_simp; go_simp; (simpa using T2.out); kernel_rfl; (simp [Value.oneCell']))
                    | (fail))
                  rw [← HW2.out, ← HK2.out]
                  clear z0 z1 z2 f0 f1 f2 lz T2
                  have e0 := HP2.out.flt.cell 0 _ rfl
                  have e1 := HP2.out.flt.cell 1 _ rfl
                  have e2 := HP2.out.flt.cell 2 _ rfl
                  have BB := hid (bel_on (bel_on HB.out b4) HB2.out)
                  clear lB b4 HW2 HK2 HB2 HP2 HB HL0 CPX
                  go_wp2
                  go_ret
                  exact ⟨rfl, BB.out⟩
        · have h3 : (N : Int) ≤ (n : Int) := by omega
          go_wp2
          go_ret
          exact ⟨rfl, B3.out⟩
    · go_wp2
      go_ret
      exact ⟨rfl, BA.out⟩
end Go.Proofs.YtabcoahenlaehaaDoor.L07
