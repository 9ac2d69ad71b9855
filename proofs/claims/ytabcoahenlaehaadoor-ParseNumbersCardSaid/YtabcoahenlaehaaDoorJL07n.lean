/- The laws of layer 7: ParseNumbers. -/
import Derived.Test.YtabcoahenlaehaaDoorJL07a
import Derived.Test.YtabcoahenlaehaaDoorJParN
namespace Go.Proofs.YtabcoahenlaehaaDoor.L07
open Go.RowKit Go.Sort P Mm Md Pa

theorem num_bytes (ds : List UInt8) : ((⟨#[112, 108, 97, 110, 32, 112, 32, 99, 117, 114, 114, 101, 110, 99, 121, 32, 99, 59, 32, 104, 111, 114, 105, 122, 111, 110, 32, 50, 48, 50, 52, 45, 48, 49, 45, 48, 49, 32, 50, 48, 50, 52, 45, 48, 49, 45, 48, 50, 59, 10, 102, 101, 101, 32]⟩ : ByteArray) ++ ⟨ds.toArray⟩ ++ (⟨#[59]⟩ : ByteArray)).data.toList = numT ds := by
  rw [ba_append, ba_append]
  show (headT ++ [10, 102, 101, 101, 32]) ++ ds ++ [59] = _
  unfold numT
  simp
/-- The text's plan, read. -/
theorem num_call {q : Nat} (hq : I64 (q : Int)) (X : ByteArray) (hX : X = ⟨(Lib.decDigits q).toArray⟩) (w : World) (k : Ky w) : Calls Tryd.prog 7 #[.string ((⟨#[112, 108, 97, 110, 32, 112, 32, 99, 117, 114, 114, 101, 110, 99, 121, 32, 99, 59, 32, 104, 111, 114, 105, 122, 111, 110, 32, 50, 48, 50, 52, 45, 48, 49, 45, 48, 49, 32, 50, 48, 50, 52, 45, 48, 49, 45, 48, 50, 59, 10, 102, 101, 101, 32]⟩ : ByteArray) ++ X ++ (⟨#[59]⟩ : ByteArray))] w fun e w' => ∃ p ma mc fa fc ca cc x y z, (if (1000000000000 : Int) < q then p.fees = [] ∧ x = 6 ∧ y = 2 ∧ z = 5 else p.fees = [⟨(q : Int), ⟨false, ⟨0, 0, 0⟩, ⟨0, 0, 0⟩⟩, 2, 1⟩] ∧ x = 0 ∧ y = 0 ∧ z = 0) ∧
    e = .returned (.tuple #[.agg (planC p ma mc fa fc ca cc).toArray, .agg #[.int .i64 x, .int .i64 y, .int .i64 z]]) ∧ PlanLies w' (planC p ma mc fa fc ca cc) p ma mc fa fc ca cc ∧ Below w.heap.size w w' := by
  have h := parse_lies ((⟨#[112, 108, 97, 110, 32, 112, 32, 99, 117, 114, 114, 101, 110, 99, 121, 32, 99, 59, 32, 104, 111, 114, 105, 122, 111, 110, 32, 50, 48, 50, 52, 45, 48, 49, 45, 48, 49, 32, 50, 48, 50, 52, 45, 48, 49, 45, 48, 50, 59, 10, 102, 101, 101, 32]⟩ : ByteArray) ++ X ++ (⟨#[59]⟩ : ByteArray)) w k
  rw [hX, num_bytes, parsed_num hq] at h
  rw [hX]
  by_cases g : (1000000000000 : Int) < q
  · rw [plan_great hq g] at h
    refine h.mono fun e w' ⟨ma, mc, fa, fc, ca, cc, h1, h2, h3⟩ => ⟨planZ, ma, mc, fa, fc, ca, cc, 6, 2, 5, ?_, h1, h2, h3⟩
    rw [if_pos g]
    exact ⟨rfl, rfl, rfl, rfl⟩
  · rw [plan_num hq (by omega)] at h
    refine h.mono fun e w' ⟨ma, mc, fa, fc, ca, cc, h1, h2, h3⟩ => ⟨_, ma, mc, fa, fc, ca, cc, 0, 0, 0, ?_, h1, h2, h3⟩
    rw [if_neg g]
    exact ⟨rfl, rfl, rfl, rfl⟩
set_option maxHeartbeats 4000000 in
set_option maxRecDepth 100000 in
theorem numbers_walk (n : Int) (hn : I64 n) (w : World) (k : Ky w) (kt : Dc.Tab w) : Calls Tryd.prog 5 #[.int .i64 n] w fun e w' => e = .returned (.bool true) ∧ Below w.heap.size w w' := by
  have cA := alive_any w k
  by_cases h0 : n < 0
  · clear k kt
    go_enter Tryd.func5, Tryd.ntmps5
    go_wp2_with (go_at_call 6; refine cA.mono ?_; rintro e w1 ⟨rfl, b1⟩)
    go_ret
    exact ⟨rfl, b1⟩
  · obtain ⟨q, rfl⟩ : ∃ q : Nat, n = q := ⟨n.toNat, by omega⟩
    have K := hid k
    have KT := hid kt
    have HN := hid hn
    obtain ⟨X, hX⟩ : ∃ X : ByteArray, X = ⟨(Lib.decDigits q).toArray⟩ := ⟨_, rfl⟩
    have cI := fun W (T : Dc.Tab W) => Dc.itoa_any (q : Int) W (by omega) hn T
    rw [show ((q : Int)).toNat = q from rfl, ← hX] at cI
    have CI := hid cI
    have cP := fun W k => num_call hn X hX W k
    have CP := hid cP
    have hxs : X.size ≤ 100 := by rw [hX, ba_size]; exact dec_len hn
    have s1 : ¬ 9223372036854775807 < 54 + X.size := by omega
    have s2 : ¬ 9223372036854775807 < 54 + X.size + 1 := by omega
    have s3 : ((⟨#[112, 108, 97, 110, 32, 112, 32, 99, 117, 114, 114, 101, 110, 99, 121, 32, 99, 59, 32, 104, 111, 114, 105, 122, 111, 110, 32, 50, 48, 50, 52, 45, 48, 49, 45, 48, 49, 32, 50, 48, 50, 52, 45, 48, 49, 45, 48, 50, 59, 10, 102, 101, 101, 32]⟩ : ByteArray) ++ X).size = 54 + X.size := by rw [ByteArray.size_append]; rfl
    clear k kt hn hX cI cP
    go_enter Tryd.func5, Tryd.ntmps5
    go_wp2_with fail
    refine cA.mono ?_
    rintro e w1 ⟨rfl, b1⟩
    have K1 := hid (K.out.later b1)
    have T1 := hid (Lib.tabBelow_of_tabIs KT.out _ b1)
    clear cA
    go_wp2_with fail
    refine (CI.out w1 T1.out).mono ?_
    rintro e w2 ⟨rfl, b2⟩
    have K2 := hid (K1.out.later b2)
    have B2 := hid (bel_on b1 b2)
    clear b1 b2
    go_wp2_with fail
    refine (CP.out w2 K2.out).mono ?_
    rintro e w3 ⟨p, ma, mc, fa, fc, ca, cc, x, y, z, hx, rfl, lA, b3⟩
    have B3 := hid (bel_on B2.out b3)
    have HX := hid hx
    clear b3 hx
    have T1 := hid (there_pf w3 29 32)
    have F1 := flt_pf w3 29 32 [.string p.name, .string p.cur, .int .i64 p.a.y, .int .i64 p.a.m, .int .i64 p.a.d, .int .i64 p.b.y, .int .i64 p.b.m, .int .i64 p.b.d, .slice ma p.meters.length mc, .slice fa p.fees.length fc, .slice ca p.charges.length cc, .int .i64 p.line, .int .i64 p.col]
    have z0 := F1.cell 0 _ rfl
    have z1 := F1.cell 1 _ rfl
    have z2 := F1.cell 2 _ rfl
    have f0 := F1.free 0
    have f1 := F1.free 1
    have f2 := F1.free 2
    have lz := F1.lt
    obtain ⟨PF, BF⟩ := pf_new (x := x) (y := y) (z := z) lA 29 32
    obtain ⟨wA, hwA⟩ : ∃ W, W = (((((w3.alloc (.cells #[.string ⟨#[]⟩, .string ⟨#[]⟩, .int .i64 0, .int .i64 0, .int .i64 0, .int .i64 0, .int .i64 0, .int .i64 0, .slice none 0 0, .slice none 0 0, .slice none 0 0, .int .i64 0, .int .i64 0] 29)).alloc (.cells #[.int .i64 0, .int .i64 0, .int .i64 0] 32)).setCells w3.heap.size 0 [.string p.name, .string p.cur, .int .i64 p.a.y, .int .i64 p.a.m, .int .i64 p.a.d, .int .i64 p.b.y, .int .i64 p.b.m, .int .i64 p.b.d, .slice ma p.meters.length mc, .slice fa p.fees.length fc, .slice ca p.charges.length cc, .int .i64 p.line, .int .i64 p.col]).setCell ⟨w3.heap.size + 1, 0, none⟩ (.int .i64 (x))).setCell ⟨w3.heap.size + 1, 1, none⟩ (.int .i64 (y))).setCell ⟨w3.heap.size + 1, 2, none⟩ (.int .i64 (z)) := ⟨_, rfl⟩
    obtain ⟨k1, hk1⟩ : ∃ k, k = w3.heap.size := ⟨_, rfl⟩
    have HP1 : Hid (Pf wA k1 p ma mc fa fc ca cc (x) (y) (z)) := hid (by rw [hwA, hk1]; exact PF)
    have HB1 : Hid (Below w3.heap.size w3 wA) := hid (by rw [hwA]; exact BF)
    have HW1 := hid hwA
    have HK1 := hid hk1
    clear F1 PF BF hwA hk1
    unfold planC
    go_upto_region 6 with (first
      | (with_reducible refine wpList_store_mid (op := Oper.mk none (Op.store 29 (Operand.tmp 3) (Operand.tmp 15)) _ _ _ _) ?_ 29 (.tmp 3) (.tmp 15) ?_ w3.heap.size 0 #[.string p.name, .string p.cur, .int .i64 p.a.y, .int .i64 p.a.m, .int .i64 p.a.d, .int .i64 p.b.y, .int .i64 p.b.m, .int .i64 p.b.d, .slice ma p.meters.length mc, .slice fa p.fees.length fc, .slice ca p.charges.length cc, .int .i64 p.line, .int .i64 p.col] ?_ ?_ ?_ ?_ ?_ ?_; rfl; rfl; go_simp; go_simp; (simpa using T1.out); kernel_rfl; (simp [Value.oneCell']))
      | (fail))
    rw [← HW1.out, ← HK1.out]
    clear z0 z1 z2 f0 f1 f2 lz T1
    have BB := hid (bel_on B3.out HB1.out)
    have c0 := HP1.out.flt.cell 0 _ rfl
    have c1 := HP1.out.flt.cell 1 _ rfl
    have c2 := HP1.out.flt.cell 2 _ rfl
    have c9 := HP1.out.box.cell 9 _ rfl
    by_cases g : (1000000000000 : Int) < q
    · have hx := HX.out
      rw [if_pos g] at hx
      obtain ⟨hf, rfl, rfl, rfl⟩ := hx
      rw [hf] at c9
      have c9' : wA.cell? ⟨k1, 9, none⟩ = some (.slice fa 0 fc) := c9
      clear c9 hf
      go_wp2
      go_ret
      exact ⟨rfl, BB.out⟩
    · have hx := HX.out
      rw [if_neg g] at hx
      obtain ⟨hf, rfl, rfl, rfl⟩ := hx
      rw [hf] at c9
      have c9' : wA.cell? ⟨k1, 9, none⟩ = some (.slice fa 1 fc) := c9
      obtain ⟨fb, fo, cs, hfa, _, hcs, hc⟩ := HP1.out.lies.fees.at (j := 0) (x := ⟨(q : Int), ⟨false, ⟨0, 0, 0⟩, ⟨0, 0, 0⟩⟩, 2, 1⟩) (by rw [hf]; rfl)
      subst hfa
      obtain ⟨rfl, _⟩ := hcs
      have d0 : wA.cell? ⟨fb, fo, none⟩ = some (.int .i64 q) := by
        have := hc 0 _ rfl
        rwa [show fo + 0 * tFee.n + 0 = fo by omega] at this
      clear c9 hf hc
      go_wp2
      go_ret
      exact ⟨rfl, BB.out⟩
end Go.Proofs.YtabcoahenlaehaaDoor.L07
