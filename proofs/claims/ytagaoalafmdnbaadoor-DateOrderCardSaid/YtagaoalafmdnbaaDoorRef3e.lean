/- What the document's answers for layer 3 (poundageref03) come to: digits, Text. -/
import Derived.Test.YtagaoalafmdnbaaDoorRef3b
namespace Go.Proofs.YtagaoalafmdnbaaDoor.R3
open Go.RowKit Go.Sort P Dt

theorem pad_front : ∀ (i n : Nat), pad (i + 1) n = dch (n / 10 ^ i % 10) :: pad i n
  | 0, n => by simp [pad]
  | i + 1, n => by
    show pad (i + 1) (n / 10) ++ [dch (n % 10)] = _
    rw [pad_front i (n / 10), Nat.div_div_eq_div_mul, Nat.pow_succ, Nat.mul_comm 10]
    rfl
set_option maxHeartbeats 1000000 in
theorem digits_any (n k : Int) (w : World) (h0 : 0 ≤ n) (h1 : n ≤ 9999) (k0 : 0 ≤ k) (k1 : k ≤ 4) :
    Calls Tryd.prog 25 #[.int .i64 n, .int .i64 k] w fun e w' => e = .returned (.string ⟨(pad k.toNat n.toNat).toArray⟩) ∧ Below w.heap.size w w' := by
  go_enter Tryd.func25, Tryd.ntmps25
  go_wp2
  go_loopw [0, 5, 6] (fun q s i wr => ∃ (q' i' : Int) (S : ByteArray), q = .int .i64 q' ∧ s = .string S ∧ i = .int .i64 i' ∧ 0 ≤ i' ∧ i' ≤ k ∧ 0 ≤ q' ∧ q' ≤ 9999 ∧ q'.toNat = n.toNat / 10 ^ i'.toNat ∧ Hid (S = ⟨(pad i'.toNat n.toNat).toArray⟩) ∧ (S.size : Int) = i' ∧ Below w.heap.size w wr) (fun _ _ i _ => (k - intOf i).toNat)
  case atStart => exact ⟨n, 0, ⟨#[]⟩, rfl, rfl, rfl, by omega, k0, h0, h1, by simp, rfl, rfl, Below.refl _ _⟩
  case round =>
    obtain ⟨q', i', S, rfl, rfl, rfl, i0, i1, q0, q1, hq, hS, hz, hb⟩ := hrel
    by_cases hlt : i' < k
    · have hn1 : ¬ 9223372036854775807 < 1 + S.size := by omega
      have hc : q'.toNat % 10 < 10 := Nat.mod_lt _ (by decide)
      have hx : ((dch (q'.toNat % 10)).toNat : Int) = 48 + q' % 10 := by rw [dig_toNat hc]; omega
      have hcv := run_convert_bytes_back (P := Tryd.prog) (wr.alloc (.cells #[.int .u8 (48 + q' % 10)] 5)) 48 9 5 ⟨wr.heap.size, 0, none⟩ 1 [dch (q'.toNat % 10)] Tryd.underlying48 Tryd.underlying5 Tryd.underlying9 (fun j hj => by
        obtain rfl : j = 0 := by simpa using hj
        rw [Lib.add_plain, World.cell?_alloc_new]
        show some (Value.int .u8 (48 + q' % 10)) = some (Value.int .u8 (((dch (q'.toNat % 10)).toNat : Nat) : Int))
        rw [hx])
      obtain ⟨B, hB⟩ : ∃ B : ByteArray, B = ⟨[dch (q'.toNat % 10)].toArray⟩ := ⟨_, rfl⟩
      rw [← hB, show [dch (q'.toNat % 10)].length = 1 from rfl] at hcv
      have hBz : B.size = 1 := by rw [hB, ba_size]; rfl
      have hn2 : ¬ 9223372036854775807 < B.size + S.size := by omega
      have HB := hid hB
      have fin : Hid (B ++ S = ⟨(pad (i' + 1).toNat n.toNat).toArray⟩) := hid (by
        rw [hB, hS.out, ba_append, show (i' + 1).toNat = i'.toNat + 1 by omega, pad_front, ← hq]
        rfl)
      have hsz : ((B ++ S).size : Int) = i' + 1 := by rw [ByteArray.size_append]; omega
      have hq2 : (q' / 10).toNat = n.toNat / 10 ^ (i' + 1).toNat := by
        rw [show (i' + 1).toNat = i'.toNat + 1 by omega, Nat.pow_succ, ← Nat.div_div_eq_div_mul, ← hq]
        omega
      have HQ := hid hq2
      clear hB hx hq hc hq2
      go_wp2
      go_roundw
      case rel => exact ⟨_, i' + 1, _, rfl, rfl, rfl, by omega, by omega, by omega, by omega, HQ.out, fin, hsz, hb.alloc hb.size _⟩
      case measure => simp [intOf]; omega
    · obtain rfl : i' = k := by omega
      go_wp2
      go_ret
      exact ⟨ret_s hS.out, hb⟩
theorem text_no (y m d : Int) (w : World) (g : good y m d = false) :
    Calls Tryd.prog 17 #[dv y m d] w fun e w' => e = .returned (.string ⟨#[]⟩) ∧ Below w.heap.size w w' := by
  unfold dv
  have cG := good_any y m d (w.alloc (.cells #[.int .i64 y, .int .i64 m, .int .i64 d] 23))
  rw [g] at cG
  go_enter Tryd.func17, Tryd.ntmps17
  go_wp2_with (go_at_call 15; refine cG.mono ?_; rintro e w1 ⟨rfl, bel⟩)
  go_ret
  exact ⟨rfl, (box3 bel).2.2.2.2⟩
set_option maxHeartbeats 1000000 in
theorem text_yes (y m d : Int) (w : World) (g : good y m d = true) :
    Calls Tryd.prog 17 #[dv y m d] w fun e w' => e = .returned (.string ⟨(txt y m d).toArray⟩) ∧ Below w.heap.size w w' := by
  have cG := good_any y m d (w.alloc (.cells #[.int .i64 y, .int .i64 m, .int .i64 d] 23))
  rw [g] at cG
  obtain ⟨h0, h1, h2, h3, h4, h5⟩ := good_small g
  have cY : ∀ W, Calls Tryd.prog 25 #[.int .i64 y, .int .i64 4] W fun e w' => e = .returned (.string ⟨(pad 4 y.toNat).toArray⟩) ∧ Below W.heap.size W w' :=
    fun W => digits_any y 4 W h0 h1 (by omega) (by omega)
  have cM : ∀ W, Calls Tryd.prog 25 #[.int .i64 m, .int .i64 2] W fun e w' => e = .returned (.string ⟨(pad 2 m.toNat).toArray⟩) ∧ Below W.heap.size W w' :=
    fun W => digits_any m 2 W h2 (by omega) (by omega) (by omega)
  have cD : ∀ W, Calls Tryd.prog 25 #[.int .i64 d, .int .i64 2] W fun e w' => e = .returned (.string ⟨(pad 2 d.toNat).toArray⟩) ∧ Below W.heap.size W w' :=
    fun W => digits_any d 2 W h4 (by omega) (by omega) (by omega)
  obtain ⟨Y, hY⟩ : ∃ S : ByteArray, S = ⟨(pad 4 y.toNat).toArray⟩ := ⟨_, rfl⟩
  obtain ⟨M, hM⟩ : ∃ S : ByteArray, S = ⟨(pad 2 m.toNat).toArray⟩ := ⟨_, rfl⟩
  obtain ⟨D, hD⟩ : ∃ S : ByteArray, S = ⟨(pad 2 d.toNat).toArray⟩ := ⟨_, rfl⟩
  have zY : Y.size = 4 := by rw [hY, ba_size, pad_length]
  have zM : M.size = 2 := by rw [hM, ba_size, pad_length]
  have zD : D.size = 2 := by rw [hD, ba_size, pad_length]
  rw [← hY] at cY; rw [← hM] at cM; rw [← hD] at cD
  have fin : Hid (Y ++ ⟨#[45]⟩ ++ M ++ ⟨#[45]⟩ ++ D = ⟨(txt y m d).toArray⟩) := hid (by
    rw [hY, hM, hD, show (⟨#[45]⟩ : ByteArray) = ⟨([45] : List UInt8).toArray⟩ from rfl, ba_append, ba_append, ba_append, ba_append]
    rfl)
  clear hY hM hD h0 h1 h2 h3 h4 h5 g
  unfold dv
  unfold dv at cG
  go_enter Tryd.func17, Tryd.ntmps17
  go_wp2_with (go_at_call 15; refine cG.mono ?_; rintro e w1 ⟨rfl, bel⟩; have M3 := box3 bel; obtain ⟨c0, c1, c2, hlt, b1⟩ := M3)
  clear cG bel
  have k0 := cell_regrown c0
  have k1 := cell_regrown c1
  have k2 := cell_regrown c2
  have qY := fun d os => Calls.regrown_of (cY (grow (redrawn w1 d) os))
  have qM := fun d os => Calls.regrown_of (cM (grow (redrawn w1 d) os))
  have qD := fun d os => Calls.regrown_of (cD (grow (redrawn w1 d) os))
  clear cY cM cD
  refine wp_region_quiet_below (by kernel_rfl) (by kernel_rfl) ?_
  repeat (quiet_step (first | (go_at_call_of 25 (Value.int IntKind.i64 y); exact qY _ _) | (go_at_call_of 25 (Value.int IntKind.i64 m); exact qM _ _) | (go_at_call_of 25 (Value.int IntKind.i64 d); exact qD _ _)))
  refine wpQuiet_nil ?_
  intro _ hw'
  obtain ⟨⟨dq, osq⟩, hw''⟩ := hw'
  subst hw''
  go_wp2
  go_ret
  exact ⟨ret_s fin.out, b1.trans ((below_regrown w1 dq osq).mono b1.size)⟩
end Go.Proofs.YtagaoalafmdnbaaDoor.R3
