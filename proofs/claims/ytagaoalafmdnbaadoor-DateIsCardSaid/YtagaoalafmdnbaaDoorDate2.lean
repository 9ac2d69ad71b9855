/- What package date does: the texts of days. -/
import Derived.Test.YtagaoalafmdnbaaDoorDate
import Derived.Lib.AppendIntMem
namespace Go.Proofs.YtagaoalafmdnbaaDoor.Dt
open Go.RowKit Go.Sort P

/-- The library's table of powers of ten stands as the program's text lays it. -/
def Tab (w : World) : Prop := Lib.TabIs Tryd.prog w "internal/strconv.uint64pow10" .u64 Lib.pow10Tab
theorem Tab.later {w w' : World} (h : Tab w) (b : Below w.heap.size w w') : Tab w' := Lib.tabBelow_of_tabIs h _ b
theorem ba_append (a b : List UInt8) : (⟨a.toArray⟩ : ByteArray) ++ ⟨b.toArray⟩ = ⟨(a ++ b).toArray⟩ := by
  apply ByteArray.ext
  simp
theorem ba_size (l : List UInt8) : (⟨l.toArray⟩ : ByteArray).size = l.length := by
  show l.toArray.size = _
  simp
theorem ret_s {a b : ByteArray} (h : a = b) : Ending.returned (.string a) = Ending.returned (.string b) := by rw [h]
theorem itoa_any (n : Int) (w : World) (h0 : 0 ≤ n) (h1 : n ≤ 9999) (T : Tab w) :
    Calls Tryd.prog 29 #[.int .i64 n] w fun e w' => e = .returned (.string ⟨(Lib.decDigits n.toNat).toArray⟩) ∧ Below w.heap.size w w' := by
  refine (Any.strconv_Itoa Tryd.laysM171 n (by omega) (by omega) w T).mono ?_
  rintro e w' ⟨rfl, k, os, rfl⟩
  refine ⟨?_, Lib.below_grow _ _ (Nat.le_refl _) _ _⟩
  have e : n = (n.toNat : Int) := by omega
  rw [e, Lib.itoa_nonneg]
  rfl
theorem rep_any (c : Int) (w : World) (h0 : 0 ≤ c) (h1 : c ≤ 9) :
    Calls Tryd.prog 30 #[.string ⟨#[48]⟩, .int .i64 c] w fun e w' => e = .returned (.string ⟨(Lib.repeatL [48] c.toNat).toArray⟩) ∧ Below w.heap.size w w' := by
  have h := Any.strings_Repeat Tryd.lays105 Tryd.Builder_Extra_105 ⟨#[48]⟩ c.toNat w (by omega) (by show 1 * c.toNat ≤ _; omega)
  rw [show ((c.toNat : Nat) : Int) = c by omega] at h
  exact h
/-- 'padded': a number in so many digits. -/
theorem padded_any (n k : Int) (w : World) (h0 : 0 ≤ n) (k0 : 1 ≤ k) (k1 : k ≤ 4) (hn : n.toNat < 10 ^ k.toNat) (T : Tab w) :
    Calls Tryd.prog 24 #[.int .i64 n, .int .i64 k] w fun e w' => e = .returned (.string ⟨(pad k.toNat n.toNat).toArray⟩) ∧ Below w.heap.size w w' := by
  have hp : (10 : Nat) ^ k.toNat ≤ 10 ^ 4 := Nat.pow_le_pow_right (by decide) (by omega)
  have hd : Lib.nDigits n.toNat ≤ k.toNat := by
    have := nDigits_le (k.toNat - 1) n.toNat (by rwa [show k.toNat - 1 + 1 = k.toNat by omega])
    omega
  have hd0 := Lib.nDigits_pos n.toNat
  have e := pad_dec k.toNat n.toNat hd
  have ci := itoa_any n w h0 (by omega) T
  obtain ⟨S, hS⟩ : ∃ S : ByteArray, S = ⟨(Lib.decDigits n.toNat).toArray⟩ := ⟨_, rfl⟩
  have hSz : S.size = Lib.nDigits n.toNat := by rw [hS, ba_size, Lib.decDigits_length]
  obtain ⟨c, hc⟩ : ∃ c : Int, c = k - (S.size : Int) := ⟨_, rfl⟩
  have hcn : c.toNat = k.toNat - Lib.nDigits n.toNat := by omega
  have hc0 : 0 ≤ c := by omega
  have hc1 : c ≤ 3 := by omega
  have hcw : (k - (S.size : Int)) = c := hc.symm
  have cr := fun W => rep_any c W hc0 (by omega)
  obtain ⟨R, hR⟩ : ∃ R : ByteArray, R = ⟨(Lib.repeatL [48] c.toNat).toArray⟩ := ⟨_, rfl⟩
  have hRz : R.size = c.toNat := by rw [hR, ba_size, Lib.repeatL_length]; simp
  rw [← hS] at ci
  rw [← hR] at cr
  have fin : Hid (R ++ S = ⟨(pad k.toNat n.toNat).toArray⟩) := hid (by rw [hR, hS, ba_append, hcn, e])
  have hk4 : S.size ≤ 4 := by omega
  have n1 : ¬ 9223372036854775807 < R.size + S.size := by omega
  clear e hn hp hd hd0 hcn hR hS hRz T hSz hc
  go_enter Tryd.func24, Tryd.ntmps24
  go_wp2_with (go_at_call 29; refine ci.mono ?_; rintro e w1 ⟨rfl, b1⟩)
  go_wp2_with (go_at_call 30; refine (cr _).mono ?_; rintro e w2 ⟨rfl, b2⟩)
  go_ret
  exact ⟨ret_s fin.out, b1.trans (b2.mono b1.size)⟩
theorem text_no (y m d : Int) (w : World) (g : good y m d = false) :
    Calls Tryd.prog 16 #[dv y m d] w fun e w' => e = .returned (.string ⟨#[]⟩) ∧ Below w.heap.size w w' := by
  unfold dv
  have cG := good_any y m d (w.alloc (.cells #[.int .i64 y, .int .i64 m, .int .i64 d] 23))
  rw [g] at cG
  go_enter Tryd.func16, Tryd.ntmps16
  go_wp2_with (go_at_call 14; refine cG.mono ?_; rintro e w1 ⟨rfl, bel⟩)
  go_ret
  exact ⟨rfl, (box3 bel).2.2.2.2⟩
set_option maxHeartbeats 1000000 in
theorem text_yes (y m d : Int) (w : World) (g : good y m d = true) (T : Tab w) :
    Calls Tryd.prog 16 #[dv y m d] w fun e w' => e = .returned (.string ⟨(txt y m d).toArray⟩) ∧ Below w.heap.size w w' := by
  have cG := good_any y m d (w.alloc (.cells #[.int .i64 y, .int .i64 m, .int .i64 d] 23))
  rw [g] at cG
  obtain ⟨h0, h1, h2, h3, h4, h5⟩ := good_small g
  have cY : ∀ W, Below w.heap.size w W → Calls Tryd.prog 24 #[.int .i64 y, .int .i64 4] W fun e w' => e = .returned (.string ⟨(pad 4 y.toNat).toArray⟩) ∧ Below W.heap.size W w' :=
    fun W b => padded_any y 4 W h0 (by omega) (by omega) (by show _ < 10000; omega) (T.later b)
  have cM : ∀ W, Below w.heap.size w W → Calls Tryd.prog 24 #[.int .i64 m, .int .i64 2] W fun e w' => e = .returned (.string ⟨(pad 2 m.toNat).toArray⟩) ∧ Below W.heap.size W w' :=
    fun W b => padded_any m 2 W h2 (by omega) (by omega) (by show _ < 100; omega) (T.later b)
  have cD : ∀ W, Below w.heap.size w W → Calls Tryd.prog 24 #[.int .i64 d, .int .i64 2] W fun e w' => e = .returned (.string ⟨(pad 2 d.toNat).toArray⟩) ∧ Below W.heap.size W w' :=
    fun W b => padded_any d 2 W h4 (by omega) (by omega) (by show _ < 100; omega) (T.later b)
  obtain ⟨Y, hY⟩ : ∃ S : ByteArray, S = ⟨(pad 4 y.toNat).toArray⟩ := ⟨_, rfl⟩
  obtain ⟨M, hM⟩ : ∃ S : ByteArray, S = ⟨(pad 2 m.toNat).toArray⟩ := ⟨_, rfl⟩
  obtain ⟨D, hD⟩ : ∃ S : ByteArray, S = ⟨(pad 2 d.toNat).toArray⟩ := ⟨_, rfl⟩
  have zY : Y.size = 4 := by rw [hY, ba_size, pad_length]
  have zM : M.size = 2 := by rw [hM, ba_size, pad_length]
  have zD : D.size = 2 := by rw [hD, ba_size, pad_length]
  rw [← hY] at cY; rw [← hM] at cM; rw [← hD] at cD
  have fin : Hid (Y ++ ⟨#[45]⟩ ++ M ++ ⟨#[45]⟩ ++ D = ⟨(txt y m d).toArray⟩) := hid (by
    rw [hY, hM, hD, show (⟨#[45]⟩ : ByteArray) = ⟨([45] : List UInt8).toArray⟩ from rfl, ba_append, ba_append, ba_append, ba_append]
    rfl)
  clear hY hM hD h0 h1 h2 h3 h4 h5 g T
  unfold dv
  unfold dv at cG
  go_enter Tryd.func16, Tryd.ntmps16
  go_wp2_with (go_at_call 14; refine cG.mono ?_; rintro e w1 ⟨rfl, bel⟩; have M3 := box3 bel; obtain ⟨c0, c1, c2, hlt, b1⟩ := M3)
  clear cG bel
  have k0 := cell_regrown c0
  have k1 := cell_regrown c1
  have k2 := cell_regrown c2
  have qY := fun d os => Calls.regrown_of (cY _ (b1.trans ((below_regrown w1 d os).mono b1.size)))
  have qM := fun d os => Calls.regrown_of (cM _ (b1.trans ((below_regrown w1 d os).mono b1.size)))
  have qD := fun d os => Calls.regrown_of (cD _ (b1.trans ((below_regrown w1 d os).mono b1.size)))
  clear cY cM cD
  refine wp_region_quiet_below (by kernel_rfl) (by kernel_rfl) ?_
  repeat (quiet_step (first | (go_at_call_of 24 (Value.int IntKind.i64 y); exact qY _ _) | (go_at_call_of 24 (Value.int IntKind.i64 m); exact qM _ _) | (go_at_call_of 24 (Value.int IntKind.i64 d); exact qD _ _)))
  refine wpQuiet_nil ?_
  intro _ hw'
  obtain ⟨⟨dq, osq⟩, hw''⟩ := hw'
  subst hw''
  go_wp2
  go_ret
  exact ⟨ret_s fin.out, b1.trans ((below_regrown w1 dq osq).mono b1.size)⟩
end Go.Proofs.YtagaoalafmdnbaaDoor.Dt
