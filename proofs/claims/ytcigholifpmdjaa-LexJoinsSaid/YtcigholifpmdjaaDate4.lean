/- What package date does: Parse. -/
import Derived.Test.YtcigholifpmdjaaDate3
import Derived.Test.YtcigholifpmdjaaMem
namespace Go.Proofs.Ytcigholifpmdjaa.Dt
open Go.RowKit Go.Sort P

theorem parse_bad (s : ByteArray) (w : World)
    (hp : ∀ W, Calls Try.prog 33 #[.string s] W fun e w' => e = .returned (.tuple #[.agg #[.string ⟨#[]⟩, .string ⟨#[]⟩, .string ⟨#[]⟩], .bool false]) ∧ Below W.heap.size W w') :
    Calls Try.prog 29 #[.string s] w fun e w' => e = .returned (.tuple #[dv 0 0 0, .bool false]) ∧ Below w.heap.size w w' := by
  go_enter Try.func29, Try.ntmps29
  go_wp2_with (go_at_call 33; refine (hp _).mono ?_; rintro e w1 ⟨rfl, b1⟩; have M := Lies3.later b1 rfl; obtain ⟨l, c0, c1, c2, f0, f1, f2⟩ := M; have bw := (box3 b1).2.2.2.2; clear b1)
  exact bodyPost_ret (v := .tuple #[.agg #[.int .i64 0, .int .i64 0, .int .i64 0], .bool false]) (by simp [results, Try.results29, go_sem, *]) rfl
    ⟨rfl, (((bw.setCell (Nat.le_refl _) _).setCell (Nat.le_refl _) _).setCell (Nat.le_refl _) _).alloc (by simp; omega) _⟩
theorem ix0 (T0 T1 T2 : ByteArray) (W : World) : (Instr.index 54 (.agg #[.string T0, .string T1, .string T2]) (.int .i64 0)).run Try.prog W = .ok (.string T0) W := by kernel_rfl
theorem ix1 (T0 T1 T2 : ByteArray) (W : World) : (Instr.index 54 (.agg #[.string T0, .string T1, .string T2]) (.int .i64 1)).run Try.prog W = .ok (.string T1) W := by kernel_rfl
theorem ix2 (T0 T1 T2 : ByteArray) (W : World) : (Instr.index 54 (.agg #[.string T0, .string T1, .string T2]) (.int .i64 2)).run Try.prog W = .ok (.string T2) W := by kernel_rfl
theorem parse_walk (s T0 T1 T2 : ByteArray) (n0 n1 n2 : Int) (d0 d1 d2 : Bool) (G : Ending) (w : World)
    (hp : ∀ W, Calls Try.prog 33 #[.string s] W fun e w' => e = .returned (.tuple #[.agg #[.string T0, .string T1, .string T2], .bool true]) ∧ Below W.heap.size W w')
    (cn0 : ∀ W, Calls Try.prog 34 #[.string T0] W fun e w' => e = .returned (.tuple #[.int .i64 n0, .bool d0]) ∧ Below W.heap.size W w')
    (cn1 : ∀ W, Calls Try.prog 34 #[.string T1] W fun e w' => e = .returned (.tuple #[.int .i64 n1, .bool d1]) ∧ Below W.heap.size W w')
    (cn2 : ∀ W, Calls Try.prog 34 #[.string T2] W fun e w' => e = .returned (.tuple #[.int .i64 n2, .bool d2]) ∧ Below W.heap.size W w')
    (hN : Hid ((d0 && d1 && d2 && good n0 n1 n2) = false → .returned (.tuple #[dv 0 0 0, .bool false]) = G))
    (hY : Hid ((d0 && d1 && d2 && good n0 n1 n2) = true → .returned (.tuple #[dv n0 n1 n2, .bool true]) = G)) :
    Calls Try.prog 29 #[.string s] w fun e w' => e = G ∧ Below w.heap.size w w' := by
  have i0 := ix0 T0 T1 T2
  have i1 := ix1 T0 T1 T2
  have i2 := ix2 T0 T1 T2
  go_enter Try.func29, Try.ntmps29
  go_wp2_with (go_at_call 33; refine (hp _).mono ?_; rintro e w1 ⟨rfl, b1⟩; have M := Lies3.later b1 rfl; obtain ⟨l, c0, c1, c2, f0, f1, f2⟩ := M; have bw := (box3 b1).2.2.2.2; clear b1)
  have hbig : w.heap.size ≠ w1.heap.size + 1 := by omega
  have hbig' : w1.heap.size + 1 ≠ w.heap.size := by omega
  go_loopw [19] (fun i wr => ∃ i' x0 x1 x2 : Int, i = .int .i64 i' ∧ 0 ≤ i' ∧ i' ≤ 3 ∧ Lies3 wr w.heap.size (.int .i64 0) (.int .i64 0) (.int .i64 0) ∧
    Lies3 wr (w1.heap.size + 1) (.int .i64 x0) (.int .i64 x1) (.int .i64 x2) ∧ Below w.heap.size w wr ∧ (0 < i' → x0 = n0 ∧ d0 = true) ∧ (1 < i' → x1 = n1 ∧ d1 = true) ∧ (2 < i' → x2 = n2 ∧ d2 = true)) (fun i _ => (3 - intOf i).toNat)
  case atStart =>
    refine ⟨0, 0, 0, 0, rfl, by omega, by omega, ?_, ?_, ?_, by omega, by omega, by omega⟩
    · exact (Lies3.mk l c0 c1 c2 f0 f1 f2).alloc _ |>.alloc _
    · exact Lies3.new (by simp)
    · exact (bw.alloc (Nat.le_of_lt l) _).alloc (by simp; omega) _
  case round =>
    obtain ⟨i', x0, x1, x2, rfl, hi0, hi3, LA, LB, hbw, e0, e1, e2⟩ := hrel
    have hi : i' = 0 ∨ i' = 1 ∨ i' = 2 ∨ i' = 3 := by omega
    clear c0 c1 c2 f0 f1 f2
    rcases hi with rfl | rfl | rfl | rfl
    · clear e0 e1 e2
      cases d0
      · have hG := hid (hN.out (by simp))
        clear hN hY
        go_wp2_with (go_at_call 34; refine (cn0 _).mono ?_; rintro e w2 ⟨rfl, b2⟩; have LA2 := LA.on b2; have LB2 := LB.on b2; have bw2 := hbw.trans (b2.mono hbw.size); obtain ⟨l2, c0, c1, c2, f0, f1, f2⟩ := LA2; obtain ⟨l3, c0', c1', c2', f0', f1', f2'⟩ := LB2; clear LA LB hbw b2)
        exact bodyPost_ret (v := .tuple #[.agg #[.int .i64 0, .int .i64 0, .int .i64 0], .bool false]) (by simp [results, Try.results29, go_sem, *]) rfl
          ⟨hG.out, (((bw2.setCell (by simp; omega) _).setCell (Nat.le_refl _) _).setCell (Nat.le_refl _) _).setCell (Nat.le_refl _) _⟩
      · go_wp2_with (go_at_call 34; refine (cn0 _).mono ?_; rintro e w2 ⟨rfl, b2⟩; have LA2 := LA.on b2; have LB2 := LB.on b2; have bw2 := hbw.trans (b2.mono hbw.size); obtain ⟨l2, c0, c1, c2, f0, f1, f2⟩ := LA2; obtain ⟨l3, c0', c1', c2', f0', f1', f2'⟩ := LB2; clear LA LB hbw b2)
        have LA3 := (Lies3.mk l2 c0 c1 c2 f0 f1 f2).other (j := w1.heap.size + 1) (o := 0) hbig (.int .i64 n0)
        have LB3 := (Lies3.mk l3 c0' c1' c2' f0' f1' f2').set0 (.int .i64 n0)
        have bw3 := bw2.setCell (p := ⟨w1.heap.size + 1, 0, none⟩) (by show w.heap.size ≤ w1.heap.size + 1; omega) (.int .i64 n0)
        clear c0 c1 c2 f0 f1 f2 c0' c1' c2' f0' f1' f2'
        go_roundw
        case rel => exact ⟨1, n0, x1, x2, rfl, by omega, by omega, LA3, LB3, bw3, by simp, by omega, by omega⟩
        case measure => simp [intOf]
    · obtain ⟨rfl, rfl⟩ := e0 (by omega)
      clear e0 e1 e2
      cases d1
      · have hG := hid (hN.out (by simp))
        clear hN hY
        go_wp2_with (go_at_call 34; refine (cn1 _).mono ?_; rintro e w2 ⟨rfl, b2⟩; have LA2 := LA.on b2; have LB2 := LB.on b2; have bw2 := hbw.trans (b2.mono hbw.size); obtain ⟨l2, c0, c1, c2, f0, f1, f2⟩ := LA2; obtain ⟨l3, c0', c1', c2', f0', f1', f2'⟩ := LB2; clear LA LB hbw b2)
        exact bodyPost_ret (v := .tuple #[.agg #[.int .i64 0, .int .i64 0, .int .i64 0], .bool false]) (by simp [results, Try.results29, go_sem, *]) rfl
          ⟨hG.out, (((bw2.setCell (by simp; omega) _).setCell (Nat.le_refl _) _).setCell (Nat.le_refl _) _).setCell (Nat.le_refl _) _⟩
      · go_wp2_with (go_at_call 34; refine (cn1 _).mono ?_; rintro e w2 ⟨rfl, b2⟩; have LA2 := LA.on b2; have LB2 := LB.on b2; have bw2 := hbw.trans (b2.mono hbw.size); obtain ⟨l2, c0, c1, c2, f0, f1, f2⟩ := LA2; obtain ⟨l3, c0', c1', c2', f0', f1', f2'⟩ := LB2; clear LA LB hbw b2)
        have LA3 := (Lies3.mk l2 c0 c1 c2 f0 f1 f2).other (j := w1.heap.size + 1) (o := 1) hbig (.int .i64 n1)
        have LB3 := (Lies3.mk l3 c0' c1' c2' f0' f1' f2').set1 (.int .i64 n1)
        have bw3 := bw2.setCell (p := ⟨w1.heap.size + 1, 1, none⟩) (by show w.heap.size ≤ w1.heap.size + 1; omega) (.int .i64 n1)
        clear c0 c1 c2 f0 f1 f2 c0' c1' c2' f0' f1' f2'
        go_roundw
        case rel => exact ⟨2, _, n1, x2, rfl, by omega, by omega, LA3, LB3, bw3, by simp, by simp, by omega⟩
        case measure => simp [intOf]
    · obtain ⟨rfl, rfl⟩ := e0 (by omega)
      obtain ⟨rfl, rfl⟩ := e1 (by omega)
      clear e0 e1 e2
      cases d2
      · have hG := hid (hN.out (by simp))
        clear hN hY
        go_wp2_with (go_at_call 34; refine (cn2 _).mono ?_; rintro e w2 ⟨rfl, b2⟩; have LA2 := LA.on b2; have LB2 := LB.on b2; have bw2 := hbw.trans (b2.mono hbw.size); obtain ⟨l2, c0, c1, c2, f0, f1, f2⟩ := LA2; obtain ⟨l3, c0', c1', c2', f0', f1', f2'⟩ := LB2; clear LA LB hbw b2)
        exact bodyPost_ret (v := .tuple #[.agg #[.int .i64 0, .int .i64 0, .int .i64 0], .bool false]) (by simp [results, Try.results29, go_sem, *]) rfl
          ⟨hG.out, (((bw2.setCell (by simp; omega) _).setCell (Nat.le_refl _) _).setCell (Nat.le_refl _) _).setCell (Nat.le_refl _) _⟩
      · go_wp2_with (go_at_call 34; refine (cn2 _).mono ?_; rintro e w2 ⟨rfl, b2⟩; have LA2 := LA.on b2; have LB2 := LB.on b2; have bw2 := hbw.trans (b2.mono hbw.size); obtain ⟨l2, c0, c1, c2, f0, f1, f2⟩ := LA2; obtain ⟨l3, c0', c1', c2', f0', f1', f2'⟩ := LB2; clear LA LB hbw b2)
        have LA3 := (Lies3.mk l2 c0 c1 c2 f0 f1 f2).other (j := w1.heap.size + 1) (o := 2) hbig (.int .i64 n2)
        have LB3 := (Lies3.mk l3 c0' c1' c2' f0' f1' f2').set2 (.int .i64 n2)
        have bw3 := bw2.setCell (p := ⟨w1.heap.size + 1, 2, none⟩) (by show w.heap.size ≤ w1.heap.size + 1; omega) (.int .i64 n2)
        clear c0 c1 c2 f0 f1 f2 c0' c1' c2' f0' f1' f2'
        go_roundw
        case rel => exact ⟨3, _, _, n2, rfl, by omega, by omega, LA3, LB3, bw3, by simp, by simp, by simp⟩
        case measure => simp [intOf]
    · obtain ⟨rfl, rfl⟩ := e0 (by omega)
      obtain ⟨rfl, rfl⟩ := e1 (by omega)
      obtain ⟨rfl, rfl⟩ := e2 (by omega)
      have cG : ∀ W, Calls Try.prog 35 #[.agg #[.int .i64 x0, .int .i64 x1, .int .i64 x2]] W fun e w' => e = .returned (.bool (good x0 x1 x2)) ∧ Below W.heap.size W w' := fun W => good_any x0 x1 x2 W
      obtain ⟨l3, c0', c1', c2', f0', f1', f2'⟩ := LB
      have LA1 := fun o => LA.alloc o
      cases hg : good x0 x1 x2
      · rw [hg] at cG hN
        have hG := hid (hN.out (by simp))
        clear hN hY e0 e1 e2 hg
        go_wp2_with (go_at_call 35; refine (cG _).mono ?_; rintro e w2 ⟨rfl, b2⟩; have LA2 := (LA1 _).on b2; have bw2 := hbw.trans ((box3 b2).2.2.2.2.mono hbw.size); obtain ⟨l2, c0, c1, c2, f0, f1, f2⟩ := LA2; clear LA LA1 hbw b2)
        exact bodyPost_ret (v := .tuple #[.agg #[.int .i64 0, .int .i64 0, .int .i64 0], .bool false]) (by simp [results, Try.results29, go_sem, *]) rfl
          ⟨hG.out, ((bw2.setCell (Nat.le_refl _) _).setCell (Nat.le_refl _) _).setCell (Nat.le_refl _) _⟩
      · rw [hg] at cG hY
        have hG := hid (hY.out (by simp))
        clear hN hY e0 e1 e2 hg
        go_wp2_with (go_at_call 35; refine (cG _).mono ?_; rintro e w2 ⟨rfl, b2⟩; have LA2 := (LA1 _).on b2; have LC := Lies3.later b2 rfl; have bw2 := hbw.trans ((box3 b2).2.2.2.2.mono hbw.size); obtain ⟨l2, c0, c1, c2, f0, f1, f2⟩ := LA2; obtain ⟨l4, k0, k1, k2, q0, q1, q2⟩ := LC; clear LA LA1 hbw b2)
        exact bodyPost_ret (v := .tuple #[.agg #[.int .i64 x0, .int .i64 x1, .int .i64 x2], .bool true]) (by simp [results, Try.results29, go_sem, *]) rfl
          ⟨hG.out, ((bw2.setCell (Nat.le_refl _) _).setCell (Nat.le_refl _) _).setCell (Nat.le_refl _) _⟩
end Go.Proofs.Ytcigholifpmdjaa.Dt
