/- The laws of layer 5: LexJoins. -/
import Derived.Test.YtcigholifpmdjaaL05
import Derived.Test.YtcigholifpmdjaaLexJ
namespace Go.Proofs.Ytcigholifpmdjaa.L05
open Go.RowKit Go.Sort P R4 R5

theorem join_list (a b : ByteArray) : (a ++ ⟨#[10]⟩ ++ b).data.toList = a.data.toList ++ 10 :: b.data.toList := by simp
/-- Of three texts' tokens. -/
structure Joins (xs ys zs : List Tok) (m u : Nat) : Prop where
  lx : xs.length = m + 1
  lz : zs.length = m + ys.length
  last : ∃ v, xs[m]? = some ⟨0, [], u, v⟩
  same : ∀ j, j < m → ∃ t, xs[j]? = some t ∧ zs[j]? = some t
  down : ∀ j, j < ys.length → ∃ t, ys[j]? = some t ∧ zs[m + j]? = some (down u t)
theorem joins_of (init ys : List Tok) (u v : Nat) : Joins (init ++ [⟨0, [], u, v⟩]) ys (init ++ ys.map (P.down u)) init.length u := by
  refine ⟨by simp, by simp, ⟨v, by simp⟩, fun j hj => ⟨init[j], by rw [List.getElem?_append_left hj, List.getElem?_eq_getElem hj], by rw [List.getElem?_append_left hj, List.getElem?_eq_getElem hj]⟩, fun j hj => ⟨ys[j], List.getElem?_eq_getElem hj, ?_⟩⟩
  rw [List.getElem?_append_right (by omega), show init.length + j - init.length = j by omega, List.getElem?_map, List.getElem?_eq_getElem hj]
  rfl
theorem D_lex {K : World → Prop} (D : Lx K) (s : ByteArray) {l : List UInt8} (hl : s.data.toList = l) {ts : List Tok} {e p q : Nat} (h : lexed l = (ts, e, p, q)) (W : World) (k : K W) :
    Calls Try.prog 7 #[.string s] W fun e' w' => ∃ v, e' = .returned (.tuple #[v, .agg #[.int .i64 e, .int .i64 p, .int .i64 q]]) ∧ Holds w' v ts ∧ Below W.heap.size W w' := by
  have := D.lex s W k
  rw [hl, h] at this
  exact this
theorem D_lexN {K : World → Prop} (D : Lx K) (s : ByteArray) {l : List UInt8} (hl : s.data.toList = l) {ts : List Tok} {N : Nat} (h : lexed l = (ts, 0, 0, 0)) (hN : ts.length = N) (W : World) (k : K W) :
    Calls Try.prog 7 #[.string s] W fun e' w' => ∃ ao cap, e' = .returned (.tuple #[.slice ao N cap, .agg #[.int .i64 0, .int .i64 0, .int .i64 0]]) ∧ Form w' ao ts ∧ Below W.heap.size W w' :=
  (D_lex D s hl h W k).mono fun _ _ ⟨v, h1, ⟨ao, cap, h2, h3⟩, h4⟩ => ⟨ao, cap, by rw [h1, h2, hN]; rfl, h3, h4⟩
set_option maxHeartbeats 4000000 in
set_option maxRecDepth 100000 in
theorem joins_walk {K : World → Prop} (D : Lx K) (a b : ByteArray) (w : World) (k : K w) : Calls Try.prog 4 #[.string a, .string b] w fun e w' => e = .returned (.bool true) ∧ Below w.heap.size w w' := by
  have cA := alive_any D w k
  by_cases hs : (4096 : Int) < (a.size : Int) ∨ (4096 : Int) ≤ (b.size : Int)
  · have hs2 : (4096 : Int) < (a.size : Int) ∨ (¬ (4096 : Int) < (a.size : Int) ∧ (4096 : Int) ≤ (b.size : Int)) := by omega
    clear hs
    go_enter Try.func4, Try.ntmps4
    rcases hs2 with h | ⟨h, h2⟩
    all_goals
      go_wp2_with (go_at_call 6; refine cA.mono ?_; rintro e w1 ⟨rfl, b1⟩)
      go_ret
      exact ⟨rfl, b1⟩
  · have h1 : (a.size : Int) ≤ 4096 := by omega
    have h2 : (b.size : Int) < 4096 := by omega
    clear hs
    obtain ⟨AB, hAB⟩ : ∃ AB, AB = a ++ ⟨#[10]⟩ ++ b := ⟨_, rfl⟩
    have hl : AB.data.toList = a.data.toList ++ 10 :: b.data.toList := by rw [hAB]; exact join_list a b
    have za : a.data.toList.length = a.size := by simp
    have zb : b.data.toList.length = b.size := by simp
    have cO : ∀ (x y z : ByteArray), a ++ ⟨#[10]⟩ ++ b = AB := fun _ _ _ => hAB.symm
    rcases lexed_joins a.data.toList b.data.toList (by omega) (by omega) with ⟨p, q, e1, e2⟩ | ⟨init, u, v, e1, hu, ⟨p, q, e2, e3, hpb⟩ | ⟨ys, e2, e3, hyb⟩⟩
    · have cX := D_lex D a rfl e1
      have cY := D.lex b
      have cZ := D_lex D AB hl e2
      unfold flt at cY
      obtain ⟨E', hE'⟩ : ∃ E : Int, E = ((lexed b.data.toList).2.1 : Int) := ⟨_, rfl⟩
      obtain ⟨L', hL'⟩ : ∃ L : Int, L = ((lexed b.data.toList).2.2.1 : Int) := ⟨_, rfl⟩
      obtain ⟨C', hC'⟩ : ∃ C : Int, C = ((lexed b.data.toList).2.2.2 : Int) := ⟨_, rfl⟩
      obtain ⟨ty, hty⟩ : ∃ ty, ty = (lexed b.data.toList).1 := ⟨_, rfl⟩
      simp only [← hE', ← hL', ← hC', ← hty] at cY
      rw [hAB] at cZ
      clear hE' hL' hC' hty e1 e2 hl za zb hAB cO
      go_enter Try.func4, Try.ntmps4
      go_wp2_with (first
        | (go_at_call 6; refine cA.mono ?_; rintro e w1 ⟨rfl, b1⟩; have k1 := D.keep k b1)
        | (go_at_call_of 7 (Value.string a); refine (cX _ k1).mono ?_; rintro e w2 ⟨vx, rfl, hX, b2⟩; obtain ⟨aox, capx, rfl, fX⟩ := hX; have B2 := below_on b1 b2; have Y2 := (Below.refl w2.heap.size w2).alloc (Nat.le_refl _) (.cells #[.int .i64 3, .int .i64 p, .int .i64 q] 26); have k2 := D.keep k (below_on B2 Y2))
        | (go_at_call_of 7 (Value.string b); refine (cY _ k2).mono ?_; rintro e w3 ⟨vy, rfl, hY, b3⟩; obtain ⟨aoy, capy, rfl, fY⟩ := hY; have M3 := Lies3.later b3 rfl; have B3 := below_on B2 (box3 b3).2.2.2.2; have Y3 := (Below.refl w3.heap.size w3).alloc (Nat.le_refl _) (.cells #[.int .i64 E', .int .i64 L', .int .i64 C'] 26); have k3 := D.keep k (below_on B3 Y3))
        | (go_at_call 7; refine (cZ _ k3).mono ?_; rintro e w4 ⟨vz, rfl, hZ, b4⟩; obtain ⟨aoz, capz, rfl, fZ⟩ := hZ; have M4 := Lies3.later b4 rfl; have N4 := (M3.alloc _).on b4; have B4 := below_on B3 (box3 b4).2.2.2.2; obtain ⟨ml, m0, m1, m2, _, _, _⟩ := M4; obtain ⟨nl, n0, n1, n2, _, _, _⟩ := N4))
      go_ret
      exact ⟨rfl, B4.alloc B4.size _⟩
    · have cX := D_lex D a rfl e1
      have cY := D_lex D b rfl e2
      have cZ := D_lex D AB hl e3
      obtain ⟨U, hU⟩ : ∃ U : Int, U = (u : Int) := ⟨_, rfl⟩
      obtain ⟨P, hP⟩ : ∃ P : Int, P = (p : Int) := ⟨_, rfl⟩
      obtain ⟨Q, hQ⟩ : ∃ Q : Int, Q = (q : Int) := ⟨_, rfl⟩
      have hPU : ((p + u : Nat) : Int) = P + U := by omega
      have U1 : 0 ≤ U ∧ U ≤ 4097 := by omega
      have P1 : 0 ≤ P ∧ P ≤ 4097 := by omega
      obtain ⟨U0, U1⟩ := U1
      obtain ⟨P0, P1⟩ := P1
      simp only [hPU, ← hQ] at cZ
      simp only [← hP, ← hQ] at cY
      rw [hAB] at cZ
      have lieX : ∀ W bb oo, LieAt W bb oo (init ++ [⟨0, [], u, v⟩]) → W.cell? ⟨bb, oo + init.length * 4 + 2, none⟩ = some (.int .i64 U) := fun W bb oo h => by
        rw [hU]
        exact (h.2 init.length ⟨0, [], u, v⟩ (by simp)).2.2.1
      have nX : (init ++ [(⟨0, [], u, v⟩ : Tok)]).length = init.length + 1 := by simp
      obtain ⟨xs, hxs⟩ : ∃ xs, xs = init ++ [(⟨0, [], u, v⟩ : Tok)] := ⟨_, rfl⟩
      have neX : xs ≠ [] := by rw [hxs]; simp
      rw [← hxs] at nX
      simp only [← hxs] at cX lieX
      obtain ⟨m, hm⟩ : ∃ m, m = init.length := ⟨_, rfl⟩
      simp only [← hm] at nX lieX
      have mb : (m : Int) ≤ 8192 := by
        have := lexed_count a.data.toList
        rw [e1] at this
        simp only [List.length_append, List.length_singleton, ← hm] at this
        omega
      clear e1 e2 e3 hl za zb hAB cO hU hP hQ hPU hxs hm
      go_enter Try.func4, Try.ntmps4
      go_wp2_with (first
        | (go_at_call 6; refine cA.mono ?_; rintro e w1 ⟨rfl, b1⟩; have k1 := D.keep k b1)
        | (go_at_call_of 7 (Value.string a); refine (cX _ k1).mono ?_; rintro e w2 ⟨vx, rfl, hX, b2⟩; obtain ⟨aox, capx, rfl, fX⟩ := hX; obtain ⟨bx, ox, rfl, gX⟩ := fX neX; rw [nX]; have B2 := below_on b1 b2; have Y2 := (Below.refl w2.heap.size w2).alloc (Nat.le_refl _) (.cells #[.int .i64 0, .int .i64 0, .int .i64 0] 26); have k2 := D.keep k (below_on B2 Y2))
        | (go_at_call_of 7 (Value.string b); refine (cY _ k2).mono ?_; rintro e w3 ⟨vy, rfl, hY, b3⟩; obtain ⟨aoy, capy, rfl, fY⟩ := hY; have M3 := Lies3.later b3 rfl; have fX3 := gX.later b3; have B3 := below_on B2 (box3 b3).2.2.2.2; have Y3 := (Below.refl w3.heap.size w3).alloc (Nat.le_refl _) (.cells #[.int .i64 3, .int .i64 P, .int .i64 Q] 26); have k3 := D.keep k (below_on B3 Y3); clear fX gX)
        | (go_at_call 7; refine (cZ _ k3).mono ?_; rintro e w4 ⟨vz, rfl, hZ, b4⟩; obtain ⟨aoz, capz, rfl, fZ⟩ := hZ; have M4 := Lies3.later b4 rfl; have N4 := (M3.alloc _).on b4; have B4 := below_on B3 (box3 b4).2.2.2.2; have fX4 := fX3.later b4; obtain ⟨ml, m0, m1, m2, _, _, _⟩ := M4; obtain ⟨nl, n0, n1, n2, _, _, _⟩ := N4; have xc := lieX _ _ _ fX4; have xlt := fX4.1; clear fX3 fX4))
      obtain ⟨w5, hw5⟩ : ∃ w5, w5 = w4.alloc (.cells #[.int .i64 3, .int .i64 (P + U), .int .i64 Q] 26) := ⟨_, rfl⟩
      rw [← hw5]
      have bw : Below w4.heap.size w4 w5 := by rw [hw5]; exact (Below.refl _ _).alloc (Nat.le_refl _) _
      have B5 := below_on B4 bw
      have g0 := cell_regrown ((bw.cell (p := ⟨w3.heap.size, _, none⟩) ml).trans m0)
      have g1 := cell_regrown ((bw.cell (p := ⟨w3.heap.size, _, none⟩) ml).trans m1)
      have g2 := cell_regrown ((bw.cell (p := ⟨w3.heap.size, _, none⟩) ml).trans m2)
      have gx := cell_regrown ((bw.cell (p := ⟨bx, _, none⟩) xlt).trans xc)
      have j0 := cell_regrown (show w5.cell? ⟨w4.heap.size, 0, none⟩ = some (.int .i64 3) by rw [hw5, World.cell?_alloc_new]; rfl)
      have j1 := cell_regrown (show w5.cell? ⟨w4.heap.size, 1, none⟩ = some (.int .i64 (P + U)) by rw [hw5, World.cell?_alloc_new]; rfl)
      have j2 := cell_regrown (show w5.cell? ⟨w4.heap.size, 2, none⟩ = some (.int .i64 Q) by rw [hw5, World.cell?_alloc_new]; rfl)
      clear m0 m1 m2 n0 n1 n2 xc hw5 cX cY cZ cA lieX
      refine wp_region_quiet_below (by kernel_rfl) (by kernel_rfl) ?_
      repeat (go_big_quiet_step (fail))
      refine wpQuiet_nil ?_
      intro _ hw'
      obtain ⟨⟨dq, osq⟩, hw''⟩ := hw'
      subst hw''
      go_wp2
      go_ret
      exact ⟨ret_b (by simp), below_on B5 (below_regrown w5 dq osq)⟩
    · have J := joins_of init ys u v
      have mb : (init.length : Int) ≤ 8192 := by
        have := lexed_count a.data.toList
        rw [e1] at this
        simp only [List.length_append, List.length_singleton] at this
        omega
      have nb : (ys.length : Int) ≤ 8193 := by
        have := lexed_count b.data.toList
        rw [e2] at this
        simp only at this
        omega
      obtain ⟨xs, hxs⟩ : ∃ xs, xs = init ++ [(⟨0, [], u, v⟩ : Tok)] := ⟨_, rfl⟩
      obtain ⟨zs, hzs⟩ : ∃ zs, zs = init ++ ys.map (P.down u) := ⟨_, rfl⟩
      rw [← hxs] at e1
      rw [← hzs] at e3
      rw [← hxs, ← hzs] at J
      clear hxs hzs
      obtain ⟨m, hm⟩ : ∃ m, m = init.length := ⟨_, rfl⟩
      obtain ⟨n, hn⟩ : ∃ n, n = ys.length := ⟨_, rfl⟩
      rw [← hm] at J mb
      rw [← hn] at nb
      have cX := D_lexN D a rfl e1 J.lx
      have cY := D_lexN D b rfl e2 hn.symm
      have cZ := D_lexN D AB hl e3 (show zs.length = m + n by rw [J.lz, hn])
      rw [hAB] at cZ
      obtain ⟨U, hU⟩ : ∃ U : Int, U = (u : Int) := ⟨_, rfl⟩
      have U1 : 0 ≤ U ∧ U ≤ 4097 := by omega
      obtain ⟨U0, U1⟩ := U1
      have lieX : ∀ W bb oo, LieAt W bb oo xs → W.cell? ⟨bb, oo + m * 4 + 2, none⟩ = some (.int .i64 U) := fun W bb oo h => by
        obtain ⟨v, hv⟩ := J.last
        rw [hU]
        exact (h.2 m _ hv).2.2.1
      have neX : xs ≠ [] := fun h => by have := J.lx; rw [h] at this; cases this
      have HJ := hid J
      have HN := hid hn
      have HY := hid hyb
      have HU := hid hU
      clear e1 e2 e3 hl za zb hAB cO hm hn J hyb hU
      go_enter Try.func4, Try.ntmps4
      go_wp2_with (first
        | (go_at_call 6; refine cA.mono ?_; rintro e w1 ⟨rfl, b1⟩; have k1 := D.keep k b1)
        | (go_at_call_of 7 (Value.string a); refine (cX _ k1).mono ?_; rintro e w2 ⟨aox, capx, rfl, fX, b2⟩; obtain ⟨bx, ox, rfl, gX⟩ := fX neX; have B2 := below_on b1 b2; have Y2 := (Below.refl w2.heap.size w2).alloc (Nat.le_refl _) (.cells #[.int .i64 0, .int .i64 0, .int .i64 0] 26); have k2 := D.keep k (below_on B2 Y2))
        | (go_at_call_of 7 (Value.string b); refine (cY _ k2).mono ?_; rintro e w3 ⟨aoy, capy, rfl, fY, b3⟩; have M3 := Lies3.later b3 rfl; have fX3 := gX.later b3; have B3 := below_on B2 (box3 b3).2.2.2.2; have Y3 := (Below.refl w3.heap.size w3).alloc (Nat.le_refl _) (.cells #[.int .i64 0, .int .i64 0, .int .i64 0] 26); have k3 := D.keep k (below_on B3 Y3); clear fX gX)
        | (go_at_call 7; refine (cZ _ k3).mono ?_; rintro e w4 ⟨aoz, capz, rfl, fZ, b4⟩; have M4 := Lies3.later b4 rfl; have N4 := (M3.alloc _).on b4; have B4 := below_on B3 (box3 b4).2.2.2.2; have fX4 := fX3.later b4; have fY4 := fY.later b4; obtain ⟨ml, m0, m1, m2, _, _, _⟩ := M4; obtain ⟨nl, n0, n1, n2, _, _, _⟩ := N4; have xc := lieX _ _ _ fX4; have xlt := fX4.1; have hX := hid (fX4.alloc (.cells #[.int .i64 0, .int .i64 0, .int .i64 0] 26)); have hY := hid (fY4.alloc (.cells #[.int .i64 0, .int .i64 0, .int .i64 0] 26)); have hZ := hid (fZ.alloc (.cells #[.int .i64 0, .int .i64 0, .int .i64 0] 26)); clear fX3 fX4 fY fY4 fZ))
      go_loopw [112] (fun i wr => ∃ i' : Int, i = .int .i64 i' ∧ 0 ≤ i' ∧ i' ≤ (m : Int) + n ∧ Hid (LieAt wr bx ox xs ∧ Form wr aoy ys ∧ Form wr aoz zs ∧ Below w.heap.size w wr)) (fun i _ => ((m : Int) + n - intOf i).toNat)
      case atStart => exact ⟨0, rfl, by omega, by omega, hid ⟨hX.out, hY.out, hZ.out, B4.alloc B4.size _⟩⟩
      case round =>
        obtain ⟨i', rfl, i0, i1, hst⟩ := hrel
        by_cases hlt : i' < (m : Int) + n
        · obtain ⟨h2, h3, h4, hB⟩ := hst.out
          have hzl : zs.length = m + n := by rw [HJ.out.lz, HN.out]
          have hil : i'.toNat < zs.length := by omega
          obtain ⟨bz, oz, rfl, hLz⟩ := h4 (fun h => by rw [h] at hil; cases hil)
          by_cases him : i' < m
          · obtain ⟨t, tx, tz⟩ := HJ.out.same i'.toNat (by omega)
            obtain ⟨a0, a1, a2, a3⟩ := hLz.2 _ _ tz
            obtain ⟨e0, e1, e2, e3⟩ := h2.2 _ _ tx
            have lbz := hLz.1
            have lbx := h2.1
            obtain ⟨tk, htk⟩ : ∃ z : Int, z = (t.k : Int) := ⟨_, rfl⟩
            obtain ⟨tl, htl⟩ : ∃ z : Int, z = (t.ln : Int) := ⟨_, rfl⟩
            obtain ⟨tc, htc⟩ : ∃ z : Int, z = (t.cl : Int) := ⟨_, rfl⟩
            obtain ⟨T, hT⟩ : ∃ T : ByteArray, T = ⟨t.t.toArray⟩ := ⟨_, rfl⟩
            rw [← htk] at a0 e0
            rw [← hT] at a1 e1
            rw [← htl] at a2 e2
            rw [← htc] at a3 e3
            have H2 := hid h2
            have H3 := hid h3
            have H4 := hid hLz
            clear htk htl htc hT tx tz h2 h3 h4 hLz hst hzl hil cX cY cZ cA lieX
            go_wp2
            obtain ⟨w5, hw5⟩ : ∃ w5, w5 = wr.alloc (.cells #[.int .i64 tk, .string T, .int .i64 tl, .int .i64 tc] 36) := ⟨_, rfl⟩
            rw [← hw5]
            have bw : Below wr.heap.size wr w5 := by rw [hw5]; exact (Below.refl _ _).alloc (Nat.le_refl _) _
            have hB1 := below_on hB bw
            have q0 := cell_regrown ((bw.cell (p := ⟨bx, _, none⟩) lbx).trans e0)
            have q1 := cell_regrown ((bw.cell (p := ⟨bx, _, none⟩) lbx).trans e1)
            have q2 := cell_regrown ((bw.cell (p := ⟨bx, _, none⟩) lbx).trans e2)
            have q3 := cell_regrown ((bw.cell (p := ⟨bx, _, none⟩) lbx).trans e3)
            have j0 := cell_regrown (show w5.cell? ⟨wr.heap.size, 0, none⟩ = some (.int .i64 tk) by rw [hw5, World.cell?_alloc_new]; rfl)
            have j1 := cell_regrown (show w5.cell? ⟨wr.heap.size, 1, none⟩ = some (.string T) by rw [hw5, World.cell?_alloc_new]; rfl)
            have j2 := cell_regrown (show w5.cell? ⟨wr.heap.size, 2, none⟩ = some (.int .i64 tl) by rw [hw5, World.cell?_alloc_new]; rfl)
            have j3 := cell_regrown (show w5.cell? ⟨wr.heap.size, 3, none⟩ = some (.int .i64 tc) by rw [hw5, World.cell?_alloc_new]; rfl)
            have fin : ∀ dq osq, Hid (LieAt (grow (redrawn w5 dq) osq) bx ox xs ∧ Form (grow (redrawn w5 dq) osq) aoy ys ∧ Form (grow (redrawn w5 dq) osq) (some ⟨bz, oz, none⟩) zs ∧ Below w.heap.size w (grow (redrawn w5 dq) osq)) := fun dq osq => hid
              ⟨(H2.out.on bw).on (below_regrown w5 dq osq), (H3.out.on bw).on (below_regrown w5 dq osq), fun _ => ⟨bz, oz, rfl, (H4.out.on bw).on (below_regrown w5 dq osq)⟩, below_on hB1 (below_regrown w5 dq osq)⟩
            clear a0 a1 a2 a3 e0 e1 e2 e3 hw5 hB bw hB1
            refine wp_region_quiet_below (by kernel_rfl) (by kernel_rfl) ?_
            repeat (go_big_quiet_step (fail))
            refine wpQuiet_nil ?_
            intro _ hw'
            obtain ⟨⟨dq, osq⟩, hw''⟩ := hw'
            subst hw''
            have hfin := fin dq osq
            clear fin
            go_wp2
            go_roundw
            case rel => exact ⟨i' + 1, rfl, by omega, by omega, hfin⟩
            case measure => simp [intOf]; omega
          · obtain ⟨d, hd⟩ : ∃ d : Int, i' - ((m : Int) + 1) + 1 = d := ⟨_, rfl⟩
            have d0 : 0 ≤ d := by omega
            have d1 : d < n := by omega
            have hyl : d.toNat < ys.length := by rw [← HN.out]; omega
            obtain ⟨t, ty, tz⟩ := HJ.out.down d.toNat hyl
            rw [show m + d.toNat = i'.toNat by omega] at tz
            obtain ⟨by0, oy, rfl, hLy⟩ := h3 (fun h => by rw [h] at hyl; cases hyl)
            obtain ⟨a0, a1, a2, a3⟩ := hLz.2 _ _ tz
            obtain ⟨e0, e1, e2, e3⟩ := hLy.2 _ _ ty
            have hln := HY.out t (List.mem_of_getElem? ty)
            have lbz := hLz.1
            have lby := hLy.1
            obtain ⟨tk, htk⟩ : ∃ z : Int, z = (t.k : Int) := ⟨_, rfl⟩
            obtain ⟨tl, htl⟩ : ∃ z : Int, z = (t.ln : Int) := ⟨_, rfl⟩
            obtain ⟨tc, htc⟩ : ∃ z : Int, z = (t.cl : Int) := ⟨_, rfl⟩
            obtain ⟨T, hT⟩ : ∃ T : ByteArray, T = ⟨t.t.toArray⟩ := ⟨_, rfl⟩
            have tl0 : 0 ≤ tl := by omega
            have tl1 : tl ≤ 4097 := by omega
            have hdl : (((P.down u t).ln : Nat) : Int) = tl + U := by
              show ((t.ln + u : Nat) : Int) = _
              rw [HU.out]; omega
            rw [hdl] at a2
            rw [show (((P.down u t).k : Nat) : Int) = tk from htk.symm] at a0
            rw [show (((P.down u t).cl : Nat) : Int) = tc from htc.symm] at a3
            rw [show (⟨(P.down u t).t.toArray⟩ : ByteArray) = T from hT.symm] at a1
            rw [← htk] at e0
            rw [← hT] at e1
            rw [← htl] at e2
            rw [← htc] at e3
            have H2 := hid h2
            have H3 := hid hLy
            have H4 := hid hLz
            have HB := hid hB
            clear htk htl htc hT ty tz h2 h3 h4 hLz hLy hB hst hzl hil hyl hln hdl cX cY cZ cA lieX
            go_wp2
            go_roundw
            case rel => exact ⟨i' + 1, rfl, by omega, by omega, hid ⟨(H2.out.alloc _).alloc _, fun _ => ⟨by0, oy, rfl, (H3.out.alloc _).alloc _⟩, fun _ => ⟨bz, oz, rfl, (H4.out.alloc _).alloc _⟩, (HB.out.alloc HB.out.size _).alloc (HB.out.alloc HB.out.size _).size _⟩⟩
            case measure => simp [intOf]; omega
        · obtain rfl : i' = (m : Int) + n := by omega
          go_wp2
          go_ret
          exact ⟨rfl, hst.out.2.2.2⟩
end Go.Proofs.Ytcigholifpmdjaa.L05
