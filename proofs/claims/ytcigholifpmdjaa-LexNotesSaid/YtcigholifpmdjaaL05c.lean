/- The laws of layer 5: LexNotes. -/
import Derived.Test.YtcigholifpmdjaaL05b
import Derived.Test.YtcigholifpmdjaaLexN
namespace Go.Proofs.Ytcigholifpmdjaa.L05
open Go.RowKit Go.Sort P R4 R5

theorem lexed_any (l : List UInt8) : (∃ e p q, lexed l = ([], e, p, q) ∧ (e = 3 ∨ e = 6)) ∨ (∃ ts, lexed l = (ts, 0, 0, 0)) := by
  unfold lexed
  split
  · exact .inl ⟨_, _, _, rfl, .inr rfl⟩
  · split
    · exact .inr ⟨_, rfl⟩
    · exact .inl ⟨_, _, _, rfl, .inl rfl⟩
theorem noted_snoc (note : List UInt8) (t : List UInt8) : ∀ (l : List (List UInt8)) (i : Nat), noted note i (l ++ [t]) = noted note i l ++ (t ++ behind note (i + l.length))
  | [], i => by simp [noted]
  | x :: r, i => by
    show x ++ (behind note i ++ noted note (i + 1) (r ++ [t])) = _
    rw [noted_snoc note t r (i + 1), show i + 1 + r.length = i + (x :: r).length by rw [List.length_cons]; omega]
    show _ = x ++ (behind note i ++ noted note (i + 1) r) ++ _
    simp
theorem noted_take {note : List UInt8} {ts : List Tok} {j : Nat} {t : Tok} (h : ts[j]? = some t) :
    noted note 0 ((ts.map fun t => t.t).take (j + 1)) = noted note 0 ((ts.map fun t => t.t).take j) ++ (t.t ++ behind note j) := by
  have hj : j < (ts.map fun t => t.t).length := by rw [List.length_map]; exact (List.getElem?_eq_some_iff.1 h).1
  have e : (ts.map fun t => t.t).take (j + 1) = (ts.map fun t => t.t).take j ++ [t.t] := by
    rw [List.take_add_one, List.getElem?_map, h]; rfl
  rw [e, noted_snoc, List.length_take, Nat.min_eq_left (Nat.le_of_lt hj), Nat.zero_add]
theorem note_at {note : ByteArray} (j : Nat) (h : j < note.size) : note.data.toList[j]? = some (note[j]'h) := by
  have hl : j < note.data.toList.length := by simpa using h
  rw [← at_byte note j h, List.getElem?_eq_getElem hl]
theorem note_all {note : ByteArray} (h : ∀ (j : Nat) (hj : j < note.size), (note[j]'hj).toNat ≠ 10) : ∀ c ∈ note.data.toList, c ≠ 10 := by
  intro c hc e
  obtain ⟨j, hj, hx⟩ := List.getElem_of_mem hc
  have hj' : j < note.size := by simpa using hj
  rw [at_byte note j hj'] at hx
  refine h j hj' ?_
  rw [hx, e]; rfl
theorem pair_at {xs ys : List Tok} (h : xs.map (fun t => (t.k, t.t)) = ys.map (fun t => (t.k, t.t))) {j : Nat} {y : Tok} (hy : ys[j]? = some y) : ∃ x, xs[j]? = some x ∧ x.k = y.k ∧ x.t = y.t := by
  have e := congrArg (·[j]?) h
  simp only [List.getElem?_map, hy] at e
  cases hx : xs[j]? with
  | none => rw [hx] at e; cases e
  | some x =>
    rw [hx] at e
    simp at e
    exact ⟨x, rfl, e.1, e.2⟩
set_option maxHeartbeats 4000000 in
set_option maxRecDepth 100000 in
theorem notes_walk {K : World → Prop} (D : Lx K) (s note : ByteArray) (w : World) (k : K w) : Calls Try.prog 5 #[.string s, .string note] w fun e w' => e = .returned (.bool true) ∧ Below w.heap.size w w' := by
  have cA := alive_any D w k
  by_cases hs : (4096 : Int) < (s.size : Int) ∨ (20 : Int) < (note.size : Int)
  · have hs2 : (4096 : Int) < (s.size : Int) ∨ (¬ (4096 : Int) < (s.size : Int) ∧ (20 : Int) < (note.size : Int)) := by omega
    clear hs
    go_enter Try.func5, Try.ntmps5
    rcases hs2 with h | ⟨h, h2⟩
    all_goals
      go_wp2_with (go_at_call 6; refine cA.mono ?_; rintro e w1 ⟨rfl, b1⟩)
      go_ret
      exact ⟨rfl, b1⟩
  · have h1 : ¬ (4096 : Int) < (s.size : Int) := by omega
    have h2 : ¬ (20 : Int) < (note.size : Int) := by omega
    have hn20 : note.size ≤ 20 := by omega
    clear hs
    go_enter Try.func5, Try.ntmps5
    go_wp2_with (go_at_call 6; refine cA.mono ?_; rintro e w1 ⟨rfl, b1⟩; have k1 := D.keep k b1)
    go_loop [5] (fun i => ∃ j : Nat, i = .int .i64 (j : Int) ∧ j ≤ note.size ∧ Hid (∀ (i : Nat) (hi : i < note.size), i < j → (note[i]'hi).toNat ≠ 10)) (fun i => note.size - (intOf i).toNat)
    case atStart => exact ⟨0, rfl, Nat.zero_le _, hid fun i _ h => absurd h (Nat.not_lt_zero _)⟩
    case round =>
      obtain ⟨j, rfl, hj, hall⟩ := hrel
      by_cases hlt : j < note.size
      · have hlt' : (j : Int) < note.size := by omega
        by_cases h10 : (note[j]'hlt).toNat = 10
        · have e10 : (((note[j]'hlt).toNat : Int) == 10) = true := by simp [h10]
          go_wp2
          go_ret
          exact ⟨rfl, b1⟩
        · have e10 : (((note[j]'hlt).toNat : Int) == 10) = false := by simp; omega
          have hall' : Hid (∀ (i : Nat) (hi : i < note.size), i < j + 1 → (note[i]'hi).toNat ≠ 10) := hid fun i hi hij => by
            by_cases h : i = j
            · subst h; exact h10
            · exact hall.out i hi (by omega)
          go_wp2
          go_round
          case rel => exact ⟨j + 1, by simp, by omega, hall'⟩
          case measure => simp [intOf]; omega
      · obtain rfl : j = note.size := by omega
        have hno := hid (note_all (note := note) fun i hi => hall.out i hi hi)
        clear hall
        rcases lexed_any s.data.toList with ⟨e, p, q, e1, he⟩ | ⟨ts, e1⟩
        · have cX := D_lex D s rfl e1
          obtain ⟨E, hE⟩ : ∃ E : Int, E = (e : Int) := ⟨_, rfl⟩
          obtain ⟨P, hP⟩ : ∃ P : Int, P = (p : Int) := ⟨_, rfl⟩
          obtain ⟨Q, hQ⟩ : ∃ Q : Int, Q = (q : Int) := ⟨_, rfl⟩
          simp only [← hE, ← hP, ← hQ] at cX
          have hE0 : (E == 0) = false := by simp; omega
          clear e1 hE hP hQ he hno
          go_wp2_with (go_at_call 7; refine (cX _ k1).mono ?_; rintro e w2 ⟨vx, rfl, hX, b2⟩; obtain ⟨aox, capx, rfl, fX⟩ := hX; have B2 := below_on b1 b2)
          go_ret
          exact ⟨rfl, B2.alloc B2.size _⟩
        · obtain ⟨n, hn⟩ : ∃ n, n = ts.length := ⟨_, rfl⟩
          have cX := D_lexN D s rfl e1 hn.symm
          have hnb : n ≤ 8193 := by
            have := lexed_count s.data.toList
            rw [e1] at this
            simp only at this
            omega
          have htk := hid (lexed_toks s.data.toList)
          rw [e1] at htk
          have hE1 := hid e1
          have HN := hid hn
          clear e1 hn
          go_wp2_with (go_at_call 7; refine (cX _ k1).mono ?_; rintro e w2 ⟨aox, capx, rfl, fX, b2⟩; have B2 := below_on b1 b2; have hF := hid (fX.alloc (.cells #[.int .i64 0, .int .i64 0, .int .i64 0] 26)); clear fX)
          go_loopw [8, 44] (fun z i wr => ∃ (i' : Int) (Z : ByteArray), z = .string Z ∧ i = .int .i64 i' ∧ 0 ≤ i' ∧ i' ≤ n ∧ Z.size ≤ i'.toNat * 9000 ∧ Hid (Z.data.toList = noted note.data.toList 0 ((ts.map fun t => t.t).take i'.toNat)) ∧ Hid (Form wr aox ts ∧ Below w.heap.size w wr)) (fun _ i _ => n - (intOf i).toNat)
          case atStart => exact ⟨0, ⟨#[]⟩, rfl, rfl, Int.le_refl _, by omega, Nat.zero_le _, hid rfl, hid ⟨hF.out, B2.alloc B2.size _⟩⟩
          case round =>
            obtain ⟨i', Z, rfl, rfl, hi0, hi1, hz, hZ, hst⟩ := hrel
            by_cases hlt : i' < n
            · obtain ⟨j, hjj⟩ : ∃ j, j = i'.toNat := ⟨_, rfl⟩
              have hji : (i' + 1).toNat = j + 1 := by omega
              rw [← hjj] at hz hZ
              have hjl : j < ts.length := by rw [← HN.out]; omega
              obtain ⟨hf, hB⟩ := hst.out
              obtain ⟨b, o, rfl, hL⟩ := hf (fun h => by rw [h] at hjl; cases hjl)
              have ht : ts[j]? = some (ts[j]'hjl) := List.getElem?_eq_getElem hjl
              have htl := (htk.out _ (List.getElem_mem hjl)).1
              obtain ⟨t, htt⟩ : ∃ t, t = ts[j]'hjl := ⟨_, rfl⟩
              rw [← htt] at ht htl
              obtain ⟨a0, a1, a2, a3⟩ := hL.2 _ _ ht
              rw [hjj] at a0 a1 a2 a3
              have lb := hL.1
              obtain ⟨tk, htk0⟩ : ∃ z : Int, z = (t.k : Int) := ⟨_, rfl⟩
              obtain ⟨tl, htl0⟩ : ∃ z : Int, z = (t.ln : Int) := ⟨_, rfl⟩
              obtain ⟨tc, htc0⟩ : ∃ z : Int, z = (t.cl : Int) := ⟨_, rfl⟩
              obtain ⟨T, hT⟩ : ∃ T : ByteArray, T = ⟨t.t.toArray⟩ := ⟨_, rfl⟩
              rw [← htk0] at a0
              rw [← hT] at a1
              rw [← htl0] at a2
              rw [← htc0] at a3
              have hTz : T.size ≤ 8192 := by rw [hT, ba_size]; exact htl
              have hTl : T.data.toList = t.t := by rw [hT]
              have hz2 : Z.size ≤ 80000000 := by omega
              have hnt := noted_take (note := note.data.toList) ht
              by_cases hm : j % 3 = 0
              · have hmb : (i' % 3 == 0) = true := by simp; omega
                have hfin : Hid ((Z ++ T ++ ⟨#[32]⟩ ++ ⟨#[9, 35]⟩ ++ note ++ ⟨#[10]⟩).data.toList = noted note.data.toList 0 ((ts.map fun t => t.t).take (i' + 1).toNat)) := hid (by
                  rw [hji, hnt, ← hZ.out, ← hTl]; unfold behind; rw [if_pos hm]; simp)
                have hsz : (Z ++ T ++ ⟨#[32]⟩ ++ ⟨#[9, 35]⟩ ++ note ++ ⟨#[10]⟩).size ≤ (i' + 1).toNat * 9000 := by
                  rw [hji]
                  simp only [ByteArray.size_append]
                  show Z.size + T.size + 1 + 2 + note.size + 1 ≤ _
                  omega
                have HL := hid hL
                have HB := hid hB
                clear hnt hT hTl htk0 htl0 htc0 htt ht htl hst hL hB hf hm hjj hji hjl hz hZ
                go_wp2
                go_roundw
                case rel => exact ⟨i' + 1, _, rfl, rfl, by omega, by omega, hsz, hfin, hid ⟨fun _ => ⟨b, o, rfl, HL.out.alloc _⟩, HB.out.alloc HB.out.size _⟩⟩
                case measure => simp [intOf]; omega
              · have hmb : (i' % 3 == 0) = false := by simp; omega
                have hfin : Hid ((Z ++ T ++ ⟨#[32]⟩).data.toList = noted note.data.toList 0 ((ts.map fun t => t.t).take (i' + 1).toNat)) := hid (by
                  rw [hji, hnt, ← hZ.out, ← hTl]; unfold behind; rw [if_neg hm]; simp)
                have hsz : (Z ++ T ++ ⟨#[32]⟩).size ≤ (i' + 1).toNat * 9000 := by
                  rw [hji]
                  simp only [ByteArray.size_append]
                  show Z.size + T.size + 1 ≤ _
                  omega
                have HL := hid hL
                have HB := hid hB
                clear hnt hT hTl htk0 htl0 htc0 htt ht htl hst hL hB hf hm hjj hji hjl hz hZ
                go_wp2
                go_roundw
                case rel => exact ⟨i' + 1, _, rfl, rfl, by omega, by omega, hsz, hfin, hid ⟨fun _ => ⟨b, o, rfl, HL.out.alloc _⟩, HB.out.alloc HB.out.size _⟩⟩
                case measure => simp [intOf]; omega
            · obtain rfl : i' = (n : Int) := by omega
              rw [Int.toNat_natCast] at hz hZ
              obtain ⟨hf, hB⟩ := hst.out
              have hzz : Z.data.toList = noted note.data.toList 0 (ts.map fun t => t.t) := by
                rw [hZ.out, List.take_of_length_le (by rw [List.length_map, ← HN.out]; exact Nat.le_refl _)]
              by_cases hbig : (8192 : Int) < (Z.size : Int)
              · clear hzz hZ hst
                go_wp2
                go_ret
                exact ⟨rfl, hB⟩
              · have hzl : Z.data.toList.length = Z.size := by show _ = Z.data.size; simp
                obtain ⟨ts2, g1, g2⟩ := lexed_notes s.data.toList note.data.toList hno.out (by rw [hE1.out]) (by rw [hE1.out, ← hzz]; omega)
                rw [hE1.out, ← hzz] at g1
                rw [hE1.out] at g2
                have hn2 : ts2.length = n := by
                  have := congrArg List.length g2
                  rw [List.length_map, List.length_map] at this
                  rw [this]; exact HN.out.symm
                have cY := D_lexN D Z rfl g1 hn2
                have kk := D.keep k hB
                have hf0 := hid hf
                have hG := hid g2
                have hN2 := hid hn2
                have HB := hid hB
                clear hzz hZ hst g1 g2 hn2 hf hzl
                go_wp2_with (go_at_call 7; refine (cY _ kk).mono ?_; rintro e w3 ⟨aoy, capy, rfl, fY, b3⟩; have B3 := below_on HB.out b3; have fX3 := hid ((hf0.out.on b3).alloc (.cells #[.int .i64 0, .int .i64 0, .int .i64 0] 26)); have fY3 := hid (fY.alloc (.cells #[.int .i64 0, .int .i64 0, .int .i64 0] 26)); clear fY)
                go_loopw [83] (fun i wr => ∃ i' : Nat, i = .int .i64 (i' : Int) ∧ i' ≤ n ∧ Hid (Form wr aox ts ∧ Form wr aoy ts2 ∧ Below w.heap.size w wr)) (fun i _ => n - (intOf i).toNat)
                case atStart => exact ⟨0, rfl, Nat.zero_le _, hid ⟨fX3.out, fY3.out, B3.alloc B3.size _⟩⟩
                case round =>
                  obtain ⟨i', rfl, hi, hst⟩ := hrel
                  by_cases hlt2 : i' < n
                  · have hltI : (i' : Int) < n := by omega
                    have hil : i' < ts.length := by rw [← HN.out]; exact hlt2
                    obtain ⟨h2, h3, hB⟩ := hst.out
                    have ht : ts[i']? = some (ts[i']'hil) := List.getElem?_eq_getElem hil
                    obtain ⟨t, htt⟩ : ∃ t, t = ts[i']'hil := ⟨_, rfl⟩
                    rw [← htt] at ht
                    obtain ⟨y, hy, yk, yt⟩ := pair_at hG.out ht
                    obtain ⟨b, o, rfl, hL2⟩ := h2 (fun h => by rw [h] at hil; cases hil)
                    obtain ⟨b3, o3, rfl, hL3⟩ := h3 (fun h => by rw [h] at hy; cases hy)
                    obtain ⟨a0, a1, _, _⟩ := hL2.2 _ _ ht
                    obtain ⟨e0, e1, _, _⟩ := hL3.2 _ _ hy
                    rw [yk] at e0
                    rw [yt] at e1
                    have lb2 := hL2.1
                    have lb3 := hL3.1
                    obtain ⟨tk, htk1⟩ : ∃ z : Int, z = (t.k : Int) := ⟨_, rfl⟩
                    obtain ⟨T, hT⟩ : ∃ T : ByteArray, T = ⟨t.t.toArray⟩ := ⟨_, rfl⟩
                    rw [← htk1] at a0 e0
                    rw [← hT] at a1 e1
                    have q0 := cell_regrown a0
                    have q1 := cell_regrown a1
                    have j0 := cell_regrown e0
                    have j1 := cell_regrown e1
                    have fin : ∀ dq osq, Hid (Form (grow (redrawn wr dq) osq) (some ⟨b, o, none⟩) ts ∧ Form (grow (redrawn wr dq) osq) (some ⟨b3, o3, none⟩) ts2 ∧ Below w.heap.size w (grow (redrawn wr dq) osq)) := fun dq osq => hid
                      ⟨fun _ => ⟨b, o, rfl, hL2.on (below_regrown wr dq osq)⟩, fun _ => ⟨b3, o3, rfl, hL3.on (below_regrown wr dq osq)⟩, below_on hB (below_regrown wr dq osq)⟩
                    clear a0 a1 e0 e1 hL2 hL3 hB hst h2 h3 ht hy yk yt htt htk1 hT hil
                    go_wp2
                    refine wp_region_quiet_below (by kernel_rfl) (by kernel_rfl) ?_
                    repeat (go_big_quiet_step (fail))
                    refine wpQuiet_nil ?_
                    intro _ hw'
                    obtain ⟨⟨dq, osq⟩, hw''⟩ := hw'
                    subst hw''
                    have hfin := fin dq osq
                    clear fin
                    go_wp2
                    go_roundw
                    case rel => exact ⟨i' + 1, by simp, by omega, hfin⟩
                    case measure => simp [intOf]; omega
                  · obtain rfl : i' = n := by omega
                    go_wp2
                    go_ret
                    exact ⟨rfl, hst.out.2.2⟩
end Go.Proofs.Ytcigholifpmdjaa.L05
