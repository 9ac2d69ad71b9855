/- What package decimal does: Of, Parse. -/
import Derived.Test.YtkjlcbjfnffpfaaDoorDecim2
namespace Go.Proofs.YtkjlcbjfnffpfaaDoor.Dc
open Go.RowKit Go.Sort P Ex

/-- What Of answers, by what the cut answers. -/
def fc (a b : List UInt8) (found : Bool) : Int := if pl a then (if found then (if b.all isDg && !b.isEmpty then 2 else 0) else 1) else 0
theorem fm_fc (l : List UInt8) : (fm l : Int) = fc (Lib.cut l [46]).1 (Lib.cut l [46]).2.1 (Lib.cut l [46]).2.2 := by
  rcases cut_one l 46 with ⟨h, e⟩ | ⟨a, b, h, h2, e⟩
  · rw [e, fm_cut_no h]
    unfold fc
    cases pl l <;> rfl
  · rw [e, h, fm_cut_yes h2]
    unfold fc
    cases pl a <;> cases (b.all isDg && !b.isEmpty) <;> rfl
theorem mk_list (l : List UInt8) : (⟨l.toArray⟩ : ByteArray).data.toList = l := by simp
theorem of_any (s : ByteArray) (w : World) (k : K w) (hs : s.size ≤ 1000000) :
    Calls Tryd.prog 10 #[.string s] w fun e w' => e = .returned (.int .i64 (fm s.data.toList)) ∧ Below w.heap.size w w' := by
  have cC := cut_any s w k hs
  rw [fm_fc]
  generalize (Lib.cut s.data.toList [46]).1 = a at *
  generalize (Lib.cut s.data.toList [46]).2.1 = b at *
  generalize (Lib.cut s.data.toList [46]).2.2 = f at *
  have cP := fun W => plain_any ⟨a.toArray⟩ W
  have cD := fun W => digits_any ⟨b.toArray⟩ W
  rw [mk_list] at cP cD
  unfold fc
  generalize pl a = p at *
  generalize (b.all isDg && !b.isEmpty) = d at *
  rcases Bool.eq_false_or_eq_true p with rfl | rfl
  · rcases Bool.eq_false_or_eq_true f with rfl | rfl
    · rcases Bool.eq_false_or_eq_true d with rfl | rfl
      all_goals
        go_enter Tryd.func10, Tryd.ntmps10
        go_wp2_with (first
          | (go_at_call 15; refine cC.mono ?_; rintro e w1 ⟨rfl, b1⟩)
          | (go_at_call 19; refine (cP _).mono ?_; rintro e w2 ⟨rfl, b2⟩; have B2 := b1.trans (b2.mono b1.size))
          | (go_at_call 20; refine (cD _).mono ?_; rintro e w3 ⟨rfl, b3⟩; have B3 := B2.trans (b3.mono B2.size)))
        go_ret
        exact ⟨rfl, B3⟩
    · go_enter Tryd.func10, Tryd.ntmps10
      go_wp2_with (first
        | (go_at_call 15; refine cC.mono ?_; rintro e w1 ⟨rfl, b1⟩)
        | (go_at_call 19; refine (cP _).mono ?_; rintro e w2 ⟨rfl, b2⟩; have B2 := b1.trans (b2.mono b1.size)))
      go_ret
      exact ⟨rfl, B2⟩
  · go_enter Tryd.func10, Tryd.ntmps10
    go_wp2_with (first
      | (go_at_call 15; refine cC.mono ?_; rintro e w1 ⟨rfl, b1⟩)
      | (go_at_call 19; refine (cP _).mono ?_; rintro e w2 ⟨rfl, b2⟩; have B2 := b1.trans (b2.mono b1.size)))
    go_ret
    exact ⟨rfl, B2⟩
/-- What a number's cut tells of what it comes to. -/
theorem cut_tells {l : List UInt8} (h : fm l ≠ 0) : ∃ a b f, Lib.cut l [46] = (a, b, f) ∧ (a ++ b).all isDg = true ∧ stV (a ++ b) = stV l ∧ max (stB l) 0 = b.length ∧ a.length + b.length ≤ l.length := by
  rcases cut_one l 46 with ⟨h1, e⟩ | ⟨a, b, h1, h2, e⟩
  · rw [fm_cut_no h1] at h
    have hp : pl l = true := by
      cases k : pl l
      · rw [k] at h; exact absurd rfl h
      · rfl
    obtain ⟨x, _, _⟩ := pl_oddHead hp
    refine ⟨l, [], false, e, by rwa [List.append_nil], by rw [List.append_nil], ?_, by simp⟩
    rw [stB_plain x]; rfl
  · rw [h1, fm_cut_yes h2] at h
    have hp : (pl a && (b.all isDg && !b.isEmpty)) = true := by
      cases k : (pl a && (b.all isDg && !b.isEmpty))
      · rw [k] at h; exact absurd rfl h
      · rfl
    rw [Bool.and_eq_true, Bool.and_eq_true] at hp
    obtain ⟨x, _, _⟩ := pl_oddHead hp.1
    refine ⟨a, b, true, e, by rw [List.all_append, x, hp.2.1]; rfl, by rw [h1, stV_cut hp.2.1], ?_, by rw [h1]; simp⟩
    rw [h1, stB_cut hp.2.1]; omega
theorem pw_bad {l : List UInt8} {p : Int} (most : Int) (h : pBad l p = true) : pN l p most = 0 ∧ pW l p most = 1 := by
  unfold pN pW; rw [h]; exact ⟨rfl, rfl⟩
theorem pw_great {l : List UInt8} {p most : Int} (h : pBad l p = false) (g : pGreat l p most = true) : pN l p most = 0 ∧ pW l p most = 2 := by
  unfold pN pW; rw [h, g]; exact ⟨rfl, rfl⟩
theorem pw_fine {l : List UInt8} {p most : Int} (h : pBad l p = false) (g : pGreat l p most = false) : pN l p most = pV l p ∧ pW l p most = 0 := by
  unfold pN pW; rw [h, g]; exact ⟨rfl, rfl⟩
theorem big_pow {v : Int} {j : Nat} (hv0 : 0 ≤ v) (h : ¬ I64 v) : ¬ I64 (v * 10 ^ j) := by
  have hp : (0 : Int) < 10 ^ j := Int.pow_pos (by decide)
  obtain ⟨y, hy⟩ : ∃ y : Int, y = 10 ^ j := ⟨_, rfl⟩
  rw [← hy] at hp ⊢
  have h5 : v * 1 ≤ v * y := Int.mul_le_mul_of_nonneg_left (by omega) hv0
  obtain ⟨z, hz⟩ : ∃ z : Int, z = v * y := ⟨_, rfl⟩
  rw [← hz] at h5 ⊢
  clear hz hy
  unfold I64 at *
  omega
set_option maxHeartbeats 1000000 in
theorem parse_any (s : ByteArray) (places most : Int) (w : World) (k : K w) (hs : s.size ≤ 1000000) :
    Calls Tryd.prog 8 #[.string s, .int .i64 places, .int .i64 most] w fun e w' =>
      e = .returned (.tuple #[.int .i64 (pN s.data.toList places most), .int .i64 (pW s.data.toList places most)]) ∧ Below w.heap.size w w' := by
  have cG := fun W => good_any places W
  by_cases hg : 0 ≤ places ∧ places ≤ 9
  · rw [decide_eq_true hg] at cG
    have cO := of_any s w k hs
    by_cases hf : fm s.data.toList = 0
    · have hb : pBad s.data.toList places = true := by unfold pBad; exact decide_eq_true (.inl hf)
      obtain ⟨e1, e2⟩ := pw_bad most hb
      rw [e1, e2]
      rw [hf] at cO
      clear hb e1 e2 hf hg
      go_enter Tryd.func8, Tryd.ntmps8
      go_wp2_with (first
        | (go_at_call 14; refine (cG _).mono ?_; rintro e w1 ⟨rfl, rfl⟩)
        | (go_at_call 10; refine cO.mono ?_; rintro e w1 ⟨rfl, b1⟩))
      go_ret2
      exact ⟨rfl, b1⟩
    · obtain ⟨a, b, f, hc, hd, hv, hB, hl⟩ := cut_tells hf
      have cC := fun W kW => cut_any s W kW hs
      rw [hc] at cC
      obtain ⟨F, hF⟩ : ∃ F : Int, F = (fm s.data.toList : Int) := ⟨_, rfl⟩
      rw [← hF] at cO
      have hF0 : (F == 0) = false := by simp; omega
      obtain ⟨bS, hbS⟩ : ∃ bS : ByteArray, bS = ⟨b.toArray⟩ := ⟨_, rfl⟩
      obtain ⟨aS, haS⟩ : ∃ aS : ByteArray, aS = ⟨a.toArray⟩ := ⟨_, rfl⟩
      have hbl : bS.size = b.length := by rw [hbS, ba_size]
      have hal : aS.size = a.length := by rw [haS, ba_size]
      have hll : s.data.toList.length = s.size := by show _ = s.data.size; simp
      simp only [← hbS, ← haS] at cC
      by_cases hp : places < (bS.size : Int)
      · have hb : pBad s.data.toList places = true := by unfold pBad; refine decide_eq_true (.inr (.inr (.inr ?_))); omega
        obtain ⟨e1, e2⟩ := pw_bad most hb
        rw [e1, e2]
        clear hb e1 e2 hf hg hF hc hd hv hB hl hbS haS hbl hal hll
        go_enter Tryd.func8, Tryd.ntmps8
        go_wp2_with (first
          | (go_at_call 14; refine (cG _).mono ?_; rintro e w1 ⟨rfl, rfl⟩)
          | (go_at_call 10; refine cO.mono ?_; rintro e w1 ⟨rfl, b1⟩; have k1 := k.later b1)
          | (go_at_call 15; refine (cC _ k1).mono ?_; rintro e w2 ⟨rfl, b2⟩; have B2 := b1.trans (b2.mono b1.size)))
        go_ret2
        exact ⟨rfl, B2⟩
      · have hb : pBad s.data.toList places = false := by unfold pBad; refine decide_eq_false ?_; rintro (q | q | q | q) <;> omega
        obtain ⟨kk, hkk⟩ : ∃ kk : Nat, kk = pK s.data.toList places := ⟨_, rfl⟩
        have hk1 : places - (bS.size : Int) = (kk : Int) := by rw [hkk]; unfold pK; omega
        have hk9 : kk ≤ 9 := by omega
        have hwk : wrap64 (kk : Int) = kk := wrap_in (by unfold I64; omega)
        have cN := fun W => number_any (aS ++ bS) W (by rw [haS, hbS, ba_append, mk_list]; exact hd)
        have e0 : (aS ++ bS).data.toList = a ++ b := by rw [haS, hbS, ba_append, mk_list]
        rw [e0, hv] at cN
        have hV : pV s.data.toList places = (stV s.data.toList : Int) * 10 ^ kk := by unfold pV; rw [hkk]
        obtain ⟨v, hvv⟩ : ∃ v : Int, v = (stV s.data.toList : Int) := ⟨_, rfl⟩
        rw [← hvv] at cN hV
        have hv0 : 0 ≤ v := by omega
        have hn : ¬ 9223372036854775807 < aS.size + bS.size := by omega
        by_cases h1 : I64 v
        · rw [cut64_t h1, ok64_t h1] at cN
          have cT := fun W => tens_any v kk W hv0 h1 hk9
          rw [← hV] at cT
          obtain ⟨V, hVV⟩ : ∃ V : Int, V = pV s.data.toList places := ⟨_, rfl⟩
          rw [← hVV] at cT
          have hG : pGreat s.data.toList places most = (!ok64 V || decide (most < V)) := by unfold pGreat; rw [hVV]
          by_cases h2 : I64 V
          · rw [cut64_t h2, ok64_t h2] at cT
            rw [ok64_t h2] at hG
            by_cases h3 : most < V
            · rw [decide_eq_true h3] at hG
              obtain ⟨e1, e2⟩ := pw_great hb hG
              rw [e1, e2]
              clear hb e1 e2 hf hg hF hc hd hv hB hl hbS haS hbl hal hll hV hVV hG e0 hkk hvv hv0 h1 h2 hk9
              go_enter Tryd.func8, Tryd.ntmps8
              go_wp2_with (first
                | (go_at_call 14; refine (cG _).mono ?_; rintro e w1 ⟨rfl, rfl⟩)
                | (go_at_call 10; refine cO.mono ?_; rintro e w1 ⟨rfl, b1⟩; have k1 := k.later b1)
                | (go_at_call 15; refine (cC _ k1).mono ?_; rintro e w2 ⟨rfl, b2⟩; have B2 := b1.trans (b2.mono b1.size))
                | (go_at_call 16; refine (cN _).mono ?_; rintro e w3 ⟨rfl, b3⟩; have B3 := B2.trans (b3.mono B2.size))
                | (go_at_call 17; rw [hwk]; refine (cT _).mono ?_; rintro e w4 ⟨rfl, rfl⟩))
              go_ret2
              exact ⟨rfl, B3⟩
            · rw [decide_eq_false h3] at hG
              obtain ⟨e1, e2⟩ := pw_fine hb hG
              rw [e1, e2, ← hVV]
              clear hb e1 e2 hf hg hF hc hd hv hB hl hbS haS hbl hal hll hV hVV hG e0 hkk hvv hv0 h1 h2 hk9
              go_enter Tryd.func8, Tryd.ntmps8
              go_wp2_with (first
                | (go_at_call 14; refine (cG _).mono ?_; rintro e w1 ⟨rfl, rfl⟩)
                | (go_at_call 10; refine cO.mono ?_; rintro e w1 ⟨rfl, b1⟩; have k1 := k.later b1)
                | (go_at_call 15; refine (cC _ k1).mono ?_; rintro e w2 ⟨rfl, b2⟩; have B2 := b1.trans (b2.mono b1.size))
                | (go_at_call 16; refine (cN _).mono ?_; rintro e w3 ⟨rfl, b3⟩; have B3 := B2.trans (b3.mono B2.size))
                | (go_at_call 17; rw [hwk]; refine (cT _).mono ?_; rintro e w4 ⟨rfl, rfl⟩))
              go_ret2
              exact ⟨rfl, B3⟩
          · rw [cut64_f h2, ok64_f h2] at cT
            rw [ok64_f h2] at hG
            obtain ⟨e1, e2⟩ := pw_great hb hG
            rw [e1, e2]
            clear hb e1 e2 hf hg hF hc hd hv hB hl hbS haS hbl hal hll hV hVV hG e0 hkk hvv hv0 h1 h2 hk9
            go_enter Tryd.func8, Tryd.ntmps8
            go_wp2_with (first
              | (go_at_call 14; refine (cG _).mono ?_; rintro e w1 ⟨rfl, rfl⟩)
              | (go_at_call 10; refine cO.mono ?_; rintro e w1 ⟨rfl, b1⟩; have k1 := k.later b1)
              | (go_at_call 15; refine (cC _ k1).mono ?_; rintro e w2 ⟨rfl, b2⟩; have B2 := b1.trans (b2.mono b1.size))
              | (go_at_call 16; refine (cN _).mono ?_; rintro e w3 ⟨rfl, b3⟩; have B3 := B2.trans (b3.mono B2.size))
              | (go_at_call 17; rw [hwk]; refine (cT _).mono ?_; rintro e w4 ⟨rfl, rfl⟩))
            go_ret2
            exact ⟨rfl, B3⟩
        · rw [cut64_f h1, ok64_f h1] at cN
          have hbig : ¬ I64 (pV s.data.toList places) := hV ▸ big_pow hv0 h1
          have hG : pGreat s.data.toList places most = true := by unfold pGreat; rw [ok64_f hbig]; rfl
          obtain ⟨e1, e2⟩ := pw_great hb hG
          rw [e1, e2]
          clear hb e1 e2 hf hg hF hc hd hv hB hl hbS haS hbl hal hll hV hG e0 hkk hvv hv0 h1 hk9 hbig
          go_enter Tryd.func8, Tryd.ntmps8
          go_wp2_with (first
            | (go_at_call 14; refine (cG _).mono ?_; rintro e w1 ⟨rfl, rfl⟩)
            | (go_at_call 10; refine cO.mono ?_; rintro e w1 ⟨rfl, b1⟩; have k1 := k.later b1)
            | (go_at_call 15; refine (cC _ k1).mono ?_; rintro e w2 ⟨rfl, b2⟩; have B2 := b1.trans (b2.mono b1.size))
            | (go_at_call 16; refine (cN _).mono ?_; rintro e w3 ⟨rfl, b3⟩; have B3 := B2.trans (b3.mono B2.size)))
          go_ret2
          exact ⟨rfl, B3⟩
  · have hb : pBad s.data.toList places = true := by unfold pBad; refine decide_eq_true ?_; omega
    obtain ⟨e1, e2⟩ := pw_bad most hb
    rw [e1, e2]
    rw [decide_eq_false hg] at cG
    clear hb e1 e2 hg
    go_enter Tryd.func8, Tryd.ntmps8
    go_wp2_with (go_at_call 14; refine (cG _).mono ?_; rintro e w1 ⟨rfl, rfl⟩)
    go_ret2
    exact ⟨rfl, Below.refl _ _⟩
end Go.Proofs.YtkjlcbjfnffpfaaDoor.Dc
