/- What the document's answers for layer 4 (poundageref04) come to: digit, Of. -/
import Derived.Test.YtcigholifpmdjaaRows
import Derived.Test.YtcigholifpmdjaaDecP
import Derived.Test.YtcigholifpmdjaaDatB
import Derived.WalkSmall
import Derived.WalkKit
import Derived.Lib.Strings
import Derived.Laws.Cover1
namespace Go.Proofs.Ytcigholifpmdjaa.R4
open Go.RowKit P

/-- A letter that is a digit, as a number. -/
def dgI (x : Int) : Bool := decide (48 ≤ x ∧ x ≤ 57)
theorem dgI_of (b : UInt8) : dgI ((b.toNat : Nat) : Int) = isDg b := by unfold dgI isDg; rw [decide_eq_decide]; omega
theorem digit_any (x : Int) (w : World) : Calls Try.prog 30 #[.int .u8 x] w fun e w' => e = .returned (.bool (dgI x)) ∧ w' = w := by
  rcases Decidable.em (48 ≤ x) with h | h
  · have b : decide (48 ≤ x) = true := decide_eq_true h
    have e : dgI x = decide (x ≤ 57) := by unfold dgI; rw [decide_eq_decide]; omega
    have E := hid e
    clear e
    go_enter Try.func30, Try.ntmps30
    go_wp2
    go_ret
    exact ⟨ret_b E.out.symm, rfl⟩
  · have b : decide (48 ≤ x) = false := decide_eq_false h
    have e : dgI x = false := by unfold dgI; rw [decide_eq_false_iff_not]; omega
    have E := hid e
    clear e
    go_enter Try.func30, Try.ntmps30
    go_wp2
    go_ret
    exact ⟨ret_b E.out.symm, rfl⟩
theorem byte_at (s : ByteArray) (i : Int) (h0 : 0 ≤ i) (h1 : i < s.size) (W : World) : (Instr.index 9 (.string s) (.int .i64 i)).run Try.prog W = .ok (.int .u8 ((s.data.toList.getD i.toNat 0).toNat : Int)) W := by
  have hl : i.toNat < s.data.toList.length := by show _ < s.size; omega
  have hb : s.data.toList[i.toNat]'hl = s[i.toNat]'(by omega) := by rw [Array.getElem_toList]; rfl
  rw [run_index_string W 9 s .i64 i Try.underlying9, dif_pos ⟨h0, h1⟩, List.getD_eq_getElem?_getD, List.getElem?_eq_getElem hl, hb, Option.getD_some]
set_option maxHeartbeats 2000000 in
theorem of_any (s : ByteArray) (w : World) (hs : s.size ≤ 9223372036854775807) : Calls Try.prog 20 #[.string s] w fun e w' => e = .returned (.int .i64 (fm s.data.toList)) ∧ w' = w := by
  obtain ⟨l, hl⟩ : ∃ l, l = s.data.toList := ⟨_, rfl⟩
  have hbyte := byte_at s
  have hz : l.length = s.size := by rw [hl]; simp
  have htl : s.toList = l := by rw [Lib.toList_data, hl]
  rw [← hl]
  rw [← hl] at hbyte
  clear hl
  by_cases h0 : l.length = 0
  · have hn : l = [] := List.length_eq_zero_iff.1 h0
    subst hn
    go_enter Try.func20, Try.ntmps20
    go_wp2
    go_ret
    exact ⟨ret_i (by rw [fm_empty]; rfl), rfl⟩
  · have x0 := hbyte 0 (by omega) (by omega)
    have hne : (l == []) = false := by
      rw [beq_eq_false_iff_ne]
      rintro rfl
      exact h0 rfl
    cases hd : isDg (l.getD 0 0)
    · have hf := hid (fm_first hd)
      rw [← dgI_of] at hd
      obtain ⟨x, hx⟩ : ∃ x : Int, x = ((l.getD 0 0).toNat : Int) := ⟨_, rfl⟩
      rw [← hx] at hd
      have x0' : ∀ W, (Instr.index 9 (.string s) (.int .i64 0)).run Try.prog W = .ok (.int .u8 x) W := fun W => by rw [hx]; exact x0 W
      clear x0 hx
      go_enter Try.func20, Try.ntmps20
      go_wp2_with (go_at_call 30; refine (digit_any _ _).mono ?_; rintro e w' ⟨rfl, h'⟩; rw [h'])
      go_ret
      exact ⟨ret_i (by rw [hf.out]; rfl), rfl⟩
    · have hd0 := hd
      rw [← dgI_of] at hd
      obtain ⟨x, hx⟩ : ∃ x : Int, x = ((l.getD 0 0).toNat : Int) := ⟨_, rfl⟩
      rw [← hx] at hd
      have x0' : ∀ W, (Instr.index 9 (.string s) (.int .i64 0)).run Try.prog W = .ok (.int .u8 x) W := fun W => by rw [hx]; exact x0 W
      have HX := hid hx
      have Hd0 := hid hd0
      clear x0 hx hd0
      go_enter Try.func20, Try.ntmps20
      go_wp2_with (go_at_call 30; refine (digit_any _ _).mono ?_; rintro e w' ⟨rfl, h'⟩; rw [h'])
      go_loop [3, 4] (fun p i => ∃ p' i' : Int, p = .int .i64 p' ∧ i = .int .i64 i' ∧ 0 ≤ i' ∧ 0 ≤ p' ∧ p' ≤ 1 ∧ i' ≤ s.size ∧ Hid (Seen l i'.toNat p'.toNat)) (fun _ i => ((s.size : Int) - intOf i).toNat)
      case atStart => exact ⟨0, 0, rfl, rfl, by omega, by omega, by omega, by omega, hid (Seen.start (by omega))⟩
      case round =>
        obtain ⟨p', i', rfl, rfl, i0, p0, p1, i1, S⟩ := hrel
        by_cases hi : i' < s.size
        · have hil : i'.toNat < l.length := by omega
          have hb := hbyte i' i0 hi
          have e1 : (i' + 1).toNat = i'.toNat + 1 := by omega
          have e2 : (p' + 1).toNat = p'.toNat + 1 := by omega
          have hlast : i' + 1 = s.size ↔ i'.toNat + 1 = l.length := by omega
          have hdg := dgI_of (l.getD i'.toNat 0)
          have h46 : ((l.getD i'.toNat 0).toNat : Int) = 46 ↔ l.getD i'.toNat 0 = 46 := by
            constructor
            · intro h; exact UInt8.toNat_inj.1 (by show _ = 46; omega)
            · intro h; rw [h]; rfl
          have S' := S.out
          have bad : evenBody l = false → Hid (fm l = 0) := fun h => hid (fm_body h)
          have f2 := fun a b => bad (S'.two hil a b)
          have f3 := fun a b => bad (ends_point (l := l) (i := i'.toNat) a b)
          have f4 := fun a b => bad (bad_letter hil a b)
          have g1 : isDg (l.getD i'.toNat 0) = true → Hid (Seen l (i' + 1).toNat p'.toNat) := fun h => hid (by rw [e1]; exact S'.digit hil h)
          have g2 : l.getD i'.toNat 0 = 46 → p'.toNat = 0 → i'.toNat + 1 ≠ l.length → Hid (Seen l (i' + 1).toNat (p' + 1).toNat) := fun a b c => hid (by rw [e1, e2]; exact S'.point hil a b c)
          obtain ⟨b, hb'⟩ : ∃ b, b = l.getD i'.toNat 0 := ⟨_, rfl⟩
          rw [← hb'] at hdg h46 f2 f3 f4 g1 g2
          simp only [← hb'] at hb
          obtain ⟨z, hz'⟩ : ∃ z : Int, z = (b.toNat : Int) := ⟨_, rfl⟩
          rw [← hz'] at hdg h46
          simp only [← hz'] at hb
          clear S' S e1 e2 bad hb' hz' hbyte
          by_cases hp : z = 46
          · have hp' := h46.1 hp
            have b1 : (z == 46) = true := by rw [hp]; rfl
            by_cases p2 : p' = 1
            · have hG := f2 hp' (by rw [p2]; rfl)
              clear f2 f3 f4 g1 g2 h46 hdg hlast
              subst p2
              go_wp2
              go_ret
              exact ⟨ret_i (by rw [hG.out]; rfl), rfl⟩
            · obtain rfl : p' = 0 := by omega
              by_cases hl : i' + 1 = s.size
              · have hG := f3 (hlast.1 hl) hp'
                have b2 : (i' == (s.size : Int) - 1) = true := by simp; omega
                clear f2 f3 f4 g1 g2 h46 hdg hlast
                go_wp2
                go_ret
                exact ⟨ret_i (by rw [hG.out]; rfl), rfl⟩
              · have hS := g2 hp' rfl (fun k => hl (hlast.2 k))
                have b2 : (i' == (s.size : Int) - 1) = false := by simp; omega
                clear f2 f3 f4 g1 g2 h46 hdg hlast
                go_wp2
                go_round
                case rel => exact ⟨_, i' + 1, rfl, rfl, by omega, by omega, by omega, by omega, hS⟩
                case measure => simp [intOf]; omega
          · have b1 : (z == 46) = false := by simpa using hp
            cases hD : isDg b
            · have hG := f4 hD (fun k => hp (h46.2 k))
              rw [hD] at hdg
              clear f2 f3 f4 g1 g2 h46 hlast
              go_wp2_with (go_at_call 30; refine (digit_any _ _).mono ?_; rintro e w' ⟨rfl, h'⟩; rw [h'])
              go_ret
              exact ⟨ret_i (by rw [hG.out]; rfl), rfl⟩
            · have hS := g1 hD
              rw [hD] at hdg
              clear f2 f3 f4 g1 g2 h46 hlast
              go_wp2_with (go_at_call 30; refine (digit_any _ _).mono ?_; rintro e w' ⟨rfl, h'⟩; rw [h'])
              go_round
              case rel => exact ⟨p', i' + 1, rfl, rfl, by omega, by omega, by omega, by omega, hS⟩
              case measure => simp [intOf]; omega
        · obtain rfl : i' = s.size := by omega
          have hS : Seen l l.length p'.toNat := by
            have := S.out
            rwa [show ((s.size : Int)).toNat = l.length by omega] at this
          obtain ⟨he, hc⟩ := hS.done
          have yes : oddHead l = false → Hid (fm l = 1 + p'.toNat) := fun h => hid (by rw [fm_is Hd0.out he h, hc])
          have no : oddHead l = true → Hid (fm l = 0) := fun h => hid (fm_head h)
          have c48 : (l.getD 0 0 == 48) = decide (x = 48) := by
            rw [Bool.eq_iff_iff, beq_iff_eq, decide_eq_true_eq, HX.out]
            constructor
            · intro h; rw [h]; rfl
            · intro h; exact UInt8.toNat_inj.1 (by show _ = 48; omega)
          have hp' : (1 : Int) + p' = ((1 + p'.toNat : Nat) : Int) := by omega
          by_cases hx : x = 48
          · by_cases hl1 : (1 : Int) < s.size
            · have hy := hbyte 1 (by omega) hl1
              have c46 : (l.getD 1 0 == 46) = decide (((l.getD 1 0).toNat : Int) = 46) := by
                rw [Bool.eq_iff_iff, beq_iff_eq, decide_eq_true_eq]
                constructor
                · intro h; rw [h]; rfl
                · intro h; exact UInt8.toNat_inj.1 (by show _ = 46; omega)
              obtain ⟨y, hy'⟩ : ∃ y : Int, y = ((l.getD 1 0).toNat : Int) := ⟨_, rfl⟩
              rw [← hy'] at c46
              have hy2 : ∀ W, (Instr.index 9 (.string s) (.int .i64 1)).run Try.prog W = .ok (.int .u8 y) W := fun W => by rw [hy']; exact hy W
              have b1 : (x == 48) = true := by simpa using hx
              have hll : decide (1 < l.length) = true := decide_eq_true (by omega)
              clear hy hy' hbyte S hS
              by_cases h46 : y = 46
              · have hG := yes (by unfold oddHead; rw [c48, hll, c46, decide_eq_true h46]; simp)
                have b2 : (y != 46) = false := by simpa using h46
                clear yes no c48 c46 HX Hd0 hd he hc
                go_wp2
                go_ret
                exact ⟨ret_i (by rw [hG.out]; omega), rfl⟩
              · have hG := no (by unfold oddHead; rw [c48, hll, c46, decide_eq_false h46, decide_eq_true hx]; rfl)
                have b2 : (y != 46) = true := by simpa using h46
                clear yes no c48 c46 HX Hd0 hd he hc
                go_wp2
                go_ret
                exact ⟨ret_i (by rw [hG.out]; rfl), rfl⟩
            · have hG := yes (by unfold oddHead; rw [decide_eq_false (show ¬ 1 < l.length by omega)]; simp)
              have b1 : (x == 48) = true := by simpa using hx
              clear yes no c48 HX Hd0 hd he hc hbyte S hS
              go_wp2
              go_ret
              exact ⟨ret_i (by rw [hG.out]; omega), rfl⟩
          · have hG := yes (by unfold oddHead; rw [c48, decide_eq_false hx]; rfl)
            have b1 : (x == 48) = false := by simpa using hx
            clear yes no c48 HX Hd0 hd he hc hbyte S hS
            go_wp2
            go_ret
            exact ⟨ret_i (by rw [hG.out]; omega), rfl⟩
end Go.Proofs.Ytcigholifpmdjaa.R4
