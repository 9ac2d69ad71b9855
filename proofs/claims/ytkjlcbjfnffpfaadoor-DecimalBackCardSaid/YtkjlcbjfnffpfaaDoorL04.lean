/- The laws of layer 4, out of what package decimal answers ('Dec'): alive, DecimalIs, DecimalBack, DecimalPlaces. -/
import Derived.Test.YtkjlcbjfnffpfaaDoorRef4d
import Derived.Test.YtkjlcbjfnffpfaaDoorDecQ
import Derived.Deep.RegionWith
namespace Go.Proofs.YtkjlcbjfnffpfaaDoor.L04
open Go.RowKit P R4

/-- What package decimal answers, in the worlds that K tells. -/
structure Dec (K : World → Prop) : Prop where
  keep : ∀ {w w' : World}, K w → Below w.heap.size w w' → K w'
  of : ∀ (s : ByteArray) (w : World), K w → s.size ≤ 1000000 → Calls Tryd.prog 10 #[.string s] w fun e w' => e = .returned (.int .i64 (fm s.data.toList)) ∧ Below w.heap.size w w'
  parse : ∀ (s : ByteArray) (places most : Int) (w : World), K w → s.size ≤ 1000000 → I64 places → I64 most → Calls Tryd.prog 8 #[.string s, .int .i64 places, .int .i64 most] w fun e w' =>
    e = .returned (.tuple #[.int .i64 (pN s.data.toList places most), .int .i64 (pW s.data.toList places most)]) ∧ Below w.heap.size w w'
  no : ∀ (n places : Int) (w : World), K w → I64 n → I64 places → (n < 0 ∨ places < 0 ∨ 9 < places) → Calls Tryd.prog 12 #[.int .i64 n, .int .i64 places] w fun e w' => e = .returned (.string ⟨#[]⟩) ∧ Below w.heap.size w w'
  yes : ∀ (n places : Int) (w : World), K w → 0 ≤ n → I64 n → 0 ≤ places → places ≤ 9 → Calls Tryd.prog 12 #[.int .i64 n, .int .i64 places] w fun e w' => e = .returned (.string ⟨(tx n.toNat places.toNat).toArray⟩) ∧ Below w.heap.size w w'
theorem list_of (l : List UInt8) : (⟨l.toArray⟩ : ByteArray).data.toList = l := by simp
theorem alive_any {K : World → Prop} (D : Dec K) (w : World) (k : K w) : Calls Tryd.prog 7 #[] w fun e w' => e = .returned (.bool true) ∧ Below w.heap.size w w' := by
  have cP : ∀ W, K W → Calls Tryd.prog 8 #[.string ⟨#[48, 46, 48, 49, 50, 53]⟩, .int .i64 6, .int .i64 1099511627776] W fun e w' => e = .returned (.tuple #[.int .i64 12500, .int .i64 0]) ∧ Below W.heap.size W w' := fun W h => by
    have := D.parse ⟨#[48, 46, 48, 49, 50, 53]⟩ 6 1099511627776 W h (by decide) (by unfold I64; omega) (by unfold I64; omega)
    have e1 : pN [48, 46, 48, 49, 50, 53] 6 1099511627776 = 12500 := by decide
    have e2 : pW [48, 46, 48, 49, 50, 53] 6 1099511627776 = 0 := by decide
    rw [show (⟨#[48, 46, 48, 49, 50, 53]⟩ : ByteArray).data.toList = [48, 46, 48, 49, 50, 53] from rfl, e1, e2] at this
    exact this
  have cT : ∀ W, K W → Calls Tryd.prog 12 #[.int .i64 12500, .int .i64 6] W fun e w' => e = .returned (.string ⟨#[48, 46, 48, 49, 50, 53]⟩) ∧ Below W.heap.size W w' := fun W h => by
    have := D.yes 12500 6 W h (by omega) (by unfold I64; omega) (by omega) (by omega)
    have e : tx (12500 : Int).toNat (6 : Int).toNat = [48, 46, 48, 49, 50, 53] := by
      show tx 12500 6 = _
      unfold tx tail
      rw [show 12500 / 10 ^ 6 = 0 from rfl, dec_last (by omega)]
      decide
    rw [e] at this
    exact this
  have cA : ∀ W, K W → Calls Tryd.prog 10 #[.string ⟨#[49, 46]⟩] W fun e w' => e = .returned (.int .i64 0) ∧ Below W.heap.size W w' := fun W h => D.of ⟨#[49, 46]⟩ W h (by decide)
  have cB : ∀ W, K W → Calls Tryd.prog 10 #[.string ⟨#[49, 46, 48]⟩] W fun e w' => e = .returned (.int .i64 2) ∧ Below W.heap.size W w' := fun W h => D.of ⟨#[49, 46, 48]⟩ W h (by decide)
  go_enter Tryd.func7, Tryd.ntmps7
  go_wp2_with (first
    | (go_at_call 8; refine (cP _ k).mono ?_; rintro e w1 ⟨rfl, b1⟩; have k1 := D.keep k b1)
    | (go_at_call 12; refine (cT _ k1).mono ?_; rintro e w2 ⟨rfl, b2⟩; have B2 := below_on b1 b2; have k2 := D.keep k1 b2)
    | (go_at_call_of 10 (Value.string ⟨#[49, 46]⟩); refine (cA _ k2).mono ?_; rintro e w3 ⟨rfl, b3⟩; have B3 := below_on B2 b3; have k3 := D.keep k2 b3)
    | (go_at_call_of 10 (Value.string ⟨#[49, 46, 48]⟩); refine (cB _ k3).mono ?_; rintro e w4 ⟨rfl, b4⟩; have B4 := below_on B3 b4))
  go_ret
  exact ⟨rfl, B4⟩
/-- Both texts of a number. -/
theorem text_both {K : World → Prop} (D : Dec K) (n places : Int) (hn : I64 n) (hp : I64 places) : ∃ X : ByteArray,
    (∀ W, K W → Calls Tryd.prog 12 #[.int .i64 n, .int .i64 places] W fun e w' => e = .returned (.string X) ∧ Below W.heap.size W w') ∧
    (∀ W, Calls Tryd.prog 13 #[.int .i64 n, .int .i64 places] W fun e w' => e = .returned (.string X) ∧ Below W.heap.size W w') := by
  by_cases h : n < 0 ∨ places < 0 ∨ 9 < places
  · exact ⟨_, fun W k => D.no n places W k hn hp h, fun W => R4.text_no n places W h⟩
  · exact ⟨_, fun W k => D.yes n places W k (by omega) hn (by omega) (by omega), fun W => R4.text_yes n places W (by omega) hn (by omega) (by omega)⟩
theorem is_walk {K : World → Prop} (D : Dec K) (s : ByteArray) (places : Int) (wp : (Lit.int .i64 places).wf = true) (most : Int) (wm : (Lit.int .i64 most).wf = true) (n : Int) (wn : (Lit.int .i64 n).wf = true) (w : World) (k : K w) :
    Calls Tryd.prog 3 #[.string s, .int .i64 places, .int .i64 most, .int .i64 n] w fun e w' => e = .returned (.bool true) ∧ Below w.heap.size w w' := by
  have cA := alive_any D w k
  by_cases hs : (100 : Int) < (s.size : Int)
  · go_enter Tryd.func3, Tryd.ntmps3
    go_wp2_with (go_at_call 7; refine cA.mono ?_; rintro e w1 ⟨rfl, b1⟩)
    go_ret
    exact ⟨rfl, b1⟩
  · have cP := fun W kk => D.parse s places most W kk (by omega) (i64_of_wf wp) (i64_of_wf wm)
    have cP' := fun W => R4.parse_any s places most W (by omega)
    have cO := fun W kk => D.of s W kk (by omega)
    have cO' := fun W => R4.of_any s W (by omega)
    obtain ⟨X, cX, cX'⟩ := text_both D n places (i64_of_wf wn) (i64_of_wf wp)
    obtain ⟨N, hN⟩ : ∃ N, N = pN s.data.toList places most := ⟨_, rfl⟩
    obtain ⟨V, hV⟩ : ∃ V, V = pW s.data.toList places most := ⟨_, rfl⟩
    obtain ⟨F, hF⟩ : ∃ F : Int, F = (fm s.data.toList : Int) := ⟨_, rfl⟩
    simp only [← hN, ← hV] at cP cP'
    simp only [← hF] at cO cO'
    clear hN hV hF
    go_enter Tryd.func3, Tryd.ntmps3
    go_wp2_with (first
      | (go_at_call 7; refine cA.mono ?_; rintro e w1 ⟨rfl, b1⟩; have k1 := D.keep k b1)
      | (go_at_call 8; refine (cP _ k1).mono ?_; rintro e w2 ⟨rfl, b2⟩; have B2 := below_on b1 b2)
      | (go_at_call 9; refine (cP' _).mono ?_; rintro e w3 ⟨rfl, b3⟩; have B3 := below_on B2 b3)
      | (go_at_call 10; refine (cO _ (D.keep k B3)).mono ?_; rintro e w4 ⟨rfl, b4⟩; have B4 := below_on B3 b4)
      | (go_at_call 11; refine (cO' _).mono ?_; rintro e w5 ⟨rfl, h5⟩; rw [h5])
      | (go_at_call 12; refine (cX _ (D.keep k B4)).mono ?_; rintro e w6 ⟨rfl, b6⟩; have B6 := below_on B4 b6)
      | (go_at_call 13; refine (cX' _).mono ?_; rintro e w7 ⟨rfl, b7⟩; have B7 := below_on B6 b7))
    go_ret
    exact ⟨ret_b (by simp), B7⟩
end Go.Proofs.YtkjlcbjfnffpfaaDoor.L04
