/- What the document's answers for layer 6 (poundageref06) come to: Texts, Ints, Same. -/
import Derived.Test.YteelbdcgdkpioaaGreatDoorJRef6e
namespace Go.Proofs.YteelbdcgdkpioaaGreatDoor.R6
open Go.RowKit Go.Sort P Mm Tl

/-- A text, of whatever length. -/
def tS : Ty ByteArray := leaf 1 (fun s => [.string s]) (fun _ => True) (fun _ => rfl)
theorem str_at {w : World} {ao : Option Addr} {len cap : Nat} {xs : List ByteArray} (h : Row tS w ao len cap xs) {j : Nat} {s : ByteArray} (hj : xs[j]? = some s) : ∃ b o, ao = some ⟨b, o, none⟩ ∧ b < w.heap.size ∧ w.cell? ⟨b, o + j, none⟩ = some (.string s) := by
  obtain ⟨b, o, cs, h1, h2, ⟨h3, _⟩, h4⟩ := h.at hj
  subst h3
  refine ⟨b, o, h1, h2, ?_⟩
  have := h4 0 _ rfl
  rw [show tS.n = 1 from rfl, Nat.mul_one] at this
  exact this
/-- A number, whatever it is. -/
def tI : Ty Int := leaf 1 (fun x => [.int .i64 x]) (fun _ => True) (fun _ => rfl)
theorem int_at {w : World} {ao : Option Addr} {len cap : Nat} {xs : List Int} (h : Row tI w ao len cap xs) {j : Nat} {s : Int} (hj : xs[j]? = some s) : ∃ b o, ao = some ⟨b, o, none⟩ ∧ b < w.heap.size ∧ w.cell? ⟨b, o + j, none⟩ = some (.int .i64 s) := by
  obtain ⟨b, o, cs, h1, h2, ⟨h3, _⟩, h4⟩ := h.at hj
  subst h3
  refine ⟨b, o, h1, h2, ?_⟩
  have := h4 0 _ rfl
  rw [show tI.n = 1 from rfl, Nat.mul_one] at this
  exact this
theorem eq_upto {α : Type} {xs ys : List α} (hl : xs.length = ys.length) (h : ∀ j, j < xs.length → xs[j]? = ys[j]?) : xs = ys := by
  apply List.ext_getElem?
  intro j
  by_cases hj : j < xs.length
  · exact h j hj
  · rw [List.getElem?_eq_none (by omega), List.getElem?_eq_none (by omega)]
theorem beq_str {s t : ByteArray} : (s.toList == t.toList) = true ↔ s = t := by
  rw [beq_iff_eq, ByteArray.toList_eq, ByteArray.toList_eq]
  constructor
  · intro h
    exact ByteArray.ext (Array.toList_inj.1 h)
  · rintro rfl; rfl
set_option maxHeartbeats 1000000 in
theorem texts_any (aa : Option Addr) (la ca : Nat) (ab : Option Addr) (lb cb : Nat) (xs ys : List ByteArray) (w : World) (hx : Row tS w aa la ca xs) (hy : Row tS w ab lb cb ys) (hs : la ≤ 10000000000) :
    Calls Tryz.prog 36 #[.slice aa la ca, .slice ab lb cb] w fun e w' => e = .returned (.bool (decide (xs = ys))) ∧ Below w.heap.size w w' := by
  have e1 := hx.hlen
  have e2 := hy.hlen
  obtain ⟨R, hR⟩ : ∃ R : Bool, R = decide (xs = ys) := ⟨_, rfl⟩
  rw [← hR]
  by_cases hl : la = lb
  · subst hl
    have HR := hid hR
    have HX := hid hx
    have HY := hid hy
    clear hR hx hy
    go_enter Tryz.func36, Tryz.ntmps36
    go_wp2
    go_loopw [13] (fun i wr => ∃ i' : Int, i = .int .i64 i' ∧ 0 ≤ i' ∧ i' ≤ la ∧ Hid (∀ j, j < i'.toNat → xs[j]? = ys[j]?) ∧ Hid (Below w.heap.size w wr)) (fun i _ => ((la : Int) - intOf i).toNat)
    case atStart => exact ⟨0, rfl, by omega, by omega, hid fun _ h => absurd h (Nat.not_lt_zero _), hid (Below.refl _ _)⟩
    case round =>
      obtain ⟨i', rfl, i0, i1, hh, hb⟩ := hrel
      by_cases hlt : i' < la
      · have hxl : i'.toNat < xs.length := by omega
        have hyl : i'.toNat < ys.length := by omega
        have tx : xs[i'.toNat]? = some (xs[i'.toNat]'hxl) := List.getElem?_eq_getElem hxl
        have ty : ys[i'.toNat]? = some (ys[i'.toNat]'hyl) := List.getElem?_eq_getElem hyl
        obtain ⟨s, hs'⟩ : ∃ s, s = xs[i'.toNat]'hxl := ⟨_, rfl⟩
        obtain ⟨t, ht'⟩ : ∃ t, t = ys[i'.toNat]'hyl := ⟨_, rfl⟩
        rw [← hs'] at tx
        rw [← ht'] at ty
        obtain ⟨b, o, e, lb1, a0⟩ := str_at (HX.out.on hb.out) tx
        obtain ⟨b2, o2, e', lb2, a1⟩ := str_at (HY.out.on hb.out) ty
        subst e
        subst e'
        have hTX := hid tx
        have hTY := hid ty
        have k0 := cell_regrown a0
        have k1 := cell_regrown a1
        have B2 := fun d os => hid (bel_on hb.out (below_regrown wr d os))
        clear hs' ht' tx ty a0 a1 hxl hyl e1 e2
        rcases Bool.eq_false_or_eq_true (s.toList == t.toList) with hne | hne
        · have he : s = t := beq_str.1 hne
          have hh2 : Hid (∀ j, j < (i' + 1).toNat → xs[j]? = ys[j]?) := hid fun j hj => by
            by_cases e : j = i'.toNat
            · subst e; rw [hTX.out, hTY.out, he]
            · exact hh.out j (by omega)
          clear he
          go_wp2
          refine wp_region_quiet_below (by kernel_rfl) (by kernel_rfl) ?_
          repeat (go_big_quiet_step (fail))
          refine wpQuiet_nil ?_
          intro _ hw'
          obtain ⟨⟨dq, osq⟩, hw''⟩ := hw'
          subst hw''
          have B3 := B2 dq osq
          clear B2
          go_wp2
          go_roundw
          case rel => exact ⟨i' + 1, rfl, by omega, by omega, hh2, B3⟩
          case measure => simp [intOf]; omega
        · have Fin : Hid (R = false) := hid (by
            rw [HR.out, decide_eq_false_iff_not]
            intro e
            have h1 := hTX.out
            have h2 := hTY.out
            rw [e, h2] at h1
            obtain rfl := Option.some.inj h1
            rw [beq_str.2 rfl] at hne
            cases hne)
          go_wp2
          refine wp_region_quiet_below (by kernel_rfl) (by kernel_rfl) ?_
          repeat (go_big_quiet_step (fail))
          refine wpQuiet_nil ?_
          intro _ hw'
          obtain ⟨⟨dq, osq⟩, hw''⟩ := hw'
          subst hw''
          go_wp2
          go_ret
          exact ⟨ret_b Fin.out.symm, (B2 dq osq).out⟩
      · obtain rfl : i' = la := by omega
        have Fin : Hid (R = true) := hid (by
          rw [HR.out, decide_eq_true_iff]
          exact eq_upto (by omega) fun j hj => hh.out j (by omega))
        go_wp2
        go_ret
        exact ⟨ret_b Fin.out.symm, hb.out⟩
  · have hne : ¬ (la : Int) = lb := by omega
    have Fin : Hid (R = false) := hid (by
      rw [hR, decide_eq_false_iff_not]
      intro e
      rw [e] at e1
      omega)
    clear hR hl e1 e2 hx hy
    go_enter Tryz.func36, Tryz.ntmps36
    go_wp2
    go_ret
    exact ⟨ret_b Fin.out.symm, Below.refl _ _⟩
end Go.Proofs.YteelbdcgdkpioaaGreatDoor.R6
