/- The order of days and of their texts, as plain arithmetic: no program is named here. -/
import Derived.Test.YtagaoalafmdnbaaDoorDatP
import GoSem.Op.String
namespace Go.Proofs.YtagaoalafmdnbaaDoor.P
open Go.RowKit

/-- Whether a day is later than another. -/
def lat (y m d y' m' d' : Int) : Bool := decide (y > y' ∨ y = y' ∧ (m > m' ∨ m = m' ∧ d > d'))
theorem lat_iff (y m d y' m' d' : Int) : lat y m d y' m' d' = true ↔ later y m d y' m' d' := by unfold lat later; rw [decide_eq_true_eq]
theorem bl_cons (a b : UInt8) (x y : List UInt8) : Op.bytesLess (a :: x) (b :: y) = (decide (a < b) || (a == b && Op.bytesLess x y)) := by rw [Op.bytesLess]
theorem dch_lt {a b : Nat} (ha : a < 10) (hb : b < 10) : decide (dch a < dch b) = decide (a < b) := by
  rw [decide_eq_decide, UInt8.lt_iff_toNat_lt, dig_toNat ha, dig_toNat hb]; omega
theorem dch_eq {a b : Nat} (ha : a < 10) (hb : b < 10) : (dch a == dch b) = decide (a = b) := by
  rw [Bool.eq_iff_iff]
  simp only [beq_iff_eq, decide_eq_true_eq]
  constructor
  · intro h
    have := congrArg UInt8.toNat h
    rw [dig_toNat ha, dig_toNat hb] at this
    omega
  · rintro rfl; rfl
theorem bl_pad : ∀ (k n n' : Nat) (r r' : List UInt8), n < 10 ^ k → n' < 10 ^ k → Op.bytesLess (pad k n ++ r) (pad k n' ++ r') = (decide (n < n') || (decide (n = n') && Op.bytesLess r r'))
  | 0, n, n', r, r', h, h' => by
    have e : n = 0 := by simpa using h
    have e' : n' = 0 := by simpa using h'
    subst e e'
    simp [pad]
  | k + 1, n, n', r, r', h, h' => by
    have hm : n % 10 < 10 := Nat.mod_lt _ (by decide)
    have hm' : n' % 10 < 10 := Nat.mod_lt _ (by decide)
    rw [Nat.pow_succ] at h h'
    show Op.bytesLess (pad k (n / 10) ++ [dch (n % 10)] ++ r) (pad k (n' / 10) ++ [dch (n' % 10)] ++ r') = _
    rw [List.append_assoc, List.append_assoc, bl_pad k (n / 10) (n' / 10) _ _ (by omega) (by omega), List.singleton_append, List.singleton_append, bl_cons, dch_lt hm hm', dch_eq hm hm']
    rcases Nat.lt_trichotomy n n' with hl | hl | hl
    · rw [decide_eq_true hl]
      by_cases hq : n / 10 < n' / 10
      · rw [decide_eq_true hq]; rfl
      · have e1 : n / 10 = n' / 10 := by omega
        have e2 : n % 10 < n' % 10 := by omega
        rw [decide_eq_true e1, decide_eq_true e2]; simp
    · subst hl; simp
    · have h1 : ¬ n < n' := by omega
      have h2 : ¬ n = n' := by omega
      rw [decide_eq_false h1, decide_eq_false h2]
      have h3 : ¬ n / 10 < n' / 10 := by omega
      rw [decide_eq_false h3]
      by_cases hq : n / 10 = n' / 10
      · have e2 : ¬ n % 10 < n' % 10 := by omega
        have e3 : ¬ n % 10 = n' % 10 := by omega
        rw [decide_eq_false e2, decide_eq_false e3]; simp
      · rw [decide_eq_false hq]; rfl
/-- A greater text, just where the day is later. -/
theorem txt_less {y m d y' m' d' : Int} (g : good y m d = true) (g' : good y' m' d' = true) : Op.bytesLess (txt y m d) (txt y' m' d') = lat y' m' d' y m d := by
  obtain ⟨h0, h1, h2, h3, h4, h5⟩ := good_small g
  obtain ⟨k0, k1, k2, k3, k4, k5⟩ := good_small g'
  have e : ∀ y m d, txt y m d = pad 4 y.toNat ++ (45 :: (pad 2 m.toNat ++ (45 :: (pad 2 d.toNat ++ [])))) := fun y m d => by simp [txt]
  rw [e, e, bl_pad 4 _ _ _ _ (by show _ < 10000; omega) (by show _ < 10000; omega), bl_cons, bl_pad 2 _ _ _ _ (by show _ < 100; omega) (by show _ < 100; omega), bl_cons, bl_pad 2 _ _ _ _ (by show _ < 100; omega) (by show _ < 100; omega)]
  rw [Bool.eq_iff_iff]
  simp [lat, Op.bytesLess]
  omega
theorem txt_inj {y m d y' m' d' : Int} (g : good y m d = true) (g' : good y' m' d' = true) (h : txt y m d = txt y' m' d') : y = y' ∧ m = m' ∧ d = d' := by
  obtain ⟨h0, h1, h2, h3, h4, h5⟩ := good_small g
  obtain ⟨k0, k1, k2, k3, k4, k5⟩ := good_small g'
  obtain ⟨a, b, c⟩ := of_txt h0 h1 h2 h3 h4 h5
  obtain ⟨a', b', c'⟩ := of_txt k0 k1 k2 k3 k4 k5
  rw [h] at a b c
  exact ⟨by rw [← a, a'], by rw [← b, b'], by rw [← c, c']⟩
theorem txt_gtr {y m d y' m' d' : Int} (g : good y m d = true) (g' : good y' m' d' = true) : (!(Op.bytesLess (txt y m d) (txt y' m' d') || txt y m d == txt y' m' d')) = lat y m d y' m' d' := by
  rw [txt_less g g', Bool.eq_iff_iff, lat_iff]
  simp only [Bool.not_eq_true', Bool.or_eq_false_iff, beq_eq_false_iff_ne]
  constructor
  · rintro ⟨a, b⟩
    rcases later_or y m d y' m' d' with k | ⟨rfl, rfl, rfl⟩ | k
    · exact k
    · exact absurd rfl b
    · rw [(lat_iff _ _ _ _ _ _).2 k] at a; cases a
  · intro k
    refine ⟨?_, fun e => ?_⟩
    · rw [Bool.eq_false_iff]
      intro k'
      rw [lat_iff] at k'
      unfold later at k k'; omega
    · obtain ⟨rfl, rfl, rfl⟩ := txt_inj g g' e
      unfold later at k; omega
theorem lat_num {y m d y' m' d' : Int} (g : good y m d = true) (g' : good y' m' d' = true) : decide (num y' m' d' < num y m d) = lat y m d y' m' d' := by
  rw [Bool.eq_iff_iff, lat_iff, decide_eq_true_eq]
  exact num_later_iff g g'
end Go.Proofs.YtagaoalafmdnbaaDoor.P
