/- Tokens that read alike, as plans: what the parser makes of them is alike, but for places. Pure: no program is named here. -/
import Derived.Test.YtabcoahenlaehaaDoorJParI
import Derived.Test.YtabcoahenlaehaaDoorJParN
namespace Go.Proofs.YtabcoahenlaehaaDoor.P
open Go.RowKit Mm R6

/-- Two rows of tokens read alike from some place on, up to some place. -/
def Al (n d : Nat) (ts ts' : List Tok) : Prop := ∀ j, j < n → (ts.getD j nil0).k = (ts'.getD (j + d) nil0).k ∧ (ts.getD j nil0).t = (ts'.getD (j + d) nil0).t
/-- Two parsers stand at such places. -/
structure Sm (d : Nat) (s s' : St) : Prop where
  err : s.err = s'.err
  ix : s'.i = s.i + d
section
variable {n d : Nat} {ts ts' : List Tok} {s s' : St}
theorem Sm.tok (A : Al n d ts ts') (h : Sm d s s') (hi : s.i < n) : (tk ts s).k = (tk ts' s').k ∧ (tk ts s).t = (tk ts' s').t := by
  have := A s.i hi
  unfold tk
  rw [h.ix]
  exact this
theorem Sm.next (h : Sm d s s') : Sm d s.next s'.next := ⟨h.err, by show s'.i + 1 = s.i + 1 + d; rw [h.ix]; omega⟩
theorem wrgErr (ts : List Tok) (s : St) (e : Int) : (P.wrg ts s e).err = if s.err = 0 then e else s.err := by unfold P.wrg; split <;> rfl
theorem Sm.wrg (h : Sm d s s') (e : Int) : Sm d (wrg ts s e) (wrg ts' s' e) := ⟨by rw [wrgErr, wrgErr, h.err], by rw [wrg_i, wrg_i, h.ix]⟩
theorem Sm.onW (A : Al n d ts ts') (h : Sm d s s') (hi : s.i < n) (l : List UInt8) : onW ts s l = onW ts' s' l := by
  unfold P.onW
  rw [(Sm.tok A h hi).1, (Sm.tok A h hi).2, h.err]
theorem Sm.isTk (A : Al n d ts ts') (h : Sm d s s') (hi : s.i < n) (k : Nat) : isTk ts s k = isTk ts' s' k := by
  unfold P.isTk
  rw [(Sm.tok A h hi).1, h.err]
theorem Sm.wnt (A : Al n d ts ts') (h : Sm d s s') (hi : s.i < n) (l : List UInt8) : Sm d (wnt ts s l) (wnt ts' s' l) := by
  unfold P.wnt
  rw [← Sm.onW A h hi l]
  split
  · exact h.next
  · exact h.wrg 4
theorem Sm.tkn (A : Al n d ts ts') (h : Sm d s s') (hi : s.i < n) (k : Nat) : (tkn ts s k).1 = (tkn ts' s' k).1 ∧ Sm d (tkn ts s k).2 (tkn ts' s' k).2 := by
  unfold P.tkn
  rw [← Sm.isTk A h hi k]
  split
  · exact ⟨(Sm.tok A h hi).2, h.next⟩
  · exact ⟨rfl, h.wrg 4⟩
theorem Sm.bad (h : Sm d s s') (v : Int) : Sm d (bad ts s v) (bad ts' s' v) := by
  unfold P.bad
  split
  · exact h.wrg 4
  · split
    · exact h.wrg 6
    · exact h
theorem Sm.numS (A : Al n d ts ts') (h : Sm d s s') (hi : s.i < n) (p m : Int) : (numS ts s p m).1 = (numS ts' s' p m).1 ∧ Sm d (numS ts s p m).2 (numS ts' s' p m).2 := by
  unfold P.numS
  rw [← Sm.isTk A h hi 3, ← (Sm.tok A h hi).2]
  split
  · exact ⟨rfl, (h.bad _).next⟩
  · exact ⟨rfl, h.wrg 4⟩
theorem Sm.dayS (A : Al n d ts ts') (h : Sm d s s') (hi : s.i < n) : (dayS ts s).1 = (dayS ts' s').1 ∧ Sm d (dayS ts s).2 (dayS ts' s').2 := by
  have a := Sm.tkn A h hi 4
  unfold P.dayS
  rw [a.1]
  exact ⟨rfl, a.2⟩
theorem Sm.winS (A : Al n d ts ts') (h : Sm d s s') (hi : (P.winS ts s).2.i < n) : (winS ts s).1 = (winS ts' s').1 ∧ Sm d (winS ts s).2 (winS ts' s').2 := by
  have h0 : s.i < n := Nat.lt_of_le_of_lt (winS_le ts s) hi
  unfold P.winS at hi ⊢
  rw [← Sm.onW A h h0 wFrom]
  by_cases c : P.onW ts s wFrom = true
  · simp only [if_pos c] at hi ⊢
    have l1 : s.next.i ≤ (P.dayS ts s.next).2.i := tkn_le ts s.next 4
    have l2 := wnt_le ts (P.dayS ts s.next).2 wTo
    have l3 : (P.wnt ts (P.dayS ts s.next).2 wTo).i ≤ (P.dayS ts (P.wnt ts (P.dayS ts s.next).2 wTo)).2.i := tkn_le ts _ 4
    have a1 := Sm.dayS A h.next (by omega)
    have a2 := Sm.wnt A a1.2 (by omega) wTo
    have a3 := Sm.dayS A a2 (by omega)
    rw [a1.1, a3.1]
    exact ⟨rfl, a3.2⟩
  · simp only [if_neg c] at hi ⊢
    exact ⟨trivial, h⟩
theorem Sm.oneAt (A : Al n d ts ts') (h : Sm d s s') (hi : s.i < n) : ∀ (ws : List (List UInt8)) (k : Int), (oneAt ts s ws k).1 = (oneAt ts' s' ws k).1 ∧ Sm d (oneAt ts s ws k).2 (oneAt ts' s' ws k).2
  | [], _ => ⟨rfl, h⟩
  | w :: r, k => by
    unfold P.oneAt
    rw [← Sm.onW A h hi w]
    split
    · exact ⟨rfl, h.next⟩
    · exact Sm.oneAt A h hi r (k + 1)
theorem Sm.oneS (A : Al n d ts ts') (h : Sm d s s') (hi : s.i < n) (ws : List (List UInt8)) : (oneS ts s ws).1 = (oneS ts' s' ws).1 ∧ Sm d (oneS ts s ws).2 (oneS ts' s' ws).2 := Sm.oneAt A h hi ws 0
theorem Sm.modeS (A : Al n d ts ts') (h : Sm d s s') (hi : (P.modeS ts s).2.i < n) : (modeS ts s).1 = (modeS ts' s').1 ∧ Sm d (modeS ts s).2 (modeS ts' s').2 := by
  have h0 : s.i < n := Nat.lt_of_le_of_lt (modeS_le ts s) hi
  have a := Sm.oneS A h h0 modes
  unfold P.modeS
  rw [← a.1]
  split
  · exact ⟨rfl, a.2.wrg 4⟩
  · exact a
theorem Sm.kindS (A : Al n d ts ts') (h : Sm d s s') (hi : (P.kindS ts s).2.i < n) : (kindS ts s).1 = (kindS ts' s').1 ∧ Sm d (kindS ts s).2 (kindS ts' s').2 := by
  have h0 : s.i < n := Nat.lt_of_le_of_lt (kindS_le ts s) hi
  have a := Sm.oneS A h h0 kinds
  unfold P.kindS
  simp only
  rw [← a.1]
  refine ⟨rfl, ?_⟩
  split
  · exact a.2.wrg 4
  · exact a.2
theorem Sm.optS (A : Al n d ts ts') (h : Sm d s s') {l : List UInt8} {v : Int} (hi : (P.optS ts s l v).2.i < n) : (optS ts s l v).1 = (optS ts' s' l v).1 ∧ Sm d (optS ts s l v).2 (optS ts' s' l v).2 := by
  have h0 : s.i < n := Nat.lt_of_le_of_lt (optS_le ts s l v) hi
  unfold P.optS at hi ⊢
  rw [← Sm.onW A h h0 l]
  by_cases c : P.onW ts s l = true
  · simp only [if_pos c] at hi ⊢
    have l1 := numS_le ts s.next 0 1000000
    have l2 := wnt_le ts (P.numS ts s.next 0 1000000).2 sSemi
    have a1 := Sm.numS A h.next (by omega) 0 1000000
    exact ⟨a1.1, Sm.wnt A a1.2 (by omega) sSemi⟩
  · simp only [if_neg c] at hi ⊢
    exact ⟨trivial, h⟩
theorem Sm.tierS (A : Al n d ts ts') (h : Sm d s s') (hi : (P.tierS ts s).2.i < n) : (tierS ts s).1 = (tierS ts' s').1 ∧ Sm d (tierS ts s).2 (tierS ts' s').2 := by
  have l1 := numS_le ts s 0 1000000
  have l2 := wnt_le ts (P.numS ts s 0 1000000).2 wRate
  have l3 := numS_le ts (P.wnt ts (P.numS ts s 0 1000000).2 wRate) 6 1000000000000
  have l4 := wnt_le ts (P.numS ts (P.wnt ts (P.numS ts s 0 1000000).2 wRate) 6 1000000000000).2 sSemi
  unfold P.tierS at hi ⊢
  simp only at hi ⊢
  have a1 := Sm.numS A h (by omega) 0 1000000
  have a2 := Sm.wnt A a1.2 (by omega) wRate
  have a3 := Sm.numS A a2 (by omega) 6 1000000000000
  rw [a1.1, a3.1]
  exact ⟨rfl, Sm.wnt A a3.2 (by omega) sSemi⟩
end
theorem Sm.tiers {n d : Nat} {ts ts' : List Tok} (A : Al n d ts ts') : ∀ (m : Nat) (s s' : St) (acc : List Tier), Sm d s s' → (tiersS ts m s acc).2.i < n → (tiersS ts m s acc).1 = (tiersS ts' m s' acc).1 ∧ Sm d (tiersS ts m s acc).2 (tiersS ts' m s' acc).2
  | 0, _, _, _, h, _ => ⟨rfl, h⟩
  | m + 1, s, s', acc, h, hi => by
    have h0 : s.i < n := Nat.lt_of_le_of_lt (tiersS_le ts (m + 1) s acc) hi
    unfold tiersS at hi ⊢
    rw [← Sm.onW A h h0 wUpto]
    by_cases c : P.onW ts s wUpto = true
    · simp only [if_pos c] at hi ⊢
      have a := Sm.tierS A h.next (Nat.lt_of_le_of_lt (tiersS_le ts m _ _) hi)
      rw [← a.1]
      exact Sm.tiers A m _ _ _ a.2 hi
    · simp only [if_neg c] at hi ⊢
      exact ⟨trivial, h⟩
theorem Sm.adjS {n d : Nat} {ts ts' : List Tok} {s s' : St} (A : Al n d ts ts') (h : Sm d s s') (k : Int) (hi : (P.adjS ts s k).2.i < n) : (adjS ts s k).1 = (adjS ts' s' k).1 ∧ Sm d (adjS ts s k).2 (adjS ts' s' k).2 := by
  unfold P.adjS at hi ⊢
  by_cases c : k = 1
  · simp only [if_pos c] at hi ⊢
    have l1 := numS_le ts s 3 100000000
    have l2 := modeS_le ts (P.numS ts s 3 100000000).2
    have l3 := wnt_le ts (P.modeS ts (P.numS ts s 3 100000000).2).2 sSemi
    have a1 := Sm.numS A h (by omega) 3 100000000
    have a2 := Sm.modeS A a1.2 (by omega)
    rw [a1.1, a2.1]
    exact ⟨rfl, Sm.wnt A a2.2 (by omega) sSemi⟩
  · simp only [if_neg c] at hi ⊢
    have l1 := numS_le ts s 0 1000000000000
    have l3 := wnt_le ts (P.numS ts s 0 1000000000000).2 sSemi
    have a1 := Sm.numS A h (by omega) 0 1000000000000
    rw [a1.1]
    exact ⟨rfl, Sm.wnt A a1.2 (by omega) sSemi⟩
theorem Sm.adjs {n d : Nat} {ts ts' : List Tok} (A : Al n d ts ts') : ∀ (m : Nat) (s s' : St) (acc : List Adj), Sm d s s' → (adjsS ts m s acc).2.i < n → (adjsS ts m s acc).1 = (adjsS ts' m s' acc).1 ∧ Sm d (adjsS ts m s acc).2 (adjsS ts' m s' acc).2
  | 0, _, _, _, h, _ => ⟨rfl, h⟩
  | m + 1, s, s', acc, h, hi => by
    have h0 : s.i < n := Nat.lt_of_le_of_lt (adjsS_le ts (m + 1) s acc) hi
    have a := Sm.oneS A h h0 adjWords
    unfold adjsS at hi ⊢
    simp only at hi ⊢
    rw [← a.1]
    by_cases c : 1 + (P.oneS ts s adjWords).1 = 0
    · simp only [if_pos c] at hi ⊢
      exact ⟨trivial, a.2⟩
    · simp only [if_neg c] at hi ⊢
      have b := Sm.adjS A a.2 (1 + (P.oneS ts s adjWords).1) (Nat.lt_of_le_of_lt (adjsS_le ts m _ _) hi)
      rw [← b.1]
      exact Sm.adjs A m _ _ _ b.2 hi
section
variable {n d : Nat} {ts ts' : List Tok} {s s' : St}
theorem Sm.tiersF (A : Al n d ts ts') (ok : Ok ts s) (ok' : Ok ts' s') (h : Sm d s s') (hi : (tiersS ts ts.length s []).2.i < n) :
    (tiersS ts ts.length s []).1 = (tiersS ts' ts'.length s' []).1 ∧ Sm d (tiersS ts ts.length s []).2 (tiersS ts' ts'.length s' []).2 := by
  rw [tiers_fuel ts ts.length (ts.length + ts'.length) s [] ok (by omega) (by omega)] at hi ⊢
  rw [tiers_fuel ts' ts'.length (ts.length + ts'.length) s' [] ok' (by omega) (by omega)]
  exact Sm.tiers A _ _ _ _ h hi
theorem Sm.adjsF (A : Al n d ts ts') (ok : Ok ts s) (ok' : Ok ts' s') (h : Sm d s s') (hi : (adjsS ts ts.length s []).2.i < n) :
    (adjsS ts ts.length s []).1 = (adjsS ts' ts'.length s' []).1 ∧ Sm d (adjsS ts ts.length s []).2 (adjsS ts' ts'.length s' []).2 := by
  rw [adjs_fuel ts ts.length (ts.length + ts'.length) s [] ok (by omega) (by omega)] at hi ⊢
  rw [adjs_fuel ts' ts'.length (ts.length + ts'.length) s' [] ok' (by omega) (by omega)]
  exact Sm.adjs A _ _ _ _ h hi
theorem nM_of {a a' u u' : List UInt8} {x x' : Int} (e1 : a = a') (e2 : u = u') (e3 : x = x') {l c l' c' : Int} : nM ⟨⟨a.toArray⟩, ⟨u.toArray⟩, x, l, c⟩ = nM ⟨⟨a'.toArray⟩, ⟨u'.toArray⟩, x', l', c'⟩ := by subst e1 e2 e3; rfl
theorem nF_of {x x' : Int} {w w' : Win} (e1 : x = x') (e2 : w = w') {l c l' c' : Int} : nF ⟨x, w, l, c⟩ = nF ⟨x', w', l', c'⟩ := by subst e1 e2; rfl
theorem nC_of {m m' : List UInt8} {w w' : Win} {a a' b b' k k' r r' x x' : Int} {t t' : List Tier} {j j' : List Adj} (e1 : m = m') (e2 : w = w') (e3 : a = a') (e4 : b = b') (e5 : k = k') (e6 : t = t') (e7 : r = r') (e8 : x = x') (e9 : j = j') {l c l' c' : Int} :
    nC ⟨⟨m.toArray⟩, w, a, b, k, t ++ [⟨0, r⟩], x, j, l, c⟩ = nC ⟨⟨m'.toArray⟩, w', a', b', k', t' ++ [⟨0, r'⟩], x', j', l', c'⟩ := by subst e1 e2 e3 e4 e5 e6 e7 e8 e9; rfl
theorem Sm.meterS (A : Al n d ts ts') (ok : Ok ts s) (ok' : Ok ts' s') (h : Sm d s s') (hi : (P.numS ts (P.wnt ts (P.tkn ts (P.wnt ts (P.tkn ts s 1).2 wUnit) 1).2 wMax) 0 2000).2.i < n) (l c l' c' : Int) : nM (P.meterS ts s l c).1 = nM (P.meterS ts' s' l' c').1 ∧ Sm d (P.meterS ts s l c).2 (P.meterS ts' s' l' c').2 := by
  have b5 : (P.numS ts (P.wnt ts (P.tkn ts (P.wnt ts (P.tkn ts s 1).2 wUnit) 1).2 wMax) 0 2000).2.i < n := hi
  have b4 : (P.wnt ts (P.tkn ts (P.wnt ts (P.tkn ts s 1).2 wUnit) 1).2 wMax).i < n := Nat.lt_of_le_of_lt (numS_le ts (P.wnt ts (P.tkn ts (P.wnt ts (P.tkn ts s 1).2 wUnit) 1).2 wMax) 0 2000) b5
  have b3 : (P.tkn ts (P.wnt ts (P.tkn ts s 1).2 wUnit) 1).2.i < n := Nat.lt_of_le_of_lt (wnt_le ts (P.tkn ts (P.wnt ts (P.tkn ts s 1).2 wUnit) 1).2 wMax) b4
  have b2 : (P.wnt ts (P.tkn ts s 1).2 wUnit).i < n := Nat.lt_of_le_of_lt (tkn_le ts (P.wnt ts (P.tkn ts s 1).2 wUnit) 1) b3
  have b1 : (P.tkn ts s 1).2.i < n := Nat.lt_of_le_of_lt (wnt_le ts (P.tkn ts s 1).2 wUnit) b2
  have b0 : s.i < n := Nat.lt_of_le_of_lt (tkn_le ts s 1) b1
  have o0 := ok
  have q0 := ok'
  have o1 := o0.tkn (k := 1) (by decide)
  have q1 := q0.tkn (k := 1) (by decide)
  have a1 := Sm.tkn A (h) b0 1
  have o2 := o1.wnt wUnit
  have q2 := q1.wnt wUnit
  have a2 := Sm.wnt A (a1.2) b1 wUnit
  have o3 := o2.tkn (k := 1) (by decide)
  have q3 := q2.tkn (k := 1) (by decide)
  have a3 := Sm.tkn A (a2) b2 1
  have o4 := o3.wnt wMax
  have q4 := q3.wnt wMax
  have a4 := Sm.wnt A (a3.2) b3 wMax
  have o5 := o4.numS 0 2000
  have q5 := q4.numS 0 2000
  have a5 := Sm.numS A (a4) b4 0 2000
  exact ⟨nM_of a1.1 a3.1 a5.1, Sm.wnt A (a5.2) b5 sSemi⟩
theorem Sm.feeS (A : Al n d ts ts') (ok : Ok ts s) (ok' : Ok ts' s') (h : Sm d s s') (hi : (P.winS ts (P.numS ts s 0 1000000000000).2).2.i < n) (l c l' c' : Int) : nF (P.feeS ts s l c).1 = nF (P.feeS ts' s' l' c').1 ∧ Sm d (P.feeS ts s l c).2 (P.feeS ts' s' l' c').2 := by
  have b2 : (P.winS ts (P.numS ts s 0 1000000000000).2).2.i < n := hi
  have b1 : (P.numS ts s 0 1000000000000).2.i < n := Nat.lt_of_le_of_lt (winS_le ts (P.numS ts s 0 1000000000000).2) b2
  have b0 : s.i < n := Nat.lt_of_le_of_lt (numS_le ts s 0 1000000000000) b1
  have o0 := ok
  have q0 := ok'
  have o1 := o0.numS 0 1000000000000
  have q1 := q0.numS 0 1000000000000
  have a1 := Sm.numS A (h) b0 0 1000000000000
  have o2 := o1.winS
  have q2 := q1.winS
  have a2 := Sm.winS A (a1.2) b2
  exact ⟨nF_of a1.1 a2.1, Sm.wnt A (a2.2) b2 sSemi⟩
theorem Sm.chargeS (A : Al n d ts ts') (ok : Ok ts s) (ok' : Ok ts' s') (h : Sm d s s') (hi : (P.adjsS ts ts.length (P.wnt ts (P.modeS ts (P.wnt ts (P.wnt ts (P.wnt ts (P.numS ts (P.wnt ts (P.wnt ts (P.tiersS ts ts.length (P.wnt ts (P.kindS ts (P.optS ts (P.optS ts (P.wnt ts (P.winS ts (P.tkn ts s 1).2).2 sOpen) wAllowance 0).2 wBlock 1).2).2 sOpen) []).2 wRest) wRate) 6 1000000000000).2 sSemi) sShut) wRound)).2 sSemi) []).2.i < n) (l c l' c' : Int) : nC (P.chargeS ts s l c).1 = nC (P.chargeS ts' s' l' c').1 ∧ Sm d (P.chargeS ts s l c).2 (P.chargeS ts' s' l' c').2 := by
  have b17 : (P.adjsS ts ts.length (P.wnt ts (P.modeS ts (P.wnt ts (P.wnt ts (P.wnt ts (P.numS ts (P.wnt ts (P.wnt ts (P.tiersS ts ts.length (P.wnt ts (P.kindS ts (P.optS ts (P.optS ts (P.wnt ts (P.winS ts (P.tkn ts s 1).2).2 sOpen) wAllowance 0).2 wBlock 1).2).2 sOpen) []).2 wRest) wRate) 6 1000000000000).2 sSemi) sShut) wRound)).2 sSemi) []).2.i < n := hi
  have b16 : (P.wnt ts (P.modeS ts (P.wnt ts (P.wnt ts (P.wnt ts (P.numS ts (P.wnt ts (P.wnt ts (P.tiersS ts ts.length (P.wnt ts (P.kindS ts (P.optS ts (P.optS ts (P.wnt ts (P.winS ts (P.tkn ts s 1).2).2 sOpen) wAllowance 0).2 wBlock 1).2).2 sOpen) []).2 wRest) wRate) 6 1000000000000).2 sSemi) sShut) wRound)).2 sSemi).i < n := Nat.lt_of_le_of_lt (adjsS_le ts ts.length (P.wnt ts (P.modeS ts (P.wnt ts (P.wnt ts (P.wnt ts (P.numS ts (P.wnt ts (P.wnt ts (P.tiersS ts ts.length (P.wnt ts (P.kindS ts (P.optS ts (P.optS ts (P.wnt ts (P.winS ts (P.tkn ts s 1).2).2 sOpen) wAllowance 0).2 wBlock 1).2).2 sOpen) []).2 wRest) wRate) 6 1000000000000).2 sSemi) sShut) wRound)).2 sSemi) []) b17
  have b15 : (P.modeS ts (P.wnt ts (P.wnt ts (P.wnt ts (P.numS ts (P.wnt ts (P.wnt ts (P.tiersS ts ts.length (P.wnt ts (P.kindS ts (P.optS ts (P.optS ts (P.wnt ts (P.winS ts (P.tkn ts s 1).2).2 sOpen) wAllowance 0).2 wBlock 1).2).2 sOpen) []).2 wRest) wRate) 6 1000000000000).2 sSemi) sShut) wRound)).2.i < n := Nat.lt_of_le_of_lt (wnt_le ts (P.modeS ts (P.wnt ts (P.wnt ts (P.wnt ts (P.numS ts (P.wnt ts (P.wnt ts (P.tiersS ts ts.length (P.wnt ts (P.kindS ts (P.optS ts (P.optS ts (P.wnt ts (P.winS ts (P.tkn ts s 1).2).2 sOpen) wAllowance 0).2 wBlock 1).2).2 sOpen) []).2 wRest) wRate) 6 1000000000000).2 sSemi) sShut) wRound)).2 sSemi) b16
  have b14 : (P.wnt ts (P.wnt ts (P.wnt ts (P.numS ts (P.wnt ts (P.wnt ts (P.tiersS ts ts.length (P.wnt ts (P.kindS ts (P.optS ts (P.optS ts (P.wnt ts (P.winS ts (P.tkn ts s 1).2).2 sOpen) wAllowance 0).2 wBlock 1).2).2 sOpen) []).2 wRest) wRate) 6 1000000000000).2 sSemi) sShut) wRound).i < n := Nat.lt_of_le_of_lt (modeS_le ts (P.wnt ts (P.wnt ts (P.wnt ts (P.numS ts (P.wnt ts (P.wnt ts (P.tiersS ts ts.length (P.wnt ts (P.kindS ts (P.optS ts (P.optS ts (P.wnt ts (P.winS ts (P.tkn ts s 1).2).2 sOpen) wAllowance 0).2 wBlock 1).2).2 sOpen) []).2 wRest) wRate) 6 1000000000000).2 sSemi) sShut) wRound)) b15
  have b13 : (P.wnt ts (P.wnt ts (P.numS ts (P.wnt ts (P.wnt ts (P.tiersS ts ts.length (P.wnt ts (P.kindS ts (P.optS ts (P.optS ts (P.wnt ts (P.winS ts (P.tkn ts s 1).2).2 sOpen) wAllowance 0).2 wBlock 1).2).2 sOpen) []).2 wRest) wRate) 6 1000000000000).2 sSemi) sShut).i < n := Nat.lt_of_le_of_lt (wnt_le ts (P.wnt ts (P.wnt ts (P.numS ts (P.wnt ts (P.wnt ts (P.tiersS ts ts.length (P.wnt ts (P.kindS ts (P.optS ts (P.optS ts (P.wnt ts (P.winS ts (P.tkn ts s 1).2).2 sOpen) wAllowance 0).2 wBlock 1).2).2 sOpen) []).2 wRest) wRate) 6 1000000000000).2 sSemi) sShut) wRound) b14
  have b12 : (P.wnt ts (P.numS ts (P.wnt ts (P.wnt ts (P.tiersS ts ts.length (P.wnt ts (P.kindS ts (P.optS ts (P.optS ts (P.wnt ts (P.winS ts (P.tkn ts s 1).2).2 sOpen) wAllowance 0).2 wBlock 1).2).2 sOpen) []).2 wRest) wRate) 6 1000000000000).2 sSemi).i < n := Nat.lt_of_le_of_lt (wnt_le ts (P.wnt ts (P.numS ts (P.wnt ts (P.wnt ts (P.tiersS ts ts.length (P.wnt ts (P.kindS ts (P.optS ts (P.optS ts (P.wnt ts (P.winS ts (P.tkn ts s 1).2).2 sOpen) wAllowance 0).2 wBlock 1).2).2 sOpen) []).2 wRest) wRate) 6 1000000000000).2 sSemi) sShut) b13
  have b11 : (P.numS ts (P.wnt ts (P.wnt ts (P.tiersS ts ts.length (P.wnt ts (P.kindS ts (P.optS ts (P.optS ts (P.wnt ts (P.winS ts (P.tkn ts s 1).2).2 sOpen) wAllowance 0).2 wBlock 1).2).2 sOpen) []).2 wRest) wRate) 6 1000000000000).2.i < n := Nat.lt_of_le_of_lt (wnt_le ts (P.numS ts (P.wnt ts (P.wnt ts (P.tiersS ts ts.length (P.wnt ts (P.kindS ts (P.optS ts (P.optS ts (P.wnt ts (P.winS ts (P.tkn ts s 1).2).2 sOpen) wAllowance 0).2 wBlock 1).2).2 sOpen) []).2 wRest) wRate) 6 1000000000000).2 sSemi) b12
  have b10 : (P.wnt ts (P.wnt ts (P.tiersS ts ts.length (P.wnt ts (P.kindS ts (P.optS ts (P.optS ts (P.wnt ts (P.winS ts (P.tkn ts s 1).2).2 sOpen) wAllowance 0).2 wBlock 1).2).2 sOpen) []).2 wRest) wRate).i < n := Nat.lt_of_le_of_lt (numS_le ts (P.wnt ts (P.wnt ts (P.tiersS ts ts.length (P.wnt ts (P.kindS ts (P.optS ts (P.optS ts (P.wnt ts (P.winS ts (P.tkn ts s 1).2).2 sOpen) wAllowance 0).2 wBlock 1).2).2 sOpen) []).2 wRest) wRate) 6 1000000000000) b11
  have b9 : (P.wnt ts (P.tiersS ts ts.length (P.wnt ts (P.kindS ts (P.optS ts (P.optS ts (P.wnt ts (P.winS ts (P.tkn ts s 1).2).2 sOpen) wAllowance 0).2 wBlock 1).2).2 sOpen) []).2 wRest).i < n := Nat.lt_of_le_of_lt (wnt_le ts (P.wnt ts (P.tiersS ts ts.length (P.wnt ts (P.kindS ts (P.optS ts (P.optS ts (P.wnt ts (P.winS ts (P.tkn ts s 1).2).2 sOpen) wAllowance 0).2 wBlock 1).2).2 sOpen) []).2 wRest) wRate) b10
  have b8 : (P.tiersS ts ts.length (P.wnt ts (P.kindS ts (P.optS ts (P.optS ts (P.wnt ts (P.winS ts (P.tkn ts s 1).2).2 sOpen) wAllowance 0).2 wBlock 1).2).2 sOpen) []).2.i < n := Nat.lt_of_le_of_lt (wnt_le ts (P.tiersS ts ts.length (P.wnt ts (P.kindS ts (P.optS ts (P.optS ts (P.wnt ts (P.winS ts (P.tkn ts s 1).2).2 sOpen) wAllowance 0).2 wBlock 1).2).2 sOpen) []).2 wRest) b9
  have b7 : (P.wnt ts (P.kindS ts (P.optS ts (P.optS ts (P.wnt ts (P.winS ts (P.tkn ts s 1).2).2 sOpen) wAllowance 0).2 wBlock 1).2).2 sOpen).i < n := Nat.lt_of_le_of_lt (tiersS_le ts ts.length (P.wnt ts (P.kindS ts (P.optS ts (P.optS ts (P.wnt ts (P.winS ts (P.tkn ts s 1).2).2 sOpen) wAllowance 0).2 wBlock 1).2).2 sOpen) []) b8
  have b6 : (P.kindS ts (P.optS ts (P.optS ts (P.wnt ts (P.winS ts (P.tkn ts s 1).2).2 sOpen) wAllowance 0).2 wBlock 1).2).2.i < n := Nat.lt_of_le_of_lt (wnt_le ts (P.kindS ts (P.optS ts (P.optS ts (P.wnt ts (P.winS ts (P.tkn ts s 1).2).2 sOpen) wAllowance 0).2 wBlock 1).2).2 sOpen) b7
  have b5 : (P.optS ts (P.optS ts (P.wnt ts (P.winS ts (P.tkn ts s 1).2).2 sOpen) wAllowance 0).2 wBlock 1).2.i < n := Nat.lt_of_le_of_lt (kindS_le ts (P.optS ts (P.optS ts (P.wnt ts (P.winS ts (P.tkn ts s 1).2).2 sOpen) wAllowance 0).2 wBlock 1).2) b6
  have b4 : (P.optS ts (P.wnt ts (P.winS ts (P.tkn ts s 1).2).2 sOpen) wAllowance 0).2.i < n := Nat.lt_of_le_of_lt (optS_le ts (P.optS ts (P.wnt ts (P.winS ts (P.tkn ts s 1).2).2 sOpen) wAllowance 0).2 wBlock 1) b5
  have b3 : (P.wnt ts (P.winS ts (P.tkn ts s 1).2).2 sOpen).i < n := Nat.lt_of_le_of_lt (optS_le ts (P.wnt ts (P.winS ts (P.tkn ts s 1).2).2 sOpen) wAllowance 0) b4
  have b2 : (P.winS ts (P.tkn ts s 1).2).2.i < n := Nat.lt_of_le_of_lt (wnt_le ts (P.winS ts (P.tkn ts s 1).2).2 sOpen) b3
  have b1 : (P.tkn ts s 1).2.i < n := Nat.lt_of_le_of_lt (winS_le ts (P.tkn ts s 1).2) b2
  have b0 : s.i < n := Nat.lt_of_le_of_lt (tkn_le ts s 1) b1
  have o0 := ok
  have q0 := ok'
  have o1 := o0.tkn (k := 1) (by decide)
  have q1 := q0.tkn (k := 1) (by decide)
  have a1 := Sm.tkn A (h) b0 1
  have o2 := o1.winS
  have q2 := q1.winS
  have a2 := Sm.winS A (a1.2) b2
  have o3 := o2.wnt sOpen
  have q3 := q2.wnt sOpen
  have a3 := Sm.wnt A (a2.2) b2 sOpen
  have o4 := o3.optS wAllowance 0
  have q4 := q3.optS wAllowance 0
  have a4 := Sm.optS A (a3) b4
  have o5 := o4.optS wBlock 1
  have q5 := q4.optS wBlock 1
  have a5 := Sm.optS A (a4.2) b5
  have o6 := o5.kindS
  have q6 := q5.kindS
  have a6 := Sm.kindS A (a5.2) b6
  have o7 := o6.wnt sOpen
  have q7 := q6.wnt sOpen
  have a7 := Sm.wnt A (a6.2) b6 sOpen
  have o8 := Ok.tiersS ts.length (P.wnt ts (P.kindS ts (P.optS ts (P.optS ts (P.wnt ts (P.winS ts (P.tkn ts s 1).2).2 sOpen) wAllowance 0).2 wBlock 1).2).2 sOpen) [] o7
  have q8 := Ok.tiersS ts'.length (P.wnt ts' (P.kindS ts' (P.optS ts' (P.optS ts' (P.wnt ts' (P.winS ts' (P.tkn ts' s' 1).2).2 sOpen) wAllowance 0).2 wBlock 1).2).2 sOpen) [] q7
  have a8 := Sm.tiersF A o7 q7 a7 b8
  have o9 := o8.wnt wRest
  have q9 := q8.wnt wRest
  have a9 := Sm.wnt A (a8.2) b8 wRest
  have o10 := o9.wnt wRate
  have q10 := q9.wnt wRate
  have a10 := Sm.wnt A (a9) b9 wRate
  have o11 := o10.numS 6 1000000000000
  have q11 := q10.numS 6 1000000000000
  have a11 := Sm.numS A (a10) b10 6 1000000000000
  have o12 := o11.wnt sSemi
  have q12 := q11.wnt sSemi
  have a12 := Sm.wnt A (a11.2) b11 sSemi
  have o13 := o12.wnt sShut
  have q13 := q12.wnt sShut
  have a13 := Sm.wnt A (a12) b12 sShut
  have o14 := o13.wnt wRound
  have q14 := q13.wnt wRound
  have a14 := Sm.wnt A (a13) b13 wRound
  have o15 := o14.modeS
  have q15 := q14.modeS
  have a15 := Sm.modeS A (a14) b15
  have o16 := o15.wnt sSemi
  have q16 := q15.wnt sSemi
  have a16 := Sm.wnt A (a15.2) b15 sSemi
  have o17 := Ok.adjsS ts.length (P.wnt ts (P.modeS ts (P.wnt ts (P.wnt ts (P.wnt ts (P.numS ts (P.wnt ts (P.wnt ts (P.tiersS ts ts.length (P.wnt ts (P.kindS ts (P.optS ts (P.optS ts (P.wnt ts (P.winS ts (P.tkn ts s 1).2).2 sOpen) wAllowance 0).2 wBlock 1).2).2 sOpen) []).2 wRest) wRate) 6 1000000000000).2 sSemi) sShut) wRound)).2 sSemi) [] o16
  have q17 := Ok.adjsS ts'.length (P.wnt ts' (P.modeS ts' (P.wnt ts' (P.wnt ts' (P.wnt ts' (P.numS ts' (P.wnt ts' (P.wnt ts' (P.tiersS ts' ts'.length (P.wnt ts' (P.kindS ts' (P.optS ts' (P.optS ts' (P.wnt ts' (P.winS ts' (P.tkn ts' s' 1).2).2 sOpen) wAllowance 0).2 wBlock 1).2).2 sOpen) []).2 wRest) wRate) 6 1000000000000).2 sSemi) sShut) wRound)).2 sSemi) [] q16
  have a17 := Sm.adjsF A o16 q16 a16 b17
  exact ⟨nC_of a1.1 a2.1 a4.1 a5.1 a6.1 a8.1 a11.1 a15.1 a17.1, Sm.wnt A (a17.2) b17 sShut⟩
end
/-- The second plan holds what a third and the first hold, but for places. -/
structure Rl (p0 p q : Plan) : Prop where
  hd : q.name = p0.name ∧ q.cur = p0.cur ∧ q.a = p0.a ∧ q.b = p0.b
  meters : q.meters.map nM = p0.meters.map nM ++ p.meters.map nM
  fees : q.fees.map nF = p0.fees.map nF ++ p.fees.map nF
  charges : q.charges.map nC = p0.charges.map nC ++ p.charges.map nC
theorem wnt_start {n : Nat} {ts : List Tok} {x : St} {l : List UInt8} (h : (wnt ts x l).i < n ∨ ((wnt ts x l).err = 0 ∧ (wnt ts x l).i ≤ n)) : x.i < n := by
  rcases h with h | ⟨h1, h2⟩
  · exact Nat.lt_of_le_of_lt (wnt_le ts x l) h
  · unfold wnt at h1 h2
    by_cases c : onW ts x l = true
    · rw [if_pos c] at h2
      have : x.i + 1 ≤ n := h2
      omega
    · rw [if_neg c, wrgErr] at h1
      split at h1
      · cases h1
      · rename_i k; exact absurd h1 k
theorem Rl.item {n d : Nat} {ts ts' : List Tok} {s s' : St} {p0 p q : Plan} (A : Al n d ts ts') (ok : Ok ts s) (ok' : Ok ts' s') (h : Sm d s s') (g : Rl p0 p q) (hs : s.i < n) (hi : (itemS ts s p).2.i < n ∨ ((itemS ts s p).2.err = 0 ∧ (itemS ts s p).2.i ≤ n)) :
    Rl p0 (itemS ts s p).1 (itemS ts' s' q).1 ∧ Sm d (itemS ts s p).2 (itemS ts' s' q).2 := by
  have a := Sm.oneS A h hs itemWords
  have k := ok.oneS itemWords
  have k' := ok'.oneS itemWords
  obtain ⟨l', hl'⟩ : ∃ x, x = (tk ts' s').ln := ⟨_, rfl⟩
  obtain ⟨c', hc'⟩ : ∃ x, x = (tk ts' s').cl := ⟨_, rfl⟩
  obtain ⟨l, hl⟩ : ∃ x, x = (tk ts s).ln := ⟨_, rfl⟩
  obtain ⟨c, hc⟩ : ∃ x, x = (tk ts s).cl := ⟨_, rfl⟩
  unfold itemS at hi ⊢
  simp only at hi ⊢
  rw [← a.1, ← hl', ← hc', ← hl, ← hc]
  rw [← hl, ← hc] at hi
  clear hl hc hl' hc'
  obtain ⟨r, hr⟩ : ∃ r, r = (oneS ts s itemWords).1 := ⟨_, rfl⟩
  obtain ⟨u, hu⟩ : ∃ u, u = (oneS ts s itemWords).2 := ⟨_, rfl⟩
  obtain ⟨u', hu'⟩ : ∃ u', u' = (oneS ts' s' itemWords).2 := ⟨_, rfl⟩
  rw [← hr, ← hu] at hi ⊢
  rw [← hu']
  have a2 := a.2
  rw [← hu, ← hu'] at a2
  rw [← hu] at k
  rw [← hu'] at k'
  clear a hr hu hu'
  by_cases e0 : r = 0
  · rw [if_pos e0] at hi ⊢
    rw [if_pos e0]
    have m := Sm.meterS A k k' a2 (wnt_start hi) l c l' c'
    refine ⟨⟨g.hd, ?_, g.fees, g.charges⟩, m.2⟩
    show (q.meters ++ [_]).map nM = _ ++ (p.meters ++ [_]).map nM
    rw [List.map_append, List.map_append, g.meters, List.map_singleton, List.map_singleton, m.1, List.append_assoc]
  · rw [if_neg e0] at hi ⊢
    rw [if_neg e0]
    by_cases e1 : r = 1
    · rw [if_pos e1] at hi ⊢
      rw [if_pos e1]
      have m := Sm.feeS A k k' a2 (wnt_start hi) l c l' c'
      refine ⟨⟨g.hd, g.meters, ?_, g.charges⟩, m.2⟩
      show (q.fees ++ [_]).map nF = _ ++ (p.fees ++ [_]).map nF
      rw [List.map_append, List.map_append, g.fees, List.map_singleton, List.map_singleton, m.1, List.append_assoc]
    · rw [if_neg e1] at hi ⊢
      rw [if_neg e1]
      by_cases e2 : r = 2
      · rw [if_pos e2] at hi ⊢
        rw [if_pos e2]
        have m := Sm.chargeS A k k' a2 (wnt_start hi) l c l' c'
        refine ⟨⟨g.hd, g.meters, g.fees, ?_⟩, m.2⟩
        show (q.charges ++ [_]).map nC = _ ++ (p.charges ++ [_]).map nC
        rw [List.map_append, List.map_append, g.charges, List.map_singleton, List.map_singleton, m.1, List.append_assoc]
      · rw [if_neg e2] at hi ⊢
        rw [if_neg e2]
        exact ⟨g, a2.wrg 4⟩
end Go.Proofs.YtabcoahenlaehaaDoor.P
/- The plan that a text tells isn't great: no more things in it than tokens. Pure: no program is named here. -/
namespace Go.Proofs.YtabcoahenlaehaaDoor.P
open Go.RowKit Mm R6

theorem tiers_cnt (ts : List Tok) : ∀ (n : Nat) (s : St) (acc : List Tier), (tiersS ts n s acc).1.length ≤ n + acc.length
  | 0, s, acc => by show acc.length ≤ _; omega
  | n + 1, s, acc => by
    unfold tiersS
    split
    · have := tiers_cnt ts n (tierS ts s.next).2 (acc ++ [(tierS ts s.next).1])
      simp only [List.length_append, List.length_singleton] at this
      omega
    · show acc.length ≤ _; omega
theorem adjs_cnt (ts : List Tok) : ∀ (n : Nat) (s : St) (acc : List Adj), (adjsS ts n s acc).1.length ≤ n + acc.length
  | 0, s, acc => by show acc.length ≤ _; omega
  | n + 1, s, acc => by
    unfold adjsS
    simp only
    split
    · show acc.length ≤ _; omega
    · have := adjs_cnt ts n (adjS ts (oneS ts s adjWords).2 (1 + (oneS ts s adjWords).1)).2 (acc ++ [(adjS ts (oneS ts s adjWords).2 (1 + (oneS ts s adjWords).1)).1])
      simp only [List.length_append, List.length_singleton] at this
      omega
theorem charge_cnt (ts : List Tok) (s : St) (l c : Int) : (chargeS ts s l c).1.tiers.length ≤ ts.length + 1 ∧ (chargeS ts s l c).1.adjusts.length ≤ ts.length := by
  refine ⟨?_, ?_⟩
  · show (_ ++ [_]).length ≤ _
    rw [List.length_append]
    have := tiers_cnt ts ts.length (wnt ts (kindS ts (optS ts (optS ts (wnt ts (winS ts (tkn ts s 1).2).2 sOpen) wAllowance 0).2 wBlock 1).2).2 sOpen) []
    simp only [List.length_nil] at this
    show _ + 1 ≤ _
    exact Nat.add_le_add_right this 1
  · exact adjs_cnt ts ts.length _ []
/-- What is counted as the items are read. -/
structure Few (ts : List Tok) (i : Nat) (p : Plan) : Prop where
  sum : p.meters.length + p.fees.length + p.charges.length ≤ i
  parts : ∀ c ∈ p.charges, c.tiers.length ≤ ts.length + 1 ∧ c.adjusts.length ≤ ts.length
theorem item_few {ts : List Tok} {s : St} {p : Plan} (h : Few ts s.i p) (ho : goesOn ts s = true) : Few ts (itemS ts s p).2.i (itemS ts s p).1 := by
  rcases item_next ts s p ho with k | ⟨k1, _⟩
  · refine ⟨Nat.le_trans ?_ k, ?_⟩
    · have := h.sum
      unfold itemS
      simp only
      repeat' split
      all_goals simp only [List.length_append, List.length_singleton]; omega
    · unfold itemS
      simp only
      repeat' split
      · exact h.parts
      · exact h.parts
      · intro c hc
        rcases List.mem_append.1 hc with k | k
        · exact h.parts c k
        · obtain rfl := List.mem_singleton.1 k
          exact charge_cnt ts _ _ _
      · exact h.parts
  · rw [k1, wrg_i]
    exact h
theorem items_few {ts : List Tok} : ∀ (n : Nat) (s : St) (p : Plan), Few ts s.i p → Few ts (itemsS ts n s p).2.i (itemsS ts n s p).1
  | 0, _, _, h => h
  | n + 1, s, p, h => by
    unfold itemsS
    split
    · rename_i ho
      exact items_few n _ _ (item_few h ho)
    · exact h
theorem planZ_small : Small planZ := ⟨by decide, by decide, by decide, fun c hc => by cases hc⟩
theorem plan_small {ts : List Tok} (hf : Fine ts) : Small (planS ts).1 := by
  have ok : Ok ts st0 := ⟨hf.toks, hf.toks.pos⟩
  have fw := items_few (ts := ts) ts.length (headS ts st0).2 (headS ts st0).1 ⟨Nat.zero_le _, fun c hc => by cases hc⟩
  have lt := (Ok.itemsS ts.length _ (headS ts st0).1 ok.headS).lt
  have cnt := hf.cnt
  unfold planS
  simp only
  split
  · show Small (itemsS ts ts.length (headS ts st0).2 (headS ts st0).1).1
    exact ⟨by have := fw.sum; omega, by have := fw.sum; omega, by have := fw.sum; omega, fun c hc => by have := fw.parts c hc; omega⟩
  · exact planZ_small
theorem parsed_small (l : List UInt8) : Small (parsed l).1 := by
  unfold parsed
  simp only
  split
  · rename_i h
    exact plan_small (lexed_fine h)
  · exact planZ_small
end Go.Proofs.YtabcoahenlaehaaDoor.P
/- A plan's text and items behind it, as plans: the items are put behind the plan's. Pure: no program is named here. -/
namespace Go.Proofs.YtabcoahenlaehaaDoor.P
open Go.RowKit Mm R6

theorem Sm.goes {n d : Nat} {ts ts' : List Tok} {s s' : St} (A : Al n d ts ts') (h : Sm d s s') (hi : s.i < n) : goesOn ts s = goesOn ts' s' := by
  unfold goesOn
  rw [(Sm.tok A h hi).1, h.err]
/-- The rest of the items, in two rows that read alike to the end of the first. -/
theorem Rl.rest {d : Nat} {ts ts' : List Tok} (A : Al ts.length d ts ts') : ∀ (k : Nat) (s s' : St) (p0 p q : Plan), Ok ts s → Ok ts' s' → Sm d s s' → Rl p0 p q → ts.length ≤ k + s.i →
    Rl p0 (itemsS ts ts.length s p).1 (itemsS ts' ts'.length s' q).1 ∧ Sm d (itemsS ts ts.length s p).2 (itemsS ts' ts'.length s' q).2
  | 0, s, _, _, _, _, ok, _, _, _, hk => by have := ok.lt; omega
  | k + 1, s, s', p0, p, q, ok, ok', h, g, hk => by
    have e := Sm.goes A h ok.lt
    cases hg : goesOn ts s
    · rw [items_stop ts _ s p hg, items_stop ts' _ s' q (by rw [← e, hg])]
      exact ⟨g, h⟩
    · have i1 := Rl.item A ok ok' h g ok.lt (.inl (ok.itemS p).lt)
      rw [items_step ok hg, items_step ok' (by rw [← e, hg])]
      rcases item_next ts s p hg with n1 | ⟨n1, n2⟩
      · exact Rl.rest A k _ _ p0 _ _ (ok.itemS p) (ok'.itemS q) i1.2 i1.1 (by omega)
      · have n3 : goesOn ts (itemS ts s p).2 = false := by rw [n1]; exact n2
        have e2 := Sm.goes A i1.2 (ok.itemS p).lt
        rw [items_stop ts _ _ _ n3, items_stop ts' _ _ _ (by rw [← e2, n3])]
        exact i1
theorem items_err {ts : List Tok} {n : Nat} {s : St} {p : Plan} (h : (itemsS ts n s p).2.err = 0) : s.err = 0 := by
  by_cases k : s.err = 0
  · exact k
  · have : goesOn ts s = false := by unfold goesOn; rw [decide_eq_false k]; rfl
    rw [items_stop ts n s p this] at h
    exact h
/-- The items of a text that goes on: up to where the first one ends. -/
theorem Rl.first {n : Nat} {ts ts' : List Tok} (A : Al n 0 ts ts') (hn : n + 1 = ts.length) (nz : ∀ j, j < n → (ts.getD j nil0).k ≠ 0) : ∀ (k : Nat) (s s' : St) (p0 p q : Plan), Ok ts s → Ok ts' s' → Sm 0 s s' → Rl p0 p q → ts.length ≤ k + s.i →
    (itemsS ts ts.length s p).2.err = 0 → ∃ s2 q2, itemsS ts' ts'.length s' q = itemsS ts' ts'.length s2 q2 ∧ Rl p0 (itemsS ts ts.length s p).1 q2 ∧ s2.err = 0 ∧ s2.i = n ∧ Ok ts' s2
  | 0, s, _, _, _, _, ok, _, _, _, hk, _ => by have := ok.lt; omega
  | k + 1, s, s', p0, p, q, ok, ok', h, g, hk, he => by
    have hlt := ok.lt
    cases hg : goesOn ts s
    · rw [items_stop ts _ s p hg] at he ⊢
      have he : s.err = 0 := he
      have hk0 : (tk ts s).k = 0 := by
        unfold goesOn at hg
        rw [decide_eq_true he] at hg
        simpa using hg
      have hi : s.i = n := by
        rcases Nat.lt_or_ge s.i n with c | c
        · exact absurd hk0 (nz s.i c)
        · omega
      exact ⟨s', q, rfl, g, by rw [← h.err]; exact he, by rw [h.ix, hi]; rfl, ok'⟩
    · have hi : s.i < n := by
        rcases Nat.lt_or_ge s.i n with c | c
        · exact c
        · have hk0 := ok.toks.last s.i _ ok.at (by omega)
          unfold goesOn at hg
          rw [hk0] at hg
          simp at hg
      have e := Sm.goes A h hi
      rw [items_step ok hg] at he ⊢
      rw [items_step ok' (by rw [← e, hg])]
      have er := items_err he
      have l1 := (ok.itemS p).lt
      have i1 := Rl.item A ok ok' h g hi (.inr ⟨er, by omega⟩)
      rcases item_next ts s p hg with n1 | ⟨n1, n2⟩
      · exact Rl.first A hn nz k _ _ p0 _ _ (ok.itemS p) (ok'.itemS q) i1.2 i1.1 (by omega) he
      · rw [n1] at er
        have s0 : s.err = 0 := by
          unfold goesOn at hg
          simp only [Bool.and_eq_true, decide_eq_true_eq] at hg
          exact hg.1
        rw [wrgErr, if_pos s0] at er
        cases er
theorem head_eq {n : Nat} {ts ts' : List Tok} (A : Al n 0 ts ts') (hi : (headS ts st0).2.i < n ∨ ((headS ts st0).2.err = 0 ∧ (headS ts st0).2.i ≤ n)) :
    (headS ts st0).1.name = (headS ts' st0).1.name ∧ (headS ts st0).1.cur = (headS ts' st0).1.cur ∧ (headS ts st0).1.a = (headS ts' st0).1.a ∧ (headS ts st0).1.b = (headS ts' st0).1.b ∧ Sm 0 (headS ts st0).2 (headS ts' st0).2 := by
  have b8 := wnt_start hi
  have h0 : Sm 0 st0 st0 := ⟨rfl, rfl⟩
  have l1 := wnt_le ts st0 wPlan
  have l2 := tkn_le ts (wnt ts st0 wPlan) 1
  have l3 := wnt_le ts (tkn ts (wnt ts st0 wPlan) 1).2 wCurrency
  have l4 := tkn_le ts (wnt ts (tkn ts (wnt ts st0 wPlan) 1).2 wCurrency) 1
  have l5 := wnt_le ts (tkn ts (wnt ts (tkn ts (wnt ts st0 wPlan) 1).2 wCurrency) 1).2 sSemi
  have l6 := wnt_le ts (wnt ts (tkn ts (wnt ts (tkn ts (wnt ts st0 wPlan) 1).2 wCurrency) 1).2 sSemi) wHorizon
  have l7 : (wnt ts (wnt ts (tkn ts (wnt ts (tkn ts (wnt ts st0 wPlan) 1).2 wCurrency) 1).2 sSemi) wHorizon).i ≤ (dayS ts (wnt ts (wnt ts (tkn ts (wnt ts (tkn ts (wnt ts st0 wPlan) 1).2 wCurrency) 1).2 sSemi) wHorizon)).2.i := tkn_le ts _ 4
  have l8 : (dayS ts (wnt ts (wnt ts (tkn ts (wnt ts (tkn ts (wnt ts st0 wPlan) 1).2 wCurrency) 1).2 sSemi) wHorizon)).2.i ≤ (dayS ts (dayS ts (wnt ts (wnt ts (tkn ts (wnt ts (tkn ts (wnt ts st0 wPlan) 1).2 wCurrency) 1).2 sSemi) wHorizon)).2).2.i := tkn_le ts _ 4
  have a1 := Sm.wnt A h0 (by omega) wPlan
  have a2 := Sm.tkn A a1 (by omega) 1
  have a3 := Sm.wnt A a2.2 (by omega) wCurrency
  have a4 := Sm.tkn A a3 (by omega) 1
  have a5 := Sm.wnt A a4.2 (by omega) sSemi
  have a6 := Sm.wnt A a5 (by omega) wHorizon
  have a7 := Sm.dayS A a6 (by omega)
  have a8 := Sm.dayS A a7.2 (by omega)
  exact ⟨congrArg (fun l => (⟨l.toArray⟩ : ByteArray)) a2.1, congrArg (fun l => (⟨l.toArray⟩ : ByteArray)) a4.1, a7.1, a8.1, Sm.wnt A a8.2 b8 sSemi⟩
theorem items_hd (ts : List Tok) : ∀ (n : Nat) (s : St) (p : Plan), (itemsS ts n s p).1.name = p.name ∧ (itemsS ts n s p).1.cur = p.cur ∧ (itemsS ts n s p).1.a = p.a ∧ (itemsS ts n s p).1.b = p.b
  | 0, _, _ => ⟨rfl, rfl, rfl, rfl⟩
  | n + 1, s, p => by
    unfold itemsS
    split
    · have e := items_hd ts n (itemS ts s p).2 (itemS ts s p).1
      have f : (itemS ts s p).1.name = p.name ∧ (itemS ts s p).1.cur = p.cur ∧ (itemS ts s p).1.a = p.a ∧ (itemS ts s p).1.b = p.b := by
        unfold itemS
        simp only
        repeat' split
        all_goals exact ⟨rfl, rfl, rfl, rfl⟩
      exact ⟨e.1.trans f.1, e.2.1.trans f.2.1, e.2.2.1.trans f.2.2.1, e.2.2.2.trans f.2.2.2⟩
    · exact ⟨rfl, rfl, rfl, rfl⟩
/-- What a plan's tokens, and behind them the tokens of a text of items, come to. -/
theorem join_plan {xs ys zs : List Tok} {u v : Nat} (tA : Toks (xs ++ [⟨0, [], u, v⟩])) (tR : Toks (xs ++ zs)) (tM : Toks ys) (nz : ∀ t ∈ xs, t.k ≠ 0)
    (hz : ∀ j, (ys.getD j nil0).k = (zs.getD j nil0).k ∧ (ys.getD j nil0).t = (zs.getD j nil0).t) (hp : (planS (xs ++ [⟨0, [], u, v⟩])).2.1 = 0) :
    (planS (xs ++ zs)).2.1 = (itemsS ys ys.length st0 planZ).2.err ∧
    ((itemsS ys ys.length st0 planZ).2.err = 0 → Rl (planS (xs ++ [⟨0, [], u, v⟩])).1 (itemsS ys ys.length st0 planZ).1 (planS (xs ++ zs)).1) := by
  obtain ⟨A, hA⟩ : ∃ A, A = xs ++ [⟨0, [], u, v⟩] := ⟨_, rfl⟩
  obtain ⟨R, hR⟩ : ∃ R, R = xs ++ zs := ⟨_, rfl⟩
  have lA : xs.length + 1 = A.length := by rw [hA]; simp
  have al : Al xs.length 0 A R := fun j hj => by
    rw [hA, hR, Nat.add_zero, List.getD_eq_getElem?_getD, List.getD_eq_getElem?_getD, List.getElem?_append_left hj, List.getElem?_append_left hj]
    exact ⟨rfl, rfl⟩
  have nzA : ∀ j, j < xs.length → (A.getD j nil0).k ≠ 0 := fun j hj => by
    rw [hA, List.getD_eq_getElem?_getD, List.getElem?_append_left hj, List.getElem?_eq_getElem hj]
    exact nz _ (List.getElem_mem hj)
  have al2 : Al ys.length xs.length ys R := fun j _ => by
    have : R.getD (j + xs.length) nil0 = zs.getD j nil0 := by
      rw [hR, List.getD_eq_getElem?_getD, List.getD_eq_getElem?_getD, List.getElem?_append_right (by omega), Nat.add_sub_cancel]
    rw [this]
    exact hz j
  rw [← hA] at tA hp ⊢
  rw [← hR] at tR ⊢
  clear hA hR hz nz
  have okA : Ok A st0 := ⟨tA, tA.pos⟩
  have okR : Ok R st0 := ⟨tR, tR.pos⟩
  have okM : Ok ys st0 := ⟨tM, tM.pos⟩
  have oh := okA.headS
  have oh' := okR.headS
  -- the first text is a plan
  have he : (itemsS A A.length (headS A st0).2 (headS A st0).1).2.err = 0 := by
    unfold planS at hp
    simp only at hp
    split at hp
    · rename_i k; exact k
    · rename_i k; exact absurd hp k
  have pA : (planS A).1 = (itemsS A A.length (headS A st0).2 (headS A st0).1).1 := by
    unfold planS
    simp only
    rw [if_pos he]
  have h1 := oh.lt
  obtain ⟨e1, e2, e3, e4, m0⟩ := head_eq al (.inr ⟨items_err he, by omega⟩)
  have g0 : Rl (headS A st0).1 (headS A st0).1 (headS R st0).1 := ⟨⟨e1.symm, e2.symm, e3.symm, e4.symm⟩, rfl, rfl, rfl⟩
  obtain ⟨s2, q2, r1, r2, r3, r4, r5⟩ := Rl.first al lA nzA A.length _ _ _ _ _ oh oh' m0 g0 (by omega) he
  have hd := items_hd A A.length (headS A st0).2 (headS A st0).1
  have g2 : Rl (planS A).1 planZ q2 := by
    rw [pA]
    refine ⟨⟨r2.hd.1.trans hd.1.symm, r2.hd.2.1.trans hd.2.1.symm, r2.hd.2.2.1.trans hd.2.2.1.symm, r2.hd.2.2.2.trans hd.2.2.2.symm⟩, ?_, ?_, ?_⟩
    · rw [r2.meters]; exact (List.append_nil _).symm
    · rw [r2.fees]; exact (List.append_nil _).symm
    · rw [r2.charges]; exact (List.append_nil _).symm
  have m2 : Sm xs.length st0 s2 := ⟨r3.symm, by rw [r4]; exact (Nat.zero_add _).symm⟩
  obtain ⟨f1, f2⟩ := Rl.rest al2 ys.length st0 s2 _ planZ q2 okM r5 m2 g2 (by omega)
  have f3 := f2.err
  refine ⟨?_, fun h => ?_⟩
  · unfold planS
    simp only
    rw [r1]
    split
    · rename_i k; rw [f3, k]
    · exact f3.symm
  · have : (planS R).1 = (itemsS R R.length s2 q2).1 := by
      unfold planS
      simp only
      rw [r1, if_pos (by rw [← f3]; exact h)]
    rw [this]
    exact f1
theorem lx_kinds (n : Nat) (l : List UInt8) (ln cl : Nat) : ∀ i t, (lx n l ln cl).1[i]? = some t → i + 1 < (lx n l ln cl).1.length → t.k ≠ 0 := by
  induction n generalizing l ln cl with
  | zero =>
    intro i t _ h
    have : (lx 0 l ln cl).1.length = 1 := rfl
    omega
  | succ n ih =>
    cases l with
    | nil =>
      intro i t _ h
      have : (lx (n + 1) [] ln cl).1.length = 1 := rfl
      omega
    | cons c r =>
      unfold lx
      split
      · exact ih _ _ _
      · split
        · intro i t h _; simp at h
        · rename_i hk
          intro i t h hl
          cases i with
          | zero =>
            simp only [List.getElem?_cons_zero, Option.some.injEq] at h
            subst h
            exact hk
          | succ i => exact ih _ _ _ i t (by simpa using h) (by simpa using hl)
theorem lexed_kinds (l : List UInt8) : ∀ i t, (lexed l).1[i]? = some t → i + 1 < (lexed l).1.length → t.k ≠ 0 := by
  unfold lexed
  split
  · intro i t h _; simp at h
  · cases h2 : (lex l 1 1).2 with
    | none => exact lx_kinds _ _ _ _
    | some p => intro i t h _; simp at h
/-- What a text of items comes to behind a plan. -/
def itemsOf (l : List UInt8) : Int × Plan :=
  if (lexed l).2.1 = 0 then ((itemsS (lexed l).1 (lexed l).1.length st0 planZ).2.err, (itemsS (lexed l).1 (lexed l).1.length st0 planZ).1) else (((lexed l).2.1 : Int), planZ)
theorem join_text (a b : List UInt8) (ha : a.length ≤ 4096) (hb : b.length < 4096) (e0 : (parsed a).2.1 = 0) :
    (parsed (a ++ 10 :: b)).2.1 = (itemsOf b).1 ∧ ((itemsOf b).1 = 0 → Rl (parsed a).1 (itemsOf b).2 (parsed (a ++ 10 :: b)).1) := by
  rcases lexed_joins a b ha hb with ⟨p, q, h1, _⟩ | ⟨init, u, v, h1, _, ⟨p, q, h2, h3, _⟩ | ⟨ys, h2, h3, _⟩⟩
  · unfold parsed at e0
    simp only [h1] at e0
    rw [if_neg (by decide)] at e0
    have e0 : (3 : Int) = 0 := e0
    omega
  · unfold parsed itemsOf
    simp only [h2, h3]
    rw [if_neg (by decide), if_neg (by decide)]
    exact ⟨rfl, fun h => by have h : (3 : Int) = 0 := h; omega⟩
  · have kA := lexed_kinds a
    have tA := (lexed_fine (l := a) (by rw [h1])).toks
    have tR := (lexed_fine (l := a ++ 10 :: b) (by rw [h3])).toks
    have tM := (lexed_fine (l := b) (by rw [h2])).toks
    rw [h1] at tA kA
    rw [h3] at tR
    rw [h2] at tM
    unfold parsed at e0 ⊢
    unfold itemsOf
    simp only [h1, if_true] at e0
    simp only [h1, h2, h3, if_true]
    refine join_plan tA tR tM (fun t ht => ?_) (fun j => ?_) e0
    · obtain ⟨i, hi, e⟩ := List.getElem_of_mem ht
      refine kA i t ?_ (by simp only [List.length_append, List.length_singleton]; omega)
      show (init ++ [_])[i]? = _
      rw [List.getElem?_append_left hi, List.getElem?_eq_getElem hi, e]
    · rw [List.getD_eq_getElem?_getD, List.getD_eq_getElem?_getD, List.getElem?_map]
      cases ys[j]? with
      | none => exact ⟨rfl, rfl⟩
      | some t => exact ⟨rfl, rfl⟩
set_option maxRecDepth 100000 in
theorem head_plan : (parsed headT).2.1 = 0 ∧ (parsed headT).1.meters.length = 0 ∧ (parsed headT).1.fees.length = 0 ∧ (parsed headT).1.charges.length = 0 := by decide +kernel
/-- One plan with another's items behind its own. -/
def withOf (p q : Plan) : Plan := { p with meters := p.meters ++ q.meters, fees := p.fees ++ q.fees, charges := p.charges ++ q.charges }
theorem small_noPl {p q : Plan} (h : Small p) (e : noPl p = noPl q) : Small q := by
  have em : p.meters.map nM = q.meters.map nM := congrArg Plan.meters e
  have ef : p.fees.map nF = q.fees.map nF := congrArg Plan.fees e
  have ec : p.charges.map nC = q.charges.map nC := congrArg Plan.charges e
  refine ⟨?_, ?_, ?_, fun c hc => ?_⟩
  · have := congrArg List.length em; rw [List.length_map, List.length_map] at this; rw [← this]; exact h.meters
  · have := congrArg List.length ef; rw [List.length_map, List.length_map] at this; rw [← this]; exact h.fees
  · have := congrArg List.length ec; rw [List.length_map, List.length_map] at this; rw [← this]; exact h.charges
  · have hm : nC c ∈ p.charges.map nC := by rw [ec]; exact List.mem_map_of_mem hc
    obtain ⟨c', hc', e'⟩ := List.mem_map.1 hm
    have k := h.parts c' hc'
    have t1 : (nC c').tiers = (nC c).tiers := congrArg Charge.tiers e'
    have t2 : (nC c').adjusts = (nC c).adjusts := congrArg Charge.adjusts e'
    exact ⟨by rw [← show c'.tiers = c.tiers from t1]; exact k.1, by rw [← show c'.adjusts = c.adjusts from t2]; exact k.2⟩
theorem parsed_zero {l : List UInt8} (h : (parsed l).2.1 = 0) : (parsed l).2.2.1 = 0 ∧ (parsed l).2.2.2 = 0 := by
  unfold parsed at h ⊢
  simp only at h ⊢
  split
  · rename_i k
    rw [if_pos k] at h
    unfold planS at h ⊢
    simp only at h ⊢
    split
    · exact ⟨rfl, rfl⟩
    · rename_i k2; rw [if_neg k2] at h; exact absurd h k2
  · rename_i k
    rw [if_neg k] at h
    have h : ((lexed l).2.1 : Int) = 0 := h
    omega
/-- What ParseItems compares. -/
theorem items_pure (a b : List UInt8) (ha : a.length ≤ 4096) (hb : b.length < 4096) (e0 : (parsed a).2.1 = 0) :
    (parsed (a ++ 10 :: b)).2.1 = (parsed (headT ++ 10 :: b)).2.1 ∧
    ((parsed (headT ++ 10 :: b)).2.1 = 0 → row (parsed (a ++ 10 :: b)).1 = row (withOf (parsed a).1 (parsed (headT ++ 10 :: b)).1) ∧ Small (withOf (parsed a).1 (parsed (headT ++ 10 :: b)).1)) := by
  have h1 := join_text a b ha hb e0
  have h2 := join_text headT b (by decide) hb head_plan.1
  refine ⟨h1.1.trans h2.1.symm, fun h => ?_⟩
  rw [h2.1] at h
  have g1 := h1.2 h
  have g2 := h2.2 h
  have n1 := List.eq_nil_of_length_eq_zero head_plan.2.1
  have n2 := List.eq_nil_of_length_eq_zero head_plan.2.2.1
  have n3 := List.eq_nil_of_length_eq_zero head_plan.2.2.2
  have q1 := g2.meters
  have q2 := g2.fees
  have q3 := g2.charges
  rw [n1] at q1
  rw [n2] at q2
  rw [n3] at q3
  have e : noPl (parsed (a ++ 10 :: b)).1 = noPl (withOf (parsed a).1 (parsed (headT ++ 10 :: b)).1) := by
    unfold noPl withOf
    simp only [Plan.mk.injEq, List.map_append]
    rw [g1.meters, g1.fees, g1.charges, q1, q2, q3]
    exact ⟨g1.hd.1, g1.hd.2.1, g1.hd.2.2.1, g1.hd.2.2.2, rfl, rfl, rfl, trivial, trivial⟩
  refine ⟨?_, small_noPl (parsed_small _) e⟩
  rw [← row_noPl, e, row_noPl]
end Go.Proofs.YtabcoahenlaehaaDoor.P
