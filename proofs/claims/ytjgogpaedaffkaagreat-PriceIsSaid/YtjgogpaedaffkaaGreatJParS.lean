/- Tokens that read alike, as plans: what the parser makes of them is alike, but for places. Pure: no program is named here. -/
import Derived.Test.YtjgogpaedaffkaaGreatJLexJ
import Derived.Test.YtjgogpaedaffkaaGreatJDatB
namespace Go.Proofs.YtjgogpaedaffkaaGreat.Mm
end Go.Proofs.YtjgogpaedaffkaaGreat.Mm
namespace Go.Proofs.YtjgogpaedaffkaaGreat.R6
end Go.Proofs.YtjgogpaedaffkaaGreat.R6
namespace Go.Proofs.YtjgogpaedaffkaaGreat.P
open Go.RowKit Mm R6
/-- Two rows of tokens read alike from some place on, up to some place. -/
def Al (n d : Nat) (ts ts' : List Tok) : Prop := ∀ j, j < n → (ts.getD j nil0).k = (ts'.getD (j + d) nil0).k ∧ (ts.getD j nil0).t = (ts'.getD (j + d) nil0).t
/-- Two parsers stand at such places. -/
structure Sm (d : Nat) (s s' : St) : Prop where
  err : s.err = s'.err
  ix : s'.i = s.i + d
section
variable {n d : Nat} {ts ts' : List Tok} {s s' : St}
theorem Sm.tok (A : Al n d ts ts') (h : Sm d s s') (hi : s.i < n) : (tk ts s).k = (tk ts' s').k ∧ (tk ts s).t = (tk ts' s').t := by
  have := A s.i hi
  unfold tk
  rw [h.ix]
  exact this
theorem Sm.next (h : Sm d s s') : Sm d s.next s'.next := ⟨h.err, by show s'.i + 1 = s.i + 1 + d; rw [h.ix]; omega⟩
theorem wrgErr (ts : List Tok) (s : St) (e : Int) : (P.wrg ts s e).err = if s.err = 0 then e else s.err := by unfold P.wrg; split <;> rfl
theorem Sm.wrg (h : Sm d s s') (e : Int) : Sm d (wrg ts s e) (wrg ts' s' e) := ⟨by rw [wrgErr, wrgErr, h.err], by rw [wrg_i, wrg_i, h.ix]⟩
theorem Sm.onW (A : Al n d ts ts') (h : Sm d s s') (hi : s.i < n) (l : List UInt8) : onW ts s l = onW ts' s' l := by
  unfold P.onW
  rw [(Sm.tok A h hi).1, (Sm.tok A h hi).2, h.err]
theorem Sm.isTk (A : Al n d ts ts') (h : Sm d s s') (hi : s.i < n) (k : Nat) : isTk ts s k = isTk ts' s' k := by
  unfold P.isTk
  rw [(Sm.tok A h hi).1, h.err]
theorem Sm.wnt (A : Al n d ts ts') (h : Sm d s s') (hi : s.i < n) (l : List UInt8) : Sm d (wnt ts s l) (wnt ts' s' l) := by
  unfold P.wnt
  rw [← Sm.onW A h hi l]
  split
  · exact h.next
  · exact h.wrg 4
theorem Sm.tkn (A : Al n d ts ts') (h : Sm d s s') (hi : s.i < n) (k : Nat) : (tkn ts s k).1 = (tkn ts' s' k).1 ∧ Sm d (tkn ts s k).2 (tkn ts' s' k).2 := by
  unfold P.tkn
  rw [← Sm.isTk A h hi k]
  split
  · exact ⟨(Sm.tok A h hi).2, h.next⟩
  · exact ⟨rfl, h.wrg 4⟩
theorem Sm.bad (h : Sm d s s') (v : Int) : Sm d (bad ts s v) (bad ts' s' v) := by
  unfold P.bad
  split
  · exact h.wrg 4
  · split
    · exact h.wrg 6
    · exact h
theorem Sm.numS (A : Al n d ts ts') (h : Sm d s s') (hi : s.i < n) (p m : Int) : (numS ts s p m).1 = (numS ts' s' p m).1 ∧ Sm d (numS ts s p m).2 (numS ts' s' p m).2 := by
  unfold P.numS
  rw [← Sm.isTk A h hi 3, ← (Sm.tok A h hi).2]
  split
  · exact ⟨rfl, (h.bad _).next⟩
  · exact ⟨rfl, h.wrg 4⟩
theorem Sm.dayS (A : Al n d ts ts') (h : Sm d s s') (hi : s.i < n) : (dayS ts s).1 = (dayS ts' s').1 ∧ Sm d (dayS ts s).2 (dayS ts' s').2 := by
  have a := Sm.tkn A h hi 4
  unfold P.dayS
  rw [a.1]
  exact ⟨rfl, a.2⟩
theorem Sm.winS (A : Al n d ts ts') (h : Sm d s s') (hi : (P.winS ts s).2.i < n) : (winS ts s).1 = (winS ts' s').1 ∧ Sm d (winS ts s).2 (winS ts' s').2 := by
  have h0 : s.i < n := Nat.lt_of_le_of_lt (winS_le ts s) hi
  unfold P.winS at hi ⊢
  rw [← Sm.onW A h h0 wFrom]
  by_cases c : P.onW ts s wFrom = true
  · simp only [if_pos c] at hi ⊢
    have l1 : s.next.i ≤ (P.dayS ts s.next).2.i := tkn_le ts s.next 4
    have l2 := wnt_le ts (P.dayS ts s.next).2 wTo
    have l3 : (P.wnt ts (P.dayS ts s.next).2 wTo).i ≤ (P.dayS ts (P.wnt ts (P.dayS ts s.next).2 wTo)).2.i := tkn_le ts _ 4
    have a1 := Sm.dayS A h.next (by omega)
    have a2 := Sm.wnt A a1.2 (by omega) wTo
    have a3 := Sm.dayS A a2 (by omega)
    rw [a1.1, a3.1]
    exact ⟨rfl, a3.2⟩
  · simp only [if_neg c] at hi ⊢
    exact ⟨trivial, h⟩
theorem Sm.oneAt (A : Al n d ts ts') (h : Sm d s s') (hi : s.i < n) : ∀ (ws : List (List UInt8)) (k : Int), (oneAt ts s ws k).1 = (oneAt ts' s' ws k).1 ∧ Sm d (oneAt ts s ws k).2 (oneAt ts' s' ws k).2
  | [], _ => ⟨rfl, h⟩
  | w :: r, k => by
    unfold P.oneAt
    rw [← Sm.onW A h hi w]
    split
    · exact ⟨rfl, h.next⟩
    · exact Sm.oneAt A h hi r (k + 1)
theorem Sm.oneS (A : Al n d ts ts') (h : Sm d s s') (hi : s.i < n) (ws : List (List UInt8)) : (oneS ts s ws).1 = (oneS ts' s' ws).1 ∧ Sm d (oneS ts s ws).2 (oneS ts' s' ws).2 := Sm.oneAt A h hi ws 0
theorem Sm.modeS (A : Al n d ts ts') (h : Sm d s s') (hi : (P.modeS ts s).2.i < n) : (modeS ts s).1 = (modeS ts' s').1 ∧ Sm d (modeS ts s).2 (modeS ts' s').2 := by
  have h0 : s.i < n := Nat.lt_of_le_of_lt (modeS_le ts s) hi
  have a := Sm.oneS A h h0 modes
  unfold P.modeS
  rw [← a.1]
  split
  · exact ⟨rfl, a.2.wrg 4⟩
  · exact a
theorem Sm.kindS (A : Al n d ts ts') (h : Sm d s s') (hi : (P.kindS ts s).2.i < n) : (kindS ts s).1 = (kindS ts' s').1 ∧ Sm d (kindS ts s).2 (kindS ts' s').2 := by
  have h0 : s.i < n := Nat.lt_of_le_of_lt (kindS_le ts s) hi
  have a := Sm.oneS A h h0 kinds
  unfold P.kindS
  simp only
  rw [← a.1]
  refine ⟨rfl, ?_⟩
  split
  · exact a.2.wrg 4
  · exact a.2
theorem Sm.optS (A : Al n d ts ts') (h : Sm d s s') {l : List UInt8} {v : Int} (hi : (P.optS ts s l v).2.i < n) : (optS ts s l v).1 = (optS ts' s' l v).1 ∧ Sm d (optS ts s l v).2 (optS ts' s' l v).2 := by
  have h0 : s.i < n := Nat.lt_of_le_of_lt (optS_le ts s l v) hi
  unfold P.optS at hi ⊢
  rw [← Sm.onW A h h0 l]
  by_cases c : P.onW ts s l = true
  · simp only [if_pos c] at hi ⊢
    have l1 := numS_le ts s.next 0 1000000
    have l2 := wnt_le ts (P.numS ts s.next 0 1000000).2 sSemi
    have a1 := Sm.numS A h.next (by omega) 0 1000000
    exact ⟨a1.1, Sm.wnt A a1.2 (by omega) sSemi⟩
  · simp only [if_neg c] at hi ⊢
    exact ⟨trivial, h⟩
theorem Sm.tierS (A : Al n d ts ts') (h : Sm d s s') (hi : (P.tierS ts s).2.i < n) : (tierS ts s).1 = (tierS ts' s').1 ∧ Sm d (tierS ts s).2 (tierS ts' s').2 := by
  have l1 := numS_le ts s 0 1000000
  have l2 := wnt_le ts (P.numS ts s 0 1000000).2 wRate
  have l3 := numS_le ts (P.wnt ts (P.numS ts s 0 1000000).2 wRate) 6 1000000000000
  have l4 := wnt_le ts (P.numS ts (P.wnt ts (P.numS ts s 0 1000000).2 wRate) 6 1000000000000).2 sSemi
  unfold P.tierS at hi ⊢
  simp only at hi ⊢
  have a1 := Sm.numS A h (by omega) 0 1000000
  have a2 := Sm.wnt A a1.2 (by omega) wRate
  have a3 := Sm.numS A a2 (by omega) 6 1000000000000
  rw [a1.1, a3.1]
  exact ⟨rfl, Sm.wnt A a3.2 (by omega) sSemi⟩
end
theorem Sm.tiers {n d : Nat} {ts ts' : List Tok} (A : Al n d ts ts') : ∀ (m : Nat) (s s' : St) (acc : List Tier), Sm d s s' → (tiersS ts m s acc).2.i < n → (tiersS ts m s acc).1 = (tiersS ts' m s' acc).1 ∧ Sm d (tiersS ts m s acc).2 (tiersS ts' m s' acc).2
  | 0, _, _, _, h, _ => ⟨rfl, h⟩
  | m + 1, s, s', acc, h, hi => by
    have h0 : s.i < n := Nat.lt_of_le_of_lt (tiersS_le ts (m + 1) s acc) hi
    unfold tiersS at hi ⊢
    rw [← Sm.onW A h h0 wUpto]
    by_cases c : P.onW ts s wUpto = true
    · simp only [if_pos c] at hi ⊢
      have a := Sm.tierS A h.next (Nat.lt_of_le_of_lt (tiersS_le ts m _ _) hi)
      rw [← a.1]
      exact Sm.tiers A m _ _ _ a.2 hi
    · simp only [if_neg c] at hi ⊢
      exact ⟨trivial, h⟩
theorem Sm.adjS {n d : Nat} {ts ts' : List Tok} {s s' : St} (A : Al n d ts ts') (h : Sm d s s') (k : Int) (hi : (P.adjS ts s k).2.i < n) : (adjS ts s k).1 = (adjS ts' s' k).1 ∧ Sm d (adjS ts s k).2 (adjS ts' s' k).2 := by
  unfold P.adjS at hi ⊢
  by_cases c : k = 1
  · simp only [if_pos c] at hi ⊢
    have l1 := numS_le ts s 3 100000000
    have l2 := modeS_le ts (P.numS ts s 3 100000000).2
    have l3 := wnt_le ts (P.modeS ts (P.numS ts s 3 100000000).2).2 sSemi
    have a1 := Sm.numS A h (by omega) 3 100000000
    have a2 := Sm.modeS A a1.2 (by omega)
    rw [a1.1, a2.1]
    exact ⟨rfl, Sm.wnt A a2.2 (by omega) sSemi⟩
  · simp only [if_neg c] at hi ⊢
    have l1 := numS_le ts s 0 1000000000000
    have l3 := wnt_le ts (P.numS ts s 0 1000000000000).2 sSemi
    have a1 := Sm.numS A h (by omega) 0 1000000000000
    rw [a1.1]
    exact ⟨rfl, Sm.wnt A a1.2 (by omega) sSemi⟩
theorem Sm.adjs {n d : Nat} {ts ts' : List Tok} (A : Al n d ts ts') : ∀ (m : Nat) (s s' : St) (acc : List Adj), Sm d s s' → (adjsS ts m s acc).2.i < n → (adjsS ts m s acc).1 = (adjsS ts' m s' acc).1 ∧ Sm d (adjsS ts m s acc).2 (adjsS ts' m s' acc).2
  | 0, _, _, _, h, _ => ⟨rfl, h⟩
  | m + 1, s, s', acc, h, hi => by
    have h0 : s.i < n := Nat.lt_of_le_of_lt (adjsS_le ts (m + 1) s acc) hi
    have a := Sm.oneS A h h0 adjWords
    unfold adjsS at hi ⊢
    simp only at hi ⊢
    rw [← a.1]
    by_cases c : 1 + (P.oneS ts s adjWords).1 = 0
    · simp only [if_pos c] at hi ⊢
      exact ⟨trivial, a.2⟩
    · simp only [if_neg c] at hi ⊢
      have b := Sm.adjS A a.2 (1 + (P.oneS ts s adjWords).1) (Nat.lt_of_le_of_lt (adjsS_le ts m _ _) hi)
      rw [← b.1]
      exact Sm.adjs A m _ _ _ b.2 hi
section
variable {n d : Nat} {ts ts' : List Tok} {s s' : St}
theorem Sm.tiersF (A : Al n d ts ts') (ok : Ok ts s) (ok' : Ok ts' s') (h : Sm d s s') (hi : (tiersS ts ts.length s []).2.i < n) :
    (tiersS ts ts.length s []).1 = (tiersS ts' ts'.length s' []).1 ∧ Sm d (tiersS ts ts.length s []).2 (tiersS ts' ts'.length s' []).2 := by
  rw [tiers_fuel ts ts.length (ts.length + ts'.length) s [] ok (by omega) (by omega)] at hi ⊢
  rw [tiers_fuel ts' ts'.length (ts.length + ts'.length) s' [] ok' (by omega) (by omega)]
  exact Sm.tiers A _ _ _ _ h hi
theorem Sm.adjsF (A : Al n d ts ts') (ok : Ok ts s) (ok' : Ok ts' s') (h : Sm d s s') (hi : (adjsS ts ts.length s []).2.i < n) :
    (adjsS ts ts.length s []).1 = (adjsS ts' ts'.length s' []).1 ∧ Sm d (adjsS ts ts.length s []).2 (adjsS ts' ts'.length s' []).2 := by
  rw [adjs_fuel ts ts.length (ts.length + ts'.length) s [] ok (by omega) (by omega)] at hi ⊢
  rw [adjs_fuel ts' ts'.length (ts.length + ts'.length) s' [] ok' (by omega) (by omega)]
  exact Sm.adjs A _ _ _ _ h hi
theorem nM_of {a a' u u' : List UInt8} {x x' : Int} (e1 : a = a') (e2 : u = u') (e3 : x = x') {l c l' c' : Int} : nM ⟨⟨a.toArray⟩, ⟨u.toArray⟩, x, l, c⟩ = nM ⟨⟨a'.toArray⟩, ⟨u'.toArray⟩, x', l', c'⟩ := by subst e1 e2 e3; rfl
theorem nF_of {x x' : Int} {w w' : Win} (e1 : x = x') (e2 : w = w') {l c l' c' : Int} : nF ⟨x, w, l, c⟩ = nF ⟨x', w', l', c'⟩ := by subst e1 e2; rfl
theorem nC_of {m m' : List UInt8} {w w' : Win} {a a' b b' k k' r r' x x' : Int} {t t' : List Tier} {j j' : List Adj} (e1 : m = m') (e2 : w = w') (e3 : a = a') (e4 : b = b') (e5 : k = k') (e6 : t = t') (e7 : r = r') (e8 : x = x') (e9 : j = j') {l c l' c' : Int} :
    nC ⟨⟨m.toArray⟩, w, a, b, k, t ++ [⟨0, r⟩], x, j, l, c⟩ = nC ⟨⟨m'.toArray⟩, w', a', b', k', t' ++ [⟨0, r'⟩], x', j', l', c'⟩ := by subst e1 e2 e3 e4 e5 e6 e7 e8 e9; rfl
theorem Sm.meterS (A : Al n d ts ts') (ok : Ok ts s) (ok' : Ok ts' s') (h : Sm d s s') (hi : (P.numS ts (P.wnt ts (P.tkn ts (P.wnt ts (P.tkn ts s 1).2 wUnit) 1).2 wMax) 0 2000).2.i < n) (l c l' c' : Int) : nM (P.meterS ts s l c).1 = nM (P.meterS ts' s' l' c').1 ∧ Sm d (P.meterS ts s l c).2 (P.meterS ts' s' l' c').2 := by
  have b5 : (P.numS ts (P.wnt ts (P.tkn ts (P.wnt ts (P.tkn ts s 1).2 wUnit) 1).2 wMax) 0 2000).2.i < n := hi
  have b4 : (P.wnt ts (P.tkn ts (P.wnt ts (P.tkn ts s 1).2 wUnit) 1).2 wMax).i < n := Nat.lt_of_le_of_lt (numS_le ts (P.wnt ts (P.tkn ts (P.wnt ts (P.tkn ts s 1).2 wUnit) 1).2 wMax) 0 2000) b5
  have b3 : (P.tkn ts (P.wnt ts (P.tkn ts s 1).2 wUnit) 1).2.i < n := Nat.lt_of_le_of_lt (wnt_le ts (P.tkn ts (P.wnt ts (P.tkn ts s 1).2 wUnit) 1).2 wMax) b4
  have b2 : (P.wnt ts (P.tkn ts s 1).2 wUnit).i < n := Nat.lt_of_le_of_lt (tkn_le ts (P.wnt ts (P.tkn ts s 1).2 wUnit) 1) b3
  have b1 : (P.tkn ts s 1).2.i < n := Nat.lt_of_le_of_lt (wnt_le ts (P.tkn ts s 1).2 wUnit) b2
  have b0 : s.i < n := Nat.lt_of_le_of_lt (tkn_le ts s 1) b1
  have o0 := ok
  have q0 := ok'
  have o1 := o0.tkn (k := 1) (by decide)
  have q1 := q0.tkn (k := 1) (by decide)
  have a1 := Sm.tkn A (h) b0 1
  have o2 := o1.wnt wUnit
  have q2 := q1.wnt wUnit
  have a2 := Sm.wnt A (a1.2) b1 wUnit
  have o3 := o2.tkn (k := 1) (by decide)
  have q3 := q2.tkn (k := 1) (by decide)
  have a3 := Sm.tkn A (a2) b2 1
  have o4 := o3.wnt wMax
  have q4 := q3.wnt wMax
  have a4 := Sm.wnt A (a3.2) b3 wMax
  have o5 := o4.numS 0 2000
  have q5 := q4.numS 0 2000
  have a5 := Sm.numS A (a4) b4 0 2000
  exact ⟨nM_of a1.1 a3.1 a5.1, Sm.wnt A (a5.2) b5 sSemi⟩
theorem Sm.feeS (A : Al n d ts ts') (ok : Ok ts s) (ok' : Ok ts' s') (h : Sm d s s') (hi : (P.winS ts (P.numS ts s 0 1000000000000).2).2.i < n) (l c l' c' : Int) : nF (P.feeS ts s l c).1 = nF (P.feeS ts' s' l' c').1 ∧ Sm d (P.feeS ts s l c).2 (P.feeS ts' s' l' c').2 := by
  have b2 : (P.winS ts (P.numS ts s 0 1000000000000).2).2.i < n := hi
  have b1 : (P.numS ts s 0 1000000000000).2.i < n := Nat.lt_of_le_of_lt (winS_le ts (P.numS ts s 0 1000000000000).2) b2
  have b0 : s.i < n := Nat.lt_of_le_of_lt (numS_le ts s 0 1000000000000) b1
  have o0 := ok
  have q0 := ok'
  have o1 := o0.numS 0 1000000000000
  have q1 := q0.numS 0 1000000000000
  have a1 := Sm.numS A (h) b0 0 1000000000000
  have o2 := o1.winS
  have q2 := q1.winS
  have a2 := Sm.winS A (a1.2) b2
  exact ⟨nF_of a1.1 a2.1, Sm.wnt A (a2.2) b2 sSemi⟩
theorem Sm.chargeS (A : Al n d ts ts') (ok : Ok ts s) (ok' : Ok ts' s') (h : Sm d s s') (hi : (P.adjsS ts ts.length (P.wnt ts (P.modeS ts (P.wnt ts (P.wnt ts (P.wnt ts (P.numS ts (P.wnt ts (P.wnt ts (P.tiersS ts ts.length (P.wnt ts (P.kindS ts (P.optS ts (P.optS ts (P.wnt ts (P.winS ts (P.tkn ts s 1).2).2 sOpen) wAllowance 0).2 wBlock 1).2).2 sOpen) []).2 wRest) wRate) 6 1000000000000).2 sSemi) sShut) wRound)).2 sSemi) []).2.i < n) (l c l' c' : Int) : nC (P.chargeS ts s l c).1 = nC (P.chargeS ts' s' l' c').1 ∧ Sm d (P.chargeS ts s l c).2 (P.chargeS ts' s' l' c').2 := by
  have b17 : (P.adjsS ts ts.length (P.wnt ts (P.modeS ts (P.wnt ts (P.wnt ts (P.wnt ts (P.numS ts (P.wnt ts (P.wnt ts (P.tiersS ts ts.length (P.wnt ts (P.kindS ts (P.optS ts (P.optS ts (P.wnt ts (P.winS ts (P.tkn ts s 1).2).2 sOpen) wAllowance 0).2 wBlock 1).2).2 sOpen) []).2 wRest) wRate) 6 1000000000000).2 sSemi) sShut) wRound)).2 sSemi) []).2.i < n := hi
  have b16 : (P.wnt ts (P.modeS ts (P.wnt ts (P.wnt ts (P.wnt ts (P.numS ts (P.wnt ts (P.wnt ts (P.tiersS ts ts.length (P.wnt ts (P.kindS ts (P.optS ts (P.optS ts (P.wnt ts (P.winS ts (P.tkn ts s 1).2).2 sOpen) wAllowance 0).2 wBlock 1).2).2 sOpen) []).2 wRest) wRate) 6 1000000000000).2 sSemi) sShut) wRound)).2 sSemi).i < n := Nat.lt_of_le_of_lt (adjsS_le ts ts.length (P.wnt ts (P.modeS ts (P.wnt ts (P.wnt ts (P.wnt ts (P.numS ts (P.wnt ts (P.wnt ts (P.tiersS ts ts.length (P.wnt ts (P.kindS ts (P.optS ts (P.optS ts (P.wnt ts (P.winS ts (P.tkn ts s 1).2).2 sOpen) wAllowance 0).2 wBlock 1).2).2 sOpen) []).2 wRest) wRate) 6 1000000000000).2 sSemi) sShut) wRound)).2 sSemi) []) b17
  have b15 : (P.modeS ts (P.wnt ts (P.wnt ts (P.wnt ts (P.numS ts (P.wnt ts (P.wnt ts (P.tiersS ts ts.length (P.wnt ts (P.kindS ts (P.optS ts (P.optS ts (P.wnt ts (P.winS ts (P.tkn ts s 1).2).2 sOpen) wAllowance 0).2 wBlock 1).2).2 sOpen) []).2 wRest) wRate) 6 1000000000000).2 sSemi) sShut) wRound)).2.i < n := Nat.lt_of_le_of_lt (wnt_le ts (P.modeS ts (P.wnt ts (P.wnt ts (P.wnt ts (P.numS ts (P.wnt ts (P.wnt ts (P.tiersS ts ts.length (P.wnt ts (P.kindS ts (P.optS ts (P.optS ts (P.wnt ts (P.winS ts (P.tkn ts s 1).2).2 sOpen) wAllowance 0).2 wBlock 1).2).2 sOpen) []).2 wRest) wRate) 6 1000000000000).2 sSemi) sShut) wRound)).2 sSemi) b16
  have b14 : (P.wnt ts (P.wnt ts (P.wnt ts (P.numS ts (P.wnt ts (P.wnt ts (P.tiersS ts ts.length (P.wnt ts (P.kindS ts (P.optS ts (P.optS ts (P.wnt ts (P.winS ts (P.tkn ts s 1).2).2 sOpen) wAllowance 0).2 wBlock 1).2).2 sOpen) []).2 wRest) wRate) 6 1000000000000).2 sSemi) sShut) wRound).i < n := Nat.lt_of_le_of_lt (modeS_le ts (P.wnt ts (P.wnt ts (P.wnt ts (P.numS ts (P.wnt ts (P.wnt ts (P.tiersS ts ts.length (P.wnt ts (P.kindS ts (P.optS ts (P.optS ts (P.wnt ts (P.winS ts (P.tkn ts s 1).2).2 sOpen) wAllowance 0).2 wBlock 1).2).2 sOpen) []).2 wRest) wRate) 6 1000000000000).2 sSemi) sShut) wRound)) b15
  have b13 : (P.wnt ts (P.wnt ts (P.numS ts (P.wnt ts (P.wnt ts (P.tiersS ts ts.length (P.wnt ts (P.kindS ts (P.optS ts (P.optS ts (P.wnt ts (P.winS ts (P.tkn ts s 1).2).2 sOpen) wAllowance 0).2 wBlock 1).2).2 sOpen) []).2 wRest) wRate) 6 1000000000000).2 sSemi) sShut).i < n := Nat.lt_of_le_of_lt (wnt_le ts (P.wnt ts (P.wnt ts (P.numS ts (P.wnt ts (P.wnt ts (P.tiersS ts ts.length (P.wnt ts (P.kindS ts (P.optS ts (P.optS ts (P.wnt ts (P.winS ts (P.tkn ts s 1).2).2 sOpen) wAllowance 0).2 wBlock 1).2).2 sOpen) []).2 wRest) wRate) 6 1000000000000).2 sSemi) sShut) wRound) b14
  have b12 : (P.wnt ts (P.numS ts (P.wnt ts (P.wnt ts (P.tiersS ts ts.length (P.wnt ts (P.kindS ts (P.optS ts (P.optS ts (P.wnt ts (P.winS ts (P.tkn ts s 1).2).2 sOpen) wAllowance 0).2 wBlock 1).2).2 sOpen) []).2 wRest) wRate) 6 1000000000000).2 sSemi).i < n := Nat.lt_of_le_of_lt (wnt_le ts (P.wnt ts (P.numS ts (P.wnt ts (P.wnt ts (P.tiersS ts ts.length (P.wnt ts (P.kindS ts (P.optS ts (P.optS ts (P.wnt ts (P.winS ts (P.tkn ts s 1).2).2 sOpen) wAllowance 0).2 wBlock 1).2).2 sOpen) []).2 wRest) wRate) 6 1000000000000).2 sSemi) sShut) b13
  have b11 : (P.numS ts (P.wnt ts (P.wnt ts (P.tiersS ts ts.length (P.wnt ts (P.kindS ts (P.optS ts (P.optS ts (P.wnt ts (P.winS ts (P.tkn ts s 1).2).2 sOpen) wAllowance 0).2 wBlock 1).2).2 sOpen) []).2 wRest) wRate) 6 1000000000000).2.i < n := Nat.lt_of_le_of_lt (wnt_le ts (P.numS ts (P.wnt ts (P.wnt ts (P.tiersS ts ts.length (P.wnt ts (P.kindS ts (P.optS ts (P.optS ts (P.wnt ts (P.winS ts (P.tkn ts s 1).2).2 sOpen) wAllowance 0).2 wBlock 1).2).2 sOpen) []).2 wRest) wRate) 6 1000000000000).2 sSemi) b12
  have b10 : (P.wnt ts (P.wnt ts (P.tiersS ts ts.length (P.wnt ts (P.kindS ts (P.optS ts (P.optS ts (P.wnt ts (P.winS ts (P.tkn ts s 1).2).2 sOpen) wAllowance 0).2 wBlock 1).2).2 sOpen) []).2 wRest) wRate).i < n := Nat.lt_of_le_of_lt (numS_le ts (P.wnt ts (P.wnt ts (P.tiersS ts ts.length (P.wnt ts (P.kindS ts (P.optS ts (P.optS ts (P.wnt ts (P.winS ts (P.tkn ts s 1).2).2 sOpen) wAllowance 0).2 wBlock 1).2).2 sOpen) []).2 wRest) wRate) 6 1000000000000) b11
  have b9 : (P.wnt ts (P.tiersS ts ts.length (P.wnt ts (P.kindS ts (P.optS ts (P.optS ts (P.wnt ts (P.winS ts (P.tkn ts s 1).2).2 sOpen) wAllowance 0).2 wBlock 1).2).2 sOpen) []).2 wRest).i < n := Nat.lt_of_le_of_lt (wnt_le ts (P.wnt ts (P.tiersS ts ts.length (P.wnt ts (P.kindS ts (P.optS ts (P.optS ts (P.wnt ts (P.winS ts (P.tkn ts s 1).2).2 sOpen) wAllowance 0).2 wBlock 1).2).2 sOpen) []).2 wRest) wRate) b10
  have b8 : (P.tiersS ts ts.length (P.wnt ts (P.kindS ts (P.optS ts (P.optS ts (P.wnt ts (P.winS ts (P.tkn ts s 1).2).2 sOpen) wAllowance 0).2 wBlock 1).2).2 sOpen) []).2.i < n := Nat.lt_of_le_of_lt (wnt_le ts (P.tiersS ts ts.length (P.wnt ts (P.kindS ts (P.optS ts (P.optS ts (P.wnt ts (P.winS ts (P.tkn ts s 1).2).2 sOpen) wAllowance 0).2 wBlock 1).2).2 sOpen) []).2 wRest) b9
  have b7 : (P.wnt ts (P.kindS ts (P.optS ts (P.optS ts (P.wnt ts (P.winS ts (P.tkn ts s 1).2).2 sOpen) wAllowance 0).2 wBlock 1).2).2 sOpen).i < n := Nat.lt_of_le_of_lt (tiersS_le ts ts.length (P.wnt ts (P.kindS ts (P.optS ts (P.optS ts (P.wnt ts (P.winS ts (P.tkn ts s 1).2).2 sOpen) wAllowance 0).2 wBlock 1).2).2 sOpen) []) b8
  have b6 : (P.kindS ts (P.optS ts (P.optS ts (P.wnt ts (P.winS ts (P.tkn ts s 1).2).2 sOpen) wAllowance 0).2 wBlock 1).2).2.i < n := Nat.lt_of_le_of_lt (wnt_le ts (P.kindS ts (P.optS ts (P.optS ts (P.wnt ts (P.winS ts (P.tkn ts s 1).2).2 sOpen) wAllowance 0).2 wBlock 1).2).2 sOpen) b7
  have b5 : (P.optS ts (P.optS ts (P.wnt ts (P.winS ts (P.tkn ts s 1).2).2 sOpen) wAllowance 0).2 wBlock 1).2.i < n := Nat.lt_of_le_of_lt (kindS_le ts (P.optS ts (P.optS ts (P.wnt ts (P.winS ts (P.tkn ts s 1).2).2 sOpen) wAllowance 0).2 wBlock 1).2) b6
  have b4 : (P.optS ts (P.wnt ts (P.winS ts (P.tkn ts s 1).2).2 sOpen) wAllowance 0).2.i < n := Nat.lt_of_le_of_lt (optS_le ts (P.optS ts (P.wnt ts (P.winS ts (P.tkn ts s 1).2).2 sOpen) wAllowance 0).2 wBlock 1) b5
  have b3 : (P.wnt ts (P.winS ts (P.tkn ts s 1).2).2 sOpen).i < n := Nat.lt_of_le_of_lt (optS_le ts (P.wnt ts (P.winS ts (P.tkn ts s 1).2).2 sOpen) wAllowance 0) b4
  have b2 : (P.winS ts (P.tkn ts s 1).2).2.i < n := Nat.lt_of_le_of_lt (wnt_le ts (P.winS ts (P.tkn ts s 1).2).2 sOpen) b3
  have b1 : (P.tkn ts s 1).2.i < n := Nat.lt_of_le_of_lt (winS_le ts (P.tkn ts s 1).2) b2
  have b0 : s.i < n := Nat.lt_of_le_of_lt (tkn_le ts s 1) b1
  have o0 := ok
  have q0 := ok'
  have o1 := o0.tkn (k := 1) (by decide)
  have q1 := q0.tkn (k := 1) (by decide)
  have a1 := Sm.tkn A (h) b0 1
  have o2 := o1.winS
  have q2 := q1.winS
  have a2 := Sm.winS A (a1.2) b2
  have o3 := o2.wnt sOpen
  have q3 := q2.wnt sOpen
  have a3 := Sm.wnt A (a2.2) b2 sOpen
  have o4 := o3.optS wAllowance 0
  have q4 := q3.optS wAllowance 0
  have a4 := Sm.optS A (a3) b4
  have o5 := o4.optS wBlock 1
  have q5 := q4.optS wBlock 1
  have a5 := Sm.optS A (a4.2) b5
  have o6 := o5.kindS
  have q6 := q5.kindS
  have a6 := Sm.kindS A (a5.2) b6
  have o7 := o6.wnt sOpen
  have q7 := q6.wnt sOpen
  have a7 := Sm.wnt A (a6.2) b6 sOpen
  have o8 := Ok.tiersS ts.length (P.wnt ts (P.kindS ts (P.optS ts (P.optS ts (P.wnt ts (P.winS ts (P.tkn ts s 1).2).2 sOpen) wAllowance 0).2 wBlock 1).2).2 sOpen) [] o7
  have q8 := Ok.tiersS ts'.length (P.wnt ts' (P.kindS ts' (P.optS ts' (P.optS ts' (P.wnt ts' (P.winS ts' (P.tkn ts' s' 1).2).2 sOpen) wAllowance 0).2 wBlock 1).2).2 sOpen) [] q7
  have a8 := Sm.tiersF A o7 q7 a7 b8
  have o9 := o8.wnt wRest
  have q9 := q8.wnt wRest
  have a9 := Sm.wnt A (a8.2) b8 wRest
  have o10 := o9.wnt wRate
  have q10 := q9.wnt wRate
  have a10 := Sm.wnt A (a9) b9 wRate
  have o11 := o10.numS 6 1000000000000
  have q11 := q10.numS 6 1000000000000
  have a11 := Sm.numS A (a10) b10 6 1000000000000
  have o12 := o11.wnt sSemi
  have q12 := q11.wnt sSemi
  have a12 := Sm.wnt A (a11.2) b11 sSemi
  have o13 := o12.wnt sShut
  have q13 := q12.wnt sShut
  have a13 := Sm.wnt A (a12) b12 sShut
  have o14 := o13.wnt wRound
  have q14 := q13.wnt wRound
  have a14 := Sm.wnt A (a13) b13 wRound
  have o15 := o14.modeS
  have q15 := q14.modeS
  have a15 := Sm.modeS A (a14) b15
  have o16 := o15.wnt sSemi
  have q16 := q15.wnt sSemi
  have a16 := Sm.wnt A (a15.2) b15 sSemi
  have o17 := Ok.adjsS ts.length (P.wnt ts (P.modeS ts (P.wnt ts (P.wnt ts (P.wnt ts (P.numS ts (P.wnt ts (P.wnt ts (P.tiersS ts ts.length (P.wnt ts (P.kindS ts (P.optS ts (P.optS ts (P.wnt ts (P.winS ts (P.tkn ts s 1).2).2 sOpen) wAllowance 0).2 wBlock 1).2).2 sOpen) []).2 wRest) wRate) 6 1000000000000).2 sSemi) sShut) wRound)).2 sSemi) [] o16
  have q17 := Ok.adjsS ts'.length (P.wnt ts' (P.modeS ts' (P.wnt ts' (P.wnt ts' (P.wnt ts' (P.numS ts' (P.wnt ts' (P.wnt ts' (P.tiersS ts' ts'.length (P.wnt ts' (P.kindS ts' (P.optS ts' (P.optS ts' (P.wnt ts' (P.winS ts' (P.tkn ts' s' 1).2).2 sOpen) wAllowance 0).2 wBlock 1).2).2 sOpen) []).2 wRest) wRate) 6 1000000000000).2 sSemi) sShut) wRound)).2 sSemi) [] q16
  have a17 := Sm.adjsF A o16 q16 a16 b17
  exact ⟨nC_of a1.1 a2.1 a4.1 a5.1 a6.1 a8.1 a11.1 a15.1 a17.1, Sm.wnt A (a17.2) b17 sShut⟩
end
/-- The second plan holds what a third and the first hold, but for places. -/
structure Rl (p0 p q : Plan) : Prop where
  hd : q.name = p0.name ∧ q.cur = p0.cur ∧ q.a = p0.a ∧ q.b = p0.b
  meters : q.meters.map nM = p0.meters.map nM ++ p.meters.map nM
  fees : q.fees.map nF = p0.fees.map nF ++ p.fees.map nF
  charges : q.charges.map nC = p0.charges.map nC ++ p.charges.map nC
end Go.Proofs.YtjgogpaedaffkaaGreat.P
/- Tokens with notes between them, lexed again: no program is named here. -/
namespace Go.Proofs.YtjgogpaedaffkaaGreat.P
open Go.RowKit
/-- Letters that are one token. -/
structure Whole (t : List UInt8) : Prop where
  some : t ≠ []
  kind : kd t ≠ 0
  skip : skips (t.getD 0 0) = false
  row : (isLt (t.getD 0 0) = true ∧ t.all isLt = true) ∨ (isLt (t.getD 0 0) = false ∧ t.length = 1)
theorem run_whole {p : UInt8 → Bool} (l m : List UInt8) {c : UInt8} (h : l.all p = true) (hc : p c = false) : run p (l ++ c :: m) = l.length := by
  rw [run_over l m hc]
  exact run_eq _ _ _ (Nat.le_refl _) (fun j hj => by
    rw [List.all_eq_true] at h
    refine h _ ?_
    rw [List.getD_eq_getElem?_getD, List.getElem?_eq_getElem hj]
    exact List.getElem_mem hj) (fun k => absurd k (Nat.lt_irrefl _))
end Go.Proofs.YtjgogpaedaffkaaGreat.P
/- Kinds of letters, asked in the order of the document's table: no program is named here. -/
namespace Go.Proofs.YtjgogpaedaffkaaGreat.P
open Go.RowKit
/-- A letter that may stand in a name. -/
def isNm (b : UInt8) : Bool := decide (b.toNat = 95 ∨ (48 ≤ b.toNat ∧ b.toNat ≤ 57) ∨ (97 ≤ b.toNat ∧ b.toNat ≤ 122) ∨ (65 ≤ b.toNat ∧ b.toNat ≤ 90))
theorem isLt_dg {b : UInt8} (h : isDg b = true) : isLt b = true := by
  unfold isDg at h
  unfold isLt
  rw [decide_eq_true_eq] at h ⊢
  omega
theorem all_mono {p q : UInt8 → Bool} {l : List UInt8} (h : ∀ b, p b = true → q b = true) (a : l.all p = true) : l.all q = true := by
  rw [List.all_eq_true] at a ⊢
  exact fun b hb => h b (a b hb)
/-- Whether letters are of a name's form. -/
def nm (l : List UInt8) : Bool := (l.all isNm && !l.isEmpty) && !isDg (l.getD 0 0)
theorem fm_lt {l : List UInt8} (h : fm l ≠ 0) : l.all isLt = true ∧ l ≠ [] := by
  refine ⟨all_mono (fun b hb => ?_) (fm_all h), fun e => ?_⟩
  · unfold isDp at hb
    rw [Bool.or_eq_true] at hb
    rcases hb with h | h
    · exact isLt_dg h
    · rw [beq_iff_eq] at h; rw [h]; decide
  · rw [e] at h; exact h fm_empty
theorem reads_lt {l : List UInt8} (h : reads l = true) : l.all isLt = true ∧ l ≠ [] := by
  unfold reads formed at h
  simp only [Bool.and_eq_true, decide_eq_true_eq] at h
  obtain ⟨⟨⟨hl, h4, h7⟩, a, b, c⟩, _⟩ := h
  obtain ⟨x0, x1, x2, x3, x4, x5, x6, x7, x8, x9, rfl⟩ := ten hl
  have hd : ∀ b, isD b = true → isLt b = true := fun b hb => isLt_dg hb
  simp only [List.getD_cons_succ, List.getD_cons_zero] at h4 h7
  subst h4 h7
  simp only [List.take_succ_cons, List.take_zero, List.drop_succ_cons, List.drop_zero, List.all_cons, List.all_nil, Bool.and_true, Bool.and_eq_true] at a b c
  refine ⟨?_, by simp⟩
  simp only [List.all_cons, List.all_nil, Bool.and_true, Bool.and_eq_true]
  exact ⟨hd _ a.1, hd _ a.2.1, hd _ a.2.2.1, hd _ a.2.2.2, by decide, hd _ b.1, hd _ b.2, by decide, hd _ c.1, hd _ c.2⟩
/-- The kind, asked in the order of the table. -/
def kw (sg wd n : Bool) (f : Nat) (d : Bool) : Nat := if sg then 5 else if wd then 2 else if n then 1 else if f ≠ 0 then 3 else if d then 4 else 0
end Go.Proofs.YtjgogpaedaffkaaGreat.P
/- What the letters of a text's tokens say of their kinds, and what a reader that has gone wrong sees: the end alone. Pure: no program is named here. -/
namespace Go.Proofs.YtjgogpaedaffkaaGreat.P
open Go.RowKit Mm
/-- Letters that a word or a sign has. -/
def Wd (l : List UInt8) : Prop := l ≠ [] ∧ (kd l = 2 ∨ kd l = 5)
instance (l : List UInt8) : Decidable (Wd l) := by unfold Wd; exact inferInstance
end Go.Proofs.YtjgogpaedaffkaaGreat.P
/- What a number's shortest text tells, as plain arithmetic: no program is named here. -/
namespace Go.Proofs.YtjgogpaedaffkaaGreat.P
open Go.RowKit
theorem isDg_dch {k : Nat} (h : k < 10) : isDg (dch k) = true := by rw [isDg_iff, dig_toNat h]; omega
/-- Digits behind letters. -/
theorem stB_digits : ∀ (b a : List UInt8), b.all isDg = true → stB (a ++ b) = if 0 ≤ stB a then stB a + b.length else stB a
  | [], a, _ => by simp
  | c :: t, a, h => by
    rw [List.all_cons, Bool.and_eq_true] at h
    have hc := isDg_no46 h.1
    rw [show a ++ c :: t = (a ++ [c]) ++ t by simp, stB_digits t (a ++ [c]) h.2, stB_snoc, if_neg hc]
    by_cases h0 : 0 ≤ stB a
    · rw [if_pos h0, if_pos h0, if_pos (by omega), List.length_cons]; omega
    · rw [if_neg h0, if_neg h0, if_neg h0]
theorem stV_digits : ∀ (b a : List UInt8), b.all isDg = true → stV (a ++ b) = stV a * 10 ^ b.length + stV b
  | [], a, _ => by simp [stV]
  | c :: t, a, h => by
    rw [List.all_cons, Bool.and_eq_true] at h
    have hc := isDg_no46 h.1
    have e := stV_digits t [c] h.2
    rw [show a ++ c :: t = (a ++ [c]) ++ t by simp, stV_digits t (a ++ [c]) h.2, stV_snoc, if_neg hc, show c :: t = [c] ++ t from rfl, e, show stV [c] = 10 * 0 + (c.toNat - 48) by
      have := stV_snoc [] c
      rw [if_neg hc] at this
      exact this]
    rw [List.length_append, List.length_singleton, Nat.add_comm 1, Nat.pow_succ]
    generalize 10 ^ t.length = y
    generalize c.toNat - 48 = d
    generalize stV a = x
    generalize stV t = z
    grind
theorem stV_point (a : List UInt8) : stV (a ++ [46]) = stV a := by rw [stV_snoc, if_pos rfl]
theorem stB_point (a : List UInt8) : stB (a ++ [46]) = 0 := by rw [stB_snoc, if_pos rfl]
theorem dec_digits (q : Nat) : (Lib.decDigits q).all isDg = true := by
  induction q using Nat.strongRecOn with
  | _ q ih =>
    by_cases h : q < 10
    · rw [dec_last h]; simp [isDg_dch h]
    · rw [dec_more h, List.all_append, ih (q / 10) (by omega)]
      simp [isDg_dch (Nat.mod_lt q (by decide : 0 < 10))]
theorem dec_value (q : Nat) : stV (Lib.decDigits q) = q := by
  induction q using Nat.strongRecOn with
  | _ q ih =>
    have s1 : ∀ k, k < 10 → ∀ a, stV (a ++ [dch k]) = 10 * stV a + k := fun k hk a => by
      rw [stV_snoc, if_neg (isDg_no46 (isDg_dch hk)), dig_toNat hk]; omega
    by_cases h : q < 10
    · rw [dec_last h]
      have := s1 q h []
      simpa [stV] using this
    · rw [dec_more h, s1 (q % 10) (Nat.mod_lt q (by decide)), ih (q / 10) (by omega)]
      omega
theorem dec_ne (q : Nat) : Lib.decDigits q ≠ [] := by
  intro h
  have := Lib.decDigits_length q
  rw [h] at this
  have := Lib.nDigits_pos q
  simp at *
  omega
theorem dec_head (q : Nat) : (Lib.decDigits q).getD 0 0 = 48 → q = 0 := by
  induction q using Nat.strongRecOn with
  | _ q ih =>
    intro h
    by_cases hq : q < 10
    · rw [dec_last hq] at h
      have : (dch q).toNat = 48 := by rw [show dch q = 48 from h]; rfl
      rw [dig_toNat hq] at this
      omega
    · rw [dec_more hq] at h
      have hn := dec_ne (q / 10)
      have e : (Lib.decDigits (q / 10) ++ [dch (q % 10)]).getD 0 0 = (Lib.decDigits (q / 10)).getD 0 0 := by
        cases hl : Lib.decDigits (q / 10) with
        | nil => exact absurd hl hn
        | cons a t => rfl
      rw [e] at h
      have := ih (q / 10) (by omega) h
      omega
theorem fs_digits (n : Nat) : ∀ k, (fs n k).all isDg = true
  | 0 => rfl
  | k + 1 => by
    rw [fs]
    split
    · rw [List.all_cons, fs_digits n k, isDg_dch (Nat.mod_lt _ (by decide))]; rfl
    · rfl
theorem fs_value (n : Nat) : ∀ k, stV (fs n k) * 10 ^ (k - (fs n k).length) = n % 10 ^ k
  | 0 => by simp [fs, stV, Nat.mod_one]
  | k + 1 => by
    have ih := fs_value n k
    have hl := fs_length n k
    have hm : n % 10 ^ (k + 1) = n / 10 ^ k % 10 * 10 ^ k + n % 10 ^ k := by
      rw [Nat.pow_succ, Nat.mod_mul]
      rw [Nat.mul_comm (10 ^ k), Nat.add_comm]
    by_cases h : fs n k ≠ [] ∨ n / 10 ^ k % 10 ≠ 0
    · have hc : n / 10 ^ k % 10 < 10 := Nat.mod_lt _ (by decide)
      rw [fs_yes h, show dch (n / 10 ^ k % 10) :: fs n k = [dch (n / 10 ^ k % 10)] ++ fs n k from rfl, stV_digits _ _ (fs_digits n k), List.length_append, List.length_singleton, hm, ← ih,
        show k + 1 - (1 + (fs n k).length) = k - (fs n k).length by omega,
        show stV [dch (n / 10 ^ k % 10)] = n / 10 ^ k % 10 by
          have := stV_snoc [] (dch (n / 10 ^ k % 10))
          rw [if_neg (isDg_no46 (isDg_dch hc)), dig_toNat hc] at this
          simpa [stV] using this, Nat.add_mul, Nat.mul_assoc, ← Nat.pow_add, show (fs n k).length + (k - (fs n k).length) = k by omega]
    · have h1 : fs n k = [] := by
        rcases Decidable.em (fs n k = []) with a | a
        · exact a
        · exact absurd (.inl a) h
      have h2 : n / 10 ^ k % 10 = 0 := by
        rcases Decidable.em (n / 10 ^ k % 10 = 0) with a | a
        · exact a
        · exact absurd (.inr a) h
      rw [h1] at ih
      rw [fs_no h1 h2, hm, h2, ← ih]
      simp [stV]
theorem dg_dp {l : List UInt8} (h : l.all isDg = true) : l.all isDp = true := by
  rw [List.all_eq_true] at h ⊢
  intro x hx
  unfold isDp
  rw [h x hx]
  rfl
theorem dg_count {l : List UInt8} (h : l.all isDg = true) : l.count 46 = 0 := by
  rw [List.count_eq_zero]
  intro k
  rw [List.all_eq_true] at h
  exact isDg_no46 (h _ k) rfl
theorem dg_last {l : List UInt8} (h : l.all isDg = true) : (l.getLast? == some 46) = false := by
  rw [beq_eq_false_iff_ne]
  intro k
  rw [List.all_eq_true] at h
  exact isDg_no46 (h _ (List.mem_of_getLast? k)) rfl
theorem dg_first {l : List UInt8} (h : l.all isDg = true) (hne : l ≠ []) : isDg (l.getD 0 0) = true := by
  cases l with
  | nil => exact absurd rfl hne
  | cons a t => rw [List.all_cons, Bool.and_eq_true] at h; exact h.1
/-- Digits ahead, then the point, then digits: the form of a text. -/
theorem fm_whole {a : List UInt8} (ha : a.all isDg = true) (hne : a ≠ []) (hh : oddHead a = false) : fm a = 1 := by
  rw [fm_is (dg_first ha hne) (by unfold evenBody; rw [dg_dp ha, dg_count ha, dg_last ha]; rfl) hh, dg_count ha]
theorem getD_app {a b : List UInt8} {i : Nat} (h : i < a.length) : (a ++ b).getD i 0 = a.getD i 0 := by
  rw [List.getD_eq_getElem?_getD, List.getElem?_append_left h, ← List.getD_eq_getElem?_getD]
theorem getD_len {a b : List UInt8} : (a ++ b).getD a.length 0 = b.getD 0 0 := by
  rw [List.getD_eq_getElem?_getD, List.getElem?_append_right (Nat.le_refl _), Nat.sub_self, ← List.getD_eq_getElem?_getD]
theorem head_point {a b : List UInt8} (hne : a ≠ []) (hh : oddHead a = false) : oddHead (a ++ 46 :: b) = false := by
  have hl : 0 < a.length := List.length_pos_iff.2 hne
  unfold oddHead at hh ⊢
  rw [getD_app hl]
  by_cases h1 : 1 < a.length
  · rw [getD_app h1]
    rw [decide_eq_true h1] at hh
    rw [decide_eq_true (by simp; omega)]
    exact hh
  · have e : a.length = 1 := by omega
    have := getD_len (a := a) (b := 46 :: b)
    rw [e] at this
    rw [this]
    simp
theorem fm_point {a b : List UInt8} (ha : a.all isDg = true) (hne : a ≠ []) (hh : oddHead a = false) (hb : b.all isDg = true) (hb0 : b ≠ []) : fm (a ++ 46 :: b) = 2 := by
  have hl : 0 < a.length := List.length_pos_iff.2 hne
  have hc : (a ++ 46 :: b).count 46 = 1 := by rw [List.count_append, dg_count ha, List.count_cons_self, dg_count hb]
  have hlast : (a ++ 46 :: b).getLast? = b.getLast? := by
    rw [List.getLast?_append, List.getLast?_cons]
    cases h : b.getLast? with
    | none => exact absurd (List.getLast?_eq_none_iff.1 h) hb0
    | some x => rfl
  rw [fm_is (by rw [getD_app hl]; exact dg_first ha hne) (by
    unfold evenBody
    rw [hc, hlast, dg_last hb, List.all_append, dg_dp ha, List.all_cons, dg_dp hb]
    rfl) (head_point hne hh), hc]
theorem dec_oddHead (q : Nat) : oddHead (Lib.decDigits q) = false := by
  unfold oddHead
  by_cases h : (Lib.decDigits q).getD 0 0 = 48
  · have hq := dec_head q h
    subst hq
    rw [dec_last (by omega)]
    rfl
  · rw [beq_eq_false_iff_ne.2 h]; rfl
theorem tail_no {n p : Nat} (h : fs n p = []) : tail n p = [] := by unfold tail; rw [if_pos h]
theorem tail_yes {n p : Nat} (h : fs n p ≠ []) : tail n p = 46 :: fs n p := by unfold tail; rw [if_neg h]
theorem tx_fm (n p : Nat) : fm (tx n p) = if fs n p = [] then 1 else 2 := by
  unfold tx
  by_cases h : fs n p = []
  · rw [tail_no h, List.append_nil, if_pos h]
    exact fm_whole (dec_digits _) (dec_ne _) (dec_oddHead _)
  · rw [tail_yes h, if_neg h]
    exact fm_point (dec_digits _) (dec_ne _) (dec_oddHead _) (fs_digits n p) h
theorem stB_dec (q : Nat) : stB (Lib.decDigits q) = -1 := by
  have := stB_digits (Lib.decDigits q) [] (dec_digits q)
  simpa [stB] using this
theorem tx_stB (n p : Nat) : stB (tx n p) = if fs n p = [] then -1 else ((fs n p).length : Int) := by
  unfold tx
  by_cases h : fs n p = []
  · rw [tail_no h, List.append_nil, if_pos h, stB_dec]
  · rw [tail_yes h, if_neg h, show Lib.decDigits (n / 10 ^ p) ++ 46 :: fs n p = (Lib.decDigits (n / 10 ^ p) ++ [46]) ++ fs n p by simp, stB_digits _ _ (fs_digits n p), stB_point, if_pos (by omega)]
    omega
theorem tx_stV (n p : Nat) : stV (tx n p) * 10 ^ (p - (fs n p).length) = n := by
  have hv := fs_value n p
  have hl := fs_length n p
  unfold tx
  by_cases h : fs n p = []
  · rw [h] at hv
    rw [tail_no h, List.append_nil, dec_value, h]
    have h0 : n % 10 ^ p = 0 := by rw [← hv]; simp [stV]
    have := Nat.div_add_mod n (10 ^ p)
    rw [h0, Nat.mul_comm] at this
    simpa using this
  · rw [tail_yes h, show Lib.decDigits (n / 10 ^ p) ++ 46 :: fs n p = (Lib.decDigits (n / 10 ^ p) ++ [46]) ++ fs n p by simp, stV_digits _ _ (fs_digits n p), stV_point, dec_value, Nat.add_mul, hv, Nat.mul_assoc, ← Nat.pow_add,
      show (fs n p).length + (p - (fs n p).length) = p by omega, Nat.mul_comm]
    exact Nat.div_add_mod n (10 ^ p)
theorem tx_pK (n p : Nat) : pK (tx n p) p = p - (fs n p).length := by
  have hl := fs_length n p
  unfold pK
  rw [tx_stB]
  by_cases h : fs n p = []
  · rw [if_pos h, h]; simp; omega
  · rw [if_neg h]; omega
theorem tx_pV (n p : Nat) : pV (tx n p) p = (n : Int) := by
  unfold pV
  rw [tx_pK]
  have := tx_stV n p
  exact_mod_cast this
theorem tx_pBad {n p : Nat} (hp : p ≤ 9) : pBad (tx n p) p = false := by
  have hl := fs_length n p
  unfold pBad
  rw [decide_eq_false_iff_not, tx_fm, tx_stB]
  by_cases h : fs n p = []
  · rw [if_pos h, if_pos h]; omega
  · rw [if_neg h, if_neg h]; omega
/-- A number's text is read as it. -/
theorem tx_back {n p : Nat} (hp : p ≤ 9) (most : Int) (hI : I64 (n : Int)) (hm : (n : Int) ≤ most) : pN (tx n p) p most = n ∧ pW (tx n p) p most = 0 := by
  unfold pN pW pGreat
  rw [tx_pBad hp, tx_pV, ok64_t hI, decide_eq_false (by omega)]
  exact ⟨rfl, rfl⟩
/-- The digits behind the point, at least one. -/
def f0 (n p : Nat) : List UInt8 := if fs n p = [] then [48] else fs n p
end Go.Proofs.YtjgogpaedaffkaaGreat.P
/- The plan that a text tells isn't great: no more things in it than tokens. Pure: no program is named here. -/
namespace Go.Proofs.YtjgogpaedaffkaaGreat.P
open Go.RowKit Mm R6
/-- What is counted as the items are read. -/
structure Few (ts : List Tok) (i : Nat) (p : Plan) : Prop where
  sum : p.meters.length + p.fees.length + p.charges.length ≤ i
  parts : ∀ c ∈ p.charges, c.tiers.length ≤ ts.length + 1 ∧ c.adjusts.length ≤ ts.length
end Go.Proofs.YtjgogpaedaffkaaGreat.P
