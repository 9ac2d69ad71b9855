/- Tokens that break off, as the parser reads them: it stops where they do, or the rest is told at their end. Pure: no program is named here. -/
import Derived.Test.YtabcoahenlaehaaDoorJParK
namespace Go.Proofs.YtabcoahenlaehaaDoor.P
open Go.RowKit Mm R6

/-! Once something is wrong nothing is read any more. -/
section
variable {ts : List Tok} {s : St}
theorem onW_no (h : ¬ s.err = 0) (l : List UInt8) : onW ts s l = false := by unfold onW; rw [decide_eq_false h]; rfl
theorem isTk_no (h : ¬ s.err = 0) (k : Nat) : isTk ts s k = false := by unfold isTk; rw [decide_eq_false h]; rfl
theorem wrg_no (h : ¬ s.err = 0) (e : Int) : wrg ts s e = s := by unfold wrg; rw [if_neg h]
theorem wnt_no (h : ¬ s.err = 0) (l : List UInt8) : wnt ts s l = s := by unfold wnt; rw [onW_no h, wrg_no h]; rfl
theorem tkn_no (h : ¬ s.err = 0) (k : Nat) : (tkn ts s k).2 = s := by unfold tkn; rw [isTk_no h, wrg_no h]; rfl
theorem numS_no (h : ¬ s.err = 0) (p m : Int) : (numS ts s p m).2 = s := by unfold numS; rw [isTk_no h, wrg_no h]; rfl
theorem dayS_no (h : ¬ s.err = 0) : (dayS ts s).2 = s := tkn_no h 4
theorem winS_no (h : ¬ s.err = 0) : (winS ts s).2 = s := by unfold winS; rw [onW_no h]; rfl
theorem oneAt_st (h : ¬ s.err = 0) : ∀ (ws : List (List UInt8)) (k : Int), oneAt ts s ws k = (-1, s)
  | [], _ => rfl
  | w :: r, k => by unfold oneAt; rw [onW_no h]; exact oneAt_st h r (k + 1)
theorem modeS_no (h : ¬ s.err = 0) : (modeS ts s).2 = s := by unfold modeS oneS; rw [oneAt_st h]; exact wrg_no h 4
theorem kindS_no (h : ¬ s.err = 0) : (kindS ts s).2 = s := by unfold kindS oneS; rw [oneAt_st h]; exact wrg_no h 4
theorem optS_no (h : ¬ s.err = 0) (l : List UInt8) (d : Int) : (optS ts s l d).2 = s := by unfold optS; rw [onW_no h]; rfl
theorem tiersS_no (h : ¬ s.err = 0) (n : Nat) (acc : List Tier) : (tiersS ts n s acc).2 = s := by
  cases n with
  | zero => rfl
  | succ n => unfold tiersS; rw [onW_no h]; rfl
theorem adjsS_no (h : ¬ s.err = 0) (n : Nat) (acc : List Adj) : (adjsS ts n s acc).2 = s := by
  cases n with
  | zero => rfl
  | succ n => unfold adjsS oneS; rw [oneAt_st h]; rfl
theorem adjS_no (h : ¬ s.err = 0) (k : Int) : (adjS ts s k).2 = s := by
  unfold adjS
  by_cases c : k = 1
  · rw [if_pos c]
    show wnt ts (modeS ts (numS ts s 3 100000000).2).2 sSemi = s
    rw [numS_no h, modeS_no h, wnt_no h]
  · rw [if_neg c]
    show wnt ts (numS ts s 0 1000000000000).2 sSemi = s
    rw [numS_no h, wnt_no h]
theorem tierS_no (h : ¬ s.err = 0) : (tierS ts s).2 = s := by
  show wnt ts (numS ts (wnt ts (numS ts s 0 1000000).2 wRate) 6 1000000000000).2 sSemi = s
  rw [numS_no h, wnt_no h, numS_no h, wnt_no h]
theorem back {a : St} (h : ¬ s.err = 0 → a = s) (e : a.err = 0) : s.err = 0 := by
  by_cases k : s.err = 0
  · exact k
  · rw [h k] at e; exact e
theorem wnt_e0 {l : List UInt8} (e : (wnt ts s l).err = 0) : s.err = 0 := back (fun h => wnt_no h l) e
theorem tkn_e0 {k : Nat} (e : (tkn ts s k).2.err = 0) : s.err = 0 := back (fun h => tkn_no h k) e
theorem numS_e0 {p m : Int} (e : (numS ts s p m).2.err = 0) : s.err = 0 := back (fun h => numS_no h p m) e
theorem dayS_e0 (e : (dayS ts s).2.err = 0) : s.err = 0 := back (fun h => dayS_no h) e
theorem winS_e0 (e : (winS ts s).2.err = 0) : s.err = 0 := back (fun h => winS_no h) e
theorem modeS_e0 (e : (modeS ts s).2.err = 0) : s.err = 0 := back (fun h => modeS_no h) e
theorem kindS_e0 (e : (kindS ts s).2.err = 0) : s.err = 0 := back (fun h => kindS_no h) e
theorem optS_e0 {l : List UInt8} {d : Int} (e : (optS ts s l d).2.err = 0) : s.err = 0 := back (fun h => optS_no h l d) e
theorem tierS_e0 (e : (tierS ts s).2.err = 0) : s.err = 0 := back (fun h => tierS_no h) e
theorem adjS_e0 {k : Int} (e : (adjS ts s k).2.err = 0) : s.err = 0 := back (fun h => adjS_no h k) e
theorem tiersS_e0 {n : Nat} {acc : List Tier} (e : (tiersS ts n s acc).2.err = 0) : s.err = 0 := back (fun h => tiersS_no h n acc) e
theorem adjsS_e0 {n : Nat} {acc : List Adj} (e : (adjsS ts n s acc).2.err = 0) : s.err = 0 := back (fun h => adjsS_no h n acc) e
end
/-- A row of tokens that breaks off: the second is the first's beginning, then the end. -/
structure Ct (n : Nat) (X C : List Tok) (u v : Int) : Prop where
  al : Al n 0 X C
  en : (C.getD n nil0).k = 0 ∧ ((C.getD n nil0).ln : Int) = u ∧ ((C.getD n nil0).cl : Int) = v
/-- The parser stands at the end; what is wrong, if anything, is told there. -/
def Stk (n : Nat) (u v : Int) (s : St) : Prop := s.i = n ∧ (s.err = 0 ∨ (s.err = 4 ∧ s.ln = u ∧ s.cl = v))
def Sk4 (n : Nat) (u v : Int) (s : St) : Prop := s.i = n ∧ s.err = 4 ∧ s.ln = u ∧ s.cl = v
theorem Sk4.stk {n : Nat} {u v : Int} {s : St} (h : Sk4 n u v s) : Stk n u v s := ⟨h.1, .inr h.2⟩
section
variable {n : Nat} {X C : List Tok} {u v : Int} {s c : St}
theorem Stk.k (T : Ct n X C u v) (h : Stk n u v c) : (tk C c).k = 0 := by unfold tk; rw [h.1]; exact T.en.1
theorem Stk.onW (T : Ct n X C u v) (h : Stk n u v c) (l : List UInt8) : onW C c l = false := by unfold P.onW; rw [h.k T]; simp
theorem Stk.isTk (T : Ct n X C u v) (h : Stk n u v c) {k : Nat} (hk : k ≠ 0) : isTk C c k = false := by unfold P.isTk; rw [h.k T, decide_eq_false (show ¬ (0 = k) from fun e => hk e.symm), Bool.and_false]
theorem Stk.wrg (T : Ct n X C u v) (h : Stk n u v c) : Sk4 n u v (wrg C c 4) := by
  rcases h.2 with e | e
  · unfold P.wrg
    rw [if_pos e]
    refine ⟨h.1, rfl, ?_, ?_⟩
    · show ((tk C c).ln : Int) = u; unfold tk; rw [h.1]; exact T.en.2.1
    · show ((tk C c).cl : Int) = v; unfold tk; rw [h.1]; exact T.en.2.2
  · rw [wrg_no (by rw [e.1]; decide)]
    exact ⟨h.1, e⟩
theorem Stk.wnt (T : Ct n X C u v) (h : Stk n u v c) (l : List UInt8) : Sk4 n u v (wnt C c l) := by unfold P.wnt; rw [h.onW T]; exact h.wrg T
theorem Stk.tkn (T : Ct n X C u v) (h : Stk n u v c) {k : Nat} (hk : k ≠ 0) : Sk4 n u v (tkn C c k).2 := by unfold P.tkn; rw [h.isTk T hk]; exact h.wrg T
theorem Stk.numS (T : Ct n X C u v) (h : Stk n u v c) (p m : Int) : Sk4 n u v (numS C c p m).2 := by unfold P.numS; rw [h.isTk T (by decide)]; exact h.wrg T
theorem Stk.dayS (T : Ct n X C u v) (h : Stk n u v c) : Sk4 n u v (dayS C c).2 := h.tkn T (by decide)
theorem Stk.winS (T : Ct n X C u v) (h : Stk n u v c) : (winS C c).2 = c := by unfold P.winS; rw [h.onW T]; rfl
theorem Stk.oneAt (T : Ct n X C u v) (h : Stk n u v c) : ∀ (ws : List (List UInt8)) (k : Int), oneAt C c ws k = (-1, c)
  | [], _ => rfl
  | w :: r, k => by unfold P.oneAt; rw [h.onW T]; exact Stk.oneAt T h r (k + 1)
theorem Stk.modeS (T : Ct n X C u v) (h : Stk n u v c) : Sk4 n u v (modeS C c).2 := by unfold P.modeS P.oneS; rw [h.oneAt T]; exact h.wrg T
theorem Stk.kindS (T : Ct n X C u v) (h : Stk n u v c) : Sk4 n u v (kindS C c).2 := by unfold P.kindS P.oneS; rw [h.oneAt T]; exact h.wrg T
theorem Stk.optS (T : Ct n X C u v) (h : Stk n u v c) (l : List UInt8) (d : Int) : (optS C c l d).2 = c := by unfold P.optS; rw [h.onW T]; rfl
theorem Stk.tiers (T : Ct n X C u v) (h : Stk n u v c) (m : Nat) (acc : List Tier) : (tiersS C m c acc).2 = c := by
  cases m with
  | zero => rfl
  | succ m => unfold tiersS; rw [h.onW T]; rfl
theorem Stk.adjs (T : Ct n X C u v) (h : Stk n u v c) (m : Nat) (acc : List Adj) : (adjsS C m c acc).2 = c := by
  cases m with
  | zero => rfl
  | succ m => unfold adjsS P.oneS; rw [h.oneAt T]; rfl
theorem Stk.tierS (T : Ct n X C u v) (h : Stk n u v c) : Sk4 n u v (tierS C c).2 := (((h.numS T 0 1000000).stk.wnt T wRate).stk.numS T 6 1000000000000).stk.wnt T sSemi
theorem Stk.adjS (T : Ct n X C u v) (h : Stk n u v c) (k : Int) : Sk4 n u v (adjS C c k).2 := by
  unfold P.adjS
  split
  · exact ((h.numS T 3 100000000).stk.modeS T).stk.wnt T sSemi
  · exact (h.numS T 0 1000000000000).stk.wnt T sSemi
/-- The whole row's parser and the broken one's: at the same place, or the second stands at the end and the first is beyond. -/
def Cu (n : Nat) (u v : Int) (s c : St) : Prop := (s.i ≤ n ∧ Sm 0 s c) ∨ (n < s.i ∧ Stk n u v c)
def Cu4 (n : Nat) (u v : Int) (s c : St) : Prop := (s.i ≤ n ∧ Sm 0 s c) ∨ (n < s.i ∧ Sk4 n u v c)
theorem Cu4.cu (h : Cu4 n u v s c) : Cu n u v s c := h.imp id fun k => ⟨k.1, k.2.stk⟩
theorem stk_of (h : Sm 0 s c) (hi : s.i = n) (e : s.err = 0) : Stk n u v c := ⟨by rw [h.ix, hi]; rfl, .inl (by rw [← h.err]; exact e)⟩
/-- A call that takes one token, or tells that it is missing. -/
theorem Cu.one {a b : St} (h : Cu n u v s c) (e0 : s.err = 0) (h1 : s.i < n → Sm 0 s c → Sm 0 a b) (h2 : a.i = s.i + 1) (h3 : Stk n u v c → Sk4 n u v b) : Cu4 n u v a b := by
  rcases h with ⟨k1, k2⟩ | ⟨k1, k2⟩
  · rcases Nat.lt_or_ge s.i n with g | g
    · exact .inl ⟨by omega, h1 g k2⟩
    · exact .inr ⟨by omega, h3 (stk_of k2 (by omega) e0)⟩
  · exact .inr ⟨by omega, h3 k2⟩
theorem wnt_e1 {ts : List Tok} {l : List UInt8} (e : (wnt ts s l).err = 0) : (wnt ts s l).i = s.i + 1 := by
  unfold wnt at e ⊢
  by_cases k : onW ts s l = true
  · rw [if_pos k]; rfl
  · rw [if_neg k, wrgErr] at e
    split at e
    · cases e
    · rename_i k2; exact absurd e k2
theorem tkn_e1 {ts : List Tok} {k : Nat} (e : (tkn ts s k).2.err = 0) : (tkn ts s k).2.i = s.i + 1 := by
  unfold tkn at e ⊢
  by_cases c : isTk ts s k = true
  · rw [if_pos c]; rfl
  · rw [if_neg c] at e
    have e : (wrg ts s 4).err = 0 := e
    rw [wrgErr] at e
    split at e
    · cases e
    · rename_i k2; exact absurd e k2
theorem numS_e1 {ts : List Tok} {p m : Int} (e : (numS ts s p m).2.err = 0) : (numS ts s p m).2.i = s.i + 1 := by
  unfold numS at e ⊢
  by_cases c : isTk ts s 3 = true
  · rw [if_pos c]
    show (bad ts s _).i + 1 = _
    rw [bad_i]
  · rw [if_neg c] at e
    have e : (wrg ts s 4).err = 0 := e
    rw [wrgErr] at e
    split at e
    · cases e
    · rename_i k2; exact absurd e k2
theorem Cu.wnt4 {l : List UInt8} (T : Ct n X C u v) (h : Cu n u v s c) (e : (wnt X s l).err = 0) : Cu4 n u v (wnt X s l) (wnt C c l) :=
  h.one (wnt_e0 e) (fun g k => Sm.wnt T.al k g l) (wnt_e1 e) (fun k => k.wnt T l)
theorem Cu.wnt {l : List UInt8} (T : Ct n X C u v) (h : Cu n u v s c) (e : (wnt X s l).err = 0) : Cu n u v (wnt X s l) (wnt C c l) := (Cu.wnt4 T h e).cu
theorem Cu.tkn {k : Nat} (T : Ct n X C u v) (h : Cu n u v s c) (hk : k ≠ 0) (e : (tkn X s k).2.err = 0) : Cu n u v (tkn X s k).2 (tkn C c k).2 :=
  (h.one (tkn_e0 e) (fun g q => (Sm.tkn T.al q g k).2) (tkn_e1 e) (fun q => q.tkn T hk)).cu
theorem Cu.numS {p m : Int} (T : Ct n X C u v) (h : Cu n u v s c) (e : (numS X s p m).2.err = 0) : Cu n u v (numS X s p m).2 (numS C c p m).2 :=
  (h.one (numS_e0 e) (fun g q => (Sm.numS T.al q g p m).2) (numS_e1 e) (fun q => q.numS T p m)).cu
theorem Cu.dayS (T : Ct n X C u v) (h : Cu n u v s c) (e : (dayS X s).2.err = 0) : Cu n u v (dayS X s).2 (dayS C c).2 := Cu.tkn T h (by decide) e
/-- A call that looks whether there is something, and may pass it over. -/
theorem Cu.peek {a b : St} (h : Cu n u v s c) (le : s.i ≤ a.i) (e0 : s.err = 0) (h0 : a = s ∨ s.i < a.i) (h1 : s.i < n → Sm 0 s c → Cu n u v a b) (h3 : Stk n u v c → b = c) : Cu n u v a b := by
  rcases h with ⟨k1, k2⟩ | ⟨k1, k2⟩
  · rcases Nat.lt_or_ge s.i n with g | g
    · exact h1 g k2
    · have st := stk_of (u := u) (v := v) k2 (by omega : s.i = n) e0
      rw [h3 st]
      rcases h0 with rfl | h0
      · exact .inl ⟨k1, k2⟩
      · exact .inr ⟨by omega, st⟩
  · rw [h3 k2]
    exact .inr ⟨by omega, k2⟩
theorem Cu.winS (T : Ct n X C u v) (h : Cu n u v s c) (e : (winS X s).2.err = 0) : Cu n u v (winS X s).2 (winS C c).2 := by
  refine h.peek (winS_le X s) (winS_e0 e) ?_ (fun g k => ?_) (fun k => k.winS T)
  · unfold P.winS
    by_cases q : onW X s wFrom = true
    · right
      rw [if_pos q]
      have l1 : s.next.i ≤ (P.dayS X s.next).2.i := tkn_le X s.next 4
      have l2 := wnt_le X (P.dayS X s.next).2 wTo
      have l3 : (P.wnt X (P.dayS X s.next).2 wTo).i ≤ (P.dayS X (P.wnt X (P.dayS X s.next).2 wTo)).2.i := tkn_le X _ 4
      have l0 : s.next.i = s.i + 1 := rfl
      show s.i < (P.dayS X (P.wnt X (P.dayS X s.next).2 wTo)).2.i
      omega
    · left; rw [if_neg q]
  · unfold P.winS at e ⊢
    rw [← Sm.onW T.al k g wFrom]
    by_cases q : onW X s wFrom = true
    · rw [if_pos q] at e ⊢
      rw [if_pos q]
      have e3 : (P.dayS X (P.wnt X (P.dayS X s.next).2 wTo)).2.err = 0 := e
      have e2 := dayS_e0 e3
      have e1 := wnt_e0 e2
      have a0 : Cu n u v s.next c.next := .inl ⟨g, k.next⟩
      exact Cu.dayS T (Cu.wnt T (Cu.dayS T a0 e1) e2) e3
    · rw [if_neg q, if_neg q]
      exact .inl ⟨Nat.le_of_lt g, k⟩
theorem Cu.oneS (T : Ct n X C u v) (h : Cu n u v s c) (ws : List (List UInt8)) (e0 : s.err = 0) : Cu n u v (oneS X s ws).2 (oneS C c ws).2 := by
  have up : (P.oneS X s ws).2 = s ∨ (P.oneS X s ws).2.i = s.i + 1 := by
    rcases Int.lt_or_le (P.oneS X s ws).1 0 with k | k
    · left; unfold P.oneS at k ⊢; rw [oneAt_no X s ws 0 (Int.le_refl _) k]
    · right; exact oneAt_yes X s ws 0 (Int.le_refl _) k
  refine h.peek (oneAt_le X s ws 0) e0 (up.imp id fun k => by omega) (fun g k => ?_) (fun k => by unfold P.oneS; rw [k.oneAt T])
  refine .inl ⟨?_, (Sm.oneS T.al k g ws).2⟩
  rcases up with k | k
  · rw [k]; omega
  · omega
theorem Cu.modeS (T : Ct n X C u v) (h : Cu n u v s c) (e : (modeS X s).2.err = 0) : Cu n u v (modeS X s).2 (modeS C c).2 := by
  have e0 := modeS_e0 e
  have hp : ¬ (P.oneS X s modes).1 < 0 := fun k => by
    unfold P.modeS at e
    rw [if_pos k] at e
    have e : (P.wrg X (P.oneS X s modes).2 4).err = 0 := e
    rw [wrgErr] at e
    split at e
    · cases e
    · rename_i k2; exact k2 e
  have hi : (P.modeS X s).2.i = s.i + 1 := by
    unfold P.modeS
    rw [if_neg hp]
    exact oneAt_yes X s modes 0 (Int.le_refl _) (by unfold P.oneS at hp; omega)
  refine (h.one e0 (fun g k => ?_) hi (fun k => k.modeS T)).cu
  have a := Sm.oneS T.al k g modes
  unfold P.modeS
  rw [← a.1, if_neg hp, if_neg hp]
  exact a.2
theorem Cu.kindS (T : Ct n X C u v) (h : Cu n u v s c) (e : (kindS X s).2.err = 0) : Cu n u v (kindS X s).2 (kindS C c).2 := by
  have e0 := kindS_e0 e
  have hp : ¬ 1 + (P.oneS X s kinds).1 = 0 := fun k => by
    unfold P.kindS at e
    simp only [if_pos k] at e
    rw [wrgErr] at e
    split at e
    · cases e
    · rename_i k2; exact k2 e
  have h0 : ¬ (P.oneS X s kinds).1 < 0 := fun k => by
    have := oneAt_no X s kinds 0 (Int.le_refl _) k
    apply hp
    unfold P.oneS
    rw [this]
    rfl
  have hi : (P.kindS X s).2.i = s.i + 1 := by
    unfold P.kindS
    simp only [if_neg hp]
    exact oneAt_yes X s kinds 0 (Int.le_refl _) (by unfold P.oneS at h0; omega)
  refine (h.one e0 (fun g k => ?_) hi (fun k => k.kindS T)).cu
  have a := Sm.oneS T.al k g kinds
  unfold P.kindS
  simp only
  rw [← a.1, if_neg hp, if_neg hp]
  exact a.2
theorem Cu.optS {l : List UInt8} {d : Int} (T : Ct n X C u v) (h : Cu n u v s c) (e : (optS X s l d).2.err = 0) : Cu n u v (optS X s l d).2 (optS C c l d).2 := by
  refine h.peek (optS_le X s l d) (optS_e0 e) ?_ (fun g k => ?_) (fun k => k.optS T l d)
  · unfold P.optS
    by_cases q : onW X s l = true
    · right
      rw [if_pos q]
      have l1 := numS_le X s.next 0 1000000
      have l2 := wnt_le X (P.numS X s.next 0 1000000).2 sSemi
      have l0 : s.next.i = s.i + 1 := rfl
      show s.i < (P.wnt X (P.numS X s.next 0 1000000).2 sSemi).i
      omega
    · left; rw [if_neg q]
  · unfold P.optS at e ⊢
    rw [← Sm.onW T.al k g l]
    by_cases q : onW X s l = true
    · rw [if_pos q] at e ⊢
      rw [if_pos q]
      have e2 : (P.wnt X (P.numS X s.next 0 1000000).2 sSemi).err = 0 := e
      have a0 : Cu n u v s.next c.next := .inl ⟨g, k.next⟩
      exact Cu.wnt T (Cu.numS T a0 (wnt_e0 e2)) e2
    · rw [if_neg q, if_neg q]
      exact .inl ⟨Nat.le_of_lt g, k⟩
theorem Cu.tierS (T : Ct n X C u v) (h : Cu n u v s c) (e : (tierS X s).2.err = 0) : Cu n u v (tierS X s).2 (tierS C c).2 := by
  have e4 : (P.wnt X (P.numS X (P.wnt X (P.numS X s 0 1000000).2 wRate) 6 1000000000000).2 sSemi).err = 0 := e
  have e3 := wnt_e0 e4
  have e2 := numS_e0 e3
  have e1 := wnt_e0 e2
  exact Cu.wnt T (Cu.numS T (Cu.wnt T (Cu.numS T h e1) e2) e3) e4
theorem Cu.adjS (T : Ct n X C u v) (h : Cu n u v s c) (k : Int) (e : (adjS X s k).2.err = 0) : Cu n u v (adjS X s k).2 (adjS C c k).2 := by
  unfold P.adjS at e ⊢
  by_cases q : k = 1
  · rw [if_pos q] at e ⊢
    rw [if_pos q]
    have e3 : (P.wnt X (P.modeS X (P.numS X s 3 100000000).2).2 sSemi).err = 0 := e
    have e2 := wnt_e0 e3
    exact Cu.wnt T (Cu.modeS T (Cu.numS T h (modeS_e0 e2)) e2) e3
  · rw [if_neg q] at e ⊢
    rw [if_neg q]
    have e3 : (P.wnt X (P.numS X s 0 1000000000000).2 sSemi).err = 0 := e
    exact Cu.wnt T (Cu.numS T h (wnt_e0 e3)) e3
end
theorem Cu.tiers {n : Nat} {X C : List Tok} {u v : Int} (T : Ct n X C u v) : ∀ (m : Nat) (s c : St) (acc acc' : List Tier), Cu n u v s c → (tiersS X m s acc).2.err = 0 → Cu n u v (tiersS X m s acc).2 (tiersS C m c acc').2
  | 0, _, _, _, _, h, _ => h
  | m + 1, s, c, acc, acc', h, e => by
    refine h.peek (tiersS_le X (m + 1) s acc) (tiersS_e0 e) ?_ (fun g k => ?_) (fun k => k.tiers T (m + 1) acc')
    · unfold tiersS
      by_cases q : onW X s wUpto = true
      · right
        rw [if_pos q]
        have l1 := tierS_le X s.next
        have l2 := tiersS_le X m (P.tierS X s.next).2 (acc ++ [(P.tierS X s.next).1])
        have l0 : s.next.i = s.i + 1 := rfl
        omega
      · left; rw [if_neg q]
    · unfold tiersS at e ⊢
      rw [← Sm.onW T.al k g wUpto]
      by_cases q : onW X s wUpto = true
      · rw [if_pos q] at e ⊢
        rw [if_pos q]
        have a0 : Cu n u v s.next c.next := .inl ⟨g, k.next⟩
        exact Cu.tiers T m _ _ _ _ (Cu.tierS T a0 (tiersS_e0 e)) e
      · rw [if_neg q, if_neg q]
        exact .inl ⟨Nat.le_of_lt g, k⟩
theorem Cu.adjs {n : Nat} {X C : List Tok} {u v : Int} (T : Ct n X C u v) : ∀ (m : Nat) (s c : St) (acc acc' : List Adj), Cu n u v s c → (adjsS X m s acc).2.err = 0 → Cu n u v (adjsS X m s acc).2 (adjsS C m c acc').2
  | 0, _, _, _, _, h, _ => h
  | m + 1, s, c, acc, acc', h, e => by
    have e0 := adjsS_e0 e
    have up : (1 + (P.oneS X s adjWords).1 = 0 ∧ (P.oneS X s adjWords).2 = s) ∨ (¬ 1 + (P.oneS X s adjWords).1 = 0 ∧ (P.oneS X s adjWords).2.i = s.i + 1) := by
      rcases Int.lt_or_le (P.oneS X s adjWords).1 0 with k | k
      · have := oneAt_no X s adjWords 0 (Int.le_refl _) k
        left; unfold P.oneS; rw [this]; exact ⟨rfl, rfl⟩
      · right; exact ⟨by omega, oneAt_yes X s adjWords 0 (Int.le_refl _) k⟩
    refine h.peek (adjsS_le X (m + 1) s acc) e0 ?_ (fun g k => ?_) (fun k => k.adjs T (m + 1) acc')
    · unfold adjsS
      simp only
      rcases up with ⟨q, q2⟩ | ⟨q, q2⟩
      · left; rw [if_pos q]; exact q2
      · right
        rw [if_neg q]
        have l1 := adjS_le X (P.oneS X s adjWords).2 (1 + (P.oneS X s adjWords).1)
        have l2 := adjsS_le X m (P.adjS X (P.oneS X s adjWords).2 (1 + (P.oneS X s adjWords).1)).2 (acc ++ [(P.adjS X (P.oneS X s adjWords).2 (1 + (P.oneS X s adjWords).1)).1])
        omega
    · have a := Sm.oneS T.al k g adjWords
      unfold adjsS at e ⊢
      simp only at e ⊢
      rw [← a.1]
      rcases up with ⟨q, q2⟩ | ⟨q, q2⟩
      · rw [if_pos q, if_pos q]
        exact .inl ⟨by show (P.oneS X s adjWords).2.i ≤ n; rw [q2]; omega, a.2⟩
      · rw [if_neg q] at e ⊢
        rw [if_neg q]
        have a0 : Cu n u v (P.oneS X s adjWords).2 (P.oneS C c adjWords).2 := .inl ⟨by omega, a.2⟩
        exact Cu.adjs T m _ _ _ _ (Cu.adjS T a0 _ (adjsS_e0 e)) e
section
variable {n : Nat} {X C : List Tok} {u v : Int} {s c : St}
theorem Cu.tiersSF (T : Ct n X C u v) (ok : Ok X s) (ok' : Ok C c) (h : Cu n u v s c) (e : (tiersS X X.length s []).2.err = 0) : Cu n u v (tiersS X X.length s []).2 (tiersS C C.length c []).2 := by
  rw [tiers_fuel X X.length (X.length + C.length) s [] ok (by omega) (by omega)] at e ⊢
  rw [tiers_fuel C C.length (X.length + C.length) c [] ok' (by omega) (by omega)]
  exact Cu.tiers T _ _ _ _ _ h e
theorem Cu.adjsSF (T : Ct n X C u v) (ok : Ok X s) (ok' : Ok C c) (h : Cu n u v s c) (e : (adjsS X X.length s []).2.err = 0) : Cu n u v (adjsS X X.length s []).2 (adjsS C C.length c []).2 := by
  rw [adjs_fuel X X.length (X.length + C.length) s [] ok (by omega) (by omega)] at e ⊢
  rw [adjs_fuel C C.length (X.length + C.length) c [] ok' (by omega) (by omega)]
  exact Cu.adjs T _ _ _ _ _ h e
theorem Cu.meterS (T : Ct n X C u v) (ok : Ok X s) (ok' : Ok C c) (h : Cu n u v s c) (l b l' b' : Int) (e : (P.meterS X s l b).2.err = 0) : Cu4 n u v (P.meterS X s l b).2 (P.meterS C c l' b').2 := by
  have e : (P.wnt X (P.numS X (P.wnt X (P.tkn X (P.wnt X (P.tkn X s 1).2 wUnit) 1).2 wMax) 0 2000).2 sSemi).err = 0 := e
  have e5 := wnt_e0 e
  have e4 := numS_e0 e5
  have e3 := wnt_e0 e4
  have e2 := tkn_e0 e3
  have e1 := wnt_e0 e2
  have o0 := ok
  have q0 := ok'
  have o1 := o0.tkn (k := 1) (by decide)
  have q1 := q0.tkn (k := 1) (by decide)
  have a1 := Cu.tkn T (h) (by decide) e1
  have o2 := o1.wnt wUnit
  have q2 := q1.wnt wUnit
  have a2 := Cu.wnt T (a1) e2
  have o3 := o2.tkn (k := 1) (by decide)
  have q3 := q2.tkn (k := 1) (by decide)
  have a3 := Cu.tkn T (a2) (by decide) e3
  have o4 := o3.wnt wMax
  have q4 := q3.wnt wMax
  have a4 := Cu.wnt T (a3) e4
  have o5 := o4.numS 0 2000
  have q5 := q4.numS 0 2000
  have a5 := Cu.numS T (a4) e5
  exact Cu.wnt4 T (a5) e
theorem Cu.feeS (T : Ct n X C u v) (ok : Ok X s) (ok' : Ok C c) (h : Cu n u v s c) (l b l' b' : Int) (e : (P.feeS X s l b).2.err = 0) : Cu4 n u v (P.feeS X s l b).2 (P.feeS C c l' b').2 := by
  have e : (P.wnt X (P.winS X (P.numS X s 0 1000000000000).2).2 sSemi).err = 0 := e
  have e2 := wnt_e0 e
  have e1 := winS_e0 e2
  have o0 := ok
  have q0 := ok'
  have o1 := o0.numS 0 1000000000000
  have q1 := q0.numS 0 1000000000000
  have a1 := Cu.numS T (h) e1
  have o2 := o1.winS
  have q2 := q1.winS
  have a2 := Cu.winS T (a1) e2
  exact Cu.wnt4 T (a2) e
theorem Cu.chargeS (T : Ct n X C u v) (ok : Ok X s) (ok' : Ok C c) (h : Cu n u v s c) (l b l' b' : Int) (e : (P.chargeS X s l b).2.err = 0) : Cu4 n u v (P.chargeS X s l b).2 (P.chargeS C c l' b').2 := by
  have e : (P.wnt X (P.adjsS X X.length (P.wnt X (P.modeS X (P.wnt X (P.wnt X (P.wnt X (P.numS X (P.wnt X (P.wnt X (P.tiersS X X.length (P.wnt X (P.kindS X (P.optS X (P.optS X (P.wnt X (P.winS X (P.tkn X s 1).2).2 sOpen) wAllowance 0).2 wBlock 1).2).2 sOpen) []).2 wRest) wRate) 6 1000000000000).2 sSemi) sShut) wRound)).2 sSemi) []).2 sShut).err = 0 := e
  have e17 := wnt_e0 e
  have e16 := adjsS_e0 e17
  have e15 := wnt_e0 e16
  have e14 := modeS_e0 e15
  have e13 := wnt_e0 e14
  have e12 := wnt_e0 e13
  have e11 := wnt_e0 e12
  have e10 := numS_e0 e11
  have e9 := wnt_e0 e10
  have e8 := wnt_e0 e9
  have e7 := tiersS_e0 e8
  have e6 := wnt_e0 e7
  have e5 := kindS_e0 e6
  have e4 := optS_e0 e5
  have e3 := optS_e0 e4
  have e2 := wnt_e0 e3
  have e1 := winS_e0 e2
  have o0 := ok
  have q0 := ok'
  have o1 := o0.tkn (k := 1) (by decide)
  have q1 := q0.tkn (k := 1) (by decide)
  have a1 := Cu.tkn T (h) (by decide) e1
  have o2 := o1.winS
  have q2 := q1.winS
  have a2 := Cu.winS T (a1) e2
  have o3 := o2.wnt sOpen
  have q3 := q2.wnt sOpen
  have a3 := Cu.wnt T (a2) e3
  have o4 := o3.optS wAllowance 0
  have q4 := q3.optS wAllowance 0
  have a4 := Cu.optS T (a3) e4
  have o5 := o4.optS wBlock 1
  have q5 := q4.optS wBlock 1
  have a5 := Cu.optS T (a4) e5
  have o6 := o5.kindS
  have q6 := q5.kindS
  have a6 := Cu.kindS T (a5) e6
  have o7 := o6.wnt sOpen
  have q7 := q6.wnt sOpen
  have a7 := Cu.wnt T (a6) e7
  have o8 := Ok.tiersS X.length (P.wnt X (P.kindS X (P.optS X (P.optS X (P.wnt X (P.winS X (P.tkn X s 1).2).2 sOpen) wAllowance 0).2 wBlock 1).2).2 sOpen) [] o7
  have q8 := Ok.tiersS C.length (P.wnt C (P.kindS C (P.optS C (P.optS C (P.wnt C (P.winS C (P.tkn C c 1).2).2 sOpen) wAllowance 0).2 wBlock 1).2).2 sOpen) [] q7
  have a8 := Cu.tiersSF T o7 q7 (a7) e8
  have o9 := o8.wnt wRest
  have q9 := q8.wnt wRest
  have a9 := Cu.wnt T (a8) e9
  have o10 := o9.wnt wRate
  have q10 := q9.wnt wRate
  have a10 := Cu.wnt T (a9) e10
  have o11 := o10.numS 6 1000000000000
  have q11 := q10.numS 6 1000000000000
  have a11 := Cu.numS T (a10) e11
  have o12 := o11.wnt sSemi
  have q12 := q11.wnt sSemi
  have a12 := Cu.wnt T (a11) e12
  have o13 := o12.wnt sShut
  have q13 := q12.wnt sShut
  have a13 := Cu.wnt T (a12) e13
  have o14 := o13.wnt wRound
  have q14 := q13.wnt wRound
  have a14 := Cu.wnt T (a13) e14
  have o15 := o14.modeS
  have q15 := q14.modeS
  have a15 := Cu.modeS T (a14) e15
  have o16 := o15.wnt sSemi
  have q16 := q15.wnt sSemi
  have a16 := Cu.wnt T (a15) e16
  have o17 := Ok.adjsS X.length (P.wnt X (P.modeS X (P.wnt X (P.wnt X (P.wnt X (P.numS X (P.wnt X (P.wnt X (P.tiersS X X.length (P.wnt X (P.kindS X (P.optS X (P.optS X (P.wnt X (P.winS X (P.tkn X s 1).2).2 sOpen) wAllowance 0).2 wBlock 1).2).2 sOpen) []).2 wRest) wRate) 6 1000000000000).2 sSemi) sShut) wRound)).2 sSemi) [] o16
  have q17 := Ok.adjsS C.length (P.wnt C (P.modeS C (P.wnt C (P.wnt C (P.wnt C (P.numS C (P.wnt C (P.wnt C (P.tiersS C C.length (P.wnt C (P.kindS C (P.optS C (P.optS C (P.wnt C (P.winS C (P.tkn C c 1).2).2 sOpen) wAllowance 0).2 wBlock 1).2).2 sOpen) []).2 wRest) wRate) 6 1000000000000).2 sSemi) sShut) wRound)).2 sSemi) [] q16
  have a17 := Cu.adjsSF T o16 q16 (a16) e17
  exact Cu.wnt4 T (a17) e
theorem Cu.headS (T : Ct n X C u v) (ok : Ok X s) (ok' : Ok C c) (h : Cu n u v s c) (e : (headS X s).2.err = 0) : Cu4 n u v (headS X s).2 (headS C c).2 := by
  have e : (P.wnt X (P.dayS X (P.dayS X (P.wnt X (P.wnt X (P.tkn X (P.wnt X (P.tkn X (P.wnt X s wPlan) 1).2 wCurrency) 1).2 sSemi) wHorizon)).2).2 sSemi).err = 0 := e
  have e8 := wnt_e0 e
  have e7 := dayS_e0 e8
  have e6 := dayS_e0 e7
  have e5 := wnt_e0 e6
  have e4 := wnt_e0 e5
  have e3 := tkn_e0 e4
  have e2 := wnt_e0 e3
  have e1 := tkn_e0 e2
  have o0 := ok
  have q0 := ok'
  have o1 := o0.wnt wPlan
  have q1 := q0.wnt wPlan
  have a1 := Cu.wnt T (h) e1
  have o2 := o1.tkn (k := 1) (by decide)
  have q2 := q1.tkn (k := 1) (by decide)
  have a2 := Cu.tkn T (a1) (by decide) e2
  have o3 := o2.wnt wCurrency
  have q3 := q2.wnt wCurrency
  have a3 := Cu.wnt T (a2) e3
  have o4 := o3.tkn (k := 1) (by decide)
  have q4 := q3.tkn (k := 1) (by decide)
  have a4 := Cu.tkn T (a3) (by decide) e4
  have o5 := o4.wnt sSemi
  have q5 := q4.wnt sSemi
  have a5 := Cu.wnt T (a4) e5
  have o6 := o5.wnt wHorizon
  have q6 := q5.wnt wHorizon
  have a6 := Cu.wnt T (a5) e6
  have o7 := o6.dayS
  have q7 := q6.dayS
  have a7 := Cu.dayS T (a6) e7
  have o8 := o7.dayS
  have q8 := q7.dayS
  have a8 := Cu.dayS T (a7) e8
  exact Cu.wnt4 T (a8) e
end
end Go.Proofs.YtabcoahenlaehaaDoor.P
/- Where a plan's items end, told by its braces and semicolons; what a plan's beginning is. Pure: no program is named here. -/
namespace Go.Proofs.YtabcoahenlaehaaDoor.P
open Go.RowKit Mm R6

def dlt (l : List UInt8) : Int := if l = sOpen then 1 else if l = sShut then -1 else 0
/-- How deep in braces one is behind so many tokens. -/
def dp (X : List Tok) : Nat → Int
  | 0 => 0
  | j + 1 => dp X j + dlt (X.getD j nil0).t
/-- Whether something ends there, outside of braces. -/
def wl (X : List Tok) : Nat → Bool
  | 0 => false
  | j + 1 => (decide ((X.getD j nil0).t = sSemi) || decide ((X.getD j nil0).t = sShut)) && decide (dp X (j + 1) = 0)
def ens (X : List Tok) : Nat → Nat
  | 0 => 0
  | j + 1 => ens X j + if wl X (j + 1) = true then 1 else 0
theorem wl_at (X : List Tok) (j : Nat) : wl X (j + 1) = ((decide ((X.getD j nil0).t = sSemi) || decide ((X.getD j nil0).t = sShut)) && decide (dp X (j + 1) = 0)) := rfl
def Flat (l : List UInt8) : Prop := l ≠ sOpen ∧ l ≠ sShut
def Plain (l : List UInt8) : Prop := Flat l ∧ l ≠ sSemi
def Rng (Q : List UInt8 → Prop) (X : List Tok) (s t : St) : Prop := s.i ≤ t.i ∧ ∀ j, s.i ≤ j → j < t.i → Q (X.getD j nil0).t
def NW (X : List Tok) (a b : Nat) : Prop := ∀ j, a < j → j ≤ b → wl X j = false
section
variable {X : List Tok} {s t r : St} {Q : List UInt8 → Prop}
theorem Rng.refl : Rng Q X s s := ⟨Nat.le_refl _, fun j h1 h2 => by omega⟩
theorem Rng.trans (h : Rng Q X s t) (g : Rng Q X t r) : Rng Q X s r :=
  ⟨Nat.le_trans h.1 g.1, fun j h1 h2 => by
    rcases Nat.lt_or_ge j t.i with k | k
    · exact h.2 j h1 k
    · exact g.2 j k h2⟩
theorem Rng.flat (h : Rng Plain X s t) : Rng Flat X s t := ⟨h.1, fun j h1 h2 => (h.2 j h1 h2).1⟩
theorem Rng.same (h : t.i = s.i) : Rng Q X s t := ⟨by omega, fun j h1 h2 => by omega⟩
theorem Rng.one (h : t.i = s.i + 1) (q : Q (tk X s).t) : Rng Q X s t := ⟨by omega, fun j h1 h2 => by
  obtain rfl : j = s.i := by omega
  exact q⟩
theorem knd_at (K : Knd X) {j : Nat} (h : (X.getD j nil0).k ≠ 0) : kd (X.getD j nil0).t = (X.getD j nil0).k := by
  rcases Nat.lt_or_ge j X.length with k | k
  · rw [List.getD_eq_getElem?_getD, List.getElem?_eq_getElem k]
    exact (K _ (List.getElem_mem k)).1
  · rw [List.getD_eq_getElem?_getD, List.getElem?_eq_none k] at h
    exact absurd rfl h
theorem plain_kd {l : List UInt8} (h : kd l ≠ 5) : Plain l := by
  refine ⟨⟨?_, ?_⟩, ?_⟩
  · rintro rfl; exact h (by decide)
  · rintro rfl; exact h (by decide)
  · rintro rfl; exact h (by decide)
theorem rWnt {l : List UInt8} (q : Q l) : Rng Q X s (wnt X s l) := by
  unfold wnt
  by_cases k : onW X s l = true
  · rw [if_pos k]
    refine Rng.one rfl ?_
    unfold onW at k
    simp only [Bool.and_eq_true, beq_iff_eq] at k
    rw [k.2.2]
    exact q
  · rw [if_neg k]
    exact Rng.same (wrg_i ..)
theorem rTkn (K : Knd X) {k : Nat} (h0 : k ≠ 0) (h5 : k ≠ 5) : Rng Plain X s (tkn X s k).2 := by
  unfold tkn
  by_cases c : isTk X s k = true
  · rw [if_pos c]
    refine Rng.one rfl ?_
    unfold isTk at c
    simp only [Bool.and_eq_true, decide_eq_true_eq] at c
    refine plain_kd ?_
    have := knd_at K (j := s.i) (by show (tk X s).k ≠ 0; rw [c.2]; exact h0)
    show kd (X.getD s.i nil0).t ≠ 5
    rw [this]
    show (tk X s).k ≠ 5
    rw [c.2]
    exact h5
  · rw [if_neg c]
    exact Rng.same (wrg_i ..)
theorem rNum (K : Knd X) (p m : Int) : Rng Plain X s (numS X s p m).2 := by
  unfold numS
  by_cases c : isTk X s 3 = true
  · rw [if_pos c]
    refine Rng.one (by show (bad X s _).i + 1 = _; rw [bad_i]) ?_
    unfold isTk at c
    simp only [Bool.and_eq_true, decide_eq_true_eq] at c
    refine plain_kd ?_
    have := knd_at K (j := s.i) (by show (tk X s).k ≠ 0; rw [c.2]; decide)
    show kd (X.getD s.i nil0).t ≠ 5
    rw [this]
    show (tk X s).k ≠ 5
    rw [c.2]
    decide
  · rw [if_neg c]
    exact Rng.same (wrg_i ..)
theorem rDay (K : Knd X) : Rng Plain X s (dayS X s).2 := rTkn K (by decide) (by decide)
theorem rNext {l : List UInt8} (h : onW X s l = true) (q : Q l) : Rng Q X s s.next := by
  refine Rng.one rfl ?_
  unfold onW at h
  simp only [Bool.and_eq_true, beq_iff_eq] at h
  rw [h.2.2]
  exact q
theorem plainW {l : List UInt8} (h : kd l ≠ 5) : Plain l := plain_kd h
theorem rWin (K : Knd X) : Rng Plain X s (winS X s).2 := by
  unfold winS
  by_cases k : onW X s wFrom = true
  · rw [if_pos k]
    exact (((rNext k (plainW (by decide))).trans (rDay K)).trans (rWnt (plainW (by decide)))).trans (rDay K)
  · rw [if_neg k]
    exact Rng.refl
theorem rOne : ∀ (ws : List (List UInt8)) (k : Int), (∀ w ∈ ws, Q w) → Rng Q X s (oneAt X s ws k).2
  | [], _, _ => Rng.refl
  | w :: r, k, h => by
    unfold oneAt
    by_cases c : onW X s w = true
    · rw [if_pos c]
      exact rNext c (h w (List.mem_cons_self ..))
    · rw [if_neg c]
      exact rOne r (k + 1) fun x hx => h x (List.mem_cons_of_mem _ hx)
theorem rMode : Rng Plain X s (modeS X s).2 := by
  have h : Rng Plain X s (oneS X s modes).2 := rOne modes 0 (by
    intro w hw
    simp only [modes, List.mem_cons, List.not_mem_nil, or_false] at hw
    rcases hw with rfl | rfl | rfl | rfl <;> exact plainW (by decide))
  unfold modeS
  split
  · exact h.trans (Rng.same (wrg_i ..))
  · exact h
theorem rKind : Rng Plain X s (kindS X s).2 := by
  have h : Rng Plain X s (oneS X s kinds).2 := rOne kinds 0 (by
    intro w hw
    simp only [kinds, List.mem_cons, List.not_mem_nil, or_false] at hw
    rcases hw with rfl | rfl <;> exact plainW (by decide))
  unfold kindS
  simp only
  split
  · exact h.trans (Rng.same (wrg_i ..))
  · exact h
theorem fl_semi : Flat sSemi := ⟨by decide, by decide⟩
theorem rOpt (K : Knd X) {l : List UInt8} (q : Flat l) (d : Int) : Rng Flat X s (optS X s l d).2 := by
  unfold optS
  by_cases k : onW X s l = true
  · rw [if_pos k]
    exact ((rNext k q).trans (rNum K _ _).flat).trans (rWnt fl_semi)
  · rw [if_neg k]
    exact Rng.refl
theorem rTier (K : Knd X) : Rng Flat X s (tierS X s).2 :=
  ((((rNum K 0 1000000).flat).trans (rWnt (plainW (l := wRate) (by decide)).1)).trans (rNum K 6 1000000000000).flat).trans (rWnt fl_semi)
theorem rTiers (K : Knd X) : ∀ (n : Nat) (s : St) (acc : List Tier), Rng Flat X s (tiersS X n s acc).2
  | 0, _, _ => Rng.refl
  | n + 1, s, acc => by
    unfold tiersS
    by_cases k : onW X s wUpto = true
    · rw [if_pos k]
      exact ((rNext k (plainW (by decide)).1).trans (rTier K)).trans (rTiers K n _ _)
    · rw [if_neg k]
      exact Rng.refl
theorem rAdj (K : Knd X) (k : Int) : Rng Flat X s (adjS X s k).2 := by
  unfold adjS
  split
  · exact (((rNum K 3 100000000).flat).trans rMode.flat).trans (rWnt fl_semi)
  · exact ((rNum K 0 1000000000000).flat).trans (rWnt fl_semi)
theorem rAdjs (K : Knd X) : ∀ (n : Nat) (s : St) (acc : List Adj), Rng Flat X s (adjsS X n s acc).2
  | 0, _, _ => Rng.refl
  | n + 1, s, acc => by
    have h : Rng Flat X s (oneS X s adjWords).2 := rOne adjWords 0 (by
      intro w hw
      simp only [adjWords, List.mem_cons, List.not_mem_nil, or_false] at hw
      rcases hw with rfl | rfl | rfl | rfl <;> exact (plainW (by decide)).1)
    unfold adjsS
    simp only
    split
    · exact h
    · exact (h.trans (rAdj K _)).trans (rAdjs K n _ _)
/-! Depth and ends along such runs. -/
theorem dp_flat (h : Rng Flat X s t) : ∀ d, s.i + d ≤ t.i → dp X (s.i + d) = dp X s.i
  | 0, _ => rfl
  | d + 1, hd => by
    have q := h.2 (s.i + d) (by omega) (by omega)
    show dp X (s.i + d) + dlt (X.getD (s.i + d) nil0).t = _
    rw [dp_flat h d (by omega)]
    unfold dlt
    rw [if_neg q.1, if_neg q.2]
    omega
theorem dp_run (h : Rng Flat X s t) : dp X t.i = dp X s.i := by
  have := dp_flat h (t.i - s.i) (by have := h.1; omega)
  rwa [show s.i + (t.i - s.i) = t.i by have := h.1; omega] at this
theorem NW.trans {a b c : Nat} (h : NW X a b) (g : NW X b c) : NW X a c := fun j h1 h2 => by
  rcases Nat.lt_or_ge b j with k | k
  · exact g j k h2
  · exact h j h1 k
theorem nw_plain (h : Rng Plain X s t) : NW X s.i t.i := fun j h1 h2 => by
  obtain ⟨i, rfl⟩ : ∃ i, j = i + 1 := ⟨j - 1, by omega⟩
  have q := h.2 i (by omega) (by omega)
  rw [wl_at, decide_eq_false q.2, decide_eq_false q.1.2]
  rfl
theorem nw_flat (h : Rng Flat X s t) (hd : dp X s.i ≠ 0) : NW X s.i t.i := fun j h1 h2 => by
  obtain ⟨i, rfl⟩ : ∃ i, j = i + 1 := ⟨j - 1, by omega⟩
  have e := dp_flat h (i + 1 - s.i) (by omega)
  rw [show s.i + (i + 1 - s.i) = i + 1 by omega] at e
  rw [wl_at, e, decide_eq_false hd, Bool.and_false]
theorem tok_of {l : List UInt8} (e : (wnt X s l).err = 0) : (X.getD s.i nil0).t = l ∧ (wnt X s l).i = s.i + 1 := by
  refine ⟨?_, wnt_e1 e⟩
  unfold wnt at e
  by_cases k : onW X s l = true
  · unfold onW at k
    simp only [Bool.and_eq_true, beq_iff_eq] at k
    exact k.2.2
  · rw [if_neg k, wrgErr] at e
    split at e
    · cases e
    · rename_i k2; exact absurd e k2
/-- A brace opens. -/
theorem sc_open (e : (wnt X s sOpen).err = 0) : dp X (wnt X s sOpen).i = dp X s.i + 1 ∧ NW X s.i (wnt X s sOpen).i := by
  obtain ⟨h1, h2⟩ := tok_of e
  rw [h2]
  refine ⟨?_, fun j k1 k2 => ?_⟩
  · show dp X s.i + dlt _ = _; rw [h1]; rfl
  · obtain rfl : j = s.i + 1 := by omega
    rw [wl_at, h1]
    rfl
/-- A brace closes, within another. -/
theorem sc_shut (e : (wnt X s sShut).err = 0) (hd : dp X s.i ≠ 1) : dp X (wnt X s sShut).i = dp X s.i - 1 ∧ NW X s.i (wnt X s sShut).i := by
  obtain ⟨h1, h2⟩ := tok_of e
  rw [h2]
  have e1 : dp X (s.i + 1) = dp X s.i - 1 := by show dp X s.i + dlt _ = _; rw [h1]; rfl
  refine ⟨e1, fun j k1 k2 => ?_⟩
  obtain rfl : j = s.i + 1 := by omega
  rw [wl_at, e1, decide_eq_false (show ¬ (dp X s.i - 1 = 0) by omega), Bool.and_false]
/-- From a to the parser's place: nothing ends within; something ends there. -/
def Sc (X : List Tok) (a : Nat) (t : St) : Prop := a < t.i ∧ dp X t.i = 0 ∧ wl X t.i = true ∧ ∀ j, a < j → j < t.i → wl X j = false
theorem fin_semi {a : Nat} (ha : a ≤ s.i) (h : NW X a s.i) (hd : dp X s.i = 0) (e : (wnt X s sSemi).err = 0) : Sc X a (wnt X s sSemi) := by
  obtain ⟨h1, h2⟩ := tok_of e
  have e1 : dp X (s.i + 1) = 0 := by show dp X s.i + dlt _ = _; rw [h1, hd]; rfl
  unfold Sc
  rw [h2]
  refine ⟨by omega, e1, ?_, fun j k1 k2 => h j k1 (by omega)⟩
  rw [wl_at, e1, h1]
  rfl
theorem fin_shut {a : Nat} (ha : a ≤ s.i) (h : NW X a s.i) (hd : dp X s.i = 1) (e : (wnt X s sShut).err = 0) : Sc X a (wnt X s sShut) := by
  obtain ⟨h1, h2⟩ := tok_of e
  have e1 : dp X (s.i + 1) = 0 := by show dp X s.i + dlt _ = _; rw [h1, hd]; rfl
  unfold Sc
  rw [h2]
  refine ⟨by omega, e1, ?_, fun j k1 k2 => h j k1 (by omega)⟩
  rw [wl_at, e1, h1]
  rfl
theorem meter_scan (K : Knd X) {a : Nat} (ha : a ≤ s.i) (h : NW X a s.i) (hd : dp X s.i = 0) (l c : Int) (e : (meterS X s l c).2.err = 0) : Sc X a (meterS X s l c).2 := by
  have g : Rng Plain X s (numS X (wnt X (tkn X (wnt X (tkn X s 1).2 wUnit) 1).2 wMax) 0 2000).2 :=
    ((((rTkn K (by decide) (by decide)).trans (rWnt (plainW (by decide)))).trans (rTkn K (by decide) (by decide))).trans (rWnt (plainW (by decide)))).trans (rNum K 0 2000)
  exact fin_semi (Nat.le_trans ha g.1) (h.trans (nw_plain g)) (by rw [dp_run g.flat, hd]) e
theorem fee_scan (K : Knd X) {a : Nat} (ha : a ≤ s.i) (h : NW X a s.i) (hd : dp X s.i = 0) (l c : Int) (e : (feeS X s l c).2.err = 0) : Sc X a (feeS X s l c).2 := by
  have g : Rng Plain X s (winS X (numS X s 0 1000000000000).2).2 := (rNum K 0 1000000000000).trans (rWin K)
  exact fin_semi (Nat.le_trans ha g.1) (h.trans (nw_plain g)) (by rw [dp_run g.flat, hd]) e
theorem charge_scan (K : Knd X) {a : Nat} (ha : a ≤ s.i) (h : NW X a s.i) (hd : dp X s.i = 0) (l c : Int) (e : (chargeS X s l c).2.err = 0) : Sc X a (chargeS X s l c).2 := by
  obtain ⟨s2, h2⟩ : ∃ x, x = (winS X (tkn X s 1).2).2 := ⟨_, rfl⟩
  obtain ⟨s6, h6⟩ : ∃ x, x = (kindS X (optS X (optS X (wnt X s2 sOpen) wAllowance 0).2 wBlock 1).2).2 := ⟨_, rfl⟩
  obtain ⟨s12, h12⟩ : ∃ x, x = wnt X (numS X (wnt X (wnt X (tiersS X X.length (wnt X s6 sOpen) []).2 wRest) wRate) 6 1000000000000).2 sSemi := ⟨_, rfl⟩
  obtain ⟨s17, h17⟩ : ∃ x, x = (adjsS X X.length (wnt X (modeS X (wnt X (wnt X s12 sShut) wRound)).2 sSemi) []).2 := ⟨_, rfl⟩
  have e18 : (wnt X s17 sShut).err = 0 := by rw [h17, h12, h6, h2]; exact e
  have e13 : (wnt X s12 sShut).err = 0 := by
    have := wnt_e0 e18
    rw [h17] at this
    exact wnt_e0 (modeS_e0 (wnt_e0 (adjsS_e0 this)))
  have e7 : (wnt X s6 sOpen).err = 0 := by
    have := wnt_e0 e13
    rw [h12] at this
    exact tiersS_e0 (wnt_e0 (wnt_e0 (numS_e0 (wnt_e0 this))))
  have e3 : (wnt X s2 sOpen).err = 0 := by
    have := wnt_e0 e7
    rw [h6] at this
    exact optS_e0 (optS_e0 (kindS_e0 this))
  have g2 : Rng Plain X s s2 := by rw [h2]; exact (rTkn K (by decide) (by decide)).trans (rWin K)
  have g6 : Rng Flat X (wnt X s2 sOpen) s6 := by
    rw [h6]
    exact ((rOpt K (plainW (by decide)).1 0).trans (rOpt K (plainW (by decide)).1 1)).trans rKind.flat
  have g12 : Rng Flat X (wnt X s6 sOpen) s12 := by
    rw [h12]
    exact ((((rTiers K _ _ _).trans (rWnt (plainW (l := wRest) (by decide)).1)).trans (rWnt (plainW (l := wRate) (by decide)).1)).trans (rNum K 6 1000000000000).flat).trans (rWnt fl_semi)
  have g17 : Rng Flat X (wnt X s12 sShut) s17 := by
    rw [h17]
    exact (((rWnt (plainW (l := wRound) (by decide)).1).trans rMode.flat).trans (rWnt fl_semi)).trans (rAdjs K _ _ _)
  have d2 : dp X s2.i = 0 := by rw [dp_run g2.flat, hd]
  obtain ⟨d3, n3⟩ := sc_open e3
  have d6 := dp_run g6
  obtain ⟨d7, n7⟩ := sc_open e7
  have d12 := dp_run g12
  obtain ⟨d13, n13⟩ := sc_shut e13 (by omega)
  have d17 := dp_run g17
  have i3 := (tok_of e3).2
  have i7 := (tok_of e7).2
  have i13 := (tok_of e13).2
  have l2 := g2.1
  have l6 := g6.1
  have l12 := g12.1
  have l17 := g17.1
  have N := ((((((h.trans (nw_plain g2)).trans n3).trans (nw_flat g6 (by omega))).trans n7).trans (nw_flat g12 (by omega))).trans n13).trans (nw_flat g17 (by omega))
  have r := fin_shut (by omega) N (by omega) e18
  rw [h17, h12, h6, h2] at r
  exact r
theorem item_scan (K : Knd X) (hd : dp X s.i = 0) (p : Plan) (e : (itemS X s p).2.err = 0) : Sc X s.i (itemS X s p).2 := by
  have g : Rng Plain X s (oneS X s itemWords).2 := rOne itemWords 0 (by
    intro w hw
    simp only [itemWords, List.mem_cons, List.not_mem_nil, or_false] at hw
    rcases hw with rfl | rfl | rfl <;> exact plainW (by decide))
  have d1 : dp X (oneS X s itemWords).2.i = 0 := by rw [dp_run g.flat, hd]
  have n1 := nw_plain g
  unfold itemS at e ⊢
  simp only at e ⊢
  by_cases e0 : (oneS X s itemWords).1 = 0
  · rw [if_pos e0] at e ⊢
    exact meter_scan K g.1 n1 d1 (tk X s).ln (tk X s).cl e
  · rw [if_neg e0] at e ⊢
    by_cases e1 : (oneS X s itemWords).1 = 1
    · rw [if_pos e1] at e ⊢
      exact fee_scan K g.1 n1 d1 (tk X s).ln (tk X s).cl e
    · rw [if_neg e1] at e ⊢
      by_cases e2 : (oneS X s itemWords).1 = 2
      · rw [if_pos e2] at e ⊢
        exact charge_scan K g.1 n1 d1 (tk X s).ln (tk X s).cl e
      · rw [if_neg e2] at e
        have e : (wrg X (oneS X s itemWords).2 4).err = 0 := e
        rw [wrgErr] at e
        split at e
        · cases e
        · rename_i k2; exact absurd e k2
end
end Go.Proofs.YtabcoahenlaehaaDoor.P
/- A plan's text that breaks off: what the parser makes of its tokens. Pure: no program is named here. -/
namespace Go.Proofs.YtabcoahenlaehaaDoor.P
open Go.RowKit Mm R6

section
variable {n : Nat} {X C : List Tok} {u v : Int} {s c : St}
theorem Cu.itemS (T : Ct n X C u v) (ok : Ok X s) (ok' : Ok C c) (k : Sm 0 s c) (g : s.i < n) (p q : Plan) (e : (itemS X s p).2.err = 0) : Cu4 n u v (itemS X s p).2 (itemS C c q).2 := by
  have e0 : s.err = 0 := back (a := (P.itemS X s p).2) (fun h => by
    unfold P.itemS P.oneS
    rw [oneAt_st h]
    exact wrg_no h 4) e
  have a := Sm.oneS T.al k g itemWords
  have b := Cu.oneS T (.inl ⟨Nat.le_of_lt g, k⟩) itemWords e0
  have o := ok.oneS itemWords
  have o' := ok'.oneS itemWords
  unfold P.itemS at e ⊢
  simp only at e ⊢
  rw [← a.1]
  by_cases e0 : (P.oneS X s itemWords).1 = 0
  · rw [if_pos e0] at e ⊢
    rw [if_pos e0]
    exact Cu.meterS T o o' b (tk X s).ln (tk X s).cl (tk C c).ln (tk C c).cl e
  · rw [if_neg e0] at e ⊢
    rw [if_neg e0]
    by_cases e1 : (P.oneS X s itemWords).1 = 1
    · rw [if_pos e1] at e ⊢
      rw [if_pos e1]
      exact Cu.feeS T o o' b (tk X s).ln (tk X s).cl (tk C c).ln (tk C c).cl e
    · rw [if_neg e1] at e ⊢
      rw [if_neg e1]
      by_cases e2 : (P.oneS X s itemWords).1 = 2
      · rw [if_pos e2] at e ⊢
        rw [if_pos e2]
        exact Cu.chargeS T o o' b (tk X s).ln (tk X s).cl (tk C c).ln (tk C c).cl e
      · rw [if_neg e2] at e
        have e : (P.wrg X (P.oneS X s itemWords).2 4).err = 0 := e
        rw [wrgErr] at e
        split at e
        · cases e
        · rename_i k2; exact absurd e k2
end
/-- The items of a row that breaks off. -/
theorem cut_items {n : Nat} {X C : List Tok} {u v : Int} (T : Ct n X C u v) (K : Knd X) (nz : ∀ j, j < n → (X.getD j nil0).k ≠ 0) : ∀ (k : Nat) (s c : St) (p q : Plan), Ok X s → Ok C c → s.i ≤ n → Sm 0 s c → s.err = 0 → dp X s.i = 0 → wl X s.i = true → X.length ≤ k + s.i →
    (itemsS X X.length s p).2.err = 0 → (wl X n = true ∧ (itemsS C C.length c q).2.err = 0) ∨ (wl X n = false ∧ Sk4 n u v (itemsS C C.length c q).2)
  | 0, s, _, _, _, ok, _, _, _, _, _, _, hk, _ => by have := ok.lt; omega
  | k + 1, s, c, p, q, ok, ok', hi, h, e0, hd, hw, hk, he => by
    rcases Nat.lt_or_ge s.i n with g | g
    · have hk0 := nz s.i g
      have hg : goesOn X s = true := by
        unfold goesOn
        rw [decide_eq_true e0, show (tk X s).k = (X.getD s.i nil0).k from rfl, decide_eq_false hk0]
        rfl
      have e2 := Sm.goes T.al h g
      rw [items_step ok hg] at he
      rw [items_step ok' (by rw [← e2, hg])]
      have er := items_err he
      obtain ⟨s1, s2, s3, s4⟩ := item_scan K hd p er
      rcases Cu.itemS T ok ok' h g p q er with ⟨c1, c2⟩ | ⟨c1, c2⟩
      · exact cut_items T K nz k _ _ _ _ (ok.itemS p) (ok'.itemS q) c1 c2 er s2 s3 (by omega) he
      · right
        refine ⟨s4 n g c1, ?_⟩
        have hno : goesOn C (itemS C c q).2 = false := by
          unfold goesOn
          rw [c2.2.1]
          rfl
        rw [items_stop C _ _ _ hno]
        exact c2
    · obtain rfl : s.i = n := by omega
      left
      have st := stk_of (u := u) (v := v) h rfl e0
      have hno : goesOn C c = false := by
        unfold goesOn
        rw [st.k T]
        simp
      refine ⟨hw, ?_⟩
      rw [items_stop C _ _ _ hno]
      exact h.err.symm.trans e0
theorem ens_nw {X : List Tok} {a b : Nat} (hab : a ≤ b) (h : NW X a b) : ens X b = ens X a := by
  obtain ⟨d, rfl⟩ : ∃ d, b = a + d := ⟨b - a, by omega⟩
  clear hab
  induction d with
  | zero => rfl
  | succ d ih =>
    show ens X (a + d) + (if wl X (a + d + 1) = true then 1 else 0) = _
    rw [h (a + d + 1) (by omega) (by omega), ih fun j h1 h2 => h j h1 (by omega)]
    rfl
theorem ens_mono (X : List Tok) {a b : Nat} (h : a ≤ b) : ens X a ≤ ens X b := by
  obtain ⟨d, rfl⟩ : ∃ d, b = a + d := ⟨b - a, by omega⟩
  clear h
  induction d with
  | zero => exact Nat.le_refl _
  | succ d ih => exact Nat.le_trans ih (Nat.le_add_right _ _)
/-- The plan's line and the horizon's: two ends, the second at the head's end. -/
theorem head_scan {X : List Tok} (K : Knd X) (e : (headS X st0).2.err = 0) : dp X (headS X st0).2.i = 0 ∧ wl X (headS X st0).2.i = true ∧ ens X (headS X st0).2.i = 2 ∧ ∀ j, j < (headS X st0).2.i → ens X j ≤ 1 := by
  obtain ⟨s4, h4⟩ : ∃ x, x = (tkn X (wnt X (tkn X (wnt X st0 wPlan) 1).2 wCurrency) 1).2 := ⟨_, rfl⟩
  obtain ⟨s8, h8⟩ : ∃ x, x = (dayS X (dayS X (wnt X (wnt X s4 sSemi) wHorizon)).2).2 := ⟨_, rfl⟩
  have e9 : (wnt X s8 sSemi).err = 0 := by rw [h8, h4]; exact e
  have e5 : (wnt X s4 sSemi).err = 0 := by
    have := wnt_e0 e9
    rw [h8] at this
    exact wnt_e0 (dayS_e0 (dayS_e0 this))
  have g4 : Rng Plain X st0 s4 := by
    rw [h4]
    exact ((((rWnt (plainW (l := wPlan) (by decide))).trans (rTkn K (by decide) (by decide))).trans (rWnt (plainW (l := wCurrency) (by decide)))).trans (rTkn K (by decide) (by decide)))
  have g8 : Rng Plain X (wnt X s4 sSemi) s8 := by
    rw [h8]
    exact ((rWnt (plainW (l := wHorizon) (by decide))).trans (rDay K)).trans (rDay K)
  have d4 : dp X s4.i = 0 := by rw [dp_run g4.flat]; rfl
  have f5 := fin_semi (a := 0) (Nat.zero_le _) (nw_plain g4) d4 e5
  have d8 : dp X s8.i = 0 := by rw [dp_run g8.flat, f5.2.1]
  have f9 := fin_semi (a := (wnt X s4 sSemi).i) g8.1 (nw_plain g8) d8 e9
  have i5 := (tok_of e5).2
  have i9 := (tok_of e9).2
  have n4 : ens X s4.i = 0 := ens_nw (a := 0) (Nat.zero_le _) (nw_plain g4)
  have n5 : ens X (wnt X s4 sSemi).i = 1 := by
    have w5 := f5.2.2.1
    rw [i5] at w5 ⊢
    show ens X s4.i + (if wl X (s4.i + 1) = true then 1 else 0) = 1
    rw [w5, n4]
    rfl
  have n8 : ens X s8.i = 1 := by rw [ens_nw g8.1 (nw_plain g8), n5]
  have n9 : ens X (wnt X s8 sSemi).i = 2 := by
    have w9 := f9.2.2.1
    rw [i9] at w9 ⊢
    show ens X s8.i + (if wl X (s8.i + 1) = true then 1 else 0) = 2
    rw [w9, n8]
    rfl
  have r : (headS X st0).2 = wnt X s8 sSemi := by rw [h8, h4]; rfl
  rw [r]
  refine ⟨f9.2.1, f9.2.2.1, n9, fun j hj => ?_⟩
  rw [← n8]
  exact ens_mono X (by omega)
/-- What ParseCuts asks of the tokens. -/
theorem cut_pure {n : Nat} {X C : List Tok} {u v : Int} (T : Ct n X C u v) (K : Knd X) (tX : Toks X) (tC : Toks C) (nz : ∀ j, j < n → (X.getD j nil0).k ≠ 0) (hp : (planS X).2.1 = 0) :
    (planS C).2 = if wl X n = true ∧ 2 ≤ ens X n then (0, 0, 0) else (4, u, v) := by
  have okX : Ok X st0 := ⟨tX, tX.pos⟩
  have okC : Ok C st0 := ⟨tC, tC.pos⟩
  have he : (itemsS X X.length (headS X st0).2 (headS X st0).1).2.err = 0 := by
    unfold planS at hp
    simp only at hp
    split at hp
    · rename_i k; exact k
    · rename_i k; exact absurd hp k
  have eh := items_err he
  obtain ⟨d1, w1, n2, nj⟩ := head_scan K eh
  have h0 : Cu n u v st0 st0 := .inl ⟨Nat.zero_le _, ⟨rfl, rfl⟩⟩
  have bad4 : ∀ r : St, Sk4 n u v r → (if r.err = 0 then ((0 : Int), (0 : Int), (0 : Int)) else (r.err, r.ln, r.cl)) = (4, u, v) := fun r h => by
    rw [h.2.1, h.2.2.1, h.2.2.2]
    rfl
  have pC : (planS C).2 = if (itemsS C C.length (headS C st0).2 (headS C st0).1).2.err = 0 then ((0 : Int), (0 : Int), (0 : Int)) else ((itemsS C C.length (headS C st0).2 (headS C st0).1).2.err, (itemsS C C.length (headS C st0).2 (headS C st0).1).2.ln, (itemsS C C.length (headS C st0).2 (headS C st0).1).2.cl) := by
    unfold planS
    simp only
    split <;> rfl
  rw [pC]
  rcases Cu.headS T okX okC h0 eh with ⟨c1, c2⟩ | ⟨c1, c2⟩
  · have m2 := ens_mono X c1
    rw [n2] at m2
    rcases cut_items T K nz X.length _ _ _ (headS C st0).1 okX.headS okC.headS c1 c2 eh d1 w1 (by omega) he with ⟨r1, r2⟩ | ⟨r1, r2⟩
    · rw [if_pos r2, if_pos ⟨r1, m2⟩]
    · rw [if_neg (show ¬ (wl X n = true ∧ 2 ≤ ens X n) from fun h => by rw [r1] at h; exact absurd h.1 (by decide))]
      exact bad4 _ r2
  · have hno : goesOn C (headS C st0).2 = false := by
      unfold goesOn
      rw [c2.2.1]
      rfl
    have := nj n c1
    rw [items_stop C _ _ _ hno, if_neg (show ¬ (wl X n = true ∧ 2 ≤ ens X n) from fun h => by omega)]
    exact bad4 _ c2
end Go.Proofs.YtabcoahenlaehaaDoor.P
/- The beginning of a plan's text, told token by token with a space behind each: what it comes to. Pure: no program is named here. -/
namespace Go.Proofs.YtabcoahenlaehaaDoor.P
open Go.RowKit Mm R6

/-- Tokens as a text, a space behind each. -/
def cutT (ts : List Tok) : List UInt8 := ts.flatMap fun t => t.t ++ [32]
theorem cutT_cons (t : Tok) (r : List Tok) : cutT (t :: r) = t.t ++ 32 :: cutT r := by
  unfold cutT
  rw [List.flatMap_cons, List.append_assoc]
  rfl
theorem cutT_len (ts : List Tok) : (cutT ts).length = (ts.map fun t => t.t.length).sum + ts.length := by
  induction ts with
  | nil => rfl
  | cons t r ih =>
    rw [cutT_cons, List.length_append, List.length_cons, ih, List.map_cons, List.sum_cons, List.length_cons]
    omega
theorem lex_space (l : List UInt8) (ln cl : Nat) : lex (32 :: l) ln cl = lex l ln (cl + 1) := by
  rw [lex_skip (by decide)]
  have hp : piece (32 :: l) = 1 := rfl
  rw [hp]
  rfl
theorem lex_cut : ∀ (init : List Tok) (cl : Nat), (∀ t ∈ init, Whole t.t ∧ kd t.t = t.k) →
    ∃ ts, lex (cutT init) 1 cl = (ts ++ [⟨0, [], 1, cl + (cutT init).length⟩], none) ∧ ts.map (fun t => (t.k, t.t)) = init.map (fun t => (t.k, t.t))
  | [], cl, _ => ⟨[], rfl, rfl⟩
  | t :: r, cl, h => by
    have ht := h t (List.mem_cons_self ..)
    obtain ⟨ts, g1, g2⟩ := lex_cut r (cl + t.t.length + 1) fun y hy => h y (List.mem_cons_of_mem _ hy)
    refine ⟨⟨kd t.t, t.t, 1, cl⟩ :: ts, ?_, by rw [List.map_cons, List.map_cons, g2, ht.2]⟩
    rw [cutT_cons, lex_one ht.1, lex_space, g1, List.length_append, List.length_cons, List.cons_append]
    rw [show cl + t.t.length + 1 + (cutT r).length = cl + (t.t.length + ((cutT r).length + 1)) by omega]
theorem sum_take (l : List Nat) : ∀ n, (l.take n).sum ≤ l.sum := by
  induction l with
  | nil => intro n; simp
  | cons a r ih =>
    intro n
    cases n with
    | zero => simp
    | succ n =>
      rw [List.take_succ_cons, List.sum_cons, List.sum_cons]
      have := ih n
      omega
/-- What ParseCuts compares. -/
theorem parsed_cut (l : List UInt8) (hl : l.length ≤ 4096) (hp : (parsed l).2.1 = 0) (n : Nat) (hn : n < (lexed l).1.length) :
    (cutT ((lexed l).1.take n)).length ≤ 8192 ∧
    (parsed (cutT ((lexed l).1.take n))).2 = if wl (lexed l).1 n = true ∧ 2 ≤ ens (lexed l).1 n then (0, 0, 0) else (4, 1, ((cutT ((lexed l).1.take n)).length : Int) + 1) := by
  have h0 : (lexed l).2.1 = 0 := by
    unfold parsed at hp
    simp only at hp
    split at hp
    · rename_i k; exact k
    · rename_i k
      have hp : ((lexed l).2.1 : Int) = 0 := hp
      omega
  have pX : parsed l = planS (lexed l).1 := by unfold parsed; simp only; rw [if_pos h0]
  rw [pX] at hp
  have K := lexed_knd l
  have tX := (lexed_fine h0).toks
  have kz := lexed_kinds l
  have cnt := lx_count l.length l 1 1 (Nat.le_refl _)
  cases ho : lex l 1 1 with
  | mk ys o =>
    cases o with
    | some p => rw [lexed_bad (by omega) ho] at h0; cases h0
    | none =>
      obtain ⟨init, u, v, g1, g2, g3⟩ := lex_whole _ l 1 1 (Nat.le_refl _) (by rw [ho])
      have hX : (lexed l).1 = init ++ [⟨0, [], u, v⟩] := by rw [lexed_ok (by omega) ho, ← g1, ho]
      have cnt : (lex l 1 1).1.length ≤ l.length + 1 := cnt
      rw [g1] at cnt
      rw [hX] at K tX kz hp hn ⊢
      simp only [List.length_append, List.length_singleton] at cnt hn
      have e1 : (init ++ [(⟨0, [], u, v⟩ : Tok)]).take n = init.take n := List.take_append_of_le_length (by omega)
      rw [e1]
      have len : (cutT (init.take n)).length ≤ 8192 := by
        rw [cutT_len, List.map_take, List.length_take]
        have := sum_take (init.map fun t => t.t.length) n
        omega
      refine ⟨len, ?_⟩
      obtain ⟨ts, c1, c2⟩ := lex_cut (init.take n) 1 fun t ht => g2 t (List.mem_of_mem_take ht)
      have e2 := lexed_ok len c1
      have h1 : (lexed (cutT (init.take n))).2.1 = 0 := by rw [e2]
      have tC := (lexed_fine h1).toks
      have pC : parsed (cutT (init.take n)) = planS (lexed (cutT (init.take n))).1 := by unfold parsed; simp only; rw [if_pos h1]
      rw [pC]
      rw [e2] at tC ⊢
      have lt : ts.length = n := by
        have := congrArg List.length c2
        rw [List.length_map, List.length_map, List.length_take] at this
        omega
      have al : Al n 0 (init ++ [⟨0, [], u, v⟩]) (ts ++ [⟨0, [], 1, 1 + (cutT (init.take n)).length⟩]) := fun j hj => by
        rw [Nat.add_zero, List.getD_eq_getElem?_getD, List.getD_eq_getElem?_getD, List.getElem?_append_left (by omega), List.getElem?_append_left (by omega)]
        have q := congrArg (fun l => l[j]?) c2
        simp only [List.getElem?_map, List.getElem?_take, if_pos hj] at q
        rw [List.getElem?_eq_getElem (by omega : j < ts.length), List.getElem?_eq_getElem (by omega : j < init.length)] at q ⊢
        simp only [Option.map_some, Option.some.injEq, Prod.mk.injEq] at q
        exact ⟨q.1.symm, q.2.symm⟩
      have T : Ct n (init ++ [⟨0, [], u, v⟩]) (ts ++ [⟨0, [], 1, 1 + (cutT (init.take n)).length⟩]) 1 (((cutT (init.take n)).length : Int) + 1) := by
        refine ⟨al, ?_⟩
        rw [List.getD_eq_getElem?_getD, List.getElem?_append_right (by omega), lt, Nat.sub_self]
        refine ⟨rfl, rfl, ?_⟩
        show ((1 + (cutT (init.take n)).length : Nat) : Int) = _
        omega
      refine cut_pure T K tX tC (fun j hj => ?_) hp
      have hj2 : j < (init ++ [(⟨0, [], u, v⟩ : Tok)]).length := by simp only [List.length_append, List.length_singleton]; omega
      rw [List.getD_eq_getElem?_getD, List.getElem?_eq_getElem hj2]
      exact kz j _ (List.getElem?_eq_getElem hj2) (by simp only [List.length_append, List.length_singleton]; omega)
end Go.Proofs.YtabcoahenlaehaaDoor.P
