/- Tokens that break off, as the parser reads them: it stops where they do, or the rest is told at their end. Pure: no program is named here. -/
import Derived.Test.YtcbeocpllnmcjaaJParK
import Derived.Test.YtcbeocpllnmcjaaJShT
import Derived.Test.YtcbeocpllnmcjaaJDatB
import Derived.Lib.QuietBelow
import Derived.BigQuiet
import Derived.Deep.DeepCutAuto
import Derived.Test.YtcbeocpllnmcjaaJMem
import Derived.Test.YtcbeocpllnmcjaaJDecP
import Derived.Deep.MidRow
import Derived.Deep.WholeRow
import Derived.Test.YtcbeocpllnmcjaaRows
import Derived.Test.YtcbeocpllnmcjaaJPureS
import Derived.WalkKit
import Derived.ProofKit
import Derived.Deep.QuietTactic
namespace Go.Proofs.Ytcbeocpllnmcjaa.P
open Go.RowKit Mm R6
section
variable {ts : List Tok} {s : St}
theorem onW_no (h : ¬ s.err = 0) (l : List UInt8) : onW ts s l = false := by unfold onW; rw [decide_eq_false h]; rfl
theorem isTk_no (h : ¬ s.err = 0) (k : Nat) : isTk ts s k = false := by unfold isTk; rw [decide_eq_false h]; rfl
theorem wrg_no (h : ¬ s.err = 0) (e : Int) : wrg ts s e = s := by unfold wrg; rw [if_neg h]
theorem wnt_no (h : ¬ s.err = 0) (l : List UInt8) : wnt ts s l = s := by unfold wnt; rw [onW_no h, wrg_no h]; rfl
theorem tkn_no (h : ¬ s.err = 0) (k : Nat) : (tkn ts s k).2 = s := by unfold tkn; rw [isTk_no h, wrg_no h]; rfl
theorem numS_no (h : ¬ s.err = 0) (p m : Int) : (numS ts s p m).2 = s := by unfold numS; rw [isTk_no h, wrg_no h]; rfl
theorem dayS_no (h : ¬ s.err = 0) : (dayS ts s).2 = s := tkn_no h 4
theorem winS_no (h : ¬ s.err = 0) : (winS ts s).2 = s := by unfold winS; rw [onW_no h]; rfl
theorem oneAt_st (h : ¬ s.err = 0) : ∀ (ws : List (List UInt8)) (k : Int), oneAt ts s ws k = (-1, s)
  | [], _ => rfl
  | w :: r, k => by unfold oneAt; rw [onW_no h]; exact oneAt_st h r (k + 1)
theorem modeS_no (h : ¬ s.err = 0) : (modeS ts s).2 = s := by unfold modeS oneS; rw [oneAt_st h]; exact wrg_no h 4
theorem kindS_no (h : ¬ s.err = 0) : (kindS ts s).2 = s := by unfold kindS oneS; rw [oneAt_st h]; exact wrg_no h 4
theorem optS_no (h : ¬ s.err = 0) (l : List UInt8) (d : Int) : (optS ts s l d).2 = s := by unfold optS; rw [onW_no h]; rfl
theorem tiersS_no (h : ¬ s.err = 0) (n : Nat) (acc : List Tier) : (tiersS ts n s acc).2 = s := by
  cases n with
  | zero => rfl
  | succ n => unfold tiersS; rw [onW_no h]; rfl
theorem adjsS_no (h : ¬ s.err = 0) (n : Nat) (acc : List Adj) : (adjsS ts n s acc).2 = s := by
  cases n with
  | zero => rfl
  | succ n => unfold adjsS oneS; rw [oneAt_st h]; rfl
theorem back {a : St} (h : ¬ s.err = 0 → a = s) (e : a.err = 0) : s.err = 0 := by
  by_cases k : s.err = 0
  · exact k
  · rw [h k] at e; exact e
theorem wnt_e0 {l : List UInt8} (e : (wnt ts s l).err = 0) : s.err = 0 := back (fun h => wnt_no h l) e
theorem tkn_e0 {k : Nat} (e : (tkn ts s k).2.err = 0) : s.err = 0 := back (fun h => tkn_no h k) e
theorem numS_e0 {p m : Int} (e : (numS ts s p m).2.err = 0) : s.err = 0 := back (fun h => numS_no h p m) e
theorem dayS_e0 (e : (dayS ts s).2.err = 0) : s.err = 0 := back (fun h => dayS_no h) e
theorem winS_e0 (e : (winS ts s).2.err = 0) : s.err = 0 := back (fun h => winS_no h) e
theorem modeS_e0 (e : (modeS ts s).2.err = 0) : s.err = 0 := back (fun h => modeS_no h) e
theorem kindS_e0 (e : (kindS ts s).2.err = 0) : s.err = 0 := back (fun h => kindS_no h) e
theorem optS_e0 {l : List UInt8} {d : Int} (e : (optS ts s l d).2.err = 0) : s.err = 0 := back (fun h => optS_no h l d) e
theorem tiersS_e0 {n : Nat} {acc : List Tier} (e : (tiersS ts n s acc).2.err = 0) : s.err = 0 := back (fun h => tiersS_no h n acc) e
theorem adjsS_e0 {n : Nat} {acc : List Adj} (e : (adjsS ts n s acc).2.err = 0) : s.err = 0 := back (fun h => adjsS_no h n acc) e
end
/-- A row of tokens that breaks off: the second is the first's beginning, then the end. -/
structure Ct (n : Nat) (X C : List Tok) (u v : Int) : Prop where
  al : Al n 0 X C
  en : (C.getD n nil0).k = 0 ∧ ((C.getD n nil0).ln : Int) = u ∧ ((C.getD n nil0).cl : Int) = v
/-- The parser stands at the end; what is wrong, if anything, is told there. -/
def Stk (n : Nat) (u v : Int) (s : St) : Prop := s.i = n ∧ (s.err = 0 ∨ (s.err = 4 ∧ s.ln = u ∧ s.cl = v))
def Sk4 (n : Nat) (u v : Int) (s : St) : Prop := s.i = n ∧ s.err = 4 ∧ s.ln = u ∧ s.cl = v
theorem Sk4.stk {n : Nat} {u v : Int} {s : St} (h : Sk4 n u v s) : Stk n u v s := ⟨h.1, .inr h.2⟩
section
variable {n : Nat} {X C : List Tok} {u v : Int} {s c : St}
theorem Stk.k (T : Ct n X C u v) (h : Stk n u v c) : (tk C c).k = 0 := by unfold tk; rw [h.1]; exact T.en.1
theorem Stk.onW (T : Ct n X C u v) (h : Stk n u v c) (l : List UInt8) : onW C c l = false := by unfold P.onW; rw [h.k T]; simp
theorem Stk.isTk (T : Ct n X C u v) (h : Stk n u v c) {k : Nat} (hk : k ≠ 0) : isTk C c k = false := by unfold P.isTk; rw [h.k T, decide_eq_false (show ¬ (0 = k) from fun e => hk e.symm), Bool.and_false]
theorem Stk.wrg (T : Ct n X C u v) (h : Stk n u v c) : Sk4 n u v (wrg C c 4) := by
  rcases h.2 with e | e
  · unfold P.wrg
    rw [if_pos e]
    refine ⟨h.1, rfl, ?_, ?_⟩
    · show ((tk C c).ln : Int) = u; unfold tk; rw [h.1]; exact T.en.2.1
    · show ((tk C c).cl : Int) = v; unfold tk; rw [h.1]; exact T.en.2.2
  · rw [wrg_no (by rw [e.1]; decide)]
    exact ⟨h.1, e⟩
theorem Stk.wnt (T : Ct n X C u v) (h : Stk n u v c) (l : List UInt8) : Sk4 n u v (wnt C c l) := by unfold P.wnt; rw [h.onW T]; exact h.wrg T
theorem Stk.tkn (T : Ct n X C u v) (h : Stk n u v c) {k : Nat} (hk : k ≠ 0) : Sk4 n u v (tkn C c k).2 := by unfold P.tkn; rw [h.isTk T hk]; exact h.wrg T
theorem Stk.numS (T : Ct n X C u v) (h : Stk n u v c) (p m : Int) : Sk4 n u v (numS C c p m).2 := by unfold P.numS; rw [h.isTk T (by decide)]; exact h.wrg T
theorem Stk.dayS (T : Ct n X C u v) (h : Stk n u v c) : Sk4 n u v (dayS C c).2 := h.tkn T (by decide)
theorem Stk.winS (T : Ct n X C u v) (h : Stk n u v c) : (winS C c).2 = c := by unfold P.winS; rw [h.onW T]; rfl
theorem Stk.oneAt (T : Ct n X C u v) (h : Stk n u v c) : ∀ (ws : List (List UInt8)) (k : Int), oneAt C c ws k = (-1, c)
  | [], _ => rfl
  | w :: r, k => by unfold P.oneAt; rw [h.onW T]; exact Stk.oneAt T h r (k + 1)
theorem Stk.modeS (T : Ct n X C u v) (h : Stk n u v c) : Sk4 n u v (modeS C c).2 := by unfold P.modeS P.oneS; rw [h.oneAt T]; exact h.wrg T
theorem Stk.kindS (T : Ct n X C u v) (h : Stk n u v c) : Sk4 n u v (kindS C c).2 := by unfold P.kindS P.oneS; rw [h.oneAt T]; exact h.wrg T
theorem Stk.optS (T : Ct n X C u v) (h : Stk n u v c) (l : List UInt8) (d : Int) : (optS C c l d).2 = c := by unfold P.optS; rw [h.onW T]; rfl
theorem Stk.tiers (T : Ct n X C u v) (h : Stk n u v c) (m : Nat) (acc : List Tier) : (tiersS C m c acc).2 = c := by
  cases m with
  | zero => rfl
  | succ m => unfold tiersS; rw [h.onW T]; rfl
theorem Stk.adjs (T : Ct n X C u v) (h : Stk n u v c) (m : Nat) (acc : List Adj) : (adjsS C m c acc).2 = c := by
  cases m with
  | zero => rfl
  | succ m => unfold adjsS P.oneS; rw [h.oneAt T]; rfl
theorem Stk.tierS (T : Ct n X C u v) (h : Stk n u v c) : Sk4 n u v (tierS C c).2 := (((h.numS T 0 1000000).stk.wnt T wRate).stk.numS T 6 1000000000000).stk.wnt T sSemi
theorem Stk.adjS (T : Ct n X C u v) (h : Stk n u v c) (k : Int) : Sk4 n u v (adjS C c k).2 := by
  unfold P.adjS
  split
  · exact ((h.numS T 3 100000000).stk.modeS T).stk.wnt T sSemi
  · exact (h.numS T 0 1000000000000).stk.wnt T sSemi
/-- The whole row's parser and the broken one's: at the same place, or the second stands at the end and the first is beyond. -/
def Cu (n : Nat) (u v : Int) (s c : St) : Prop := (s.i ≤ n ∧ Sm 0 s c) ∨ (n < s.i ∧ Stk n u v c)
def Cu4 (n : Nat) (u v : Int) (s c : St) : Prop := (s.i ≤ n ∧ Sm 0 s c) ∨ (n < s.i ∧ Sk4 n u v c)
theorem Cu4.cu (h : Cu4 n u v s c) : Cu n u v s c := h.imp id fun k => ⟨k.1, k.2.stk⟩
theorem stk_of (h : Sm 0 s c) (hi : s.i = n) (e : s.err = 0) : Stk n u v c := ⟨by rw [h.ix, hi]; rfl, .inl (by rw [← h.err]; exact e)⟩
/-- A call that takes one token, or tells that it is missing. -/
theorem Cu.one {a b : St} (h : Cu n u v s c) (e0 : s.err = 0) (h1 : s.i < n → Sm 0 s c → Sm 0 a b) (h2 : a.i = s.i + 1) (h3 : Stk n u v c → Sk4 n u v b) : Cu4 n u v a b := by
  rcases h with ⟨k1, k2⟩ | ⟨k1, k2⟩
  · rcases Nat.lt_or_ge s.i n with g | g
    · exact .inl ⟨by omega, h1 g k2⟩
    · exact .inr ⟨by omega, h3 (stk_of k2 (by omega) e0)⟩
  · exact .inr ⟨by omega, h3 k2⟩
theorem wnt_e1 {ts : List Tok} {l : List UInt8} (e : (wnt ts s l).err = 0) : (wnt ts s l).i = s.i + 1 := by
  unfold wnt at e ⊢
  by_cases k : onW ts s l = true
  · rw [if_pos k]; rfl
  · rw [if_neg k, wrgErr] at e
    split at e
    · cases e
    · rename_i k2; exact absurd e k2
theorem tkn_e1 {ts : List Tok} {k : Nat} (e : (tkn ts s k).2.err = 0) : (tkn ts s k).2.i = s.i + 1 := by
  unfold tkn at e ⊢
  by_cases c : isTk ts s k = true
  · rw [if_pos c]; rfl
  · rw [if_neg c] at e
    have e : (wrg ts s 4).err = 0 := e
    rw [wrgErr] at e
    split at e
    · cases e
    · rename_i k2; exact absurd e k2
theorem numS_e1 {ts : List Tok} {p m : Int} (e : (numS ts s p m).2.err = 0) : (numS ts s p m).2.i = s.i + 1 := by
  unfold numS at e ⊢
  by_cases c : isTk ts s 3 = true
  · rw [if_pos c]
    show (bad ts s _).i + 1 = _
    rw [bad_i]
  · rw [if_neg c] at e
    have e : (wrg ts s 4).err = 0 := e
    rw [wrgErr] at e
    split at e
    · cases e
    · rename_i k2; exact absurd e k2
theorem Cu.wnt4 {l : List UInt8} (T : Ct n X C u v) (h : Cu n u v s c) (e : (wnt X s l).err = 0) : Cu4 n u v (wnt X s l) (wnt C c l) :=
  h.one (wnt_e0 e) (fun g k => Sm.wnt T.al k g l) (wnt_e1 e) (fun k => k.wnt T l)
theorem Cu.wnt {l : List UInt8} (T : Ct n X C u v) (h : Cu n u v s c) (e : (wnt X s l).err = 0) : Cu n u v (wnt X s l) (wnt C c l) := (Cu.wnt4 T h e).cu
theorem Cu.tkn {k : Nat} (T : Ct n X C u v) (h : Cu n u v s c) (hk : k ≠ 0) (e : (tkn X s k).2.err = 0) : Cu n u v (tkn X s k).2 (tkn C c k).2 :=
  (h.one (tkn_e0 e) (fun g q => (Sm.tkn T.al q g k).2) (tkn_e1 e) (fun q => q.tkn T hk)).cu
theorem Cu.numS {p m : Int} (T : Ct n X C u v) (h : Cu n u v s c) (e : (numS X s p m).2.err = 0) : Cu n u v (numS X s p m).2 (numS C c p m).2 :=
  (h.one (numS_e0 e) (fun g q => (Sm.numS T.al q g p m).2) (numS_e1 e) (fun q => q.numS T p m)).cu
theorem Cu.dayS (T : Ct n X C u v) (h : Cu n u v s c) (e : (dayS X s).2.err = 0) : Cu n u v (dayS X s).2 (dayS C c).2 := Cu.tkn T h (by decide) e
/-- A call that looks whether there is something, and may pass it over. -/
theorem Cu.peek {a b : St} (h : Cu n u v s c) (le : s.i ≤ a.i) (e0 : s.err = 0) (h0 : a = s ∨ s.i < a.i) (h1 : s.i < n → Sm 0 s c → Cu n u v a b) (h3 : Stk n u v c → b = c) : Cu n u v a b := by
  rcases h with ⟨k1, k2⟩ | ⟨k1, k2⟩
  · rcases Nat.lt_or_ge s.i n with g | g
    · exact h1 g k2
    · have st := stk_of (u := u) (v := v) k2 (by omega : s.i = n) e0
      rw [h3 st]
      rcases h0 with rfl | h0
      · exact .inl ⟨k1, k2⟩
      · exact .inr ⟨by omega, st⟩
  · rw [h3 k2]
    exact .inr ⟨by omega, k2⟩
theorem Cu.winS (T : Ct n X C u v) (h : Cu n u v s c) (e : (winS X s).2.err = 0) : Cu n u v (winS X s).2 (winS C c).2 := by
  refine h.peek (winS_le X s) (winS_e0 e) ?_ (fun g k => ?_) (fun k => k.winS T)
  · unfold P.winS
    by_cases q : onW X s wFrom = true
    · right
      rw [if_pos q]
      have l1 : s.next.i ≤ (P.dayS X s.next).2.i := tkn_le X s.next 4
      have l2 := wnt_le X (P.dayS X s.next).2 wTo
      have l3 : (P.wnt X (P.dayS X s.next).2 wTo).i ≤ (P.dayS X (P.wnt X (P.dayS X s.next).2 wTo)).2.i := tkn_le X _ 4
      have l0 : s.next.i = s.i + 1 := rfl
      show s.i < (P.dayS X (P.wnt X (P.dayS X s.next).2 wTo)).2.i
      omega
    · left; rw [if_neg q]
  · unfold P.winS at e ⊢
    rw [← Sm.onW T.al k g wFrom]
    by_cases q : onW X s wFrom = true
    · rw [if_pos q] at e ⊢
      rw [if_pos q]
      have e3 : (P.dayS X (P.wnt X (P.dayS X s.next).2 wTo)).2.err = 0 := e
      have e2 := dayS_e0 e3
      have e1 := wnt_e0 e2
      have a0 : Cu n u v s.next c.next := .inl ⟨g, k.next⟩
      exact Cu.dayS T (Cu.wnt T (Cu.dayS T a0 e1) e2) e3
    · rw [if_neg q, if_neg q]
      exact .inl ⟨Nat.le_of_lt g, k⟩
theorem Cu.oneS (T : Ct n X C u v) (h : Cu n u v s c) (ws : List (List UInt8)) (e0 : s.err = 0) : Cu n u v (oneS X s ws).2 (oneS C c ws).2 := by
  have up : (P.oneS X s ws).2 = s ∨ (P.oneS X s ws).2.i = s.i + 1 := by
    rcases Int.lt_or_le (P.oneS X s ws).1 0 with k | k
    · left; unfold P.oneS at k ⊢; rw [oneAt_no X s ws 0 (Int.le_refl _) k]
    · right; exact oneAt_yes X s ws 0 (Int.le_refl _) k
  refine h.peek (oneAt_le X s ws 0) e0 (up.imp id fun k => by omega) (fun g k => ?_) (fun k => by unfold P.oneS; rw [k.oneAt T])
  refine .inl ⟨?_, (Sm.oneS T.al k g ws).2⟩
  rcases up with k | k
  · rw [k]; omega
  · omega
theorem Cu.modeS (T : Ct n X C u v) (h : Cu n u v s c) (e : (modeS X s).2.err = 0) : Cu n u v (modeS X s).2 (modeS C c).2 := by
  have e0 := modeS_e0 e
  have hp : ¬ (P.oneS X s modes).1 < 0 := fun k => by
    unfold P.modeS at e
    rw [if_pos k] at e
    have e : (P.wrg X (P.oneS X s modes).2 4).err = 0 := e
    rw [wrgErr] at e
    split at e
    · cases e
    · rename_i k2; exact k2 e
  have hi : (P.modeS X s).2.i = s.i + 1 := by
    unfold P.modeS
    rw [if_neg hp]
    exact oneAt_yes X s modes 0 (Int.le_refl _) (by unfold P.oneS at hp; omega)
  refine (h.one e0 (fun g k => ?_) hi (fun k => k.modeS T)).cu
  have a := Sm.oneS T.al k g modes
  unfold P.modeS
  rw [← a.1, if_neg hp, if_neg hp]
  exact a.2
theorem Cu.kindS (T : Ct n X C u v) (h : Cu n u v s c) (e : (kindS X s).2.err = 0) : Cu n u v (kindS X s).2 (kindS C c).2 := by
  have e0 := kindS_e0 e
  have hp : ¬ 1 + (P.oneS X s kinds).1 = 0 := fun k => by
    unfold P.kindS at e
    simp only [if_pos k] at e
    rw [wrgErr] at e
    split at e
    · cases e
    · rename_i k2; exact k2 e
  have h0 : ¬ (P.oneS X s kinds).1 < 0 := fun k => by
    have := oneAt_no X s kinds 0 (Int.le_refl _) k
    apply hp
    unfold P.oneS
    rw [this]
    rfl
  have hi : (P.kindS X s).2.i = s.i + 1 := by
    unfold P.kindS
    simp only [if_neg hp]
    exact oneAt_yes X s kinds 0 (Int.le_refl _) (by unfold P.oneS at h0; omega)
  refine (h.one e0 (fun g k => ?_) hi (fun k => k.kindS T)).cu
  have a := Sm.oneS T.al k g kinds
  unfold P.kindS
  simp only
  rw [← a.1, if_neg hp, if_neg hp]
  exact a.2
theorem Cu.optS {l : List UInt8} {d : Int} (T : Ct n X C u v) (h : Cu n u v s c) (e : (optS X s l d).2.err = 0) : Cu n u v (optS X s l d).2 (optS C c l d).2 := by
  refine h.peek (optS_le X s l d) (optS_e0 e) ?_ (fun g k => ?_) (fun k => k.optS T l d)
  · unfold P.optS
    by_cases q : onW X s l = true
    · right
      rw [if_pos q]
      have l1 := numS_le X s.next 0 1000000
      have l2 := wnt_le X (P.numS X s.next 0 1000000).2 sSemi
      have l0 : s.next.i = s.i + 1 := rfl
      show s.i < (P.wnt X (P.numS X s.next 0 1000000).2 sSemi).i
      omega
    · left; rw [if_neg q]
  · unfold P.optS at e ⊢
    rw [← Sm.onW T.al k g l]
    by_cases q : onW X s l = true
    · rw [if_pos q] at e ⊢
      rw [if_pos q]
      have e2 : (P.wnt X (P.numS X s.next 0 1000000).2 sSemi).err = 0 := e
      have a0 : Cu n u v s.next c.next := .inl ⟨g, k.next⟩
      exact Cu.wnt T (Cu.numS T a0 (wnt_e0 e2)) e2
    · rw [if_neg q, if_neg q]
      exact .inl ⟨Nat.le_of_lt g, k⟩
theorem Cu.tierS (T : Ct n X C u v) (h : Cu n u v s c) (e : (tierS X s).2.err = 0) : Cu n u v (tierS X s).2 (tierS C c).2 := by
  have e4 : (P.wnt X (P.numS X (P.wnt X (P.numS X s 0 1000000).2 wRate) 6 1000000000000).2 sSemi).err = 0 := e
  have e3 := wnt_e0 e4
  have e2 := numS_e0 e3
  have e1 := wnt_e0 e2
  exact Cu.wnt T (Cu.numS T (Cu.wnt T (Cu.numS T h e1) e2) e3) e4
theorem Cu.adjS (T : Ct n X C u v) (h : Cu n u v s c) (k : Int) (e : (adjS X s k).2.err = 0) : Cu n u v (adjS X s k).2 (adjS C c k).2 := by
  unfold P.adjS at e ⊢
  by_cases q : k = 1
  · rw [if_pos q] at e ⊢
    rw [if_pos q]
    have e3 : (P.wnt X (P.modeS X (P.numS X s 3 100000000).2).2 sSemi).err = 0 := e
    have e2 := wnt_e0 e3
    exact Cu.wnt T (Cu.modeS T (Cu.numS T h (modeS_e0 e2)) e2) e3
  · rw [if_neg q] at e ⊢
    rw [if_neg q]
    have e3 : (P.wnt X (P.numS X s 0 1000000000000).2 sSemi).err = 0 := e
    exact Cu.wnt T (Cu.numS T h (wnt_e0 e3)) e3
end
theorem Cu.tiers {n : Nat} {X C : List Tok} {u v : Int} (T : Ct n X C u v) : ∀ (m : Nat) (s c : St) (acc acc' : List Tier), Cu n u v s c → (tiersS X m s acc).2.err = 0 → Cu n u v (tiersS X m s acc).2 (tiersS C m c acc').2
  | 0, _, _, _, _, h, _ => h
  | m + 1, s, c, acc, acc', h, e => by
    refine h.peek (tiersS_le X (m + 1) s acc) (tiersS_e0 e) ?_ (fun g k => ?_) (fun k => k.tiers T (m + 1) acc')
    · unfold tiersS
      by_cases q : onW X s wUpto = true
      · right
        rw [if_pos q]
        have l1 := tierS_le X s.next
        have l2 := tiersS_le X m (P.tierS X s.next).2 (acc ++ [(P.tierS X s.next).1])
        have l0 : s.next.i = s.i + 1 := rfl
        omega
      · left; rw [if_neg q]
    · unfold tiersS at e ⊢
      rw [← Sm.onW T.al k g wUpto]
      by_cases q : onW X s wUpto = true
      · rw [if_pos q] at e ⊢
        rw [if_pos q]
        have a0 : Cu n u v s.next c.next := .inl ⟨g, k.next⟩
        exact Cu.tiers T m _ _ _ _ (Cu.tierS T a0 (tiersS_e0 e)) e
      · rw [if_neg q, if_neg q]
        exact .inl ⟨Nat.le_of_lt g, k⟩
theorem Cu.adjs {n : Nat} {X C : List Tok} {u v : Int} (T : Ct n X C u v) : ∀ (m : Nat) (s c : St) (acc acc' : List Adj), Cu n u v s c → (adjsS X m s acc).2.err = 0 → Cu n u v (adjsS X m s acc).2 (adjsS C m c acc').2
  | 0, _, _, _, _, h, _ => h
  | m + 1, s, c, acc, acc', h, e => by
    have e0 := adjsS_e0 e
    have up : (1 + (P.oneS X s adjWords).1 = 0 ∧ (P.oneS X s adjWords).2 = s) ∨ (¬ 1 + (P.oneS X s adjWords).1 = 0 ∧ (P.oneS X s adjWords).2.i = s.i + 1) := by
      rcases Int.lt_or_le (P.oneS X s adjWords).1 0 with k | k
      · have := oneAt_no X s adjWords 0 (Int.le_refl _) k
        left; unfold P.oneS; rw [this]; exact ⟨rfl, rfl⟩
      · right; exact ⟨by omega, oneAt_yes X s adjWords 0 (Int.le_refl _) k⟩
    refine h.peek (adjsS_le X (m + 1) s acc) e0 ?_ (fun g k => ?_) (fun k => k.adjs T (m + 1) acc')
    · unfold adjsS
      simp only
      rcases up with ⟨q, q2⟩ | ⟨q, q2⟩
      · left; rw [if_pos q]; exact q2
      · right
        rw [if_neg q]
        have l1 := adjS_le X (P.oneS X s adjWords).2 (1 + (P.oneS X s adjWords).1)
        have l2 := adjsS_le X m (P.adjS X (P.oneS X s adjWords).2 (1 + (P.oneS X s adjWords).1)).2 (acc ++ [(P.adjS X (P.oneS X s adjWords).2 (1 + (P.oneS X s adjWords).1)).1])
        omega
    · have a := Sm.oneS T.al k g adjWords
      unfold adjsS at e ⊢
      simp only at e ⊢
      rw [← a.1]
      rcases up with ⟨q, q2⟩ | ⟨q, q2⟩
      · rw [if_pos q, if_pos q]
        exact .inl ⟨by show (P.oneS X s adjWords).2.i ≤ n; rw [q2]; omega, a.2⟩
      · rw [if_neg q] at e ⊢
        rw [if_neg q]
        have a0 : Cu n u v (P.oneS X s adjWords).2 (P.oneS C c adjWords).2 := .inl ⟨by omega, a.2⟩
        exact Cu.adjs T m _ _ _ _ (Cu.adjS T a0 _ (adjsS_e0 e)) e
section
variable {n : Nat} {X C : List Tok} {u v : Int} {s c : St}
theorem Cu.tiersSF (T : Ct n X C u v) (ok : Ok X s) (ok' : Ok C c) (h : Cu n u v s c) (e : (tiersS X X.length s []).2.err = 0) : Cu n u v (tiersS X X.length s []).2 (tiersS C C.length c []).2 := by
  rw [tiers_fuel X X.length (X.length + C.length) s [] ok (by omega) (by omega)] at e ⊢
  rw [tiers_fuel C C.length (X.length + C.length) c [] ok' (by omega) (by omega)]
  exact Cu.tiers T _ _ _ _ _ h e
theorem Cu.adjsSF (T : Ct n X C u v) (ok : Ok X s) (ok' : Ok C c) (h : Cu n u v s c) (e : (adjsS X X.length s []).2.err = 0) : Cu n u v (adjsS X X.length s []).2 (adjsS C C.length c []).2 := by
  rw [adjs_fuel X X.length (X.length + C.length) s [] ok (by omega) (by omega)] at e ⊢
  rw [adjs_fuel C C.length (X.length + C.length) c [] ok' (by omega) (by omega)]
  exact Cu.adjs T _ _ _ _ _ h e
theorem Cu.meterS (T : Ct n X C u v) (ok : Ok X s) (ok' : Ok C c) (h : Cu n u v s c) (l b l' b' : Int) (e : (P.meterS X s l b).2.err = 0) : Cu4 n u v (P.meterS X s l b).2 (P.meterS C c l' b').2 := by
  have e : (P.wnt X (P.numS X (P.wnt X (P.tkn X (P.wnt X (P.tkn X s 1).2 wUnit) 1).2 wMax) 0 2000).2 sSemi).err = 0 := e
  have e5 := wnt_e0 e
  have e4 := numS_e0 e5
  have e3 := wnt_e0 e4
  have e2 := tkn_e0 e3
  have e1 := wnt_e0 e2
  have o0 := ok
  have q0 := ok'
  have o1 := o0.tkn (k := 1) (by decide)
  have q1 := q0.tkn (k := 1) (by decide)
  have a1 := Cu.tkn T (h) (by decide) e1
  have o2 := o1.wnt wUnit
  have q2 := q1.wnt wUnit
  have a2 := Cu.wnt T (a1) e2
  have o3 := o2.tkn (k := 1) (by decide)
  have q3 := q2.tkn (k := 1) (by decide)
  have a3 := Cu.tkn T (a2) (by decide) e3
  have o4 := o3.wnt wMax
  have q4 := q3.wnt wMax
  have a4 := Cu.wnt T (a3) e4
  have o5 := o4.numS 0 2000
  have q5 := q4.numS 0 2000
  have a5 := Cu.numS T (a4) e5
  exact Cu.wnt4 T (a5) e
theorem Cu.feeS (T : Ct n X C u v) (ok : Ok X s) (ok' : Ok C c) (h : Cu n u v s c) (l b l' b' : Int) (e : (P.feeS X s l b).2.err = 0) : Cu4 n u v (P.feeS X s l b).2 (P.feeS C c l' b').2 := by
  have e : (P.wnt X (P.winS X (P.numS X s 0 1000000000000).2).2 sSemi).err = 0 := e
  have e2 := wnt_e0 e
  have e1 := winS_e0 e2
  have o0 := ok
  have q0 := ok'
  have o1 := o0.numS 0 1000000000000
  have q1 := q0.numS 0 1000000000000
  have a1 := Cu.numS T (h) e1
  have o2 := o1.winS
  have q2 := q1.winS
  have a2 := Cu.winS T (a1) e2
  exact Cu.wnt4 T (a2) e
theorem Cu.chargeS (T : Ct n X C u v) (ok : Ok X s) (ok' : Ok C c) (h : Cu n u v s c) (l b l' b' : Int) (e : (P.chargeS X s l b).2.err = 0) : Cu4 n u v (P.chargeS X s l b).2 (P.chargeS C c l' b').2 := by
  have e : (P.wnt X (P.adjsS X X.length (P.wnt X (P.modeS X (P.wnt X (P.wnt X (P.wnt X (P.numS X (P.wnt X (P.wnt X (P.tiersS X X.length (P.wnt X (P.kindS X (P.optS X (P.optS X (P.wnt X (P.winS X (P.tkn X s 1).2).2 sOpen) wAllowance 0).2 wBlock 1).2).2 sOpen) []).2 wRest) wRate) 6 1000000000000).2 sSemi) sShut) wRound)).2 sSemi) []).2 sShut).err = 0 := e
  have e17 := wnt_e0 e
  have e16 := adjsS_e0 e17
  have e15 := wnt_e0 e16
  have e14 := modeS_e0 e15
  have e13 := wnt_e0 e14
  have e12 := wnt_e0 e13
  have e11 := wnt_e0 e12
  have e10 := numS_e0 e11
  have e9 := wnt_e0 e10
  have e8 := wnt_e0 e9
  have e7 := tiersS_e0 e8
  have e6 := wnt_e0 e7
  have e5 := kindS_e0 e6
  have e4 := optS_e0 e5
  have e3 := optS_e0 e4
  have e2 := wnt_e0 e3
  have e1 := winS_e0 e2
  have o0 := ok
  have q0 := ok'
  have o1 := o0.tkn (k := 1) (by decide)
  have q1 := q0.tkn (k := 1) (by decide)
  have a1 := Cu.tkn T (h) (by decide) e1
  have o2 := o1.winS
  have q2 := q1.winS
  have a2 := Cu.winS T (a1) e2
  have o3 := o2.wnt sOpen
  have q3 := q2.wnt sOpen
  have a3 := Cu.wnt T (a2) e3
  have o4 := o3.optS wAllowance 0
  have q4 := q3.optS wAllowance 0
  have a4 := Cu.optS T (a3) e4
  have o5 := o4.optS wBlock 1
  have q5 := q4.optS wBlock 1
  have a5 := Cu.optS T (a4) e5
  have o6 := o5.kindS
  have q6 := q5.kindS
  have a6 := Cu.kindS T (a5) e6
  have o7 := o6.wnt sOpen
  have q7 := q6.wnt sOpen
  have a7 := Cu.wnt T (a6) e7
  have o8 := Ok.tiersS X.length (P.wnt X (P.kindS X (P.optS X (P.optS X (P.wnt X (P.winS X (P.tkn X s 1).2).2 sOpen) wAllowance 0).2 wBlock 1).2).2 sOpen) [] o7
  have q8 := Ok.tiersS C.length (P.wnt C (P.kindS C (P.optS C (P.optS C (P.wnt C (P.winS C (P.tkn C c 1).2).2 sOpen) wAllowance 0).2 wBlock 1).2).2 sOpen) [] q7
  have a8 := Cu.tiersSF T o7 q7 (a7) e8
  have o9 := o8.wnt wRest
  have q9 := q8.wnt wRest
  have a9 := Cu.wnt T (a8) e9
  have o10 := o9.wnt wRate
  have q10 := q9.wnt wRate
  have a10 := Cu.wnt T (a9) e10
  have o11 := o10.numS 6 1000000000000
  have q11 := q10.numS 6 1000000000000
  have a11 := Cu.numS T (a10) e11
  have o12 := o11.wnt sSemi
  have q12 := q11.wnt sSemi
  have a12 := Cu.wnt T (a11) e12
  have o13 := o12.wnt sShut
  have q13 := q12.wnt sShut
  have a13 := Cu.wnt T (a12) e13
  have o14 := o13.wnt wRound
  have q14 := q13.wnt wRound
  have a14 := Cu.wnt T (a13) e14
  have o15 := o14.modeS
  have q15 := q14.modeS
  have a15 := Cu.modeS T (a14) e15
  have o16 := o15.wnt sSemi
  have q16 := q15.wnt sSemi
  have a16 := Cu.wnt T (a15) e16
  have o17 := Ok.adjsS X.length (P.wnt X (P.modeS X (P.wnt X (P.wnt X (P.wnt X (P.numS X (P.wnt X (P.wnt X (P.tiersS X X.length (P.wnt X (P.kindS X (P.optS X (P.optS X (P.wnt X (P.winS X (P.tkn X s 1).2).2 sOpen) wAllowance 0).2 wBlock 1).2).2 sOpen) []).2 wRest) wRate) 6 1000000000000).2 sSemi) sShut) wRound)).2 sSemi) [] o16
  have q17 := Ok.adjsS C.length (P.wnt C (P.modeS C (P.wnt C (P.wnt C (P.wnt C (P.numS C (P.wnt C (P.wnt C (P.tiersS C C.length (P.wnt C (P.kindS C (P.optS C (P.optS C (P.wnt C (P.winS C (P.tkn C c 1).2).2 sOpen) wAllowance 0).2 wBlock 1).2).2 sOpen) []).2 wRest) wRate) 6 1000000000000).2 sSemi) sShut) wRound)).2 sSemi) [] q16
  have a17 := Cu.adjsSF T o16 q16 (a16) e17
  exact Cu.wnt4 T (a17) e
theorem Cu.headS (T : Ct n X C u v) (ok : Ok X s) (ok' : Ok C c) (h : Cu n u v s c) (e : (headS X s).2.err = 0) : Cu4 n u v (headS X s).2 (headS C c).2 := by
  have e : (P.wnt X (P.dayS X (P.dayS X (P.wnt X (P.wnt X (P.tkn X (P.wnt X (P.tkn X (P.wnt X s wPlan) 1).2 wCurrency) 1).2 sSemi) wHorizon)).2).2 sSemi).err = 0 := e
  have e8 := wnt_e0 e
  have e7 := dayS_e0 e8
  have e6 := dayS_e0 e7
  have e5 := wnt_e0 e6
  have e4 := wnt_e0 e5
  have e3 := tkn_e0 e4
  have e2 := wnt_e0 e3
  have e1 := tkn_e0 e2
  have o0 := ok
  have q0 := ok'
  have o1 := o0.wnt wPlan
  have q1 := q0.wnt wPlan
  have a1 := Cu.wnt T (h) e1
  have o2 := o1.tkn (k := 1) (by decide)
  have q2 := q1.tkn (k := 1) (by decide)
  have a2 := Cu.tkn T (a1) (by decide) e2
  have o3 := o2.wnt wCurrency
  have q3 := q2.wnt wCurrency
  have a3 := Cu.wnt T (a2) e3
  have o4 := o3.tkn (k := 1) (by decide)
  have q4 := q3.tkn (k := 1) (by decide)
  have a4 := Cu.tkn T (a3) (by decide) e4
  have o5 := o4.wnt sSemi
  have q5 := q4.wnt sSemi
  have a5 := Cu.wnt T (a4) e5
  have o6 := o5.wnt wHorizon
  have q6 := q5.wnt wHorizon
  have a6 := Cu.wnt T (a5) e6
  have o7 := o6.dayS
  have q7 := q6.dayS
  have a7 := Cu.dayS T (a6) e7
  have o8 := o7.dayS
  have q8 := q7.dayS
  have a8 := Cu.dayS T (a7) e8
  exact Cu.wnt4 T (a8) e
end
end Go.Proofs.Ytcbeocpllnmcjaa.P
/- What a plan that a text tells is made of: names that are names, numbers within their limits, days that there are. Pure: no program is named here. -/
namespace Go.Proofs.Ytcbeocpllnmcjaa.P
open Go.RowKit Mm R6
def NmOk (b : ByteArray) : Prop := kd b.data.toList = 1 ∧ b.size ≤ 8192
def DayOk (d : Day) : Prop := good d.y d.m d.d = true
def WinOk (w : Win) : Prop := (w.has = true ∧ DayOk w.a ∧ DayOk w.b) ∨ w = ⟨false, ⟨0, 0, 0⟩, ⟨0, 0, 0⟩⟩
def NumOk (n most : Int) : Prop := 0 ≤ n ∧ n ≤ most
structure TierOk (t : Tier) : Prop where
  upto : NumOk t.upto 1000000
  rate : NumOk t.rate 1000000000000
def AdjOk (a : Adj) : Prop := (a.kind = 1 ∧ NumOk a.num 100000000 ∧ NumOk a.mode 3) ∨ ((a.kind = 2 ∨ a.kind = 3 ∨ a.kind = 4) ∧ NumOk a.num 1000000000000 ∧ a.mode = 0)
structure ChOk (c : Charge) : Prop where
  meter : NmOk c.meter
  win : WinOk c.win
  allow : NumOk c.allowance 1000000
  block : NumOk c.block 1000000
  kind : c.kind = 1 ∨ c.kind = 2
  tiers : ∃ ts r, c.tiers = ts ++ [⟨0, r⟩] ∧ (∀ t ∈ ts, TierOk t) ∧ NumOk r 1000000000000
  mode : NumOk c.mode 3
  adjs : ∀ a ∈ c.adjusts, AdjOk a
structure Gd (p : Plan) : Prop where
  name : NmOk p.name ∧ NmOk p.cur
  days : DayOk p.a ∧ DayOk p.b
  meters : ∀ m ∈ p.meters, NmOk m.name ∧ NmOk m.unit ∧ NumOk m.max 2000
  fees : ∀ f ∈ p.fees, NumOk f.amount 1000000000000 ∧ WinOk f.win
  charges : ∀ c ∈ p.charges, ChOk c
variable {ts : List Tok} {s : St}
theorem kd_4 {l : List UInt8} (h : kd l = 4) : reads l = true := by
  unfold kd at h
  repeat' split at h
  all_goals first | assumption | (exact absurd h (by decide))
theorem wrg_ne {e : Int} (he : e ≠ 0) : (wrg ts s e).err ≠ 0 := by
  unfold wrg
  split
  · exact he
  · assumption
theorem tkn_y {k : Nat} (e : (tkn ts s k).2.err = 0) : isTk ts s k = true := by
  cases h : isTk ts s k with
  | true => rfl
  | false =>
    unfold tkn at e
    rw [h] at e
    exact absurd e (wrg_ne (by decide))
theorem isTk_at {k : Nat} (h : isTk ts s k = true) (hk : k ≠ 0) : s.err = 0 ∧ tk ts s ∈ ts ∧ (tk ts s).k = k := by
  unfold isTk at h
  simp only [Bool.and_eq_true, decide_eq_true_eq] at h
  refine ⟨h.1, ?_, h.2⟩
  unfold tk at h ⊢
  rw [List.getD_eq_getElem?_getD] at h ⊢
  cases hg : ts[s.i]? with
  | none =>
    rw [hg] at h
    exact absurd h.2.symm (by intro e; exact hk e)
  | some t => exact List.mem_of_getElem? hg
theorem tkn_gd (K : Knd ts) (F : Fine ts) {k : Nat} (hk : k ≠ 0) (e : (tkn ts s k).2.err = 0) : kd (tkn ts s k).1 = k ∧ (tkn ts s k).1.length ≤ 8192 := by
  have h := tkn_y e
  obtain ⟨_, h2, h3⟩ := isTk_at h hk
  unfold tkn
  rw [if_pos h]
  exact ⟨by rw [(K _ h2).1, h3], (F.tok _ h2).1⟩
theorem nm_gd (K : Knd ts) (F : Fine ts) (e : (tkn ts s 1).2.err = 0) : NmOk ⟨(tkn ts s 1).1.toArray⟩ := by
  obtain ⟨h1, h2⟩ := tkn_gd K F (by decide) e
  refine ⟨by simpa using h1, ?_⟩
  show (tkn ts s 1).1.toArray.size ≤ _
  simpa using h2
theorem day_gd (K : Knd ts) (F : Fine ts) (e : (dayS ts s).2.err = 0) : DayOk (dayS ts s).1 := by
  obtain ⟨h1, _⟩ := tkn_gd K F (k := 4) (by decide) e
  have r := kd_4 h1
  show good (dayOf' (tkn ts s 4).1).y (dayOf' (tkn ts s 4).1).m (dayOf' (tkn ts s 4).1).d = true
  unfold dayOf'
  rw [if_pos r]
  unfold reads at r
  simp only [Bool.and_eq_true] at r
  exact r.2
theorem stV_nn (l : List UInt8) (p : Int) : 0 ≤ pV l p := by
  unfold pV
  exact Int.mul_nonneg (Int.natCast_nonneg _) (by exact_mod_cast Nat.zero_le _)
theorem num_gd {p m : Int} (e : (numS ts s p m).2.err = 0) : NumOk (numS ts s p m).1 m := by
  unfold numS at e ⊢
  cases h : isTk ts s 3 with
  | false =>
    rw [h] at e
    exact absurd e (wrg_ne (by decide))
  | true =>
    obtain ⟨h0, _, _⟩ := isTk_at h (by decide)
    rw [h, if_pos rfl] at e
    rw [if_pos rfl]
    have e : (bad ts s (pW (tk ts s).t p m)).err = 0 := e
    show NumOk (pN (tk ts s).t p m) m
    unfold bad at e
    split at e
    · exact absurd e (wrg_ne (by decide))
    · split at e
      · exact absurd e (wrg_ne (by decide))
      · rename_i g1 g2
        unfold pW at g1 g2
        unfold pN
        by_cases b : pBad (tk ts s).t p = true
        · rw [if_pos b] at g1; exact absurd rfl g1
        · rw [if_neg b] at g1 g2
          by_cases g : pGreat (tk ts s).t p m = true
          · rw [if_pos g] at g2; exact absurd rfl g2
          · rw [if_neg (by simp [Bool.eq_false_iff.2 b, Bool.eq_false_iff.2 g])]
            refine ⟨stV_nn _ _, ?_⟩
            have g : pGreat (tk ts s).t p m = false := Bool.eq_false_iff.2 g
            unfold pGreat at g
            simp only [Bool.or_eq_false_iff, decide_eq_false_iff_not] at g
            omega
theorem win_gd (K : Knd ts) (F : Fine ts) (e : (winS ts s).2.err = 0) : WinOk (winS ts s).1 := by
  unfold winS at e ⊢
  split
  · rename_i h
    rw [if_pos h] at e
    exact .inl ⟨rfl, day_gd K F (wnt_e0 (dayS_e0 e)), day_gd K F e⟩
  · exact .inr rfl
theorem opt_gd {l : List UInt8} {d : Int} (hd : NumOk d 1000000) (e : (optS ts s l d).2.err = 0) : NumOk (optS ts s l d).1 1000000 := by
  unfold optS at e ⊢
  split
  · rename_i h
    rw [if_pos h] at e
    exact num_gd (wnt_e0 e)
  · exact hd
theorem one_in (ws : List (List UInt8)) : (oneS ts s ws).1 = -1 ∨ (0 ≤ (oneS ts s ws).1 ∧ (oneS ts s ws).1 < ws.length) := by
  have key : ∀ (ws : List (List UInt8)) (k : Int), 0 ≤ k → (oneAt ts s ws k).1 = -1 ∨ (k ≤ (oneAt ts s ws k).1 ∧ (oneAt ts s ws k).1 < k + ws.length) := by
    intro ws
    induction ws with
    | nil => intro k _; exact .inl rfl
    | cons w r ih =>
      intro k hk
      unfold oneAt
      split
      · exact .inr ⟨Int.le_refl _, by simp only [List.length_cons]; omega⟩
      · rcases ih (k + 1) (by omega) with h | ⟨h1, h2⟩
        · exact .inl h
        · exact .inr ⟨by omega, by simp only [List.length_cons]; omega⟩
  rcases key ws 0 (Int.le_refl _) with h | ⟨h1, h2⟩
  · exact .inl h
  · exact .inr ⟨h1, by have h2 : (oneS ts s ws).1 < 0 + ws.length := h2; omega⟩
theorem mode_gd (e : (modeS ts s).2.err = 0) : NumOk (modeS ts s).1 3 := by
  unfold modeS at e ⊢
  split
  · rename_i h
    rw [if_pos h] at e
    exact absurd e (wrg_ne (by decide))
  · rename_i h
    rcases one_in (ts := ts) (s := s) modes with g | ⟨g1, g2⟩
    · omega
    · have g2 : (oneS ts s modes).1 < 4 := g2
      exact ⟨g1, by omega⟩
theorem kind_gd (e : (kindS ts s).2.err = 0) : (kindS ts s).1 = 1 ∨ (kindS ts s).1 = 2 := by
  unfold kindS at e ⊢
  simp only at e ⊢
  split at e
  · exact absurd e (wrg_ne (by decide))
  · rename_i h
    rcases one_in (ts := ts) (s := s) kinds with g | ⟨g1, g2⟩
    · omega
    · have g2 : (oneS ts s kinds).1 < 2 := g2
      omega
theorem tier_gd (e : (tierS ts s).2.err = 0) : TierOk (tierS ts s).1 := ⟨num_gd (wnt_e0 (numS_e0 (wnt_e0 e))), num_gd (wnt_e0 e)⟩
theorem tiers_gd : ∀ (n : Nat) (s : St) (acc : List Tier), (∀ t ∈ acc, TierOk t) → (tiersS ts n s acc).2.err = 0 → ∀ t ∈ (tiersS ts n s acc).1, TierOk t
  | 0, _, acc, h, _ => h
  | n + 1, s, acc, h, e => by
    unfold tiersS at e ⊢
    split
    · rename_i ho
      rw [if_pos ho] at e
      refine tiers_gd n _ _ (fun t ht => ?_) e
      rcases List.mem_append.1 ht with k | k
      · exact h t k
      · obtain rfl := List.mem_singleton.1 k
        exact tier_gd (tiersS_e0 e)
    · exact h
theorem adj_gd {k : Int} (hk : k = 1 ∨ k = 2 ∨ k = 3 ∨ k = 4) (e : (adjS ts s k).2.err = 0) : AdjOk (adjS ts s k).1 := by
  unfold adjS at e ⊢
  by_cases h : k = 1
  · rw [if_pos h] at e ⊢
    exact .inl ⟨h, num_gd (modeS_e0 (wnt_e0 e)), mode_gd (wnt_e0 e)⟩
  · rw [if_neg h] at e ⊢
    exact .inr ⟨by rcases hk with k | k | k | k; exact absurd k h; exact .inl k; exact .inr (.inl k); exact .inr (.inr k), num_gd (wnt_e0 e), rfl⟩
theorem adjs_gd : ∀ (n : Nat) (s : St) (acc : List Adj), (∀ t ∈ acc, AdjOk t) → (adjsS ts n s acc).2.err = 0 → ∀ t ∈ (adjsS ts n s acc).1, AdjOk t
  | 0, _, acc, h, _ => h
  | n + 1, s, acc, h, e => by
    unfold adjsS at e ⊢
    simp only at e ⊢
    split
    · exact h
    · rename_i ho
      rw [if_neg ho] at e
      refine adjs_gd n _ _ (fun t ht => ?_) e
      rcases List.mem_append.1 ht with k | k
      · exact h t k
      · obtain rfl := List.mem_singleton.1 k
        refine adj_gd ?_ (adjsS_e0 e)
        rcases one_in (ts := ts) (s := s) adjWords with g | ⟨g1, g2⟩
        · omega
        · have g2 : (oneS ts s adjWords).1 < 4 := g2
          omega
theorem charge_gd (K : Knd ts) (F : Fine ts) (l c : Int) (e : (chargeS ts s l c).2.err = 0) : ChOk (chargeS ts s l c).1 := by
  have e17 := wnt_e0 (l := sShut) e
  have e16 := adjsS_e0 e17
  have e15 := wnt_e0 e16
  have e14 := modeS_e0 e15
  have e11 := wnt_e0 (wnt_e0 (wnt_e0 e14))
  have e10 := wnt_e0 (wnt_e0 (numS_e0 e11))
  have e8 := tiersS_e0 e10
  have e7 := wnt_e0 e8
  have e6 := kindS_e0 e7
  have e5 := optS_e0 e6
  have e4 := optS_e0 e5
  have e3 := wnt_e0 e4
  have e2 := winS_e0 e3
  exact ⟨nm_gd K F e2, win_gd K F e3, opt_gd ⟨by decide, by decide⟩ e5, opt_gd ⟨by decide, by decide⟩ e6, kind_gd e7, ⟨_, _, rfl, tiers_gd _ _ _ (fun _ h => by cases h) e10, num_gd e11⟩, mode_gd e15, adjs_gd _ _ _ (fun _ h => by cases h) e17⟩
theorem item_gd (K : Knd ts) (F : Fine ts) {p : Plan} (h : Gd p) (e : (itemS ts s p).2.err = 0) : Gd (itemS ts s p).1 := by
  unfold itemS at e ⊢
  simp only at e ⊢
  by_cases e0 : (oneS ts s itemWords).1 = 0
  · rw [if_pos e0] at e ⊢
    refine ⟨h.name, h.days, fun m hm => ?_, h.fees, h.charges⟩
    rcases List.mem_append.1 hm with k | k
    · exact h.meters m k
    · obtain rfl := List.mem_singleton.1 k
      have e5 := wnt_e0 (l := sSemi) e
      have e4 := wnt_e0 (numS_e0 e5)
      exact ⟨nm_gd K F (wnt_e0 (tkn_e0 e4)), nm_gd K F e4, num_gd e5⟩
  · rw [if_neg e0] at e ⊢
    by_cases e1 : (oneS ts s itemWords).1 = 1
    · rw [if_pos e1] at e ⊢
      refine ⟨h.name, h.days, h.meters, fun m hm => ?_, h.charges⟩
      rcases List.mem_append.1 hm with k | k
      · exact h.fees m k
      · obtain rfl := List.mem_singleton.1 k
        have e5 := wnt_e0 (l := sSemi) e
        exact ⟨num_gd (winS_e0 e5), win_gd K F e5⟩
    · rw [if_neg e1] at e ⊢
      by_cases e2 : (oneS ts s itemWords).1 = 2
      · rw [if_pos e2] at e ⊢
        refine ⟨h.name, h.days, h.meters, h.fees, fun m hm => ?_⟩
        rcases List.mem_append.1 hm with k | k
        · exact h.charges m k
        · obtain rfl := List.mem_singleton.1 k
          exact charge_gd K F _ _ e
      · rw [if_neg e2] at e ⊢
        exact absurd e (wrg_ne (by decide))
theorem items_gd (K : Knd ts) (F : Fine ts) : ∀ (n : Nat) (s : St) (p : Plan), Gd p → (itemsS ts n s p).2.err = 0 → Gd (itemsS ts n s p).1
  | 0, _, _, h, _ => h
  | n + 1, s, p, h, e => by
    unfold itemsS at e ⊢
    split
    · rename_i ho
      rw [if_pos ho] at e
      have e' : (itemS ts s p).2.err = 0 := by
        by_cases g : (itemS ts s p).2.err = 0
        · exact g
        · have : goesOn ts (itemS ts s p).2 = false := by unfold goesOn; rw [decide_eq_false g]; rfl
          rw [items_stop ts n _ _ this] at e
          exact e
      exact items_gd K F n _ _ (item_gd K F h e') e
    · exact h
theorem plan_gd (K : Knd ts) (F : Fine ts) (e : (planS ts).2.1 = 0) : Gd (planS ts).1 := by
  unfold planS at e ⊢
  simp only at e ⊢
  split at e
  · rename_i g
    rw [if_pos g]
    refine items_gd K F _ _ _ ?_ g
    have g0 : (headS ts st0).2.err = 0 := by
      by_cases k : (headS ts st0).2.err = 0
      · exact k
      · have : goesOn ts (headS ts st0).2 = false := by unfold goesOn; rw [decide_eq_false k]; rfl
        rw [items_stop ts _ _ _ this] at g
        exact g
    have g8 := wnt_e0 (l := sSemi) g0
    have g7 := dayS_e0 g8
    have g5 := wnt_e0 (wnt_e0 (dayS_e0 g7))
    have g3 := wnt_e0 (tkn_e0 g5)
    exact ⟨⟨nm_gd K F g3, nm_gd K F g5⟩, ⟨day_gd K F g7, day_gd K F g8⟩, (fun _ h => by cases h), (fun _ h => by cases h), (fun _ h => by cases h)⟩
  · rename_i g
    exact absurd e g
/-- A plan that a text tells. -/
theorem parsed_gd {l : List UInt8} (e : (parsed l).2.1 = 0) : Gd (parsed l).1 := by
  unfold parsed at e ⊢
  simp only at e ⊢
  split
  · rename_i h
    rw [if_pos h] at e
    exact plan_gd (lexed_knd l) (lexed_fine h) e
  · rename_i h
    rw [if_neg h] at e
    have e : ((lexed l).2.1 : Int) = 0 := e
    omega
theorem i64_of {n m : Int} (h : NumOk n m) (hm : m ≤ 1000000000000) : 0 ≤ n ∧ I64 n := by
  obtain ⟨h1, h2⟩ := h
  unfold I64
  omega
end Go.Proofs.Ytcbeocpllnmcjaa.P
/- The document's answers for layer 9 (poundageref09): Meter, window, Rises. -/
namespace Go.Proofs.Ytcbeocpllnmcjaa.P
open Go.RowKit Mm
/-- Where a meter of that name stands; -1: nowhere. -/
def mix (ms : List Meter) (name : ByteArray) : Int := match meterIx ms name with
  | some i => i
  | none => -1
theorem mix_scan (ms : List Meter) (name : ByteArray) : mix ms name = L06.scan name ms 0 := by
  have e : (fun m : Meter => decide (m.name = name)) = fun m => m.name.data.toList == name.data.toList := by
    funext m
    rw [Bool.eq_iff_iff]
    simp only [decide_eq_true_eq, beq_iff_eq]
    constructor
    · intro h; rw [h]
    · intro h
      exact ByteArray.ext (Array.toList_inj.1 h)
  rw [L06.scan_find, e]
  unfold mix meterIx
  cases List.findIdx? (fun m : Meter => m.name.data.toList == name.data.toList) ms <;> simp
theorem mix_some {ms : List Meter} {name : ByteArray} {i : Nat} : mix ms name = i ↔ meterIx ms name = some i := by
  unfold mix
  cases h : meterIx ms name with
  | none => simp
  | some k => simp; omega
theorem mix_none {ms : List Meter} {name : ByteArray} : mix ms name < 0 ↔ meterIx ms name = none := by
  unfold mix
  cases h : meterIx ms name with
  | none => simp
  | some k => simp
end Go.Proofs.Ytcbeocpllnmcjaa.P
namespace Go.Proofs.Ytcbeocpllnmcjaa.R9
open Go.RowKit Go.Sort P Mm Md R6 L06
end Go.Proofs.Ytcbeocpllnmcjaa.R9
/- The document's answers for layer 9 (poundageref09): window. -/
namespace Go.Proofs.Ytcbeocpllnmcjaa.R9
open Go.RowKit Go.Sort P Mm Md R6 L06
theorem rb_of {a b : Bool} {w w' : World} {B : Nat} (h : a = b) (k : Below B w w') : (Ending.returned (.bool a) : Ending) = .returned (.bool b) ∧ Below B w w' := ⟨by rw [h], k⟩
end Go.Proofs.Ytcbeocpllnmcjaa.R9
/- The document's answers for layer 9 (poundageref09): Charge. -/
namespace Go.Proofs.Ytcbeocpllnmcjaa.R9
open Go.RowKit Go.Sort P Mm Md R6 L06
theorem wpList_load_midg {P : Program} {ops : Array Oper} {rest : List Oper} {op : Oper} {a : Act} {w : World} {Q : Exit → Act → World → Prop} (hw : Region.wanted op (yielded ops a.tmps) = true) (ty : TypeId) (x : Operand) (ho : op.op = .load ty x)
    (b o : Nat) (hx : a.eval x = .pointer (some ⟨b, o, none⟩)) (cs : List Value) (d : TypeDesc) (hc : w.rangeAt b o cs)
    (hu : P.underlying ty = some d) (hd : d.isRow = true) (hi : (P.info? ty).map (·.size) = some cs.length)
    (h : wpList P ops Q rest (a.put op.dst (.agg cs.toArray)) w) : wpList P ops Q (op :: rest) a w :=
  wpList_step fun _ hK => by simp only [hw, if_true]; exact wp_load_mid ty x ho b o hx cs d hc hu hd hi (hK _ _ h)
theorem wantg {op : Oper} {ops : Array Oper} {tm : Array Value} {k : Nat} {b c : Bool} (h : op.guard = some (k, b)) (hy : yielded ops tm k = some c) (e : c = b) : Region.wanted op (yielded ops tm) = true := by
  unfold Region.wanted
  rw [h]
  simp [hy, e]
theorem range_ch {W : World} {b o : Nat} {x : Charge} {ta : Option Addr} {tc : Nat} {aa : Option Addr} {ac : Nat} (h : ChargeAt W b o x ta tc aa ac) : W.rangeAt b o (chargeC x ta tc aa ac) := by
  obtain ⟨_, a0, a1, a2, a3, a4, a5, a6, a7, a8, a9, a10, a11, a12, a13, a14, a15⟩ := h
  intro j v hj
  match j, hj with
  | 0, hj => cases hj; exact a0
  | 1, hj => cases hj; exact a1
  | 2, hj => cases hj; exact a2
  | 3, hj => cases hj; exact a3
  | 4, hj => cases hj; exact a4
  | 5, hj => cases hj; exact a5
  | 6, hj => cases hj; exact a6
  | 7, hj => cases hj; exact a7
  | 8, hj => cases hj; exact a8
  | 9, hj => cases hj; exact a9
  | 10, hj => cases hj; exact a10
  | 11, hj => cases hj; exact a11
  | 12, hj => cases hj; exact a12
  | 13, hj => cases hj; exact a13
  | 14, hj => cases hj; exact a14
  | 15, hj => cases hj; exact a15
  | j + 16, hj => cases hj
theorem ch_on {w w' : World} {c : Charge} {ta : Option Addr} {tc : Nat} {aa : Option Addr} {ac : Nat} (h : ChargeLies w (chargeC c ta tc aa ac) c ta tc aa ac) (b : Below w.heap.size w w') : ChargeLies w' (chargeC c ta tc aa ac) c ta tc aa ac := ⟨h.cells, h.tiers.on b, h.adjusts.on b, h.meter, h.win, h.nums⟩
end Go.Proofs.Ytcbeocpllnmcjaa.R9
/- What each call of package exact answers, for all numbers of 64 bits: contracts over the walked program. -/
namespace Go.Proofs.Ytcbeocpllnmcjaa.Ex
open Go.RowKit P
theorem ret_2 {k : IntKind} {a b : Int} {p q : Bool} (h : a = b) (h' : p = q) : Ending.returned (.tuple #[.int k a, .bool p]) = .returned (.tuple #[.int k b, .bool q]) := by rw [h, h']
theorem add_yes (a b : Int) (w : World) (h : I64 (a + b)) :
    Calls Try.prog 21 #[.int .i64 a, .int .i64 b] w fun e w' => e = .returned (.tuple #[.int .i64 (a + b), .bool true]) ∧ w = w' := by
  have ht := add_test_yes h
  have H := hid (wrap_in h)
  clear h
  go_enter Try.func21, Try.ntmps21
  go_wp2
  go_ret2
  exact ⟨ret_2 H.out rfl, rfl⟩
theorem add_no (a b : Int) (w : World) (ha : I64 a) (hb : I64 b) (h : ¬ I64 (a + b)) :
    Calls Try.prog 21 #[.int .i64 a, .int .i64 b] w fun e w' => e = .returned (.tuple #[.int .i64 0, .bool false]) ∧ w = w' := by
  have ht := add_test_no ha hb h
  clear ha hb h
  go_enter Try.func21, Try.ntmps21
  go_wp2
  go_ret2
  exact ⟨rfl, rfl⟩
theorem add_any (a b : Int) (w : World) (ha : I64 a) (hb : I64 b) :
    Calls Try.prog 21 #[.int .i64 a, .int .i64 b] w fun e w' => e = .returned (.tuple #[.int .i64 (cut64 (a + b)), .bool (ok64 (a + b))]) ∧ w = w' := by
  by_cases h : I64 (a + b)
  · rw [cut64_t h, ok64_t h]; exact add_yes a b w h
  · rw [cut64_f h, ok64_f h]; exact add_no a b w ha hb h
theorem sub_yes (a b : Int) (w : World) (h : I64 (a - b)) :
    Calls Try.prog 77 #[.int .i64 a, .int .i64 b] w fun e w' => e = .returned (.tuple #[.int .i64 (a - b), .bool true]) ∧ w = w' := by
  have ht := sub_test_yes h
  have H := hid (wrap_in h)
  clear h
  go_enter Try.func77, Try.ntmps77
  go_wp2
  go_ret2
  exact ⟨ret_2 H.out rfl, rfl⟩
theorem sub_no (a b : Int) (w : World) (ha : I64 a) (hb : I64 b) (h : ¬ I64 (a - b)) :
    Calls Try.prog 77 #[.int .i64 a, .int .i64 b] w fun e w' => e = .returned (.tuple #[.int .i64 0, .bool false]) ∧ w = w' := by
  have ht := sub_test_no ha hb h
  clear ha hb h
  go_enter Try.func77, Try.ntmps77
  go_wp2
  go_ret2
  exact ⟨rfl, rfl⟩
theorem sub_any (a b : Int) (w : World) (ha : I64 a) (hb : I64 b) :
    Calls Try.prog 77 #[.int .i64 a, .int .i64 b] w fun e w' => e = .returned (.tuple #[.int .i64 (cut64 (a - b)), .bool (ok64 (a - b))]) ∧ w = w' := by
  by_cases h : I64 (a - b)
  · rw [cut64_t h, ok64_t h]; exact sub_yes a b w h
  · rw [cut64_f h, ok64_f h]; exact sub_no a b w ha hb h
theorem mul_any (a b : Int) (w : World) (ha : I64 a) (hb : I64 b) :
    Calls Try.prog 61 #[.int .i64 a, .int .i64 b] w fun e w' => e = .returned (.tuple #[.int .i64 (cut64 (a * b)), .bool (ok64 (a * b))]) ∧ w = w' := by
  by_cases h0 : a = 0
  · subst h0
    rw [Int.zero_mul, cut64_t i64_0, ok64_t i64_0]
    clear ha hb
    go_enter Try.func61, Try.ntmps61
    go_wp2
    go_ret2
    exact ⟨rfl, rfl⟩
  · by_cases h1 : a = -1
    · subst h1
      have e : (-1 : Int) * b = -b := by omega
      rw [e]
      clear e h0 ha
      have hb' : Hid (I64 b) := hid hb
      clear hb
      go_enter Try.func61, Try.ntmps61
      go_wp2_with (go_at_call 77; refine (sub_any _ _ _ i64_0 hb'.out).mono ?_; rintro e w' ⟨rfl, rfl⟩; simp only [Int.zero_sub])
      go_ret2
      exact ⟨rfl, rfl⟩
    · have e0 : (a == 0) = false := by simpa using h0
      have e1 : (a == -1) = false := by simpa using h1
      by_cases h : I64 (a * b)
      · have ht : (wrap64 ((wrap64 (a * b)).tdiv a) != b) = false := by rw [mul_test_yes hb h0 h]; simp
        have H := hid (wrap_in h)
        have H2 := hid h
        clear ha hb h h1
        go_enter Try.func61, Try.ntmps61
        go_wp2
        go_ret2
        exact ⟨ret_2 (by rw [H.out, cut64_t H2.out]) (by rw [ok64_t H2.out]), rfl⟩
      · have ht : (wrap64 ((wrap64 (a * b)).tdiv a) != b) = true := by
          rcases mul_test_no ha h0 h with h2 | h2
          · simpa using h2
          · exact absurd h2 h1
        rw [cut64_f h, ok64_f h]
        clear ha hb h h1
        go_enter Try.func61, Try.ntmps61
        go_wp2
        go_ret2
        exact ⟨rfl, rfl⟩
end Go.Proofs.Ytcbeocpllnmcjaa.Ex
