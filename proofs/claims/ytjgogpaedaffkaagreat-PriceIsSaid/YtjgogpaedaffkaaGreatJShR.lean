/- Tokens that break off, as the parser reads them: it stops where they do, or the rest is told at their end. Pure: no program is named here. -/
import Derived.Test.YtjgogpaedaffkaaGreatJParS
import Derived.Test.YtjgogpaedaffkaaGreatJLexJ
import Derived.KernelRfl
import Derived.Test.YtjgogpaedaffkaaGreatJDatB
import Derived.Lib.IndexMore
import Derived.Lib.TrimByte
namespace Go.Proofs.YtjgogpaedaffkaaGreat.Mm
end Go.Proofs.YtjgogpaedaffkaaGreat.Mm
namespace Go.Proofs.YtjgogpaedaffkaaGreat.R6
end Go.Proofs.YtjgogpaedaffkaaGreat.R6
namespace Go.Proofs.YtjgogpaedaffkaaGreat.P
open Go.RowKit Mm R6
section
variable {ts : List Tok} {s : St}
theorem onW_no (h : ¬ s.err = 0) (l : List UInt8) : onW ts s l = false := by unfold onW; rw [decide_eq_false h]; rfl
theorem isTk_no (h : ¬ s.err = 0) (k : Nat) : isTk ts s k = false := by unfold isTk; rw [decide_eq_false h]; rfl
theorem wrg_no (h : ¬ s.err = 0) (e : Int) : wrg ts s e = s := by unfold wrg; rw [if_neg h]
theorem wnt_no (h : ¬ s.err = 0) (l : List UInt8) : wnt ts s l = s := by unfold wnt; rw [onW_no h, wrg_no h]; rfl
theorem tkn_no (h : ¬ s.err = 0) (k : Nat) : (tkn ts s k).2 = s := by unfold tkn; rw [isTk_no h, wrg_no h]; rfl
theorem numS_no (h : ¬ s.err = 0) (p m : Int) : (numS ts s p m).2 = s := by unfold numS; rw [isTk_no h, wrg_no h]; rfl
theorem dayS_no (h : ¬ s.err = 0) : (dayS ts s).2 = s := tkn_no h 4
theorem winS_no (h : ¬ s.err = 0) : (winS ts s).2 = s := by unfold winS; rw [onW_no h]; rfl
theorem oneAt_st (h : ¬ s.err = 0) : ∀ (ws : List (List UInt8)) (k : Int), oneAt ts s ws k = (-1, s)
  | [], _ => rfl
  | w :: r, k => by unfold oneAt; rw [onW_no h]; exact oneAt_st h r (k + 1)
theorem modeS_no (h : ¬ s.err = 0) : (modeS ts s).2 = s := by unfold modeS oneS; rw [oneAt_st h]; exact wrg_no h 4
theorem kindS_no (h : ¬ s.err = 0) : (kindS ts s).2 = s := by unfold kindS oneS; rw [oneAt_st h]; exact wrg_no h 4
theorem optS_no (h : ¬ s.err = 0) (l : List UInt8) (d : Int) : (optS ts s l d).2 = s := by unfold optS; rw [onW_no h]; rfl
theorem tiersS_no (h : ¬ s.err = 0) (n : Nat) (acc : List Tier) : (tiersS ts n s acc).2 = s := by
  cases n with
  | zero => rfl
  | succ n => unfold tiersS; rw [onW_no h]; rfl
theorem adjsS_no (h : ¬ s.err = 0) (n : Nat) (acc : List Adj) : (adjsS ts n s acc).2 = s := by
  cases n with
  | zero => rfl
  | succ n => unfold adjsS oneS; rw [oneAt_st h]; rfl
theorem back {a : St} (h : ¬ s.err = 0 → a = s) (e : a.err = 0) : s.err = 0 := by
  by_cases k : s.err = 0
  · exact k
  · rw [h k] at e; exact e
theorem wnt_e0 {l : List UInt8} (e : (wnt ts s l).err = 0) : s.err = 0 := back (fun h => wnt_no h l) e
theorem tkn_e0 {k : Nat} (e : (tkn ts s k).2.err = 0) : s.err = 0 := back (fun h => tkn_no h k) e
theorem numS_e0 {p m : Int} (e : (numS ts s p m).2.err = 0) : s.err = 0 := back (fun h => numS_no h p m) e
theorem dayS_e0 (e : (dayS ts s).2.err = 0) : s.err = 0 := back (fun h => dayS_no h) e
theorem winS_e0 (e : (winS ts s).2.err = 0) : s.err = 0 := back (fun h => winS_no h) e
theorem modeS_e0 (e : (modeS ts s).2.err = 0) : s.err = 0 := back (fun h => modeS_no h) e
theorem kindS_e0 (e : (kindS ts s).2.err = 0) : s.err = 0 := back (fun h => kindS_no h) e
theorem optS_e0 {l : List UInt8} {d : Int} (e : (optS ts s l d).2.err = 0) : s.err = 0 := back (fun h => optS_no h l d) e
theorem tiersS_e0 {n : Nat} {acc : List Tier} (e : (tiersS ts n s acc).2.err = 0) : s.err = 0 := back (fun h => tiersS_no h n acc) e
theorem adjsS_e0 {n : Nat} {acc : List Adj} (e : (adjsS ts n s acc).2.err = 0) : s.err = 0 := back (fun h => adjsS_no h n acc) e
end
/-- A row of tokens that breaks off: the second is the first's beginning, then the end. -/
structure Ct (n : Nat) (X C : List Tok) (u v : Int) : Prop where
  al : Al n 0 X C
  en : (C.getD n nil0).k = 0 ∧ ((C.getD n nil0).ln : Int) = u ∧ ((C.getD n nil0).cl : Int) = v
/-- The parser stands at the end; what is wrong, if anything, is told there. -/
def Stk (n : Nat) (u v : Int) (s : St) : Prop := s.i = n ∧ (s.err = 0 ∨ (s.err = 4 ∧ s.ln = u ∧ s.cl = v))
def Sk4 (n : Nat) (u v : Int) (s : St) : Prop := s.i = n ∧ s.err = 4 ∧ s.ln = u ∧ s.cl = v
theorem Sk4.stk {n : Nat} {u v : Int} {s : St} (h : Sk4 n u v s) : Stk n u v s := ⟨h.1, .inr h.2⟩
section
variable {n : Nat} {X C : List Tok} {u v : Int} {s c : St}
theorem Stk.k (T : Ct n X C u v) (h : Stk n u v c) : (tk C c).k = 0 := by unfold tk; rw [h.1]; exact T.en.1
theorem Stk.onW (T : Ct n X C u v) (h : Stk n u v c) (l : List UInt8) : onW C c l = false := by unfold P.onW; rw [h.k T]; simp
theorem Stk.isTk (T : Ct n X C u v) (h : Stk n u v c) {k : Nat} (hk : k ≠ 0) : isTk C c k = false := by unfold P.isTk; rw [h.k T, decide_eq_false (show ¬ (0 = k) from fun e => hk e.symm), Bool.and_false]
theorem Stk.wrg (T : Ct n X C u v) (h : Stk n u v c) : Sk4 n u v (wrg C c 4) := by
  rcases h.2 with e | e
  · unfold P.wrg
    rw [if_pos e]
    refine ⟨h.1, rfl, ?_, ?_⟩
    · show ((tk C c).ln : Int) = u; unfold tk; rw [h.1]; exact T.en.2.1
    · show ((tk C c).cl : Int) = v; unfold tk; rw [h.1]; exact T.en.2.2
  · rw [wrg_no (by rw [e.1]; decide)]
    exact ⟨h.1, e⟩
theorem Stk.wnt (T : Ct n X C u v) (h : Stk n u v c) (l : List UInt8) : Sk4 n u v (wnt C c l) := by unfold P.wnt; rw [h.onW T]; exact h.wrg T
theorem Stk.tkn (T : Ct n X C u v) (h : Stk n u v c) {k : Nat} (hk : k ≠ 0) : Sk4 n u v (tkn C c k).2 := by unfold P.tkn; rw [h.isTk T hk]; exact h.wrg T
theorem Stk.numS (T : Ct n X C u v) (h : Stk n u v c) (p m : Int) : Sk4 n u v (numS C c p m).2 := by unfold P.numS; rw [h.isTk T (by decide)]; exact h.wrg T
theorem Stk.dayS (T : Ct n X C u v) (h : Stk n u v c) : Sk4 n u v (dayS C c).2 := h.tkn T (by decide)
theorem Stk.winS (T : Ct n X C u v) (h : Stk n u v c) : (winS C c).2 = c := by unfold P.winS; rw [h.onW T]; rfl
theorem Stk.oneAt (T : Ct n X C u v) (h : Stk n u v c) : ∀ (ws : List (List UInt8)) (k : Int), oneAt C c ws k = (-1, c)
  | [], _ => rfl
  | w :: r, k => by unfold P.oneAt; rw [h.onW T]; exact Stk.oneAt T h r (k + 1)
theorem Stk.modeS (T : Ct n X C u v) (h : Stk n u v c) : Sk4 n u v (modeS C c).2 := by unfold P.modeS P.oneS; rw [h.oneAt T]; exact h.wrg T
theorem Stk.kindS (T : Ct n X C u v) (h : Stk n u v c) : Sk4 n u v (kindS C c).2 := by unfold P.kindS P.oneS; rw [h.oneAt T]; exact h.wrg T
theorem Stk.optS (T : Ct n X C u v) (h : Stk n u v c) (l : List UInt8) (d : Int) : (optS C c l d).2 = c := by unfold P.optS; rw [h.onW T]; rfl
theorem Stk.tiers (T : Ct n X C u v) (h : Stk n u v c) (m : Nat) (acc : List Tier) : (tiersS C m c acc).2 = c := by
  cases m with
  | zero => rfl
  | succ m => unfold tiersS; rw [h.onW T]; rfl
theorem Stk.adjs (T : Ct n X C u v) (h : Stk n u v c) (m : Nat) (acc : List Adj) : (adjsS C m c acc).2 = c := by
  cases m with
  | zero => rfl
  | succ m => unfold adjsS P.oneS; rw [h.oneAt T]; rfl
theorem Stk.tierS (T : Ct n X C u v) (h : Stk n u v c) : Sk4 n u v (tierS C c).2 := (((h.numS T 0 1000000).stk.wnt T wRate).stk.numS T 6 1000000000000).stk.wnt T sSemi
theorem Stk.adjS (T : Ct n X C u v) (h : Stk n u v c) (k : Int) : Sk4 n u v (adjS C c k).2 := by
  unfold P.adjS
  split
  · exact ((h.numS T 3 100000000).stk.modeS T).stk.wnt T sSemi
  · exact (h.numS T 0 1000000000000).stk.wnt T sSemi
/-- The whole row's parser and the broken one's: at the same place, or the second stands at the end and the first is beyond. -/
def Cu (n : Nat) (u v : Int) (s c : St) : Prop := (s.i ≤ n ∧ Sm 0 s c) ∨ (n < s.i ∧ Stk n u v c)
def Cu4 (n : Nat) (u v : Int) (s c : St) : Prop := (s.i ≤ n ∧ Sm 0 s c) ∨ (n < s.i ∧ Sk4 n u v c)
theorem Cu4.cu (h : Cu4 n u v s c) : Cu n u v s c := h.imp id fun k => ⟨k.1, k.2.stk⟩
theorem stk_of (h : Sm 0 s c) (hi : s.i = n) (e : s.err = 0) : Stk n u v c := ⟨by rw [h.ix, hi]; rfl, .inl (by rw [← h.err]; exact e)⟩
/-- A call that takes one token, or tells that it is missing. -/
theorem Cu.one {a b : St} (h : Cu n u v s c) (e0 : s.err = 0) (h1 : s.i < n → Sm 0 s c → Sm 0 a b) (h2 : a.i = s.i + 1) (h3 : Stk n u v c → Sk4 n u v b) : Cu4 n u v a b := by
  rcases h with ⟨k1, k2⟩ | ⟨k1, k2⟩
  · rcases Nat.lt_or_ge s.i n with g | g
    · exact .inl ⟨by omega, h1 g k2⟩
    · exact .inr ⟨by omega, h3 (stk_of k2 (by omega) e0)⟩
  · exact .inr ⟨by omega, h3 k2⟩
theorem wnt_e1 {ts : List Tok} {l : List UInt8} (e : (wnt ts s l).err = 0) : (wnt ts s l).i = s.i + 1 := by
  unfold wnt at e ⊢
  by_cases k : onW ts s l = true
  · rw [if_pos k]; rfl
  · rw [if_neg k, wrgErr] at e
    split at e
    · cases e
    · rename_i k2; exact absurd e k2
theorem tkn_e1 {ts : List Tok} {k : Nat} (e : (tkn ts s k).2.err = 0) : (tkn ts s k).2.i = s.i + 1 := by
  unfold tkn at e ⊢
  by_cases c : isTk ts s k = true
  · rw [if_pos c]; rfl
  · rw [if_neg c] at e
    have e : (wrg ts s 4).err = 0 := e
    rw [wrgErr] at e
    split at e
    · cases e
    · rename_i k2; exact absurd e k2
theorem numS_e1 {ts : List Tok} {p m : Int} (e : (numS ts s p m).2.err = 0) : (numS ts s p m).2.i = s.i + 1 := by
  unfold numS at e ⊢
  by_cases c : isTk ts s 3 = true
  · rw [if_pos c]
    show (bad ts s _).i + 1 = _
    rw [bad_i]
  · rw [if_neg c] at e
    have e : (wrg ts s 4).err = 0 := e
    rw [wrgErr] at e
    split at e
    · cases e
    · rename_i k2; exact absurd e k2
theorem Cu.wnt4 {l : List UInt8} (T : Ct n X C u v) (h : Cu n u v s c) (e : (wnt X s l).err = 0) : Cu4 n u v (wnt X s l) (wnt C c l) :=
  h.one (wnt_e0 e) (fun g k => Sm.wnt T.al k g l) (wnt_e1 e) (fun k => k.wnt T l)
theorem Cu.wnt {l : List UInt8} (T : Ct n X C u v) (h : Cu n u v s c) (e : (wnt X s l).err = 0) : Cu n u v (wnt X s l) (wnt C c l) := (Cu.wnt4 T h e).cu
theorem Cu.tkn {k : Nat} (T : Ct n X C u v) (h : Cu n u v s c) (hk : k ≠ 0) (e : (tkn X s k).2.err = 0) : Cu n u v (tkn X s k).2 (tkn C c k).2 :=
  (h.one (tkn_e0 e) (fun g q => (Sm.tkn T.al q g k).2) (tkn_e1 e) (fun q => q.tkn T hk)).cu
theorem Cu.numS {p m : Int} (T : Ct n X C u v) (h : Cu n u v s c) (e : (numS X s p m).2.err = 0) : Cu n u v (numS X s p m).2 (numS C c p m).2 :=
  (h.one (numS_e0 e) (fun g q => (Sm.numS T.al q g p m).2) (numS_e1 e) (fun q => q.numS T p m)).cu
theorem Cu.dayS (T : Ct n X C u v) (h : Cu n u v s c) (e : (dayS X s).2.err = 0) : Cu n u v (dayS X s).2 (dayS C c).2 := Cu.tkn T h (by decide) e
/-- A call that looks whether there is something, and may pass it over. -/
theorem Cu.peek {a b : St} (h : Cu n u v s c) (le : s.i ≤ a.i) (e0 : s.err = 0) (h0 : a = s ∨ s.i < a.i) (h1 : s.i < n → Sm 0 s c → Cu n u v a b) (h3 : Stk n u v c → b = c) : Cu n u v a b := by
  rcases h with ⟨k1, k2⟩ | ⟨k1, k2⟩
  · rcases Nat.lt_or_ge s.i n with g | g
    · exact h1 g k2
    · have st := stk_of (u := u) (v := v) k2 (by omega : s.i = n) e0
      rw [h3 st]
      rcases h0 with rfl | h0
      · exact .inl ⟨k1, k2⟩
      · exact .inr ⟨by omega, st⟩
  · rw [h3 k2]
    exact .inr ⟨by omega, k2⟩
theorem Cu.winS (T : Ct n X C u v) (h : Cu n u v s c) (e : (winS X s).2.err = 0) : Cu n u v (winS X s).2 (winS C c).2 := by
  refine h.peek (winS_le X s) (winS_e0 e) ?_ (fun g k => ?_) (fun k => k.winS T)
  · unfold P.winS
    by_cases q : onW X s wFrom = true
    · right
      rw [if_pos q]
      have l1 : s.next.i ≤ (P.dayS X s.next).2.i := tkn_le X s.next 4
      have l2 := wnt_le X (P.dayS X s.next).2 wTo
      have l3 : (P.wnt X (P.dayS X s.next).2 wTo).i ≤ (P.dayS X (P.wnt X (P.dayS X s.next).2 wTo)).2.i := tkn_le X _ 4
      have l0 : s.next.i = s.i + 1 := rfl
      show s.i < (P.dayS X (P.wnt X (P.dayS X s.next).2 wTo)).2.i
      omega
    · left; rw [if_neg q]
  · unfold P.winS at e ⊢
    rw [← Sm.onW T.al k g wFrom]
    by_cases q : onW X s wFrom = true
    · rw [if_pos q] at e ⊢
      rw [if_pos q]
      have e3 : (P.dayS X (P.wnt X (P.dayS X s.next).2 wTo)).2.err = 0 := e
      have e2 := dayS_e0 e3
      have e1 := wnt_e0 e2
      have a0 : Cu n u v s.next c.next := .inl ⟨g, k.next⟩
      exact Cu.dayS T (Cu.wnt T (Cu.dayS T a0 e1) e2) e3
    · rw [if_neg q, if_neg q]
      exact .inl ⟨Nat.le_of_lt g, k⟩
theorem Cu.oneS (T : Ct n X C u v) (h : Cu n u v s c) (ws : List (List UInt8)) (e0 : s.err = 0) : Cu n u v (oneS X s ws).2 (oneS C c ws).2 := by
  have up : (P.oneS X s ws).2 = s ∨ (P.oneS X s ws).2.i = s.i + 1 := by
    rcases Int.lt_or_le (P.oneS X s ws).1 0 with k | k
    · left; unfold P.oneS at k ⊢; rw [oneAt_no X s ws 0 (Int.le_refl _) k]
    · right; exact oneAt_yes X s ws 0 (Int.le_refl _) k
  refine h.peek (oneAt_le X s ws 0) e0 (up.imp id fun k => by omega) (fun g k => ?_) (fun k => by unfold P.oneS; rw [k.oneAt T])
  refine .inl ⟨?_, (Sm.oneS T.al k g ws).2⟩
  rcases up with k | k
  · rw [k]; omega
  · omega
theorem Cu.modeS (T : Ct n X C u v) (h : Cu n u v s c) (e : (modeS X s).2.err = 0) : Cu n u v (modeS X s).2 (modeS C c).2 := by
  have e0 := modeS_e0 e
  have hp : ¬ (P.oneS X s modes).1 < 0 := fun k => by
    unfold P.modeS at e
    rw [if_pos k] at e
    have e : (P.wrg X (P.oneS X s modes).2 4).err = 0 := e
    rw [wrgErr] at e
    split at e
    · cases e
    · rename_i k2; exact k2 e
  have hi : (P.modeS X s).2.i = s.i + 1 := by
    unfold P.modeS
    rw [if_neg hp]
    exact oneAt_yes X s modes 0 (Int.le_refl _) (by unfold P.oneS at hp; omega)
  refine (h.one e0 (fun g k => ?_) hi (fun k => k.modeS T)).cu
  have a := Sm.oneS T.al k g modes
  unfold P.modeS
  rw [← a.1, if_neg hp, if_neg hp]
  exact a.2
theorem Cu.kindS (T : Ct n X C u v) (h : Cu n u v s c) (e : (kindS X s).2.err = 0) : Cu n u v (kindS X s).2 (kindS C c).2 := by
  have e0 := kindS_e0 e
  have hp : ¬ 1 + (P.oneS X s kinds).1 = 0 := fun k => by
    unfold P.kindS at e
    simp only [if_pos k] at e
    rw [wrgErr] at e
    split at e
    · cases e
    · rename_i k2; exact k2 e
  have h0 : ¬ (P.oneS X s kinds).1 < 0 := fun k => by
    have := oneAt_no X s kinds 0 (Int.le_refl _) k
    apply hp
    unfold P.oneS
    rw [this]
    rfl
  have hi : (P.kindS X s).2.i = s.i + 1 := by
    unfold P.kindS
    simp only [if_neg hp]
    exact oneAt_yes X s kinds 0 (Int.le_refl _) (by unfold P.oneS at h0; omega)
  refine (h.one e0 (fun g k => ?_) hi (fun k => k.kindS T)).cu
  have a := Sm.oneS T.al k g kinds
  unfold P.kindS
  simp only
  rw [← a.1, if_neg hp, if_neg hp]
  exact a.2
theorem Cu.optS {l : List UInt8} {d : Int} (T : Ct n X C u v) (h : Cu n u v s c) (e : (optS X s l d).2.err = 0) : Cu n u v (optS X s l d).2 (optS C c l d).2 := by
  refine h.peek (optS_le X s l d) (optS_e0 e) ?_ (fun g k => ?_) (fun k => k.optS T l d)
  · unfold P.optS
    by_cases q : onW X s l = true
    · right
      rw [if_pos q]
      have l1 := numS_le X s.next 0 1000000
      have l2 := wnt_le X (P.numS X s.next 0 1000000).2 sSemi
      have l0 : s.next.i = s.i + 1 := rfl
      show s.i < (P.wnt X (P.numS X s.next 0 1000000).2 sSemi).i
      omega
    · left; rw [if_neg q]
  · unfold P.optS at e ⊢
    rw [← Sm.onW T.al k g l]
    by_cases q : onW X s l = true
    · rw [if_pos q] at e ⊢
      rw [if_pos q]
      have e2 : (P.wnt X (P.numS X s.next 0 1000000).2 sSemi).err = 0 := e
      have a0 : Cu n u v s.next c.next := .inl ⟨g, k.next⟩
      exact Cu.wnt T (Cu.numS T a0 (wnt_e0 e2)) e2
    · rw [if_neg q, if_neg q]
      exact .inl ⟨Nat.le_of_lt g, k⟩
theorem Cu.tierS (T : Ct n X C u v) (h : Cu n u v s c) (e : (tierS X s).2.err = 0) : Cu n u v (tierS X s).2 (tierS C c).2 := by
  have e4 : (P.wnt X (P.numS X (P.wnt X (P.numS X s 0 1000000).2 wRate) 6 1000000000000).2 sSemi).err = 0 := e
  have e3 := wnt_e0 e4
  have e2 := numS_e0 e3
  have e1 := wnt_e0 e2
  exact Cu.wnt T (Cu.numS T (Cu.wnt T (Cu.numS T h e1) e2) e3) e4
theorem Cu.adjS (T : Ct n X C u v) (h : Cu n u v s c) (k : Int) (e : (adjS X s k).2.err = 0) : Cu n u v (adjS X s k).2 (adjS C c k).2 := by
  unfold P.adjS at e ⊢
  by_cases q : k = 1
  · rw [if_pos q] at e ⊢
    rw [if_pos q]
    have e3 : (P.wnt X (P.modeS X (P.numS X s 3 100000000).2).2 sSemi).err = 0 := e
    have e2 := wnt_e0 e3
    exact Cu.wnt T (Cu.modeS T (Cu.numS T h (modeS_e0 e2)) e2) e3
  · rw [if_neg q] at e ⊢
    rw [if_neg q]
    have e3 : (P.wnt X (P.numS X s 0 1000000000000).2 sSemi).err = 0 := e
    exact Cu.wnt T (Cu.numS T h (wnt_e0 e3)) e3
end
theorem Cu.tiers {n : Nat} {X C : List Tok} {u v : Int} (T : Ct n X C u v) : ∀ (m : Nat) (s c : St) (acc acc' : List Tier), Cu n u v s c → (tiersS X m s acc).2.err = 0 → Cu n u v (tiersS X m s acc).2 (tiersS C m c acc').2
  | 0, _, _, _, _, h, _ => h
  | m + 1, s, c, acc, acc', h, e => by
    refine h.peek (tiersS_le X (m + 1) s acc) (tiersS_e0 e) ?_ (fun g k => ?_) (fun k => k.tiers T (m + 1) acc')
    · unfold tiersS
      by_cases q : onW X s wUpto = true
      · right
        rw [if_pos q]
        have l1 := tierS_le X s.next
        have l2 := tiersS_le X m (P.tierS X s.next).2 (acc ++ [(P.tierS X s.next).1])
        have l0 : s.next.i = s.i + 1 := rfl
        omega
      · left; rw [if_neg q]
    · unfold tiersS at e ⊢
      rw [← Sm.onW T.al k g wUpto]
      by_cases q : onW X s wUpto = true
      · rw [if_pos q] at e ⊢
        rw [if_pos q]
        have a0 : Cu n u v s.next c.next := .inl ⟨g, k.next⟩
        exact Cu.tiers T m _ _ _ _ (Cu.tierS T a0 (tiersS_e0 e)) e
      · rw [if_neg q, if_neg q]
        exact .inl ⟨Nat.le_of_lt g, k⟩
theorem Cu.adjs {n : Nat} {X C : List Tok} {u v : Int} (T : Ct n X C u v) : ∀ (m : Nat) (s c : St) (acc acc' : List Adj), Cu n u v s c → (adjsS X m s acc).2.err = 0 → Cu n u v (adjsS X m s acc).2 (adjsS C m c acc').2
  | 0, _, _, _, _, h, _ => h
  | m + 1, s, c, acc, acc', h, e => by
    have e0 := adjsS_e0 e
    have up : (1 + (P.oneS X s adjWords).1 = 0 ∧ (P.oneS X s adjWords).2 = s) ∨ (¬ 1 + (P.oneS X s adjWords).1 = 0 ∧ (P.oneS X s adjWords).2.i = s.i + 1) := by
      rcases Int.lt_or_le (P.oneS X s adjWords).1 0 with k | k
      · have := oneAt_no X s adjWords 0 (Int.le_refl _) k
        left; unfold P.oneS; rw [this]; exact ⟨rfl, rfl⟩
      · right; exact ⟨by omega, oneAt_yes X s adjWords 0 (Int.le_refl _) k⟩
    refine h.peek (adjsS_le X (m + 1) s acc) e0 ?_ (fun g k => ?_) (fun k => k.adjs T (m + 1) acc')
    · unfold adjsS
      simp only
      rcases up with ⟨q, q2⟩ | ⟨q, q2⟩
      · left; rw [if_pos q]; exact q2
      · right
        rw [if_neg q]
        have l1 := adjS_le X (P.oneS X s adjWords).2 (1 + (P.oneS X s adjWords).1)
        have l2 := adjsS_le X m (P.adjS X (P.oneS X s adjWords).2 (1 + (P.oneS X s adjWords).1)).2 (acc ++ [(P.adjS X (P.oneS X s adjWords).2 (1 + (P.oneS X s adjWords).1)).1])
        omega
    · have a := Sm.oneS T.al k g adjWords
      unfold adjsS at e ⊢
      simp only at e ⊢
      rw [← a.1]
      rcases up with ⟨q, q2⟩ | ⟨q, q2⟩
      · rw [if_pos q, if_pos q]
        exact .inl ⟨by show (P.oneS X s adjWords).2.i ≤ n; rw [q2]; omega, a.2⟩
      · rw [if_neg q] at e ⊢
        rw [if_neg q]
        have a0 : Cu n u v (P.oneS X s adjWords).2 (P.oneS C c adjWords).2 := .inl ⟨by omega, a.2⟩
        exact Cu.adjs T m _ _ _ _ (Cu.adjS T a0 _ (adjsS_e0 e)) e
section
variable {n : Nat} {X C : List Tok} {u v : Int} {s c : St}
theorem Cu.tiersSF (T : Ct n X C u v) (ok : Ok X s) (ok' : Ok C c) (h : Cu n u v s c) (e : (tiersS X X.length s []).2.err = 0) : Cu n u v (tiersS X X.length s []).2 (tiersS C C.length c []).2 := by
  rw [tiers_fuel X X.length (X.length + C.length) s [] ok (by omega) (by omega)] at e ⊢
  rw [tiers_fuel C C.length (X.length + C.length) c [] ok' (by omega) (by omega)]
  exact Cu.tiers T _ _ _ _ _ h e
theorem Cu.adjsSF (T : Ct n X C u v) (ok : Ok X s) (ok' : Ok C c) (h : Cu n u v s c) (e : (adjsS X X.length s []).2.err = 0) : Cu n u v (adjsS X X.length s []).2 (adjsS C C.length c []).2 := by
  rw [adjs_fuel X X.length (X.length + C.length) s [] ok (by omega) (by omega)] at e ⊢
  rw [adjs_fuel C C.length (X.length + C.length) c [] ok' (by omega) (by omega)]
  exact Cu.adjs T _ _ _ _ _ h e
theorem Cu.meterS (T : Ct n X C u v) (ok : Ok X s) (ok' : Ok C c) (h : Cu n u v s c) (l b l' b' : Int) (e : (P.meterS X s l b).2.err = 0) : Cu4 n u v (P.meterS X s l b).2 (P.meterS C c l' b').2 := by
  have e : (P.wnt X (P.numS X (P.wnt X (P.tkn X (P.wnt X (P.tkn X s 1).2 wUnit) 1).2 wMax) 0 2000).2 sSemi).err = 0 := e
  have e5 := wnt_e0 e
  have e4 := numS_e0 e5
  have e3 := wnt_e0 e4
  have e2 := tkn_e0 e3
  have e1 := wnt_e0 e2
  have o0 := ok
  have q0 := ok'
  have o1 := o0.tkn (k := 1) (by decide)
  have q1 := q0.tkn (k := 1) (by decide)
  have a1 := Cu.tkn T (h) (by decide) e1
  have o2 := o1.wnt wUnit
  have q2 := q1.wnt wUnit
  have a2 := Cu.wnt T (a1) e2
  have o3 := o2.tkn (k := 1) (by decide)
  have q3 := q2.tkn (k := 1) (by decide)
  have a3 := Cu.tkn T (a2) (by decide) e3
  have o4 := o3.wnt wMax
  have q4 := q3.wnt wMax
  have a4 := Cu.wnt T (a3) e4
  have o5 := o4.numS 0 2000
  have q5 := q4.numS 0 2000
  have a5 := Cu.numS T (a4) e5
  exact Cu.wnt4 T (a5) e
theorem Cu.feeS (T : Ct n X C u v) (ok : Ok X s) (ok' : Ok C c) (h : Cu n u v s c) (l b l' b' : Int) (e : (P.feeS X s l b).2.err = 0) : Cu4 n u v (P.feeS X s l b).2 (P.feeS C c l' b').2 := by
  have e : (P.wnt X (P.winS X (P.numS X s 0 1000000000000).2).2 sSemi).err = 0 := e
  have e2 := wnt_e0 e
  have e1 := winS_e0 e2
  have o0 := ok
  have q0 := ok'
  have o1 := o0.numS 0 1000000000000
  have q1 := q0.numS 0 1000000000000
  have a1 := Cu.numS T (h) e1
  have o2 := o1.winS
  have q2 := q1.winS
  have a2 := Cu.winS T (a1) e2
  exact Cu.wnt4 T (a2) e
theorem Cu.chargeS (T : Ct n X C u v) (ok : Ok X s) (ok' : Ok C c) (h : Cu n u v s c) (l b l' b' : Int) (e : (P.chargeS X s l b).2.err = 0) : Cu4 n u v (P.chargeS X s l b).2 (P.chargeS C c l' b').2 := by
  have e : (P.wnt X (P.adjsS X X.length (P.wnt X (P.modeS X (P.wnt X (P.wnt X (P.wnt X (P.numS X (P.wnt X (P.wnt X (P.tiersS X X.length (P.wnt X (P.kindS X (P.optS X (P.optS X (P.wnt X (P.winS X (P.tkn X s 1).2).2 sOpen) wAllowance 0).2 wBlock 1).2).2 sOpen) []).2 wRest) wRate) 6 1000000000000).2 sSemi) sShut) wRound)).2 sSemi) []).2 sShut).err = 0 := e
  have e17 := wnt_e0 e
  have e16 := adjsS_e0 e17
  have e15 := wnt_e0 e16
  have e14 := modeS_e0 e15
  have e13 := wnt_e0 e14
  have e12 := wnt_e0 e13
  have e11 := wnt_e0 e12
  have e10 := numS_e0 e11
  have e9 := wnt_e0 e10
  have e8 := wnt_e0 e9
  have e7 := tiersS_e0 e8
  have e6 := wnt_e0 e7
  have e5 := kindS_e0 e6
  have e4 := optS_e0 e5
  have e3 := optS_e0 e4
  have e2 := wnt_e0 e3
  have e1 := winS_e0 e2
  have o0 := ok
  have q0 := ok'
  have o1 := o0.tkn (k := 1) (by decide)
  have q1 := q0.tkn (k := 1) (by decide)
  have a1 := Cu.tkn T (h) (by decide) e1
  have o2 := o1.winS
  have q2 := q1.winS
  have a2 := Cu.winS T (a1) e2
  have o3 := o2.wnt sOpen
  have q3 := q2.wnt sOpen
  have a3 := Cu.wnt T (a2) e3
  have o4 := o3.optS wAllowance 0
  have q4 := q3.optS wAllowance 0
  have a4 := Cu.optS T (a3) e4
  have o5 := o4.optS wBlock 1
  have q5 := q4.optS wBlock 1
  have a5 := Cu.optS T (a4) e5
  have o6 := o5.kindS
  have q6 := q5.kindS
  have a6 := Cu.kindS T (a5) e6
  have o7 := o6.wnt sOpen
  have q7 := q6.wnt sOpen
  have a7 := Cu.wnt T (a6) e7
  have o8 := Ok.tiersS X.length (P.wnt X (P.kindS X (P.optS X (P.optS X (P.wnt X (P.winS X (P.tkn X s 1).2).2 sOpen) wAllowance 0).2 wBlock 1).2).2 sOpen) [] o7
  have q8 := Ok.tiersS C.length (P.wnt C (P.kindS C (P.optS C (P.optS C (P.wnt C (P.winS C (P.tkn C c 1).2).2 sOpen) wAllowance 0).2 wBlock 1).2).2 sOpen) [] q7
  have a8 := Cu.tiersSF T o7 q7 (a7) e8
  have o9 := o8.wnt wRest
  have q9 := q8.wnt wRest
  have a9 := Cu.wnt T (a8) e9
  have o10 := o9.wnt wRate
  have q10 := q9.wnt wRate
  have a10 := Cu.wnt T (a9) e10
  have o11 := o10.numS 6 1000000000000
  have q11 := q10.numS 6 1000000000000
  have a11 := Cu.numS T (a10) e11
  have o12 := o11.wnt sSemi
  have q12 := q11.wnt sSemi
  have a12 := Cu.wnt T (a11) e12
  have o13 := o12.wnt sShut
  have q13 := q12.wnt sShut
  have a13 := Cu.wnt T (a12) e13
  have o14 := o13.wnt wRound
  have q14 := q13.wnt wRound
  have a14 := Cu.wnt T (a13) e14
  have o15 := o14.modeS
  have q15 := q14.modeS
  have a15 := Cu.modeS T (a14) e15
  have o16 := o15.wnt sSemi
  have q16 := q15.wnt sSemi
  have a16 := Cu.wnt T (a15) e16
  have o17 := Ok.adjsS X.length (P.wnt X (P.modeS X (P.wnt X (P.wnt X (P.wnt X (P.numS X (P.wnt X (P.wnt X (P.tiersS X X.length (P.wnt X (P.kindS X (P.optS X (P.optS X (P.wnt X (P.winS X (P.tkn X s 1).2).2 sOpen) wAllowance 0).2 wBlock 1).2).2 sOpen) []).2 wRest) wRate) 6 1000000000000).2 sSemi) sShut) wRound)).2 sSemi) [] o16
  have q17 := Ok.adjsS C.length (P.wnt C (P.modeS C (P.wnt C (P.wnt C (P.wnt C (P.numS C (P.wnt C (P.wnt C (P.tiersS C C.length (P.wnt C (P.kindS C (P.optS C (P.optS C (P.wnt C (P.winS C (P.tkn C c 1).2).2 sOpen) wAllowance 0).2 wBlock 1).2).2 sOpen) []).2 wRest) wRate) 6 1000000000000).2 sSemi) sShut) wRound)).2 sSemi) [] q16
  have a17 := Cu.adjsSF T o16 q16 (a16) e17
  exact Cu.wnt4 T (a17) e
end
end Go.Proofs.YtjgogpaedaffkaaGreat.P
/- What a plan that a text tells is made of: names that are names, numbers within their limits, days that there are. Pure: no program is named here. -/
namespace Go.Proofs.YtjgogpaedaffkaaGreat.P
open Go.RowKit Mm R6
def NmOk (b : ByteArray) : Prop := kd b.data.toList = 1 ∧ b.size ≤ 8192
def DayOk (d : Day) : Prop := good d.y d.m d.d = true
def WinOk (w : Win) : Prop := (w.has = true ∧ DayOk w.a ∧ DayOk w.b) ∨ w = ⟨false, ⟨0, 0, 0⟩, ⟨0, 0, 0⟩⟩
def NumOk (n most : Int) : Prop := 0 ≤ n ∧ n ≤ most
structure TierOk (t : Tier) : Prop where
  upto : NumOk t.upto 1000000
  rate : NumOk t.rate 1000000000000
def AdjOk (a : Adj) : Prop := (a.kind = 1 ∧ NumOk a.num 100000000 ∧ NumOk a.mode 3) ∨ ((a.kind = 2 ∨ a.kind = 3 ∨ a.kind = 4) ∧ NumOk a.num 1000000000000 ∧ a.mode = 0)
structure ChOk (c : Charge) : Prop where
  meter : NmOk c.meter
  win : WinOk c.win
  allow : NumOk c.allowance 1000000
  block : NumOk c.block 1000000
  kind : c.kind = 1 ∨ c.kind = 2
  tiers : ∃ ts r, c.tiers = ts ++ [⟨0, r⟩] ∧ (∀ t ∈ ts, TierOk t) ∧ NumOk r 1000000000000
  mode : NumOk c.mode 3
  adjs : ∀ a ∈ c.adjusts, AdjOk a
structure Gd (p : Plan) : Prop where
  name : NmOk p.name ∧ NmOk p.cur
  days : DayOk p.a ∧ DayOk p.b
  meters : ∀ m ∈ p.meters, NmOk m.name ∧ NmOk m.unit ∧ NumOk m.max 2000
  fees : ∀ f ∈ p.fees, NumOk f.amount 1000000000000 ∧ WinOk f.win
  charges : ∀ c ∈ p.charges, ChOk c
variable {ts : List Tok} {s : St}
theorem i64_of {n m : Int} (h : NumOk n m) (hm : m ≤ 1000000000000) : 0 ≤ n ∧ I64 n := by
  obtain ⟨h1, h2⟩ := h
  unfold I64
  omega
end Go.Proofs.YtjgogpaedaffkaaGreat.P
/- A number's text cut at its point, and a rest's digits without the noughts at their end, as plain arithmetic: no program is named here. -/
namespace Go.Proofs.YtjgogpaedaffkaaGreat.P
open Go.RowKit
theorem fm_facts {l : List UInt8} (h : fm l ≠ 0) : isDg (l.getD 0 0) = true ∧ l.all isDp = true ∧ l.count 46 ≤ 1 ∧ (l.getLast? == some 46) = false ∧ oddHead l = false := by
  have h0 : isDg (l.getD 0 0) = true := by
    cases k : isDg (l.getD 0 0)
    · exact absurd (fm_first k) h
    · rfl
  have h1 : evenBody l = true := by
    cases k : evenBody l
    · exact absurd (fm_body k) h
    · rfl
  have h2 : oddHead l = false := by
    cases k : oddHead l
    · rfl
    · exact absurd (fm_head k) h
  unfold evenBody at h1
  simp only [Bool.and_eq_true, decide_eq_true_eq, Bool.not_eq_true'] at h1
  exact ⟨h0, h1.1, h1.2.1, h1.2.2, h2⟩
end Go.Proofs.YtjgogpaedaffkaaGreat.P
/- A plan's text as tokens. Pure: no program is named here. -/
namespace Go.Proofs.YtjgogpaedaffkaaGreat.P
open Go.RowKit Mm R6
abbrev TkL := List (Nat × List UInt8)
/-- A text's tokens, but for their places. -/
def Lx (l : List UInt8) (xs : TkL) : Prop := ∀ ln cl, (lex l ln cl).2 = none ∧ ((lex l ln cl).1.map fun t => (t.k, t.t)) = xs
theorem gap_35 {c : UInt8} (h : isGap c = true) : (c == 35) = false := by
  unfold isGap at h
  simp only [Bool.or_eq_true, beq_iff_eq] at h
  rcases h with ((rfl | rfl) | rfl) | rfl <;> rfl
theorem Lx.gap {c : UInt8} {l : List UInt8} {xs : TkL} (hc : isGap c = true) (h : Lx l xs) : Lx (c :: l) xs := fun ln cl => by
  have hp : piece (c :: l) = 1 := by rw [piece_cons, gap_35 hc, hc]; rfl
  rw [lex_skip (by unfold skips; rw [hc, Bool.or_true]) ln cl, hp]
  exact h _ _
theorem lt_skip {c : UInt8} (h : isLt c = true) : skips c = false ∧ (c == 35) = false ∧ isGap c = false := by
  unfold isLt at h
  rw [decide_eq_true_eq] at h
  have k : ∀ x : UInt8, c.toNat ≠ x.toNat → (c == x) = false := fun x hx => by
    rw [beq_eq_false_iff_ne]; intro e; exact hx (by rw [e])
  have e1 := k 35 (by show c.toNat ≠ 35; omega)
  have e2 := k 32 (by show c.toNat ≠ 32; omega)
  have e3 := k 9 (by show c.toNat ≠ 9; omega)
  have e4 := k 10 (by show c.toNat ≠ 10; omega)
  have e5 := k 13 (by show c.toNat ≠ 13; omega)
  have g : isGap c = false := by unfold isGap; rw [e2, e3, e4, e5]; rfl
  exact ⟨by unfold skips; rw [e1, g]; rfl, e1, g⟩
theorem Lx.word {t l : List UInt8} {x : UInt8} {xs : TkL} {k : Nat} (ht : t.all isLt = true ∧ t ≠ []) (hk : kd t = k) (h0 : k ≠ 0) (hx : isLt x = false) (h : Lx (x :: l) xs) : Lx (t ++ x :: l) ((k, t) :: xs) := fun ln cl => by
  cases t with
  | nil => exact absurd rfl ht.2
  | cons c r =>
    have hc : isLt c = true ∧ r.all isLt = true := by have := ht.1; rw [List.all_cons, Bool.and_eq_true] at this; exact this
    obtain ⟨s1, s2, s3⟩ := lt_skip hc.1
    have hp : piece (c :: (r ++ x :: l)) = (c :: r).length := by
      rw [piece_cons, s2, s3, hc.1, run_whole r l hc.2 hx]; rfl
    have e1 : (c :: (r ++ x :: l)).take (piece (c :: (r ++ x :: l))) = c :: r := by
      rw [hp, ← List.cons_append, List.take_left]
    have e2 : (c :: (r ++ x :: l)).drop (piece (c :: (r ++ x :: l))) = x :: l := by
      rw [hp, ← List.cons_append, List.drop_left]
    have := lex_tok (c := c) (r := r ++ x :: l) s1 (by rw [e1, hk]; exact h0) ln cl
    rw [e1, e2] at this
    rw [List.cons_append, this]
    obtain ⟨h1, h2⟩ := h ln (cl + piece (c :: (r ++ x :: l)))
    exact ⟨h1, by rw [List.map_cons, h2, hk]⟩
theorem Lx.sign {c : UInt8} {l : List UInt8} {xs : TkL} (hc : c = 123 ∨ c = 125 ∨ c = 59) (h : Lx l xs) : Lx (c :: l) ((5, [c]) :: xs) := fun ln cl => by
  have q : skips c = false ∧ (c == 35) = false ∧ isGap c = false ∧ isLt c = false ∧ kd [c] = 5 := by rcases hc with rfl | rfl | rfl <;> decide
  obtain ⟨s1, s2, s3, s4, s5⟩ := q
  have hp : piece (c :: l) = 1 := by rw [piece_cons, s2, s3, s4]; rfl
  have := lex_tok (c := c) (r := l) s1 (by rw [hp]; show kd [c] ≠ 0; rw [s5]; decide) ln cl
  rw [hp] at this
  have e : (c :: l).take 1 = [c] := rfl
  have e2 : (c :: l).drop 1 = l := rfl
  rw [e, e2, s5] at this
  rw [this]
  obtain ⟨h1, h2⟩ := h ln (cl + 1)
  exact ⟨h1, by rw [List.map_cons, h2]⟩
theorem Lx.tabs {l : List UInt8} {xs : TkL} (h : Lx l xs) : ∀ d, Lx (List.replicate d 9 ++ l) xs
  | 0 => h
  | d + 1 => Lx.gap (by decide) (Lx.tabs h d)
theorem Lx.ln {s l : List UInt8} {xs : TkL} (d : Nat) (h : Lx (s ++ 10 :: l) xs) : Lx (ln d s ++ l) xs := by
  have := h.tabs d
  unfold P.ln
  simpa [List.append_assoc] using this
theorem words_dg : words.all (fun w => !isDg (w.getD 0 0)) = true := by decide
theorem word_no {l : List UInt8} (h : isDg (l.getD 0 0) = true) : words.contains l = false := by
  cases e : words.contains l with
  | false => rfl
  | true =>
    rw [List.contains_eq_mem, decide_eq_true_eq] at e
    have := List.all_eq_true.1 words_dg l e
    rw [h] at this
    exact absurd this (by decide)
theorem sign_no {l : List UInt8} (h : isDg (l.getD 0 0) = true) : ¬ (l = [123] ∨ l = [125] ∨ l = [59]) := by
  rintro (rfl | rfl | rfl) <;> exact absurd h (by decide)
theorem kd_num {l : List UInt8} (h : fm l ≠ 0) : kd l = 3 ∧ l.all isLt = true ∧ l ≠ [] := by
  obtain ⟨h1, _⟩ := fm_facts h
  have h2 := fm_lt h
  refine ⟨?_, h2⟩
  unfold kd
  rw [if_neg (sign_no h1), if_neg (by rintro (k | k); exact h2.2 k; rw [h2.1] at k; cases k), word_no h1, if_neg (by decide), h1, if_neg (by simp), if_pos h]
theorem kd_day {d : Day} (h : DayOk d) : kd (dayT d) = 4 ∧ (dayT d).all isLt = true ∧ dayT d ≠ [] ∧ dayOf' (dayT d) = d := by
  unfold DayOk at h
  have e : dayT d = txt d.y d.m d.d := by unfold dayT; rw [if_pos h]
  obtain ⟨g0, g1, g2, g3, g4, g5⟩ := good_small h
  have r := reads_txt h
  have lt := reads_lt r
  obtain ⟨o1, o2, o3⟩ := of_txt g0 g1 g2 g3 g4 g5
  rw [e]
  have hd : isDg ((txt d.y d.m d.d).getD 0 0) = true := by rw [txt_is]; exact isDg_dch (by omega)
  have h45 : (45 : UInt8) ∈ txt d.y d.m d.d := by unfold txt; simp
  have hp : plain (txt d.y d.m d.d) = false := by
    unfold plain
    rw [List.all_eq_false]
    exact ⟨45, h45, by decide⟩
  have hf : fm (txt d.y d.m d.d) = 0 := by
    cases Nat.eq_zero_or_pos (fm (txt d.y d.m d.d)) with
    | inl k => exact k
    | inr k =>
      have := (fm_facts (by omega : fm (txt d.y d.m d.d) ≠ 0)).2.1
      have := List.all_eq_true.1 this 45 h45
      exact absurd this (by decide)
  refine ⟨?_, lt.1, lt.2, ?_⟩
  · unfold kd
    rw [if_neg (sign_no hd), if_neg (by rintro (k | k); exact lt.2 k; rw [lt.1] at k; cases k), word_no hd, if_neg (by decide), hp, Bool.false_and, if_neg (by decide), if_neg (by rw [hf]; decide), if_pos r]
  · unfold dayOf'
    rw [if_pos r, o1, o2, o3]
theorem kd_nmb (n : Int) : kd (nmbT n) = 3 ∧ (nmbT n).all isLt = true ∧ nmbT n ≠ [] := by
  have := fm_whole (dec_digits n.toNat) (dec_ne n.toNat) (dec_oddHead n.toNat)
  exact kd_num (by unfold nmbT; rw [this]; decide)
theorem kd_dec (n : Int) (p : Nat) : kd (decT n p) = 3 ∧ (decT n p).all isLt = true ∧ decT n p ≠ [] := by
  refine kd_num ?_
  unfold decT
  rw [tx_fm]
  split <;> decide
theorem kd_name {b : ByteArray} (h : NmOk b) : kd b.data.toList = 1 ∧ b.data.toList.all isLt = true ∧ b.data.toList ≠ [] := by
  refine ⟨h.1, ?_⟩
  have k := h.1
  unfold kd at k
  split at k
  · exact absurd k (by decide)
  · split at k
    · exact absurd k (by decide)
    · rename_i h2
      rw [not_or] at h2
      exact ⟨by simpa using h2.2, h2.1⟩
theorem kd_mode {m : Int} (h : NumOk m 3) : kd (modeT m) = 2 ∧ (modeT m).all isLt = true ∧ modeT m ≠ [] := by
  obtain ⟨h1, h2⟩ := h
  rcases (show m = 0 ∨ m = 1 ∨ m = 2 ∨ m = 3 by omega) with rfl | rfl | rfl | rfl <;> exact ⟨by decide, by decide, by decide⟩
def smX : Nat × List UInt8 := (5, sSemi)
def winX (w : Win) : TkL := if w.has then [(2, wFrom), (4, dayT w.a), (2, wTo), (4, dayT w.b)] else []
def meterX (m : Meter) : TkL := [(2, wMeter), (1, m.name.data.toList), (2, wUnit), (1, m.unit.data.toList), (2, wMax), (3, nmbT m.max), smX]
def feeX (f : Fee) : TkL := (2, wFee) :: (3, nmbT f.amount) :: (winX f.win ++ [smX])
def tierX (t : Tier) : TkL := [(2, wUpto), (3, nmbT t.upto), (2, wRate), (3, decT t.rate 6), smX]
def restX (r : Int) : TkL := [(2, wRest), (2, wRate), (3, decT r 6), smX]
def adjX (a : Adj) : TkL := if a.kind = 1 then [(2, wPercent), (3, decT a.num 3), (2, modeT a.mode), smX] else if a.kind = 2 then [(2, wCap), (3, nmbT a.num), smX] else if a.kind = 3 then [(2, wMinimum), (3, nmbT a.num), smX] else [(2, wAdd), (3, nmbT a.num), smX]
/-- A charge's tokens, whose tiers are these, and the last one's rate that. -/
def chargeX (c : Charge) (ts : List Tier) (r : Int) : TkL :=
  (2, wCharge) :: (1, c.meter.data.toList) :: (winX c.win ++ (5, sOpen) :: ((if c.allowance = 0 then [] else [(2, wAllowance), (3, nmbT c.allowance), smX]) ++ ((if c.block = 1 then [] else [(2, wBlock), (3, nmbT c.block), smX]) ++
    (2, kindT c.kind) :: (5, sOpen) :: (ts.flatMap tierX ++ (restX r ++ (5, sShut) :: (2, wRound) :: (2, modeT c.mode) :: smX :: (c.adjusts.flatMap adjX ++ [(5, sShut)]))))))
theorem Lx.kw {t l : List UInt8} {x : UInt8} {xs : TkL} (ht : (kd t = 2 ∧ t.all isLt = true) ∧ t ≠ []) (hx : isLt x = false) (h : Lx (x :: l) xs) : Lx (t ++ x :: l) ((2, t) :: xs) := Lx.word ⟨ht.1.2, ht.2⟩ ht.1.1 (by decide) hx h
theorem Lx.num {t l : List UInt8} {x : UInt8} {xs : TkL} (ht : kd t = 3 ∧ t.all isLt = true ∧ t ≠ []) (hx : isLt x = false) (h : Lx (x :: l) xs) : Lx (t ++ x :: l) ((3, t) :: xs) := Lx.word ⟨ht.2.1, ht.2.2⟩ ht.1 (by decide) hx h
theorem Lx.nm {b : ByteArray} {l : List UInt8} {x : UInt8} {xs : TkL} (hb : NmOk b) (hx : isLt x = false) (h : Lx (x :: l) xs) : Lx (b.data.toList ++ x :: l) ((1, b.data.toList) :: xs) := Lx.word (kd_name hb).2 (kd_name hb).1 (by decide) hx h
theorem Lx.sp {l : List UInt8} {xs : TkL} (h : Lx l xs) : Lx (32 :: l) xs := Lx.gap (by decide) h
theorem Lx.semi {l : List UInt8} {xs : TkL} (h : Lx l xs) : Lx (59 :: 10 :: l) (smX :: xs) := Lx.sign (by decide) (Lx.gap (by decide) h)
theorem Lx.win {w : Win} {l : List UInt8} {y : UInt8} {xs : TkL} (hw : WinOk w) (hy : isLt y = false) (h : Lx (y :: l) xs) : ∃ x r, winT w ++ y :: l = x :: r ∧ isLt x = false ∧ Lx (x :: r) (winX w ++ xs) := by
  rcases hw with ⟨h1, h2, h3⟩ | rfl
  · have a := kd_day h2
    have b := kd_day h3
    refine ⟨32, wFrom ++ 32 :: (dayT w.a ++ 32 :: (wTo ++ 32 :: (dayT w.b ++ y :: l))), ?_, by decide, ?_⟩
    · unfold winT
      rw [h1]
      simp [bFrom, bTo, wFrom, wTo]
    · unfold winX
      rw [h1]
      exact Lx.sp (Lx.kw (by decide) (by decide) (Lx.sp (Lx.word ⟨a.2.1, a.2.2.1⟩ a.1 (by decide) (by decide) (Lx.sp (Lx.kw (by decide) (by decide) (Lx.sp (Lx.word ⟨b.2.1, b.2.2.1⟩ b.1 (by decide) hy h)))))))
  · exact ⟨y, l, rfl, hy, h⟩
theorem Lx.meter {m : Meter} {l : List UInt8} {xs : TkL} (h1 : NmOk m.name) (h2 : NmOk m.unit) (h : Lx l xs) : Lx (meterT m ++ l) (meterX m ++ xs) := by
  unfold meterT tellT
  rw [join6]
  refine Lx.ln 0 ?_
  have := Lx.kw (t := wMeter) (by decide) (by decide) (Lx.sp (Lx.nm h1 (by decide) (Lx.sp (Lx.kw (t := wUnit) (by decide) (by decide) (Lx.sp (Lx.nm h2 (by decide) (Lx.sp (Lx.kw (t := wMax) (by decide) (by decide) (Lx.sp (Lx.num (kd_nmb m.max) (by decide) (Lx.semi h)))))))))))
  simpa [List.append_assoc, meterX] using this
theorem Lx.tier {t : Tier} {l : List UInt8} {xs : TkL} (h : Lx l xs) : Lx (tierT false t ++ l) (tierX t ++ xs) := by
  unfold tierT tellT
  rw [if_neg (by decide), join4]
  refine Lx.ln 2 ?_
  have := Lx.kw (t := wUpto) (by decide) (by decide) (Lx.sp (Lx.num (kd_nmb t.upto) (by decide) (Lx.sp (Lx.kw (t := wRate) (by decide) (by decide) (Lx.sp (Lx.num (kd_dec t.rate 6) (by decide) (Lx.semi h)))))))
  simpa [List.append_assoc, tierX] using this
theorem Lx.adj {a : Adj} {l : List UInt8} {xs : TkL} (ha : AdjOk a) (h : Lx l xs) : Lx (adjT a ++ l) (adjX a ++ xs) := by
  unfold adjT adjX tellT
  rcases ha with ⟨k, _, k3⟩ | ⟨k | k | k, _, _⟩
  · rw [if_pos k, if_pos k, join3]
    refine Lx.ln 1 ?_
    have m := kd_mode k3
    have := Lx.kw (t := wPercent) (by decide) (by decide) (Lx.sp (Lx.num (kd_dec a.num 3) (by decide) (Lx.sp (Lx.kw ⟨⟨m.1, m.2.1⟩, m.2.2⟩ (by decide) (Lx.semi h)))))
    simpa [List.append_assoc] using this
  · rw [k, if_neg (by decide), if_pos rfl, if_neg (by decide), if_pos rfl, join2]
    refine Lx.ln 1 ?_
    have := Lx.kw (t := wCap) (by decide) (by decide) (Lx.sp (Lx.num (kd_nmb a.num) (by decide) (Lx.semi h)))
    simpa [List.append_assoc] using this
  · rw [k, if_neg (by decide), if_neg (by decide), if_pos rfl, if_neg (by decide), if_neg (by decide), if_pos rfl, join2]
    refine Lx.ln 1 ?_
    have := Lx.kw (t := wMinimum) (by decide) (by decide) (Lx.sp (Lx.num (kd_nmb a.num) (by decide) (Lx.semi h)))
    simpa [List.append_assoc] using this
  · rw [k, if_neg (by decide), if_neg (by decide), if_neg (by decide), if_pos rfl, if_neg (by decide), if_neg (by decide), if_neg (by decide), join2]
    refine Lx.ln 1 ?_
    have := Lx.kw (t := wAdd) (by decide) (by decide) (Lx.sp (Lx.num (kd_nmb a.num) (by decide) (Lx.semi h)))
    simpa [List.append_assoc] using this
theorem Lx.allow {n : Int} {l : List UInt8} {xs : TkL} (h : Lx l xs) : Lx ((if n = 0 then [] else tellT 1 [wAllowance, nmbT n]) ++ l) ((if n = 0 then [] else [(2, wAllowance), (3, nmbT n), smX]) ++ xs) := by
  by_cases g : n = 0
  · rw [if_pos g, if_pos g]
    exact h
  · rw [if_neg g, if_neg g]
    unfold tellT
    rw [join2]
    refine Lx.ln 1 ?_
    have := Lx.kw (t := wAllowance) (by decide) (by decide) (Lx.sp (Lx.num (kd_nmb n) (by decide) (Lx.semi h)))
    simpa only [List.append_assoc, List.cons_append, List.nil_append] using this
end Go.Proofs.YtjgogpaedaffkaaGreat.P
/- The tokens of a plan's text, read: the plan again. Pure: no program is named here. -/
namespace Go.Proofs.YtjgogpaedaffkaaGreat.P
open Go.RowKit Mm R6
/-- From the next token on these stand, and nothing is wrong. -/
def At (ts : List Tok) (s : St) (xs : TkL) : Prop := s.err = 0 ∧ (ts.drop s.i).map (fun t => (t.k, t.t)) = xs
variable {ts : List Tok} {s : St}
theorem At.get {k : Nat} {l : List UInt8} {r : TkL} (h : At ts s ((k, l) :: r)) : ∃ t, ts[s.i]? = some t ∧ t.k = k ∧ t.t = l := by
  have := congrArg (·[0]?) h.2
  simp only [List.getElem?_map, List.getElem?_drop, Nat.add_zero, List.getElem?_cons_zero] at this
  obtain ⟨t, h1, h2⟩ := Option.map_eq_some_iff.1 this
  exact ⟨t, h1, congrArg Prod.fst h2, congrArg Prod.snd h2⟩
theorem At.tk {k : Nat} {l : List UInt8} {r : TkL} (h : At ts s ((k, l) :: r)) : (tk ts s).k = k ∧ (tk ts s).t = l := by
  obtain ⟨t, h1, h2, h3⟩ := h.get
  unfold P.tk
  rw [List.getD_eq_getElem?_getD, h1]
  exact ⟨h2, h3⟩
theorem At.lt {x : Nat × List UInt8} {r : TkL} (h : At ts s (x :: r)) : s.i < ts.length := by
  obtain ⟨t, h1, _⟩ := At.get (k := x.1) (l := x.2) h
  exact (List.getElem?_eq_some_iff.1 h1).1
theorem At.next {x : Nat × List UInt8} {r : TkL} (h : At ts s (x :: r)) : At ts s.next r := by
  refine ⟨h.1, ?_⟩
  have := congrArg List.tail h.2
  rw [List.tail_cons, ← List.drop_one, ← List.map_drop, List.drop_drop] at this
  exact this
theorem At.len {xs : TkL} (h : At ts s xs) : xs.length ≤ ts.length := by
  rw [← h.2, List.length_map, List.length_drop]
  omega
theorem At.on {k : Nat} {l l' : List UInt8} {r : TkL} (h : At ts s ((k, l) :: r)) (hk : k = 2 ∨ k = 5) : onW ts s l' = (l == l') := by
  unfold onW
  rw [h.tk.1, h.tk.2, decide_eq_true h.1]
  rcases hk with rfl | rfl <;> simp
theorem At.off {k : Nat} {l l' : List UInt8} {r : TkL} (h : At ts s ((k, l) :: r)) (hl : l ≠ l') : onW ts s l' = false := by
  unfold onW
  rw [h.tk.2, beq_eq_false_iff_ne.2 hl, Bool.and_false, Bool.and_false]
theorem At.wnt {k : Nat} {l : List UInt8} {r : TkL} (h : At ts s ((k, l) :: r)) (hk : k = 2 ∨ k = 5) : At ts (wnt ts s l) r := by
  unfold P.wnt
  rw [h.on hk, beq_self_eq_true, if_pos rfl]
  exact h.next
theorem At.isTk {k : Nat} {l : List UInt8} {r : TkL} (h : At ts s ((k, l) :: r)) : isTk ts s k = true := by
  unfold P.isTk
  rw [h.tk.1, decide_eq_true h.1]; simp
theorem At.tkn {k : Nat} {l : List UInt8} {r : TkL} (h : At ts s ((k, l) :: r)) : (tkn ts s k).1 = l ∧ At ts (tkn ts s k).2 r := by
  unfold P.tkn
  rw [h.isTk, if_pos rfl]
  exact ⟨h.tk.2, h.next⟩
theorem At.num {l : List UInt8} {r : TkL} {p m n : Int} (h : At ts s ((3, l) :: r)) (h1 : pN l p m = n) (h2 : pW l p m = 0) : (numS ts s p m).1 = n ∧ At ts (numS ts s p m).2 r := by
  unfold numS
  rw [h.isTk, if_pos rfl, h.tk.2, h1, h2]
  exact ⟨rfl, h.next⟩
theorem nmb_tx (n : Int) : nmbT n = tx n.toNat 0 := by
  unfold nmbT tx tail
  rw [if_pos (show fs n.toNat 0 = [] from rfl), List.append_nil, show n.toNat / 10 ^ 0 = n.toNat by simp]
theorem At.nmb {r : TkL} {n m : Int} (hn : NumOk n m) (hm : m ≤ 1000000000000) (h : At ts s ((3, nmbT n) :: r)) : (numS ts s 0 m).1 = n ∧ At ts (numS ts s 0 m).2 r := by
  have a := i64_of hn hm
  have e : ((n.toNat : Nat) : Int) = n := by omega
  have t := tx_back (n := n.toNat) (p := 0) (by decide) m (by rw [e]; exact a.2) (by rw [e]; exact hn.2)
  rw [nmb_tx] at h
  rw [e] at t
  exact h.num t.1 t.2
theorem At.dec {r : TkL} {n m : Int} {p : Nat} (hp : p ≤ 9) (hn : NumOk n m) (hm : m ≤ 1000000000000) (h : At ts s ((3, decT n p) :: r)) : (numS ts s (p : Int) m).1 = n ∧ At ts (numS ts s (p : Int) m).2 r := by
  have a := i64_of hn hm
  have e : ((n.toNat : Nat) : Int) = n := by omega
  have t := tx_back (n := n.toNat) (p := p) hp m (by rw [e]; exact a.2) (by rw [e]; exact hn.2)
  rw [e] at t
  exact h.num t.1 t.2
theorem At.day {d : Day} {r : TkL} (hd : DayOk d) (h : At ts s ((4, dayT d) :: r)) : (dayS ts s).1 = d ∧ At ts (dayS ts s).2 r := by
  obtain ⟨h1, h2⟩ := h.tkn
  exact ⟨by show dayOf' (P.tkn ts s 4).1 = d; rw [h1, (kd_day hd).2.2.2], h2⟩
theorem At.win {w : Win} {k : Nat} {l : List UInt8} {r : TkL} (hw : WinOk w) (hl : l ≠ wFrom) (h : At ts s (winX w ++ (k, l) :: r)) : (winS ts s).1 = w ∧ At ts (winS ts s).2 ((k, l) :: r) := by
  unfold winS
  rcases hw with ⟨h1, h2, h3⟩ | rfl
  · unfold winX at h
    rw [h1] at h
    have h : At ts s ((2, wFrom) :: (4, dayT w.a) :: (2, wTo) :: (4, dayT w.b) :: (k, l) :: r) := h
    rw [h.on (.inl rfl), beq_self_eq_true, if_pos rfl]
    obtain ⟨a1, a2⟩ := h.next.day h2
    obtain ⟨b1, b2⟩ := (a2.wnt (.inl rfl)).day h3
    refine ⟨?_, b2⟩
    simp only
    rw [a1, b1]
    cases w
    simp only at h1
    rw [h1]
  · have h : At ts s ((k, l) :: r) := h
    rw [h.off hl]
    exact ⟨rfl, h⟩
theorem At.opt {word l : List UInt8} {n d : Int} {k : Nat} {r : TkL} (hn : NumOk n 1000000) (hl : l ≠ word) (h : At ts s ((if n = d then [] else [(2, word), (3, nmbT n), smX]) ++ (k, l) :: r)) : (optS ts s word d).1 = n ∧ At ts (optS ts s word d).2 ((k, l) :: r) := by
  unfold optS
  by_cases g : n = d
  · rw [if_pos g] at h
    have h : At ts s ((k, l) :: r) := h
    rw [h.off hl]
    exact ⟨g.symm, h⟩
  · rw [if_neg g] at h
    have h : At ts s ((2, word) :: (3, nmbT n) :: smX :: (k, l) :: r) := h
    rw [h.on (.inl rfl), beq_self_eq_true, if_pos rfl]
    obtain ⟨a1, a2⟩ := h.next.nmb hn (by decide)
    exact ⟨a1, a2.wnt (.inr rfl)⟩
/-- Which of some words these letters are. -/
def oneP : List (List UInt8) → List UInt8 → Int → Option Int
  | [], _, _ => none
  | w :: r, l, k => if l = w then some k else oneP r l (k + 1)
theorem At.oneAt {k : Nat} {l : List UInt8} {r : TkL} (h : At ts s ((k, l) :: r)) (hk : k = 2 ∨ k = 5) : ∀ (ws : List (List UInt8)) (j : Int), oneAt ts s ws j = match oneP ws l j with | some i => (i, s.next) | none => (-1, s)
  | [], _ => rfl
  | w :: q, j => by
    unfold P.oneAt oneP
    rw [h.on hk]
    by_cases g : l = w
    · rw [if_pos g, g, beq_self_eq_true, if_pos rfl]
    · rw [if_neg g, beq_eq_false_iff_ne.2 g]
      exact At.oneAt h hk q (j + 1)
theorem At.one {k : Nat} {l : List UInt8} {r : TkL} {ws : List (List UInt8)} {i : Int} (h : At ts s ((k, l) :: r)) (hk : k = 2 ∨ k = 5) (e : oneP ws l 0 = some i) : oneS ts s ws = (i, s.next) := by
  unfold oneS
  rw [h.oneAt hk, e]
theorem At.none {k : Nat} {l : List UInt8} {r : TkL} {ws : List (List UInt8)} (h : At ts s ((k, l) :: r)) (hk : k = 2 ∨ k = 5) (e : oneP ws l 0 = Option.none) : oneS ts s ws = (-1, s) := by
  unfold oneS
  rw [h.oneAt hk, e]
theorem At.mode {m : Int} {r : TkL} (hm : NumOk m 3) (h : At ts s ((2, modeT m) :: r)) : (modeS ts s).1 = m ∧ At ts (modeS ts s).2 r := by
  have e : oneP modes (modeT m) 0 = some m := by
    obtain ⟨h1, h2⟩ := hm
    rcases (show m = 0 ∨ m = 1 ∨ m = 2 ∨ m = 3 by omega) with rfl | rfl | rfl | rfl <;> decide
  have o := h.one (.inl rfl) e
  unfold modeS
  rw [o, if_neg (by have := hm.1; show ¬ m < 0; omega)]
  exact ⟨rfl, h.next⟩
theorem At.kind {k : Int} {r : TkL} (hk : k = 1 ∨ k = 2) (h : At ts s ((2, kindT k) :: r)) : (kindS ts s).1 = k ∧ At ts (kindS ts s).2 r := by
  have e : oneP kinds (kindT k) 0 = some (k - 1) := by rcases hk with rfl | rfl <;> decide
  have o := h.one (.inl rfl) e
  unfold kindS
  simp only
  rw [o]
  refine ⟨by show 1 + (k - 1) = k; omega, ?_⟩
  rw [if_neg (by show ¬ 1 + (k - 1) = 0; omega)]
  exact h.next
theorem At.tier {t : Tier} {r : TkL} (ht : TierOk t) (h : At ts s ((3, nmbT t.upto) :: (2, wRate) :: (3, decT t.rate 6) :: smX :: r)) : (tierS ts s).1 = t ∧ At ts (tierS ts s).2 r := by
  obtain ⟨a1, a2⟩ := h.nmb ht.upto (by decide)
  obtain ⟨b1, b2⟩ := (a2.wnt (.inl rfl)).dec (p := 6) (by decide) ht.rate (by decide)
  exact ⟨by show (⟨_, _⟩ : Tier) = t; rw [a1]; show (⟨t.upto, (numS ts (P.wnt ts (numS ts s 0 1000000).2 wRate) ((6 : Nat) : Int) 1000000000000).1⟩ : Tier) = t; rw [b1], b2.wnt (.inr rfl)⟩
theorem At.tiers {r : TkL} : ∀ (xs : List Tier) (n : Nat) (s : St) (acc : List Tier), (∀ t ∈ xs, TierOk t) → xs.length < n → At ts s (xs.flatMap tierX ++ (2, wRest) :: r) → (tiersS ts n s acc).1 = acc ++ xs ∧ At ts (tiersS ts n s acc).2 ((2, wRest) :: r)
  | [], 0, _, _, _, hn, _ => absurd hn (by decide)
  | [], n + 1, s, acc, _, _, h => by
    have h : At ts s ((2, wRest) :: r) := h
    unfold tiersS
    rw [h.off (by decide)]
    exact ⟨by simp, h⟩
  | t :: q, 0, _, _, _, hn, _ => absurd hn (by simp)
  | t :: q, n + 1, s, acc, ht, hn, h => by
    rw [List.flatMap_cons, List.append_assoc] at h
    have h : At ts s ((2, wUpto) :: (3, nmbT t.upto) :: (2, wRate) :: (3, decT t.rate 6) :: smX :: (q.flatMap tierX ++ (2, wRest) :: r)) := h
    unfold tiersS
    rw [h.on (.inl rfl), beq_self_eq_true, if_pos rfl]
    obtain ⟨a1, a2⟩ := h.next.tier (ht t (List.mem_cons_self ..))
    obtain ⟨b1, b2⟩ := At.tiers q n _ (acc ++ [(tierS ts s.next).1]) (fun x hx => ht x (List.mem_cons_of_mem _ hx)) (by simpa using hn) a2
    exact ⟨by rw [b1, a1]; simp, b2⟩
theorem At.adj {a : Adj} {r : TkL} (ha : AdjOk a) (h : At ts s ((adjX a).tail ++ r)) : (adjS ts s a.kind).1 = a ∧ At ts (adjS ts s a.kind).2 r := by
  obtain ⟨k, n, m⟩ := a
  unfold adjX at h
  unfold adjS
  rcases ha with ⟨k1, k2, k3⟩ | ⟨k1, k2, k3⟩
  · simp only at k1 k2 k3
    subst k1
    have h : At ts s ((3, decT n 3) :: (2, modeT m) :: smX :: r) := h
    rw [if_pos rfl]
    obtain ⟨a1, a2⟩ := h.dec (p := 3) (by decide) k2 (by decide)
    obtain ⟨b1, b2⟩ := a2.mode k3
    refine ⟨?_, b2.wnt (.inr rfl)⟩
    show (⟨1, (numS ts s ((3 : Nat) : Int) 100000000).1, (modeS ts (numS ts s ((3 : Nat) : Int) 100000000).2).1⟩ : Adj) = _
    rw [a1, b1]
  · simp only at k1 k2 k3
    subst k3
    have h : At ts s ((3, nmbT n) :: smX :: r) := by
      rcases k1 with rfl | rfl | rfl <;> exact h
    have k0 : ¬ k = 1 := by omega
    rw [if_neg k0]
    obtain ⟨a1, a2⟩ := h.nmb k2 (by decide)
    exact ⟨by simp only; rw [a1], a2.wnt (.inr rfl)⟩
theorem adjX_head {a : Adj} (ha : AdjOk a) : ∃ w, adjX a = (2, w) :: (adjX a).tail ∧ oneP adjWords w 0 = some (a.kind - 1) := by
  unfold adjX
  rcases ha with ⟨k1, _, _⟩ | ⟨k1 | k1 | k1, _, _⟩ <;> rw [k1]
  · exact ⟨wPercent, rfl, by decide⟩
  · exact ⟨wCap, rfl, by decide⟩
  · exact ⟨wMinimum, rfl, by decide⟩
  · exact ⟨wAdd, rfl, by decide⟩
theorem At.adjs {r : TkL} : ∀ (xs : List Adj) (n : Nat) (s : St) (acc : List Adj), (∀ t ∈ xs, AdjOk t) → xs.length < n → At ts s (xs.flatMap adjX ++ (5, sShut) :: r) → (adjsS ts n s acc).1 = acc ++ xs ∧ At ts (adjsS ts n s acc).2 ((5, sShut) :: r)
  | [], 0, _, _, _, hn, _ => absurd hn (by decide)
  | [], n + 1, s, acc, _, _, h => by
    have h : At ts s ((5, sShut) :: r) := h
    have o := h.none (ws := adjWords) (.inr rfl) (by decide)
    unfold adjsS
    simp only
    rw [o, if_pos (show (1 : Int) + -1 = 0 by decide)]
    exact ⟨by simp, h⟩
  | t :: q, 0, _, _, _, hn, _ => absurd hn (by simp)
  | t :: q, n + 1, s, acc, ht, hn, h => by
    have hat := ht t (List.mem_cons_self ..)
    obtain ⟨w, e1, e2⟩ := adjX_head hat
    rw [List.flatMap_cons, List.append_assoc, e1] at h
    have h : At ts s ((2, w) :: ((adjX t).tail ++ (q.flatMap adjX ++ (5, sShut) :: r))) := h
    have o := h.one (.inl rfl) e2
    have ek : (1 : Int) + (t.kind - 1) = t.kind := by omega
    have k0 : ¬ t.kind = 0 := by rcases hat with ⟨k1, _, _⟩ | ⟨k1 | k1 | k1, _, _⟩ <;> omega
    unfold adjsS
    simp only
    rw [o]
    show (if 1 + (t.kind - 1) = 0 then _ else adjsS ts n (adjS ts s.next (1 + (t.kind - 1))).2 (acc ++ [(adjS ts s.next (1 + (t.kind - 1))).1])).1 = _ ∧ At ts (if 1 + (t.kind - 1) = 0 then _ else adjsS ts n (adjS ts s.next (1 + (t.kind - 1))).2 (acc ++ [(adjS ts s.next (1 + (t.kind - 1))).1])).2 _
    rw [ek, if_neg k0]
    obtain ⟨a1, a2⟩ := h.next.adj hat
    obtain ⟨b1, b2⟩ := At.adjs q n _ (acc ++ [(adjS ts s.next t.kind).1]) (fun x hx => ht x (List.mem_cons_of_mem _ hx)) (by simpa using hn) a2
    exact ⟨by rw [b1, a1]; simp, b2⟩
end Go.Proofs.YtjgogpaedaffkaaGreat.P
