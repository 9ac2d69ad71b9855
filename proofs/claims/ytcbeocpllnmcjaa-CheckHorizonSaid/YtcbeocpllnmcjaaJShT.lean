/- Letters and tokens, as plain functions on bytes: no program is named here. -/
import Derived.Test.YtcbeocpllnmcjaaJDatB
import Derived.Test.YtcbeocpllnmcjaaJDecP
import Derived.Test.YtcbeocpllnmcjaaJPureS
import Derived.Lib.ItoaLen
import Derived.Lib.Join
namespace Go.Proofs.Ytcbeocpllnmcjaa.P
open Go.RowKit
/-- A letter that may stand in a row. -/
def isLt (b : UInt8) : Bool := decide (b.toNat = 95 ∨ b.toNat = 46 ∨ b.toNat = 45 ∨ (48 ≤ b.toNat ∧ b.toNat ≤ 57) ∨ (97 ≤ b.toNat ∧ b.toNat ≤ 122) ∨ (65 ≤ b.toNat ∧ b.toNat ≤ 90))
def ltI (x : Int) : Bool := decide (x = 95 ∨ x = 46 ∨ x = 45 ∨ (48 ≤ x ∧ x ≤ 57) ∨ (97 ≤ x ∧ x ≤ 122) ∨ (65 ≤ x ∧ x ≤ 90))
theorem ltI_of (b : UInt8) : ltI ((b.toNat : Nat) : Int) = isLt b := by unfold ltI isLt; rw [decide_eq_decide]; omega
/-- The words that are no names. -/
def words : List (List UInt8) := [[112, 108, 97, 110], [99, 117, 114, 114, 101, 110, 99, 121], [104, 111, 114, 105, 122, 111, 110], [109, 101, 116, 101, 114], [117, 110, 105, 116], [109, 97, 120], [102, 101, 101],
  [99, 104, 97, 114, 103, 101], [102, 114, 111, 109], [116, 111], [97, 108, 108, 111, 119, 97, 110, 99, 101], [98, 108, 111, 99, 107], [103, 114, 97, 100, 117, 97, 116, 101, 100], [118, 111, 108, 117, 109, 101], [117, 112, 116, 111],
  [114, 97, 116, 101], [114, 101, 115, 116], [114, 111, 117, 110, 100], [102, 108, 111, 111, 114], [99, 101, 105, 108], [104, 97, 108, 102, 117, 112], [104, 97, 108, 102, 101, 118, 101, 110], [112, 101, 114, 99, 101, 110, 116], [99, 97, 112],
  [109, 105, 110, 105, 109, 117, 109], [97, 100, 100]]
/-- Whether a row has neither a point nor a stroke. -/
def plain (l : List UInt8) : Bool := l.all fun c => !(c == 46) && !(c == 45)
/-- Of what kind letters are; 0: of none. -/
def kd (l : List UInt8) : Nat :=
  if l = [123] ∨ l = [125] ∨ l = [59] then 5
  else if l = [] ∨ l.all isLt = false then 0
  else if words.contains l then 2
  else if plain l && !isDg (l.getD 0 0) then 1
  else if fm l ≠ 0 then 3
  else if reads l then 4
  else 0
end Go.Proofs.Ytcbeocpllnmcjaa.P
/- A text as tokens, as a plain function on bytes: no program is named here. -/
namespace Go.Proofs.Ytcbeocpllnmcjaa.P
open Go.RowKit
/-- A token: its kind, its letters, its place. -/
structure Tok where
  k : Nat
  t : List UInt8
  ln : Nat
  cl : Nat
deriving DecidableEq
def isGap (c : UInt8) : Bool := c == 32 || c == 9 || c == 10 || c == 13
def skips (c : UInt8) : Bool := c == 35 || isGap c
/-- How many letters stand in a row. -/
def run (p : UInt8 → Bool) : List UInt8 → Nat
  | [] => 0
  | c :: r => if p c then run p r + 1 else 0
theorem run_le (p : UInt8 → Bool) (l : List UInt8) : run p l ≤ l.length := by
  induction l with
  | nil => exact Nat.le_refl _
  | cons c r ih => unfold run; split <;> simp <;> omega
/-- It is the run's length that all before are, and that the next one is not. -/
theorem run_eq (p : UInt8 → Bool) (l : List UInt8) (n : Nat) (hn : n ≤ l.length) (h1 : ∀ j, j < n → p (l.getD j 0) = true) (h2 : n < l.length → p (l.getD n 0) = false) : run p l = n := by
  induction l generalizing n with
  | nil => simp at hn; simp [run, hn]
  | cons c r ih =>
    unfold run
    cases n with
    | zero =>
      have := h2 (by simp)
      rw [if_neg (by simpa using this)]
    | succ n =>
      have := h1 0 (by omega)
      rw [if_pos (by simpa using this), ih n (by simpa using hn) (fun j hj => by simpa using h1 (j + 1) (by omega)) (fun h => by simpa using h2 (by simpa using h))]
/-- Of how many bytes what stands at the head is. -/
def piece : List UInt8 → Nat
  | [] => 0
  | c :: r => if c == 35 then run (fun x => !(x == 10)) r + 1 else if isGap c then 1 else if isLt c then run isLt r + 1 else 1
theorem piece_cons (c : UInt8) (r : List UInt8) : piece (c :: r) = if c == 35 then run (fun x => !(x == 10)) r + 1 else if isGap c then 1 else if isLt c then run isLt r + 1 else 1 := rfl
theorem piece_pos (c : UInt8) (r : List UInt8) : 0 < piece (c :: r) := by rw [piece_cons]; repeat' split
                                                                          all_goals omega
theorem piece_le (l : List UInt8) : piece l ≤ l.length := by
  cases l with
  | nil => exact Nat.le_refl _
  | cons c r =>
    have h1 := run_le (fun x => !(x == 10)) r
    have h2 := run_le isLt r
    rw [piece_cons, List.length_cons]
    repeat' split
    all_goals omega
/-- All tokens from a place on; and the place of what is none, if there is such. -/
def lx : Nat → List UInt8 → Nat → Nat → List Tok × Option (Nat × Nat)
  | 0, _, ln, cl => ([⟨0, [], ln, cl⟩], none)
  | _ + 1, [], ln, cl => ([⟨0, [], ln, cl⟩], none)
  | n + 1, c :: r, ln, cl =>
    if skips c then lx n ((c :: r).drop (piece (c :: r))) (if c == 10 then ln + 1 else ln) (if c == 10 then 1 else cl + piece (c :: r))
    else if kd ((c :: r).take (piece (c :: r))) = 0 then ([], some (ln, cl))
    else (⟨kd ((c :: r).take (piece (c :: r))), (c :: r).take (piece (c :: r)), ln, cl⟩ :: (lx n ((c :: r).drop (piece (c :: r))) ln (cl + piece (c :: r))).1, (lx n ((c :: r).drop (piece (c :: r))) ln (cl + piece (c :: r))).2)
/-- More fuel changes nothing. -/
theorem lx_fuel (n m : Nat) (l : List UInt8) (ln cl : Nat) (hn : l.length ≤ n) (hm : l.length ≤ m) : lx n l ln cl = lx m l ln cl := by
  induction n generalizing m l ln cl with
  | zero =>
    obtain rfl : l = [] := List.eq_nil_of_length_eq_zero (by omega)
    cases m <;> rfl
  | succ n ih =>
    cases l with
    | nil => cases m <;> rfl
    | cons c r =>
      cases m with
      | zero => simp at hm
      | succ m =>
        have hp := piece_pos c r
        have hd : ((c :: r).drop (piece (c :: r))).length ≤ r.length := by rw [List.length_drop, List.length_cons]; omega
        simp only [List.length_cons] at hn hm
        unfold lx
        have e := fun ln cl => ih m ((c :: r).drop (piece (c :: r))) ln cl (by omega) (by omega)
        rw [e, e]
def lex (l : List UInt8) (ln cl : Nat) : List Tok × Option (Nat × Nat) := lx l.length l ln cl
theorem lex_nil (ln cl : Nat) : lex [] ln cl = ([⟨0, [], ln, cl⟩], none) := rfl
theorem lex_skip {c : UInt8} {r : List UInt8} (h : skips c = true) (ln cl : Nat) :
    lex (c :: r) ln cl = lex ((c :: r).drop (piece (c :: r))) (if c == 10 then ln + 1 else ln) (if c == 10 then 1 else cl + piece (c :: r)) := by
  have hp := piece_pos c r
  show lx (r.length + 1) (c :: r) ln cl = _
  unfold lx
  rw [if_pos h]
  exact lx_fuel _ _ _ _ _ (by rw [List.length_drop, List.length_cons]; omega) (Nat.le_refl _)
theorem lex_bad {c : UInt8} {r : List UInt8} (h : skips c = false) (hk : kd ((c :: r).take (piece (c :: r))) = 0) (ln cl : Nat) : lex (c :: r) ln cl = ([], some (ln, cl)) := by
  show lx (r.length + 1) (c :: r) ln cl = _
  unfold lx
  rw [if_neg (by rw [h]; decide), if_pos hk]
theorem lex_tok {c : UInt8} {r : List UInt8} (h : skips c = false) (hk : kd ((c :: r).take (piece (c :: r))) ≠ 0) (ln cl : Nat) :
    lex (c :: r) ln cl = (⟨kd ((c :: r).take (piece (c :: r))), (c :: r).take (piece (c :: r)), ln, cl⟩ :: (lex ((c :: r).drop (piece (c :: r))) ln (cl + piece (c :: r))).1, (lex ((c :: r).drop (piece (c :: r))) ln (cl + piece (c :: r))).2) := by
  have hp := piece_pos c r
  show lx (r.length + 1) (c :: r) ln cl = _
  unfold lx
  rw [if_neg (by rw [h]; decide), if_neg hk]
  rw [show lx r.length ((c :: r).drop (piece (c :: r))) ln (cl + piece (c :: r)) = lex ((c :: r).drop (piece (c :: r))) ln (cl + piece (c :: r)) from lx_fuel _ _ _ _ _ (by rw [List.length_drop, List.length_cons]; omega) (Nat.le_refl _)]
/-- What Lex answers: tokens, and the error's number and place. -/
def lexed (l : List UInt8) : List Tok × Nat × Nat × Nat :=
  if 8192 < l.length then ([], 6, 1, 1) else
    match (lex l 1 1).2 with
    | none => ((lex l 1 1).1, 0, 0, 0)
    | some (a, b) => ([], 3, a, b)
/-- No more tokens than bytes, and one. -/
theorem lx_count (n : Nat) (l : List UInt8) (ln cl : Nat) (hn : l.length ≤ n) : (lx n l ln cl).1.length ≤ l.length + 1 := by
  induction n generalizing l ln cl with
  | zero => simp [lx]
  | succ n ih =>
    cases l with
    | nil => simp [lx]
    | cons c r =>
      have hp := piece_pos c r
      have hd : ((c :: r).drop (piece (c :: r))).length ≤ r.length := by rw [List.length_drop, List.length_cons]; omega
      simp only [List.length_cons] at hn
      unfold lx
      have e := fun ln cl => ih ((c :: r).drop (piece (c :: r))) ln cl (by omega)
      split
      · refine Nat.le_trans (e _ _) ?_
        simp only [List.length_cons]; omega
      · split
        · simp
        · have := e ln (cl + piece (c :: r))
          simp only [List.length_cons]
          omega
theorem lex_count (l : List UInt8) (ln cl : Nat) : (lex l ln cl).1.length ≤ l.length + 1 := lx_count _ _ _ _ (Nat.le_refl _)
end Go.Proofs.Ytcbeocpllnmcjaa.P
/- A row of tokens, read from the left: what the document's parser does, as plain functions: no program is named here. -/
namespace Go.Proofs.Ytcbeocpllnmcjaa.P
open Go.RowKit Mm
/-- Which token is next, and what is wrong, and where. -/
structure St where
  i : Nat
  err : Int
  ln : Int
  cl : Int
def nil0 : Tok := ⟨0, [], 0, 0⟩
def tk (ts : List Tok) (s : St) : Tok := ts.getD s.i nil0
def St.next (s : St) : St := { s with i := s.i + 1 }
/-- The first thing that is wrong counts. -/
def wrg (ts : List Tok) (s : St) (e : Int) : St := if s.err = 0 then { s with err := e, ln := (tk ts s).ln, cl := (tk ts s).cl } else s
def onW (ts : List Tok) (s : St) (l : List UInt8) : Bool := decide (s.err = 0) && ((decide ((tk ts s).k = 2) || decide ((tk ts s).k = 5)) && ((tk ts s).t == l))
def tke (ts : List Tok) (s : St) (l : List UInt8) : Bool × St := if onW ts s l then (true, s.next) else (false, s)
def wnt (ts : List Tok) (s : St) (l : List UInt8) : St := if onW ts s l then s.next else wrg ts s 4
def isTk (ts : List Tok) (s : St) (k : Nat) : Bool := decide (s.err = 0) && decide ((tk ts s).k = k)
def tkn (ts : List Tok) (s : St) (k : Nat) : List UInt8 × St := if isTk ts s k then ((tk ts s).t, s.next) else ([], wrg ts s 4)
def bad (ts : List Tok) (s : St) (v : Int) : St := if v = 1 then wrg ts s 4 else if v = 2 then wrg ts s 6 else s
def numS (ts : List Tok) (s : St) (places most : Int) : Int × St :=
  if isTk ts s 3 then (pN (tk ts s).t places most, (bad ts s (pW (tk ts s).t places most)).next) else (0, wrg ts s 4)
def dayOf' (l : List UInt8) : Day := if reads l then ⟨yearOf l, monthOf l, dayOf l⟩ else ⟨0, 0, 0⟩
def dayS (ts : List Tok) (s : St) : Day × St := (dayOf' (tkn ts s 4).1, (tkn ts s 4).2)
def wFrom : List UInt8 := [102, 114, 111, 109]
def wTo : List UInt8 := [116, 111]
def winS (ts : List Tok) (s : St) : Win × St :=
  if onW ts s wFrom then
    let a := dayS ts s.next
    let b := dayS ts (wnt ts a.2 wTo)
    (⟨true, a.1, b.1⟩, b.2)
  else (⟨false, ⟨0, 0, 0⟩, ⟨0, 0, 0⟩⟩, s)
/-- Which of some words is next. -/
def oneAt (ts : List Tok) (s : St) : List (List UInt8) → Int → Int × St
  | [], _ => (-1, s)
  | w :: r, k => if onW ts s w then (k, s.next) else oneAt ts s r (k + 1)
def oneS (ts : List Tok) (s : St) (ws : List (List UInt8)) : Int × St := oneAt ts s ws 0
def modes : List (List UInt8) := [[102, 108, 111, 111, 114], [99, 101, 105, 108], [104, 97, 108, 102, 117, 112], [104, 97, 108, 102, 101, 118, 101, 110]]
def modeS (ts : List Tok) (s : St) : Int × St := if (oneS ts s modes).1 < 0 then (0, wrg ts (oneS ts s modes).2 4) else oneS ts s modes
/-- The row of tokens ends with the end, and nothing else in it is of that kind. -/
structure Toks (ts : List Tok) : Prop where
  last : ∀ i t, ts[i]? = some t → i + 1 = ts.length → t.k = 0
  pos : 0 < ts.length
structure Ok (ts : List Tok) (s : St) : Prop where
  toks : Toks ts
  lt : s.i < ts.length
theorem Ok.at {ts : List Tok} {s : St} (h : Ok ts s) : ts[s.i]? = some (tk ts s) := by
  unfold tk
  rw [List.getElem?_eq_getElem h.lt, List.getD_eq_getElem?_getD, List.getElem?_eq_getElem h.lt]
  rfl
theorem Ok.next {ts : List Tok} {s : St} (h : Ok ts s) (hk : (tk ts s).k ≠ 0) : Ok ts s.next := by
  refine ⟨h.toks, ?_⟩
  show s.i + 1 < ts.length
  have := h.lt
  rcases Nat.lt_or_ge (s.i + 1) ts.length with h1 | h1
  · exact h1
  · exact absurd (h.toks.last s.i _ h.at (by omega)) hk
theorem Ok.wrg {ts : List Tok} {s : St} (h : Ok ts s) (e : Int) : Ok ts (wrg ts s e) := by
  unfold P.wrg
  split
  · exact ⟨h.toks, h.lt⟩
  · exact h
theorem wrg_i (ts : List Tok) (s : St) (e : Int) : (wrg ts s e).i = s.i := by unfold wrg; split <;> rfl
theorem onW_k {ts : List Tok} {s : St} {l : List UInt8} (h : onW ts s l = true) : (tk ts s).k ≠ 0 := by
  unfold onW at h
  simp only [Bool.and_eq_true, Bool.or_eq_true, decide_eq_true_eq] at h
  omega
theorem isTk_k {ts : List Tok} {s : St} {k : Nat} (h : isTk ts s k = true) (hk : k ≠ 0) : (tk ts s).k ≠ 0 := by
  unfold isTk at h
  simp only [Bool.and_eq_true, decide_eq_true_eq] at h
  omega
theorem Ok.wnt {ts : List Tok} {s : St} (h : Ok ts s) (l : List UInt8) : Ok ts (wnt ts s l) := by
  unfold P.wnt
  split
  · rename_i ho; exact h.next (onW_k ho)
  · exact h.wrg 4
theorem Ok.tkn {ts : List Tok} {s : St} (h : Ok ts s) {k : Nat} (hk : k ≠ 0) : Ok ts (tkn ts s k).2 := by
  unfold P.tkn
  split
  · rename_i ho; exact h.next (isTk_k ho hk)
  · exact h.wrg 4
theorem Ok.numS {ts : List Tok} {s : St} (h : Ok ts s) (places most : Int) : Ok ts (numS ts s places most).2 := by
  unfold P.numS
  split
  · rename_i ho
    have hn := (h.next (isTk_k ho (by decide))).lt
    refine ⟨h.toks, ?_⟩
    have e : (bad ts s (pW (tk ts s).t places most)).i = s.i := by
      unfold bad
      repeat' split
      · exact wrg_i ..
      · exact wrg_i ..
      · rfl
    show (bad ts s _).i + 1 < _
    rw [e]
    exact hn
  · exact h.wrg 4
theorem Ok.dayS {ts : List Tok} {s : St} (h : Ok ts s) : Ok ts (dayS ts s).2 := h.tkn (by decide)
theorem Ok.winS {ts : List Tok} {s : St} (h : Ok ts s) : Ok ts (winS ts s).2 := by
  unfold P.winS
  split
  · rename_i ho; exact (((h.next (onW_k ho)).dayS).wnt _).dayS
  · exact h
theorem Ok.oneAt {ts : List Tok} {s : St} (h : Ok ts s) : ∀ (ws : List (List UInt8)) (k : Int), Ok ts (oneAt ts s ws k).2
  | [], _ => h
  | w :: r, k => by
    unfold P.oneAt
    split
    · rename_i ho; exact h.next (onW_k ho)
    · exact Ok.oneAt h r (k + 1)
theorem Ok.oneS {ts : List Tok} {s : St} (h : Ok ts s) (ws : List (List UInt8)) : Ok ts (oneS ts s ws).2 := h.oneAt ws 0
theorem Ok.modeS {ts : List Tok} {s : St} (h : Ok ts s) : Ok ts (modeS ts s).2 := by
  unfold P.modeS
  split
  · exact (h.oneS _).wrg 4
  · exact h.oneS _
end Go.Proofs.Ytcbeocpllnmcjaa.P
/- A row of tokens as a plan, as the document's parser reads it: plain functions: no program is named here. -/
namespace Go.Proofs.Ytcbeocpllnmcjaa.P
open Go.RowKit Mm
def sOpen : List UInt8 := [123]
def sShut : List UInt8 := [125]
def sSemi : List UInt8 := [59]
def wPlan : List UInt8 := [112, 108, 97, 110]
def wCurrency : List UInt8 := [99, 117, 114, 114, 101, 110, 99, 121]
def wHorizon : List UInt8 := [104, 111, 114, 105, 122, 111, 110]
def wMeter : List UInt8 := [109, 101, 116, 101, 114]
def wUnit : List UInt8 := [117, 110, 105, 116]
def wMax : List UInt8 := [109, 97, 120]
def wFee : List UInt8 := [102, 101, 101]
def wCharge : List UInt8 := [99, 104, 97, 114, 103, 101]
def wAllowance : List UInt8 := [97, 108, 108, 111, 119, 97, 110, 99, 101]
def wBlock : List UInt8 := [98, 108, 111, 99, 107]
def wGraduated : List UInt8 := [103, 114, 97, 100, 117, 97, 116, 101, 100]
def wVolume : List UInt8 := [118, 111, 108, 117, 109, 101]
def wUpto : List UInt8 := [117, 112, 116, 111]
def wRate : List UInt8 := [114, 97, 116, 101]
def wRest : List UInt8 := [114, 101, 115, 116]
def wRound : List UInt8 := [114, 111, 117, 110, 100]
def wPercent : List UInt8 := [112, 101, 114, 99, 101, 110, 116]
def wCap : List UInt8 := [99, 97, 112]
def wMinimum : List UInt8 := [109, 105, 110, 105, 109, 117, 109]
def wAdd : List UInt8 := [97, 100, 100]
def kinds : List (List UInt8) := [wGraduated, wVolume]
def adjWords : List (List UInt8) := [wPercent, wCap, wMinimum, wAdd]
def itemWords : List (List UInt8) := [wMeter, wFee, wCharge]
/-- A number behind its word, if that is told. -/
def optS (ts : List Tok) (s : St) (l : List UInt8) (d : Int) : Int × St :=
  if onW ts s l then ((numS ts s.next 0 1000000).1, wnt ts (numS ts s.next 0 1000000).2 sSemi) else (d, s)
def tierS (ts : List Tok) (s : St) : Tier × St :=
  let a := numS ts s 0 1000000
  let b := numS ts (wnt ts a.2 wRate) 6 1000000000000
  (⟨a.1, b.1⟩, wnt ts b.2 sSemi)
def tiersS (ts : List Tok) : Nat → St → List Tier → List Tier × St
  | 0, s, acc => (acc, s)
  | n + 1, s, acc => if onW ts s wUpto then tiersS ts n (tierS ts s.next).2 (acc ++ [(tierS ts s.next).1]) else (acc, s)
/-- An adjustment of a kind, from 1 on, behind its word. -/
def adjS (ts : List Tok) (s : St) (k : Int) : Adj × St :=
  if k = 1 then
    let n := numS ts s 3 100000000
    let m := modeS ts n.2
    (⟨k, n.1, m.1⟩, wnt ts m.2 sSemi)
  else
    let n := numS ts s 0 1000000000000
    (⟨k, n.1, 0⟩, wnt ts n.2 sSemi)
def adjsS (ts : List Tok) : Nat → St → List Adj → List Adj × St
  | 0, s, acc => (acc, s)
  | n + 1, s, acc =>
    let r := oneS ts s adjWords
    if 1 + r.1 = 0 then (acc, r.2) else adjsS ts n (adjS ts r.2 (1 + r.1)).2 (acc ++ [(adjS ts r.2 (1 + r.1)).1])
def kindS (ts : List Tok) (s : St) : Int × St :=
  let r := oneS ts s kinds
  (1 + r.1, if 1 + r.1 = 0 then wrg ts r.2 4 else r.2)
/-- A charge behind its word. -/
def chargeS (ts : List Tok) (s : St) (line col : Int) : Charge × St :=
  let m := tkn ts s 1
  let wn := winS ts m.2
  let al := optS ts (wnt ts wn.2 sOpen) wAllowance 0
  let bl := optS ts al.2 wBlock 1
  let kd := kindS ts bl.2
  let ti := tiersS ts ts.length (wnt ts kd.2 sOpen) []
  let rt := numS ts (wnt ts (wnt ts ti.2 wRest) wRate) 6 1000000000000
  let md := modeS ts (wnt ts (wnt ts (wnt ts rt.2 sSemi) sShut) wRound)
  let ad := adjsS ts ts.length (wnt ts md.2 sSemi) []
  (⟨⟨m.1.toArray⟩, wn.1, al.1, bl.1, kd.1, ti.1 ++ [⟨0, rt.1⟩], md.1, ad.1, line, col⟩, wnt ts ad.2 sShut)
def meterS (ts : List Tok) (s : St) (line col : Int) : Meter × St :=
  let a := tkn ts s 1
  let u := tkn ts (wnt ts a.2 wUnit) 1
  let n := numS ts (wnt ts u.2 wMax) 0 2000
  (⟨⟨a.1.toArray⟩, ⟨u.1.toArray⟩, n.1, line, col⟩, wnt ts n.2 sSemi)
def feeS (ts : List Tok) (s : St) (line col : Int) : Fee × St :=
  let n := numS ts s 0 1000000000000
  let wn := winS ts n.2
  (⟨n.1, wn.1, line, col⟩, wnt ts wn.2 sSemi)
/-- One item more. -/
def itemS (ts : List Tok) (s : St) (p : Plan) : Plan × St :=
  let t := tk ts s
  let r := oneS ts s itemWords
  if r.1 = 0 then ({ p with meters := p.meters ++ [(meterS ts r.2 t.ln t.cl).1] }, (meterS ts r.2 t.ln t.cl).2)
  else if r.1 = 1 then ({ p with fees := p.fees ++ [(feeS ts r.2 t.ln t.cl).1] }, (feeS ts r.2 t.ln t.cl).2)
  else if r.1 = 2 then ({ p with charges := p.charges ++ [(chargeS ts r.2 t.ln t.cl).1] }, (chargeS ts r.2 t.ln t.cl).2)
  else (p, wrg ts r.2 4)
def goesOn (ts : List Tok) (s : St) : Bool := decide (s.err = 0) && !decide ((tk ts s).k = 0)
def itemsS (ts : List Tok) : Nat → St → Plan → Plan × St
  | 0, s, p => (p, s)
  | n + 1, s, p => if goesOn ts s then itemsS ts n (itemS ts s p).2 (itemS ts s p).1 else (p, s)
/-- The plan's line and the horizon's. -/
def headS (ts : List Tok) (s : St) : Plan × St :=
  let t := tk ts s
  let n := tkn ts (wnt ts s wPlan) 1
  let c := tkn ts (wnt ts n.2 wCurrency) 1
  let a := dayS ts (wnt ts (wnt ts c.2 sSemi) wHorizon)
  let b := dayS ts a.2
  (⟨⟨n.1.toArray⟩, ⟨c.1.toArray⟩, a.1, b.1, [], [], [], t.ln, t.cl⟩, wnt ts b.2 sSemi)
def planZ : Plan := ⟨⟨#[]⟩, ⟨#[]⟩, ⟨0, 0, 0⟩, ⟨0, 0, 0⟩, [], [], [], 0, 0⟩
def st0 : St := ⟨0, 0, 0, 0⟩
/-- A row of tokens as a plan; or what is wrong first, and where. -/
def planS (ts : List Tok) : Plan × Int × Int × Int :=
  let h := headS ts st0
  let r := itemsS ts ts.length h.2 h.1
  if r.2.err = 0 then (r.1, 0, 0, 0) else (planZ, r.2.err, r.2.ln, r.2.cl)
/-- A text as a plan; or what is wrong first, and where. -/
def parsed (l : List UInt8) : Plan × Int × Int × Int :=
  let x := lexed l
  if x.2.1 = 0 then planS x.1 else (planZ, x.2.1, x.2.2.1, x.2.2.2)
theorem Ok.optS {ts : List Tok} {s : St} (h : Ok ts s) (l : List UInt8) (d : Int) : Ok ts (optS ts s l d).2 := by
  unfold P.optS
  split
  · rename_i ho; exact ((h.next (onW_k ho)).numS _ _).wnt _
  · exact h
theorem Ok.tierS {ts : List Tok} {s : St} (h : Ok ts s) : Ok ts (tierS ts s).2 := ((((h.numS _ _).wnt _).numS _ _).wnt _)
theorem Ok.tiersS {ts : List Tok} : ∀ (n : Nat) (s : St) (acc : List Tier), Ok ts s → Ok ts (tiersS ts n s acc).2
  | 0, _, _, h => h
  | n + 1, s, acc, h => by
    unfold P.tiersS
    split
    · rename_i ho; exact Ok.tiersS n _ _ (h.next (onW_k ho)).tierS
    · exact h
theorem Ok.adjS {ts : List Tok} {s : St} (h : Ok ts s) (k : Int) : Ok ts (adjS ts s k).2 := by
  unfold P.adjS
  split
  · exact ((h.numS _ _).modeS).wnt _
  · exact (h.numS _ _).wnt _
theorem Ok.adjsS {ts : List Tok} : ∀ (n : Nat) (s : St) (acc : List Adj), Ok ts s → Ok ts (adjsS ts n s acc).2
  | 0, _, _, h => h
  | n + 1, s, acc, h => by
    unfold P.adjsS
    simp only
    split
    · exact h.oneS _
    · exact Ok.adjsS n _ _ ((h.oneS _).adjS _)
theorem Ok.kindS {ts : List Tok} {s : St} (h : Ok ts s) : Ok ts (kindS ts s).2 := by
  unfold P.kindS
  simp only
  split
  · exact (h.oneS _).wrg 4
  · exact h.oneS _
theorem Ok.chargeS {ts : List Tok} {s : St} (h : Ok ts s) (line col : Int) : Ok ts (chargeS ts s line col).2 :=
  (Ok.adjsS _ _ _ ((((((((((Ok.tiersS _ _ _ ((((((h.tkn (by decide)).winS.wnt _).optS _ _).optS _ _).kindS).wnt _)).wnt _).wnt _).numS _ _).wnt _).wnt _).wnt _).modeS).wnt _))).wnt _
theorem Ok.meterS {ts : List Tok} {s : St} (h : Ok ts s) (line col : Int) : Ok ts (meterS ts s line col).2 :=
  ((((((h.tkn (by decide)).wnt _).tkn (by decide)).wnt _).numS _ _).wnt _)
theorem Ok.feeS {ts : List Tok} {s : St} (h : Ok ts s) (line col : Int) : Ok ts (feeS ts s line col).2 := ((h.numS _ _).winS.wnt _)
theorem Ok.itemS {ts : List Tok} {s : St} (h : Ok ts s) (p : Plan) : Ok ts (itemS ts s p).2 := by
  unfold P.itemS
  simp only
  repeat' split
  · exact (h.oneS _).meterS (tk ts s).ln (tk ts s).cl
  · exact (h.oneS _).feeS (tk ts s).ln (tk ts s).cl
  · exact (h.oneS _).chargeS (tk ts s).ln (tk ts s).cl
  · exact (h.oneS _).wrg 4
theorem Ok.itemsS {ts : List Tok} : ∀ (n : Nat) (s : St) (p : Plan), Ok ts s → Ok ts (itemsS ts n s p).2
  | 0, _, _, h => h
  | n + 1, s, p, h => by
    unfold P.itemsS
    split
    · exact Ok.itemsS n _ _ (h.itemS p)
    · exact h
theorem Ok.headS {ts : List Tok} {s : St} (h : Ok ts s) : Ok ts (headS ts s).2 :=
  ((((((((h.wnt _).tkn (by decide)).wnt _).tkn (by decide)).wnt _).wnt _).dayS).dayS).wnt _
/-- How far the parser is: as far as before at least. -/
theorem wrg_le (ts : List Tok) (s : St) (e : Int) : s.i ≤ (wrg ts s e).i := by rw [wrg_i]; exact Nat.le_refl _
theorem wnt_le (ts : List Tok) (s : St) (l : List UInt8) : s.i ≤ (wnt ts s l).i := by
  unfold wnt
  split
  · show s.i ≤ s.i + 1; omega
  · exact wrg_le _ _ _
theorem tkn_le (ts : List Tok) (s : St) (k : Nat) : s.i ≤ (tkn ts s k).2.i := by
  unfold tkn
  split
  · show s.i ≤ s.i + 1; omega
  · exact wrg_le _ _ _
theorem bad_i (ts : List Tok) (s : St) (v : Int) : (bad ts s v).i = s.i := by
  unfold bad
  repeat' split
  · exact wrg_i ..
  · exact wrg_i ..
  · rfl
theorem numS_le (ts : List Tok) (s : St) (p m : Int) : s.i ≤ (numS ts s p m).2.i := by
  unfold numS
  split
  · show s.i ≤ (bad ts s _).i + 1; rw [bad_i]; omega
  · exact wrg_le _ _ _
theorem oneAt_le (ts : List Tok) (s : St) : ∀ (ws : List (List UInt8)) (k : Int), s.i ≤ (oneAt ts s ws k).2.i
  | [], _ => Nat.le_refl _
  | w :: r, k => by
    unfold oneAt
    split
    · show s.i ≤ s.i + 1; omega
    · exact oneAt_le ts s r (k + 1)
theorem modeS_le (ts : List Tok) (s : St) : s.i ≤ (modeS ts s).2.i := by
  unfold modeS
  split
  · exact Nat.le_trans (oneAt_le ts s _ 0) (wrg_le _ _ _)
  · exact oneAt_le ts s _ 0
theorem tierS_le (ts : List Tok) (s : St) : s.i ≤ (tierS ts s).2.i :=
  Nat.le_trans (numS_le ts s 0 1000000) (Nat.le_trans (wnt_le ts _ wRate) (Nat.le_trans (numS_le ts _ 6 1000000000000) (wnt_le ts _ sSemi)))
theorem adjS_le (ts : List Tok) (s : St) (k : Int) : s.i ≤ (adjS ts s k).2.i := by
  unfold adjS
  split
  · exact Nat.le_trans (numS_le ts s 3 100000000) (Nat.le_trans (modeS_le ts _) (wnt_le ts _ sSemi))
  · exact Nat.le_trans (numS_le ts s 0 1000000000000) (wnt_le ts _ sSemi)
theorem oneAt_yes (ts : List Tok) (s : St) : ∀ (ws : List (List UInt8)) (k : Int), 0 ≤ k → 0 ≤ (oneAt ts s ws k).1 → (oneAt ts s ws k).2.i = s.i + 1
  | [], _, _, h => by exact absurd (show (0 : Int) ≤ -1 from h) (by decide)
  | w :: r, k, hk, h => by
    unfold oneAt at h ⊢
    split
    · rfl
    · rename_i hn
      rw [if_neg hn] at h
      exact oneAt_yes ts s r (k + 1) (by omega) h
theorem oneAt_no (ts : List Tok) (s : St) : ∀ (ws : List (List UInt8)) (k : Int), 0 ≤ k → (oneAt ts s ws k).1 < 0 → oneAt ts s ws k = (-1, s)
  | [], _, _, _ => rfl
  | w :: r, k, hk, h => by
    unfold oneAt at h ⊢
    split
    · rename_i hy
      rw [if_pos hy] at h
      exact absurd h (by show ¬ k < 0; omega)
    · rename_i hn
      rw [if_neg hn] at h
      exact oneAt_no ts s r (k + 1) (by omega) h
/-- With fuel enough it does not matter how much. -/
theorem tiers_fuel (ts : List Tok) : ∀ (n m : Nat) (s : St) (acc : List Tier), Ok ts s → ts.length ≤ n + s.i → ts.length ≤ m + s.i → tiersS ts n s acc = tiersS ts m s acc
  | 0, m, s, acc, h, hn, _ => by have := h.lt; omega
  | n + 1, 0, s, acc, h, _, hm => by have := h.lt; omega
  | n + 1, m + 1, s, acc, h, hn, hm => by
    unfold tiersS
    split
    · rename_i ho
      have o1 := h.next (onW_k ho)
      have l1 := tierS_le ts s.next
      have e1 : s.next.i = s.i + 1 := rfl
      exact tiers_fuel ts n m _ _ o1.tierS (by omega) (by omega)
    · rfl
theorem adjs_fuel (ts : List Tok) : ∀ (n m : Nat) (s : St) (acc : List Adj), Ok ts s → ts.length ≤ n + s.i → ts.length ≤ m + s.i → adjsS ts n s acc = adjsS ts m s acc
  | 0, m, s, acc, h, hn, _ => by have := h.lt; omega
  | n + 1, 0, s, acc, h, _, hm => by have := h.lt; omega
  | n + 1, m + 1, s, acc, h, hn, hm => by
    unfold adjsS
    simp only
    split
    · rfl
    · rename_i ho
      have o1 := h.oneS adjWords
      have l2 := adjS_le ts (oneS ts s adjWords).2 (1 + (oneS ts s adjWords).1)
      have e1 : (oneS ts s adjWords).2.i = s.i + 1 := by
        refine oneAt_yes ts s adjWords 0 (Int.le_refl _) ?_
        rcases Int.lt_or_le (oneS ts s adjWords).1 0 with h0 | h0
        · have : oneS ts s adjWords = (-1, s) := oneAt_no ts s adjWords 0 (Int.le_refl _) h0
          rw [this] at ho
          exact absurd rfl ho
        · exact h0
      exact adjs_fuel ts n m _ _ (o1.adjS _) (by omega) (by omega)
end Go.Proofs.Ytcbeocpllnmcjaa.P
/- The shortest text of a number with a point, as plain arithmetic: no program is named here. -/
namespace Go.Proofs.Ytcbeocpllnmcjaa.P
open Go.RowKit
/-- The digits behind the point, of so many places: noughts at the end are left out. -/
def fs (n : Nat) : Nat → List UInt8
  | 0 => []
  | k + 1 => if fs n k ≠ [] ∨ n / 10 ^ k % 10 ≠ 0 then dch (n / 10 ^ k % 10) :: fs n k else []
theorem fs_yes {n k : Nat} (h : fs n k ≠ [] ∨ n / 10 ^ k % 10 ≠ 0) : fs n (k + 1) = dch (n / 10 ^ k % 10) :: fs n k := by rw [fs, if_pos h]
theorem fs_no {n k : Nat} (h : fs n k = []) (h2 : n / 10 ^ k % 10 = 0) : fs n (k + 1) = [] := by
  rw [fs, if_neg]
  rintro (a | a)
  · exact a h
  · exact a h2
theorem fs_length (n : Nat) : ∀ k, (fs n k).length ≤ k
  | 0 => by simp [fs]
  | k + 1 => by
    have := fs_length n k
    rw [fs]
    split
    · simp; omega
    · simp
/-- The point and what stands behind it. -/
def tail (n places : Nat) : List UInt8 := if fs n places = [] then [] else 46 :: fs n places
def tx (n places : Nat) : List UInt8 := Lib.decDigits (n / 10 ^ places) ++ tail n places
theorem dec_last {q : Nat} (h : q < 10) : Lib.decDigits q = [dch q] := by rw [Lib.decDigits_one h]; rfl
theorem dec_more {q : Nat} (h : ¬ q < 10) : Lib.decDigits q = Lib.decDigits (q / 10) ++ [dch (q % 10)] := by
  conv => lhs; rw [Lib.decDigits, dif_neg h]
  rfl
end Go.Proofs.Ytcbeocpllnmcjaa.P
/- A plan as its one plain text: plain functions: no program is named here. -/
namespace Go.Proofs.Ytcbeocpllnmcjaa.P
open Go.RowKit Mm
def dayT (d : Day) : List UInt8 := if good d.y d.m d.d then txt d.y d.m d.d else []
def bFrom : List UInt8 := [32, 102, 114, 111, 109, 32]
def bTo : List UInt8 := [32, 116, 111, 32]
def winT (w : Win) : List UInt8 := if w.has then bFrom ++ dayT w.a ++ bTo ++ dayT w.b else []
def nmbT (n : Int) : List UInt8 := Lib.decDigits n.toNat
def decT (n : Int) (places : Nat) : List UInt8 := tx n.toNat places
def modeT (m : Int) : List UInt8 := if m = 0 then [102, 108, 111, 111, 114] else if m = 1 then [99, 101, 105, 108] else if m = 2 then [104, 97, 108, 102, 117, 112] else if m = 3 then [104, 97, 108, 102, 101, 118, 101, 110] else []
def kindT (k : Int) : List UInt8 := if k = 1 then wGraduated else if k = 2 then wVolume else []
/-- A line, within so many braces. -/
def ln (d : Nat) (s : List UInt8) : List UInt8 := List.replicate d 9 ++ s ++ [10]
/-- A line of words, closed by its sign. -/
def tellT (d : Nat) (ws : List (List UInt8)) : List UInt8 := ln d (Lib.join ws [32] ++ [59])
def meterT (m : Meter) : List UInt8 := tellT 0 [wMeter, m.name.data.toList, wUnit, m.unit.data.toList, wMax, nmbT m.max]
def feeT (f : Fee) : List UInt8 := tellT 0 [wFee, nmbT f.amount ++ winT f.win]
def bRest : List UInt8 := [114, 101, 115, 116, 32, 114, 97, 116, 101]
def tierT (last : Bool) (t : Tier) : List UInt8 := if last then tellT 2 [bRest, decT t.rate 6] else tellT 2 [wUpto, nmbT t.upto, wRate, decT t.rate 6]
/-- The lines of the first tiers. -/
def tiersUp (ts : List Tier) : Nat → List UInt8
  | 0 => []
  | i + 1 => tiersUp ts i ++ tierT (decide (i + 1 = ts.length)) (ts.getD i default)
def adjT (a : Adj) : List UInt8 :=
  if a.kind = 1 then tellT 1 [wPercent, decT a.num 3, modeT a.mode] else if a.kind = 2 then tellT 1 [wCap, nmbT a.num] else if a.kind = 3 then tellT 1 [wMinimum, nmbT a.num] else if a.kind = 4 then tellT 1 [wAdd, nmbT a.num] else []
def chargeT (c : Charge) : List UInt8 :=
  ln 0 (wCharge ++ [32] ++ c.meter.data.toList ++ winT c.win ++ [32, 123]) ++ (if c.allowance = 0 then [] else tellT 1 [wAllowance, nmbT c.allowance]) ++ (if c.block = 1 then [] else tellT 1 [wBlock, nmbT c.block]) ++
    (ln 1 (kindT c.kind ++ [32, 123]) ++ tiersUp c.tiers c.tiers.length ++ ln 1 [125]) ++ tellT 1 [wRound, modeT c.mode] ++ c.adjusts.flatMap adjT ++ ln 0 [125]
theorem dayT_len (d : Day) : (dayT d).length ≤ 10 := by
  unfold dayT
  split
  · rw [txt_length]; exact Nat.le_refl _
  · simp
/-- A plan whose text is told: its numbers aren't below 0, its kinds are, and it isn't great. -/
structure ShT (c : Charge) : Prop where
  kind : c.kind = 1 ∨ c.kind = 2
  nums : 0 ≤ c.allowance ∧ 0 ≤ c.block
  tiers : ∀ t ∈ c.tiers, (0 ≤ t.upto ∧ I64 t.upto) ∧ 0 ≤ t.rate ∧ I64 t.rate
  adjs : ∀ a ∈ c.adjusts, (0 ≤ a.num ∧ I64 a.num) ∧ I64 a.kind ∧ I64 a.mode
  cnt : c.tiers.length ≤ 20000 ∧ c.adjusts.length ≤ 20000
  name : c.meter.size ≤ 100000
  i64 : (I64 c.allowance ∧ I64 c.block) ∧ I64 c.kind ∧ I64 c.mode
  win : winOk c.win
structure Sh (p : Plan) : Prop where
  meters : ∀ m ∈ p.meters, (m.name.size ≤ 100000 ∧ m.unit.size ≤ 100000) ∧ 0 ≤ m.max ∧ I64 m.max
  fees : ∀ f ∈ p.fees, (0 ≤ f.amount ∧ I64 f.amount) ∧ winOk f.win
  charges : ∀ c ∈ p.charges, ShT c
  cnt : p.meters.length ≤ 20000 ∧ p.fees.length ≤ 20000 ∧ p.charges.length ≤ 20000
  name : p.name.size ≤ 100000 ∧ p.cur.size ≤ 100000
theorem join2 (a b : List UInt8) : Lib.join [a, b] [32] = a ++ [32] ++ b := by rw [Lib.join_cons]; simp [Lib.joinTail]
theorem join3 (a b c : List UInt8) : Lib.join [a, b, c] [32] = a ++ [32] ++ b ++ [32] ++ c := by rw [Lib.join_cons]; simp [Lib.joinTail]
theorem join4 (a b c d : List UInt8) : Lib.join [a, b, c, d] [32] = a ++ [32] ++ b ++ [32] ++ c ++ [32] ++ d := by rw [Lib.join_cons]; simp [Lib.joinTail]
theorem join6 (a b c d e f : List UInt8) : Lib.join [a, b, c, d, e, f] [32] = a ++ [32] ++ b ++ [32] ++ c ++ [32] ++ d ++ [32] ++ e ++ [32] ++ f := by rw [Lib.join_cons]; simp [Lib.joinTail]
end Go.Proofs.Ytcbeocpllnmcjaa.P
