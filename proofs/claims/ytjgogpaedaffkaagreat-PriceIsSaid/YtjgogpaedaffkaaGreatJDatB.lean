/- A row of tokens as a plan, as the document's parser reads it: plain functions: no program is named here. -/
import Derived.Test.YtjgogpaedaffkaaGreatJParP
import Derived.Lib.ItoaLen
import Derived.Lib.Join
import Derived.Test.YtjgogpaedaffkaaGreatJPureS
import Derived.WalkSmall
import Derived.WalkKit
import Derived.BigQuiet
import Derived.Lib.QuietBelow
namespace Go.Proofs.YtjgogpaedaffkaaGreat.Mm
end Go.Proofs.YtjgogpaedaffkaaGreat.Mm
namespace Go.Proofs.YtjgogpaedaffkaaGreat.P
open Go.RowKit Mm
def sOpen : List UInt8 := [123]
def sShut : List UInt8 := [125]
def sSemi : List UInt8 := [59]
def wMeter : List UInt8 := [109, 101, 116, 101, 114]
def wUnit : List UInt8 := [117, 110, 105, 116]
def wMax : List UInt8 := [109, 97, 120]
def wFee : List UInt8 := [102, 101, 101]
def wCharge : List UInt8 := [99, 104, 97, 114, 103, 101]
def wAllowance : List UInt8 := [97, 108, 108, 111, 119, 97, 110, 99, 101]
def wBlock : List UInt8 := [98, 108, 111, 99, 107]
def wGraduated : List UInt8 := [103, 114, 97, 100, 117, 97, 116, 101, 100]
def wVolume : List UInt8 := [118, 111, 108, 117, 109, 101]
def wUpto : List UInt8 := [117, 112, 116, 111]
def wRate : List UInt8 := [114, 97, 116, 101]
def wRest : List UInt8 := [114, 101, 115, 116]
def wRound : List UInt8 := [114, 111, 117, 110, 100]
def wPercent : List UInt8 := [112, 101, 114, 99, 101, 110, 116]
def wCap : List UInt8 := [99, 97, 112]
def wMinimum : List UInt8 := [109, 105, 110, 105, 109, 117, 109]
def wAdd : List UInt8 := [97, 100, 100]
def kinds : List (List UInt8) := [wGraduated, wVolume]
def adjWords : List (List UInt8) := [wPercent, wCap, wMinimum, wAdd]
def itemWords : List (List UInt8) := [wMeter, wFee, wCharge]
/-- A number behind its word, if that is told. -/
def optS (ts : List Tok) (s : St) (l : List UInt8) (d : Int) : Int × St :=
  if onW ts s l then ((numS ts s.next 0 1000000).1, wnt ts (numS ts s.next 0 1000000).2 sSemi) else (d, s)
def tierS (ts : List Tok) (s : St) : Tier × St :=
  let a := numS ts s 0 1000000
  let b := numS ts (wnt ts a.2 wRate) 6 1000000000000
  (⟨a.1, b.1⟩, wnt ts b.2 sSemi)
def tiersS (ts : List Tok) : Nat → St → List Tier → List Tier × St
  | 0, s, acc => (acc, s)
  | n + 1, s, acc => if onW ts s wUpto then tiersS ts n (tierS ts s.next).2 (acc ++ [(tierS ts s.next).1]) else (acc, s)
/-- An adjustment of a kind, from 1 on, behind its word. -/
def adjS (ts : List Tok) (s : St) (k : Int) : Adj × St :=
  if k = 1 then
    let n := numS ts s 3 100000000
    let m := modeS ts n.2
    (⟨k, n.1, m.1⟩, wnt ts m.2 sSemi)
  else
    let n := numS ts s 0 1000000000000
    (⟨k, n.1, 0⟩, wnt ts n.2 sSemi)
def adjsS (ts : List Tok) : Nat → St → List Adj → List Adj × St
  | 0, s, acc => (acc, s)
  | n + 1, s, acc =>
    let r := oneS ts s adjWords
    if 1 + r.1 = 0 then (acc, r.2) else adjsS ts n (adjS ts r.2 (1 + r.1)).2 (acc ++ [(adjS ts r.2 (1 + r.1)).1])
def kindS (ts : List Tok) (s : St) : Int × St :=
  let r := oneS ts s kinds
  (1 + r.1, if 1 + r.1 = 0 then wrg ts r.2 4 else r.2)
/-- A charge behind its word. -/
def chargeS (ts : List Tok) (s : St) (line col : Int) : Charge × St :=
  let m := tkn ts s 1
  let wn := winS ts m.2
  let al := optS ts (wnt ts wn.2 sOpen) wAllowance 0
  let bl := optS ts al.2 wBlock 1
  let kd := kindS ts bl.2
  let ti := tiersS ts ts.length (wnt ts kd.2 sOpen) []
  let rt := numS ts (wnt ts (wnt ts ti.2 wRest) wRate) 6 1000000000000
  let md := modeS ts (wnt ts (wnt ts (wnt ts rt.2 sSemi) sShut) wRound)
  let ad := adjsS ts ts.length (wnt ts md.2 sSemi) []
  (⟨⟨m.1.toArray⟩, wn.1, al.1, bl.1, kd.1, ti.1 ++ [⟨0, rt.1⟩], md.1, ad.1, line, col⟩, wnt ts ad.2 sShut)
def meterS (ts : List Tok) (s : St) (line col : Int) : Meter × St :=
  let a := tkn ts s 1
  let u := tkn ts (wnt ts a.2 wUnit) 1
  let n := numS ts (wnt ts u.2 wMax) 0 2000
  (⟨⟨a.1.toArray⟩, ⟨u.1.toArray⟩, n.1, line, col⟩, wnt ts n.2 sSemi)
def feeS (ts : List Tok) (s : St) (line col : Int) : Fee × St :=
  let n := numS ts s 0 1000000000000
  let wn := winS ts n.2
  (⟨n.1, wn.1, line, col⟩, wnt ts wn.2 sSemi)
/-- One item more. -/
def itemS (ts : List Tok) (s : St) (p : Plan) : Plan × St :=
  let t := tk ts s
  let r := oneS ts s itemWords
  if r.1 = 0 then ({ p with meters := p.meters ++ [(meterS ts r.2 t.ln t.cl).1] }, (meterS ts r.2 t.ln t.cl).2)
  else if r.1 = 1 then ({ p with fees := p.fees ++ [(feeS ts r.2 t.ln t.cl).1] }, (feeS ts r.2 t.ln t.cl).2)
  else if r.1 = 2 then ({ p with charges := p.charges ++ [(chargeS ts r.2 t.ln t.cl).1] }, (chargeS ts r.2 t.ln t.cl).2)
  else (p, wrg ts r.2 4)
def goesOn (ts : List Tok) (s : St) : Bool := decide (s.err = 0) && !decide ((tk ts s).k = 0)
def itemsS (ts : List Tok) : Nat → St → Plan → Plan × St
  | 0, s, p => (p, s)
  | n + 1, s, p => if goesOn ts s then itemsS ts n (itemS ts s p).2 (itemS ts s p).1 else (p, s)
theorem Ok.optS {ts : List Tok} {s : St} (h : Ok ts s) (l : List UInt8) (d : Int) : Ok ts (optS ts s l d).2 := by
  unfold P.optS
  split
  · rename_i ho; exact ((h.next (onW_k ho)).numS _ _).wnt _
  · exact h
theorem Ok.tierS {ts : List Tok} {s : St} (h : Ok ts s) : Ok ts (tierS ts s).2 := ((((h.numS _ _).wnt _).numS _ _).wnt _)
theorem Ok.tiersS {ts : List Tok} : ∀ (n : Nat) (s : St) (acc : List Tier), Ok ts s → Ok ts (tiersS ts n s acc).2
  | 0, _, _, h => h
  | n + 1, s, acc, h => by
    unfold P.tiersS
    split
    · rename_i ho; exact Ok.tiersS n _ _ (h.next (onW_k ho)).tierS
    · exact h
theorem Ok.adjS {ts : List Tok} {s : St} (h : Ok ts s) (k : Int) : Ok ts (adjS ts s k).2 := by
  unfold P.adjS
  split
  · exact ((h.numS _ _).modeS).wnt _
  · exact (h.numS _ _).wnt _
theorem Ok.adjsS {ts : List Tok} : ∀ (n : Nat) (s : St) (acc : List Adj), Ok ts s → Ok ts (adjsS ts n s acc).2
  | 0, _, _, h => h
  | n + 1, s, acc, h => by
    unfold P.adjsS
    simp only
    split
    · exact h.oneS _
    · exact Ok.adjsS n _ _ ((h.oneS _).adjS _)
theorem Ok.kindS {ts : List Tok} {s : St} (h : Ok ts s) : Ok ts (kindS ts s).2 := by
  unfold P.kindS
  simp only
  split
  · exact (h.oneS _).wrg 4
  · exact h.oneS _
theorem Ok.chargeS {ts : List Tok} {s : St} (h : Ok ts s) (line col : Int) : Ok ts (chargeS ts s line col).2 :=
  (Ok.adjsS _ _ _ ((((((((((Ok.tiersS _ _ _ ((((((h.tkn (by decide)).winS.wnt _).optS _ _).optS _ _).kindS).wnt _)).wnt _).wnt _).numS _ _).wnt _).wnt _).wnt _).modeS).wnt _))).wnt _
theorem Ok.meterS {ts : List Tok} {s : St} (h : Ok ts s) (line col : Int) : Ok ts (meterS ts s line col).2 :=
  ((((((h.tkn (by decide)).wnt _).tkn (by decide)).wnt _).numS _ _).wnt _)
theorem Ok.feeS {ts : List Tok} {s : St} (h : Ok ts s) (line col : Int) : Ok ts (feeS ts s line col).2 := ((h.numS _ _).winS.wnt _)
theorem Ok.itemS {ts : List Tok} {s : St} (h : Ok ts s) (p : Plan) : Ok ts (itemS ts s p).2 := by
  unfold P.itemS
  simp only
  repeat' split
  · exact (h.oneS _).meterS (tk ts s).ln (tk ts s).cl
  · exact (h.oneS _).feeS (tk ts s).ln (tk ts s).cl
  · exact (h.oneS _).chargeS (tk ts s).ln (tk ts s).cl
  · exact (h.oneS _).wrg 4
/-- How far the parser is: as far as before at least. -/
theorem wrg_le (ts : List Tok) (s : St) (e : Int) : s.i ≤ (wrg ts s e).i := by rw [wrg_i]; exact Nat.le_refl _
theorem wnt_le (ts : List Tok) (s : St) (l : List UInt8) : s.i ≤ (wnt ts s l).i := by
  unfold wnt
  split
  · show s.i ≤ s.i + 1; omega
  · exact wrg_le _ _ _
theorem tkn_le (ts : List Tok) (s : St) (k : Nat) : s.i ≤ (tkn ts s k).2.i := by
  unfold tkn
  split
  · show s.i ≤ s.i + 1; omega
  · exact wrg_le _ _ _
theorem bad_i (ts : List Tok) (s : St) (v : Int) : (bad ts s v).i = s.i := by
  unfold bad
  repeat' split
  · exact wrg_i ..
  · exact wrg_i ..
  · rfl
theorem numS_le (ts : List Tok) (s : St) (p m : Int) : s.i ≤ (numS ts s p m).2.i := by
  unfold numS
  split
  · show s.i ≤ (bad ts s _).i + 1; rw [bad_i]; omega
  · exact wrg_le _ _ _
theorem oneAt_le (ts : List Tok) (s : St) : ∀ (ws : List (List UInt8)) (k : Int), s.i ≤ (oneAt ts s ws k).2.i
  | [], _ => Nat.le_refl _
  | w :: r, k => by
    unfold oneAt
    split
    · show s.i ≤ s.i + 1; omega
    · exact oneAt_le ts s r (k + 1)
theorem modeS_le (ts : List Tok) (s : St) : s.i ≤ (modeS ts s).2.i := by
  unfold modeS
  split
  · exact Nat.le_trans (oneAt_le ts s _ 0) (wrg_le _ _ _)
  · exact oneAt_le ts s _ 0
theorem tierS_le (ts : List Tok) (s : St) : s.i ≤ (tierS ts s).2.i :=
  Nat.le_trans (numS_le ts s 0 1000000) (Nat.le_trans (wnt_le ts _ wRate) (Nat.le_trans (numS_le ts _ 6 1000000000000) (wnt_le ts _ sSemi)))
theorem adjS_le (ts : List Tok) (s : St) (k : Int) : s.i ≤ (adjS ts s k).2.i := by
  unfold adjS
  split
  · exact Nat.le_trans (numS_le ts s 3 100000000) (Nat.le_trans (modeS_le ts _) (wnt_le ts _ sSemi))
  · exact Nat.le_trans (numS_le ts s 0 1000000000000) (wnt_le ts _ sSemi)
theorem oneAt_yes (ts : List Tok) (s : St) : ∀ (ws : List (List UInt8)) (k : Int), 0 ≤ k → 0 ≤ (oneAt ts s ws k).1 → (oneAt ts s ws k).2.i = s.i + 1
  | [], _, _, h => by exact absurd (show (0 : Int) ≤ -1 from h) (by decide)
  | w :: r, k, hk, h => by
    unfold oneAt at h ⊢
    split
    · rfl
    · rename_i hn
      rw [if_neg hn] at h
      exact oneAt_yes ts s r (k + 1) (by omega) h
theorem oneAt_no (ts : List Tok) (s : St) : ∀ (ws : List (List UInt8)) (k : Int), 0 ≤ k → (oneAt ts s ws k).1 < 0 → oneAt ts s ws k = (-1, s)
  | [], _, _, _ => rfl
  | w :: r, k, hk, h => by
    unfold oneAt at h ⊢
    split
    · rename_i hy
      rw [if_pos hy] at h
      exact absurd h (by show ¬ k < 0; omega)
    · rename_i hn
      rw [if_neg hn] at h
      exact oneAt_no ts s r (k + 1) (by omega) h
/-- With fuel enough it does not matter how much. -/
theorem tiers_fuel (ts : List Tok) : ∀ (n m : Nat) (s : St) (acc : List Tier), Ok ts s → ts.length ≤ n + s.i → ts.length ≤ m + s.i → tiersS ts n s acc = tiersS ts m s acc
  | 0, m, s, acc, h, hn, _ => by have := h.lt; omega
  | n + 1, 0, s, acc, h, _, hm => by have := h.lt; omega
  | n + 1, m + 1, s, acc, h, hn, hm => by
    unfold tiersS
    split
    · rename_i ho
      have o1 := h.next (onW_k ho)
      have l1 := tierS_le ts s.next
      have e1 : s.next.i = s.i + 1 := rfl
      exact tiers_fuel ts n m _ _ o1.tierS (by omega) (by omega)
    · rfl
theorem adjs_fuel (ts : List Tok) : ∀ (n m : Nat) (s : St) (acc : List Adj), Ok ts s → ts.length ≤ n + s.i → ts.length ≤ m + s.i → adjsS ts n s acc = adjsS ts m s acc
  | 0, m, s, acc, h, hn, _ => by have := h.lt; omega
  | n + 1, 0, s, acc, h, _, hm => by have := h.lt; omega
  | n + 1, m + 1, s, acc, h, hn, hm => by
    unfold adjsS
    simp only
    split
    · rfl
    · rename_i ho
      have o1 := h.oneS adjWords
      have l2 := adjS_le ts (oneS ts s adjWords).2 (1 + (oneS ts s adjWords).1)
      have e1 : (oneS ts s adjWords).2.i = s.i + 1 := by
        refine oneAt_yes ts s adjWords 0 (Int.le_refl _) ?_
        rcases Int.lt_or_le (oneS ts s adjWords).1 0 with h0 | h0
        · have : oneS ts s adjWords = (-1, s) := oneAt_no ts s adjWords 0 (Int.le_refl _) h0
          rw [this] at ho
          exact absurd rfl ho
        · exact h0
      exact adjs_fuel ts n m _ _ (o1.adjS _) (by omega) (by omega)
end Go.Proofs.YtjgogpaedaffkaaGreat.P
/- The shortest text of a number with a point, as plain arithmetic: no program is named here. -/
namespace Go.Proofs.YtjgogpaedaffkaaGreat.P
open Go.RowKit
/-- The digits behind the point, of so many places: noughts at the end are left out. -/
def fs (n : Nat) : Nat → List UInt8
  | 0 => []
  | k + 1 => if fs n k ≠ [] ∨ n / 10 ^ k % 10 ≠ 0 then dch (n / 10 ^ k % 10) :: fs n k else []
theorem fs_yes {n k : Nat} (h : fs n k ≠ [] ∨ n / 10 ^ k % 10 ≠ 0) : fs n (k + 1) = dch (n / 10 ^ k % 10) :: fs n k := by rw [fs, if_pos h]
theorem fs_no {n k : Nat} (h : fs n k = []) (h2 : n / 10 ^ k % 10 = 0) : fs n (k + 1) = [] := by
  rw [fs, if_neg]
  rintro (a | a)
  · exact a h
  · exact a h2
theorem fs_length (n : Nat) : ∀ k, (fs n k).length ≤ k
  | 0 => by simp [fs]
  | k + 1 => by
    have := fs_length n k
    rw [fs]
    split
    · simp; omega
    · simp
/-- The point and what stands behind it. -/
def tail (n places : Nat) : List UInt8 := if fs n places = [] then [] else 46 :: fs n places
def tx (n places : Nat) : List UInt8 := Lib.decDigits (n / 10 ^ places) ++ tail n places
theorem dec_last {q : Nat} (h : q < 10) : Lib.decDigits q = [dch q] := by rw [Lib.decDigits_one h]; rfl
theorem dec_more {q : Nat} (h : ¬ q < 10) : Lib.decDigits q = Lib.decDigits (q / 10) ++ [dch (q % 10)] := by
  conv => lhs; rw [Lib.decDigits, dif_neg h]
  rfl
end Go.Proofs.YtjgogpaedaffkaaGreat.P
/- A plan as its one plain text: plain functions: no program is named here. -/
namespace Go.Proofs.YtjgogpaedaffkaaGreat.P
open Go.RowKit Mm
def dayT (d : Day) : List UInt8 := if good d.y d.m d.d then txt d.y d.m d.d else []
def bFrom : List UInt8 := [32, 102, 114, 111, 109, 32]
def bTo : List UInt8 := [32, 116, 111, 32]
def winT (w : Win) : List UInt8 := if w.has then bFrom ++ dayT w.a ++ bTo ++ dayT w.b else []
def nmbT (n : Int) : List UInt8 := Lib.decDigits n.toNat
def decT (n : Int) (places : Nat) : List UInt8 := tx n.toNat places
def modeT (m : Int) : List UInt8 := if m = 0 then [102, 108, 111, 111, 114] else if m = 1 then [99, 101, 105, 108] else if m = 2 then [104, 97, 108, 102, 117, 112] else if m = 3 then [104, 97, 108, 102, 101, 118, 101, 110] else []
def kindT (k : Int) : List UInt8 := if k = 1 then wGraduated else if k = 2 then wVolume else []
/-- A line, within so many braces. -/
def ln (d : Nat) (s : List UInt8) : List UInt8 := List.replicate d 9 ++ s ++ [10]
/-- A line of words, closed by its sign. -/
def tellT (d : Nat) (ws : List (List UInt8)) : List UInt8 := ln d (Lib.join ws [32] ++ [59])
def meterT (m : Meter) : List UInt8 := tellT 0 [wMeter, m.name.data.toList, wUnit, m.unit.data.toList, wMax, nmbT m.max]
def bRest : List UInt8 := [114, 101, 115, 116, 32, 114, 97, 116, 101]
def tierT (last : Bool) (t : Tier) : List UInt8 := if last then tellT 2 [bRest, decT t.rate 6] else tellT 2 [wUpto, nmbT t.upto, wRate, decT t.rate 6]
def adjT (a : Adj) : List UInt8 :=
  if a.kind = 1 then tellT 1 [wPercent, decT a.num 3, modeT a.mode] else if a.kind = 2 then tellT 1 [wCap, nmbT a.num] else if a.kind = 3 then tellT 1 [wMinimum, nmbT a.num] else if a.kind = 4 then tellT 1 [wAdd, nmbT a.num] else []
/-- A plan whose text is told: its numbers aren't below 0, its kinds are, and it isn't great. -/
structure ShT (c : Charge) : Prop where
  kind : c.kind = 1 ∨ c.kind = 2
  nums : 0 ≤ c.allowance ∧ 0 ≤ c.block
  tiers : ∀ t ∈ c.tiers, (0 ≤ t.upto ∧ I64 t.upto) ∧ 0 ≤ t.rate ∧ I64 t.rate
  adjs : ∀ a ∈ c.adjusts, (0 ≤ a.num ∧ I64 a.num) ∧ I64 a.kind ∧ I64 a.mode
  cnt : c.tiers.length ≤ 20000 ∧ c.adjusts.length ≤ 20000
  name : c.meter.size ≤ 100000
  i64 : (I64 c.allowance ∧ I64 c.block) ∧ I64 c.kind ∧ I64 c.mode
  win : winOk c.win
structure Sh (p : Plan) : Prop where
  meters : ∀ m ∈ p.meters, (m.name.size ≤ 100000 ∧ m.unit.size ≤ 100000) ∧ 0 ≤ m.max ∧ I64 m.max
  fees : ∀ f ∈ p.fees, (0 ≤ f.amount ∧ I64 f.amount) ∧ winOk f.win
  charges : ∀ c ∈ p.charges, ShT c
  cnt : p.meters.length ≤ 20000 ∧ p.fees.length ≤ 20000 ∧ p.charges.length ≤ 20000
  name : p.name.size ≤ 100000 ∧ p.cur.size ≤ 100000
theorem join2 (a b : List UInt8) : Lib.join [a, b] [32] = a ++ [32] ++ b := by rw [Lib.join_cons]; simp [Lib.joinTail]
theorem join3 (a b c : List UInt8) : Lib.join [a, b, c] [32] = a ++ [32] ++ b ++ [32] ++ c := by rw [Lib.join_cons]; simp [Lib.joinTail]
theorem join4 (a b c d : List UInt8) : Lib.join [a, b, c, d] [32] = a ++ [32] ++ b ++ [32] ++ c ++ [32] ++ d := by rw [Lib.join_cons]; simp [Lib.joinTail]
theorem join6 (a b c d e f : List UInt8) : Lib.join [a, b, c, d, e, f] [32] = a ++ [32] ++ b ++ [32] ++ c ++ [32] ++ d ++ [32] ++ e ++ [32] ++ f := by rw [Lib.join_cons]; simp [Lib.joinTail]
end Go.Proofs.YtjgogpaedaffkaaGreat.P
/- What the walks of layers 3 and later share: answers, boxes, strings. No function of the program is named here. -/
namespace Go.Proofs.YtjgogpaedaffkaaGreat.P
open Go.RowKit
theorem bel_drewN {B : Nat} {a w : World} (h : Below B a w) (n : Nat) : Below B a (w.drewN n) := ⟨h.os, h.tape, h.output, h.size, h.block⟩
theorem tm0 (y k : Int) : y.tmod k = 0 ↔ y % k = 0 := by rw [← Int.dvd_iff_tmod_eq_zero, ← Int.dvd_iff_emod_eq_zero]
theorem tmb (y k : Int) : (y.tmod k == 0) = decide (y % k = 0) := by rw [Bool.eq_iff_iff]; simp [tm0]
theorem ret_b {a b : Bool} (h : a = b) : Ending.returned (.bool a) = Ending.returned (.bool b) := by rw [h]
theorem ret_2 {a a' b b' : Value} (h : a = a') (k : b = b') : Ending.returned (.tuple #[a, b]) = Ending.returned (.tuple #[a', b']) := by rw [h, k]
theorem ret_i {a b : Int} (h : a = b) : Ending.returned (.int .i64 a) = Ending.returned (.int .i64 b) := by rw [h]
/-- A day as the program holds it. -/
def dv (y m d : Int) : Value := .agg #[.int .i64 y, .int .i64 m, .int .i64 d]
end Go.Proofs.YtjgogpaedaffkaaGreat.P
