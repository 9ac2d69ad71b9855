/- The tokens of a plan's text, read: the plan again. Pure: no program is named here. -/
import Derived.Test.YtnhhhnngocdagaaDoorJShL
import Derived.Test.YtnhhhnngocdagaaDoorJParS
import Derived.Test.YtnhhhnngocdagaaDoorJMem
import Derived.Test.YtnhhhnngocdagaaDoorJParJ
import Derived.Test.YtnhhhnngocdagaaDoorJChkR
import Derived.Test.YtnhhhnngocdagaaDoorJShT
import Derived.Test.YtnhhhnngocdagaaDoorJDatB
import Derived.Test.YtnhhhnngocdagaaDoorJLays
import Derived.Lib.Builder
import Derived.Lib.AppendStr
import Derived.Lib.UnsafeStr
import Derived.LoopTactic
import Derived.OwnWalk
import Derived.Shelf.Strings.OnBuilder
import Derived.BigQuiet
import Derived.Lib.QuietBelow
import Derived.Deep.RegionHeldLaw
import Derived.Deep.CutBlock
import Derived.Deep.DeepCutAuto
namespace Go.Proofs.YtnhhhnngocdagaaDoor.P
open Go.RowKit Mm R6
/-- From the next token on these stand, and nothing is wrong. -/
def At (ts : List Tok) (s : St) (xs : TkL) : Prop := s.err = 0 ∧ (ts.drop s.i).map (fun t => (t.k, t.t)) = xs
variable {ts : List Tok} {s : St}
theorem At.get {k : Nat} {l : List UInt8} {r : TkL} (h : At ts s ((k, l) :: r)) : ∃ t, ts[s.i]? = some t ∧ t.k = k ∧ t.t = l := by
  have := congrArg (·[0]?) h.2
  simp only [List.getElem?_map, List.getElem?_drop, Nat.add_zero, List.getElem?_cons_zero] at this
  obtain ⟨t, h1, h2⟩ := Option.map_eq_some_iff.1 this
  exact ⟨t, h1, congrArg Prod.fst h2, congrArg Prod.snd h2⟩
theorem At.tk {k : Nat} {l : List UInt8} {r : TkL} (h : At ts s ((k, l) :: r)) : (tk ts s).k = k ∧ (tk ts s).t = l := by
  obtain ⟨t, h1, h2, h3⟩ := h.get
  unfold P.tk
  rw [List.getD_eq_getElem?_getD, h1]
  exact ⟨h2, h3⟩
theorem At.lt {x : Nat × List UInt8} {r : TkL} (h : At ts s (x :: r)) : s.i < ts.length := by
  obtain ⟨t, h1, _⟩ := At.get (k := x.1) (l := x.2) h
  exact (List.getElem?_eq_some_iff.1 h1).1
theorem At.next {x : Nat × List UInt8} {r : TkL} (h : At ts s (x :: r)) : At ts s.next r := by
  refine ⟨h.1, ?_⟩
  have := congrArg List.tail h.2
  rw [List.tail_cons, ← List.drop_one, ← List.map_drop, List.drop_drop] at this
  exact this
theorem At.len {xs : TkL} (h : At ts s xs) : xs.length ≤ ts.length := by
  rw [← h.2, List.length_map, List.length_drop]
  omega
theorem At.on {k : Nat} {l l' : List UInt8} {r : TkL} (h : At ts s ((k, l) :: r)) (hk : k = 2 ∨ k = 5) : onW ts s l' = (l == l') := by
  unfold onW
  rw [h.tk.1, h.tk.2, decide_eq_true h.1]
  rcases hk with rfl | rfl <;> simp
theorem At.off {k : Nat} {l l' : List UInt8} {r : TkL} (h : At ts s ((k, l) :: r)) (hl : l ≠ l') : onW ts s l' = false := by
  unfold onW
  rw [h.tk.2, beq_eq_false_iff_ne.2 hl, Bool.and_false, Bool.and_false]
theorem At.wnt {k : Nat} {l : List UInt8} {r : TkL} (h : At ts s ((k, l) :: r)) (hk : k = 2 ∨ k = 5) : At ts (wnt ts s l) r := by
  unfold P.wnt
  rw [h.on hk, beq_self_eq_true, if_pos rfl]
  exact h.next
theorem At.isTk {k : Nat} {l : List UInt8} {r : TkL} (h : At ts s ((k, l) :: r)) : isTk ts s k = true := by
  unfold P.isTk
  rw [h.tk.1, decide_eq_true h.1]; simp
theorem At.tkn {k : Nat} {l : List UInt8} {r : TkL} (h : At ts s ((k, l) :: r)) : (tkn ts s k).1 = l ∧ At ts (tkn ts s k).2 r := by
  unfold P.tkn
  rw [h.isTk, if_pos rfl]
  exact ⟨h.tk.2, h.next⟩
theorem At.num {l : List UInt8} {r : TkL} {p m n : Int} (h : At ts s ((3, l) :: r)) (h1 : pN l p m = n) (h2 : pW l p m = 0) : (numS ts s p m).1 = n ∧ At ts (numS ts s p m).2 r := by
  unfold numS
  rw [h.isTk, if_pos rfl, h.tk.2, h1, h2]
  exact ⟨rfl, h.next⟩
theorem nmb_tx (n : Int) : nmbT n = tx n.toNat 0 := by
  unfold nmbT tx tail
  rw [if_pos (show fs n.toNat 0 = [] from rfl), List.append_nil, show n.toNat / 10 ^ 0 = n.toNat by simp]
theorem At.nmb {r : TkL} {n m : Int} (hn : NumOk n m) (hm : m ≤ 1000000000000) (h : At ts s ((3, nmbT n) :: r)) : (numS ts s 0 m).1 = n ∧ At ts (numS ts s 0 m).2 r := by
  have a := i64_of hn hm
  have e : ((n.toNat : Nat) : Int) = n := by omega
  have t := tx_back (n := n.toNat) (p := 0) (by decide) m (by rw [e]; exact a.2) (by rw [e]; exact hn.2)
  rw [nmb_tx] at h
  rw [e] at t
  exact h.num t.1 t.2
theorem At.dec {r : TkL} {n m : Int} {p : Nat} (hp : p ≤ 9) (hn : NumOk n m) (hm : m ≤ 1000000000000) (h : At ts s ((3, decT n p) :: r)) : (numS ts s (p : Int) m).1 = n ∧ At ts (numS ts s (p : Int) m).2 r := by
  have a := i64_of hn hm
  have e : ((n.toNat : Nat) : Int) = n := by omega
  have t := tx_back (n := n.toNat) (p := p) hp m (by rw [e]; exact a.2) (by rw [e]; exact hn.2)
  rw [e] at t
  exact h.num t.1 t.2
theorem At.day {d : Day} {r : TkL} (hd : DayOk d) (h : At ts s ((4, dayT d) :: r)) : (dayS ts s).1 = d ∧ At ts (dayS ts s).2 r := by
  obtain ⟨h1, h2⟩ := h.tkn
  exact ⟨by show dayOf' (P.tkn ts s 4).1 = d; rw [h1, (kd_day hd).2.2.2], h2⟩
theorem At.win {w : Win} {k : Nat} {l : List UInt8} {r : TkL} (hw : WinOk w) (hl : l ≠ wFrom) (h : At ts s (winX w ++ (k, l) :: r)) : (winS ts s).1 = w ∧ At ts (winS ts s).2 ((k, l) :: r) := by
  unfold winS
  rcases hw with ⟨h1, h2, h3⟩ | rfl
  · unfold winX at h
    rw [h1] at h
    have h : At ts s ((2, wFrom) :: (4, dayT w.a) :: (2, wTo) :: (4, dayT w.b) :: (k, l) :: r) := h
    rw [h.on (.inl rfl), beq_self_eq_true, if_pos rfl]
    obtain ⟨a1, a2⟩ := h.next.day h2
    obtain ⟨b1, b2⟩ := (a2.wnt (.inl rfl)).day h3
    refine ⟨?_, b2⟩
    simp only
    rw [a1, b1]
    cases w
    simp only at h1
    rw [h1]
  · have h : At ts s ((k, l) :: r) := h
    rw [h.off hl]
    exact ⟨rfl, h⟩
theorem At.opt {word l : List UInt8} {n d : Int} {k : Nat} {r : TkL} (hn : NumOk n 1000000) (hl : l ≠ word) (h : At ts s ((if n = d then [] else [(2, word), (3, nmbT n), smX]) ++ (k, l) :: r)) : (optS ts s word d).1 = n ∧ At ts (optS ts s word d).2 ((k, l) :: r) := by
  unfold optS
  by_cases g : n = d
  · rw [if_pos g] at h
    have h : At ts s ((k, l) :: r) := h
    rw [h.off hl]
    exact ⟨g.symm, h⟩
  · rw [if_neg g] at h
    have h : At ts s ((2, word) :: (3, nmbT n) :: smX :: (k, l) :: r) := h
    rw [h.on (.inl rfl), beq_self_eq_true, if_pos rfl]
    obtain ⟨a1, a2⟩ := h.next.nmb hn (by decide)
    exact ⟨a1, a2.wnt (.inr rfl)⟩
/-- Which of some words these letters are. -/
def oneP : List (List UInt8) → List UInt8 → Int → Option Int
  | [], _, _ => none
  | w :: r, l, k => if l = w then some k else oneP r l (k + 1)
theorem At.oneAt {k : Nat} {l : List UInt8} {r : TkL} (h : At ts s ((k, l) :: r)) (hk : k = 2 ∨ k = 5) : ∀ (ws : List (List UInt8)) (j : Int), oneAt ts s ws j = match oneP ws l j with | some i => (i, s.next) | none => (-1, s)
  | [], _ => rfl
  | w :: q, j => by
    unfold P.oneAt oneP
    rw [h.on hk]
    by_cases g : l = w
    · rw [if_pos g, g, beq_self_eq_true, if_pos rfl]
    · rw [if_neg g, beq_eq_false_iff_ne.2 g]
      exact At.oneAt h hk q (j + 1)
theorem At.one {k : Nat} {l : List UInt8} {r : TkL} {ws : List (List UInt8)} {i : Int} (h : At ts s ((k, l) :: r)) (hk : k = 2 ∨ k = 5) (e : oneP ws l 0 = some i) : oneS ts s ws = (i, s.next) := by
  unfold oneS
  rw [h.oneAt hk, e]
theorem At.none {k : Nat} {l : List UInt8} {r : TkL} {ws : List (List UInt8)} (h : At ts s ((k, l) :: r)) (hk : k = 2 ∨ k = 5) (e : oneP ws l 0 = Option.none) : oneS ts s ws = (-1, s) := by
  unfold oneS
  rw [h.oneAt hk, e]
theorem At.mode {m : Int} {r : TkL} (hm : NumOk m 3) (h : At ts s ((2, modeT m) :: r)) : (modeS ts s).1 = m ∧ At ts (modeS ts s).2 r := by
  have e : oneP modes (modeT m) 0 = some m := by
    obtain ⟨h1, h2⟩ := hm
    rcases (show m = 0 ∨ m = 1 ∨ m = 2 ∨ m = 3 by omega) with rfl | rfl | rfl | rfl <;> decide
  have o := h.one (.inl rfl) e
  unfold modeS
  rw [o, if_neg (by have := hm.1; show ¬ m < 0; omega)]
  exact ⟨rfl, h.next⟩
theorem At.kind {k : Int} {r : TkL} (hk : k = 1 ∨ k = 2) (h : At ts s ((2, kindT k) :: r)) : (kindS ts s).1 = k ∧ At ts (kindS ts s).2 r := by
  have e : oneP kinds (kindT k) 0 = some (k - 1) := by rcases hk with rfl | rfl <;> decide
  have o := h.one (.inl rfl) e
  unfold kindS
  simp only
  rw [o]
  refine ⟨by show 1 + (k - 1) = k; omega, ?_⟩
  rw [if_neg (by show ¬ 1 + (k - 1) = 0; omega)]
  exact h.next
theorem At.tier {t : Tier} {r : TkL} (ht : TierOk t) (h : At ts s ((3, nmbT t.upto) :: (2, wRate) :: (3, decT t.rate 6) :: smX :: r)) : (tierS ts s).1 = t ∧ At ts (tierS ts s).2 r := by
  obtain ⟨a1, a2⟩ := h.nmb ht.upto (by decide)
  obtain ⟨b1, b2⟩ := (a2.wnt (.inl rfl)).dec (p := 6) (by decide) ht.rate (by decide)
  exact ⟨by show (⟨_, _⟩ : Tier) = t; rw [a1]; show (⟨t.upto, (numS ts (P.wnt ts (numS ts s 0 1000000).2 wRate) ((6 : Nat) : Int) 1000000000000).1⟩ : Tier) = t; rw [b1], b2.wnt (.inr rfl)⟩
theorem At.tiers {r : TkL} : ∀ (xs : List Tier) (n : Nat) (s : St) (acc : List Tier), (∀ t ∈ xs, TierOk t) → xs.length < n → At ts s (xs.flatMap tierX ++ (2, wRest) :: r) → (tiersS ts n s acc).1 = acc ++ xs ∧ At ts (tiersS ts n s acc).2 ((2, wRest) :: r)
  | [], 0, _, _, _, hn, _ => absurd hn (by decide)
  | [], n + 1, s, acc, _, _, h => by
    have h : At ts s ((2, wRest) :: r) := h
    unfold tiersS
    rw [h.off (by decide)]
    exact ⟨by simp, h⟩
  | t :: q, 0, _, _, _, hn, _ => absurd hn (by simp)
  | t :: q, n + 1, s, acc, ht, hn, h => by
    rw [List.flatMap_cons, List.append_assoc] at h
    have h : At ts s ((2, wUpto) :: (3, nmbT t.upto) :: (2, wRate) :: (3, decT t.rate 6) :: smX :: (q.flatMap tierX ++ (2, wRest) :: r)) := h
    unfold tiersS
    rw [h.on (.inl rfl), beq_self_eq_true, if_pos rfl]
    obtain ⟨a1, a2⟩ := h.next.tier (ht t (List.mem_cons_self ..))
    obtain ⟨b1, b2⟩ := At.tiers q n _ (acc ++ [(tierS ts s.next).1]) (fun x hx => ht x (List.mem_cons_of_mem _ hx)) (by simpa using hn) a2
    exact ⟨by rw [b1, a1]; simp, b2⟩
theorem At.adj {a : Adj} {r : TkL} (ha : AdjOk a) (h : At ts s ((adjX a).tail ++ r)) : (adjS ts s a.kind).1 = a ∧ At ts (adjS ts s a.kind).2 r := by
  obtain ⟨k, n, m⟩ := a
  unfold adjX at h
  unfold adjS
  rcases ha with ⟨k1, k2, k3⟩ | ⟨k1, k2, k3⟩
  · simp only at k1 k2 k3
    subst k1
    have h : At ts s ((3, decT n 3) :: (2, modeT m) :: smX :: r) := h
    rw [if_pos rfl]
    obtain ⟨a1, a2⟩ := h.dec (p := 3) (by decide) k2 (by decide)
    obtain ⟨b1, b2⟩ := a2.mode k3
    refine ⟨?_, b2.wnt (.inr rfl)⟩
    show (⟨1, (numS ts s ((3 : Nat) : Int) 100000000).1, (modeS ts (numS ts s ((3 : Nat) : Int) 100000000).2).1⟩ : Adj) = _
    rw [a1, b1]
  · simp only at k1 k2 k3
    subst k3
    have h : At ts s ((3, nmbT n) :: smX :: r) := by
      rcases k1 with rfl | rfl | rfl <;> exact h
    have k0 : ¬ k = 1 := by omega
    rw [if_neg k0]
    obtain ⟨a1, a2⟩ := h.nmb k2 (by decide)
    exact ⟨by simp only; rw [a1], a2.wnt (.inr rfl)⟩
theorem adjX_head {a : Adj} (ha : AdjOk a) : ∃ w, adjX a = (2, w) :: (adjX a).tail ∧ oneP adjWords w 0 = some (a.kind - 1) := by
  unfold adjX
  rcases ha with ⟨k1, _, _⟩ | ⟨k1 | k1 | k1, _, _⟩ <;> rw [k1]
  · exact ⟨wPercent, rfl, by decide⟩
  · exact ⟨wCap, rfl, by decide⟩
  · exact ⟨wMinimum, rfl, by decide⟩
  · exact ⟨wAdd, rfl, by decide⟩
theorem At.adjs {r : TkL} : ∀ (xs : List Adj) (n : Nat) (s : St) (acc : List Adj), (∀ t ∈ xs, AdjOk t) → xs.length < n → At ts s (xs.flatMap adjX ++ (5, sShut) :: r) → (adjsS ts n s acc).1 = acc ++ xs ∧ At ts (adjsS ts n s acc).2 ((5, sShut) :: r)
  | [], 0, _, _, _, hn, _ => absurd hn (by decide)
  | [], n + 1, s, acc, _, _, h => by
    have h : At ts s ((5, sShut) :: r) := h
    have o := h.none (ws := adjWords) (.inr rfl) (by decide)
    unfold adjsS
    simp only
    rw [o, if_pos (show (1 : Int) + -1 = 0 by decide)]
    exact ⟨by simp, h⟩
  | t :: q, 0, _, _, _, hn, _ => absurd hn (by simp)
  | t :: q, n + 1, s, acc, ht, hn, h => by
    have hat := ht t (List.mem_cons_self ..)
    obtain ⟨w, e1, e2⟩ := adjX_head hat
    rw [List.flatMap_cons, List.append_assoc, e1] at h
    have h : At ts s ((2, w) :: ((adjX t).tail ++ (q.flatMap adjX ++ (5, sShut) :: r))) := h
    have o := h.one (.inl rfl) e2
    have ek : (1 : Int) + (t.kind - 1) = t.kind := by omega
    have k0 : ¬ t.kind = 0 := by rcases hat with ⟨k1, _, _⟩ | ⟨k1 | k1 | k1, _, _⟩ <;> omega
    unfold adjsS
    simp only
    rw [o]
    show (if 1 + (t.kind - 1) = 0 then _ else adjsS ts n (adjS ts s.next (1 + (t.kind - 1))).2 (acc ++ [(adjS ts s.next (1 + (t.kind - 1))).1])).1 = _ ∧ At ts (if 1 + (t.kind - 1) = 0 then _ else adjsS ts n (adjS ts s.next (1 + (t.kind - 1))).2 (acc ++ [(adjS ts s.next (1 + (t.kind - 1))).1])).2 _
    rw [ek, if_neg k0]
    obtain ⟨a1, a2⟩ := h.next.adj hat
    obtain ⟨b1, b2⟩ := At.adjs q n _ (acc ++ [(adjS ts s.next t.kind).1]) (fun x hx => ht x (List.mem_cons_of_mem _ hx)) (by simpa using hn) a2
    exact ⟨by rw [b1, a1]; simp, b2⟩
end Go.Proofs.YtnhhhnngocdagaaDoor.P
/- A plan's text, read again: the same plan, but for places. Pure: no program is named here. -/
namespace Go.Proofs.YtnhhhnngocdagaaDoor.P
open Go.RowKit Mm R6
variable {ts : List Tok} {s : St}
theorem ba_list (b : ByteArray) : (⟨b.data.toList.toArray⟩ : ByteArray) = b := by simp
theorem At.dec6 {r : TkL} {n m : Int} (hn : NumOk n m) (hm : m ≤ 1000000000000) (h : At ts s ((3, decT n 6) :: r)) : (numS ts s 6 m).1 = n ∧ At ts (numS ts s 6 m).2 r := At.dec (p := 6) (by decide) hn hm h
theorem Lx.hor {a b : Day} {l : List UInt8} {xs : TkL} (ha : DayOk a) (hb : DayOk b) (h : Lx l xs) : Lx (tellT 0 [wHorizon, dayT a, dayT b] ++ l) ((2, wHorizon) :: (4, dayT a) :: (4, dayT b) :: smX :: xs) := by
  have a := kd_day ha
  have b := kd_day hb
  have z4 := Lx.kw (t := wHorizon) (by decide) (by decide) (Lx.sp (Lx.word ⟨a.2.1, a.2.2.1⟩ a.1 (by decide) (by decide) (Lx.sp (Lx.word ⟨b.2.1, b.2.2.1⟩ b.1 (by decide) (by decide) (Lx.semi h)))))
  unfold tellT
  rw [join3]
  refine Lx.ln 0 ?_
  simp only [List.append_assoc, List.cons_append, List.nil_append]
  exact z4
theorem Lx.pl {n c : ByteArray} {l : List UInt8} {xs : TkL} (hn : NmOk n) (hc : NmOk c) (h : Lx l xs) : Lx (tellT 0 [wPlan, n.data.toList, wCurrency, c.data.toList] ++ l) ((2, wPlan) :: (1, n.data.toList) :: (2, wCurrency) :: (1, c.data.toList) :: smX :: xs) := by
  have z6 := Lx.kw (t := wPlan) (by decide) (by decide) (Lx.sp (Lx.nm hn (by decide) (Lx.sp (Lx.kw (t := wCurrency) (by decide) (by decide) (Lx.sp (Lx.nm hc (by decide) (Lx.semi h)))))))
  unfold tellT
  rw [join4]
  refine Lx.ln 0 ?_
  simp only [List.append_assoc, List.cons_append, List.nil_append]
  exact z6
theorem At.meterS {m : Meter} {r : TkL} (h1 : NmOk m.name ∧ NmOk m.unit ∧ NumOk m.max 2000) (l c : Int) (h : At ts s ((meterX m).tail ++ r)) : (meterS ts s l c).1 = { m with line := l, col := c } ∧ At ts (meterS ts s l c).2 r := by
  have h : At ts s ((1, m.name.data.toList) :: (2, wUnit) :: (1, m.unit.data.toList) :: (2, wMax) :: (3, nmbT m.max) :: smX :: r) := h
  obtain ⟨a1, a2⟩ := h.tkn
  obtain ⟨b1, b2⟩ := (a2.wnt (.inl rfl)).tkn
  obtain ⟨c1, c2⟩ := (b2.wnt (.inl rfl)).nmb h1.2.2 (by decide)
  refine ⟨?_, c2.wnt (.inr rfl)⟩
  unfold P.meterS
  simp only
  rw [a1, b1, c1, ba_list, ba_list]
theorem At.feeS {f : Fee} {r : TkL} (h1 : NumOk f.amount 1000000000000 ∧ WinOk f.win) (l c : Int) (h : At ts s ((feeX f).tail ++ r)) : (feeS ts s l c).1 = { f with line := l, col := c } ∧ At ts (feeS ts s l c).2 r := by
  have h : At ts s ((3, nmbT f.amount) :: ((winX f.win ++ [smX]) ++ r)) := h
  obtain ⟨a1, a2⟩ := h.nmb h1.1 (by decide)
  rw [List.append_assoc] at a2
  obtain ⟨b1, b2⟩ := At.win h1.2 (show sSemi ≠ wFrom by decide) a2
  refine ⟨?_, b2.wnt (.inr rfl)⟩
  unfold P.feeS
  simp only
  rw [a1, b1]
theorem flat_len_le {α β : Type} {f : α → List β} : ∀ (l : List α), (∀ a ∈ l, 1 ≤ (f a).length) → l.length ≤ (l.flatMap f).length
  | [], _ => Nat.le_refl _
  | a :: r, h => by
    have e := flat_len_le r (fun b hb => h b (List.mem_cons_of_mem _ hb))
    have k := h a (List.mem_cons_self ..)
    rw [List.flatMap_cons, List.length_append, List.length_cons]
    omega
theorem opt_head {word : List UInt8} {n d : Int} {k : Nat} {l : List UInt8} {r : TkL} : ∃ k' l' r', (if n = d then [] else [(2, word), (3, nmbT n), smX]) ++ (k, l) :: r = (k', l') :: r' ∧ (l' = word ∨ l' = l) := by
  by_cases g : n = d
  · rw [if_pos g]; exact ⟨_, _, _, rfl, .inr rfl⟩
  · rw [if_neg g]; exact ⟨_, _, _, rfl, .inl rfl⟩
theorem kind_word {k : Int} (hk : k = 1 ∨ k = 2) : kindT k ≠ wAllowance ∧ kindT k ≠ wBlock := by
  rcases hk with rfl | rfl <;> exact ⟨by decide, by decide⟩
theorem At.chargeS {c : Charge} {us : List Tier} {q : Int} {r : TkL} (hc : ChOk c) (e : c.tiers = us ++ [⟨0, q⟩]) (hu : ∀ t ∈ us, TierOk t) (hq : NumOk q 1000000000000) (l b : Int) (h : At ts s ((chargeX c us q).tail ++ r)) :
    (chargeS ts s l b).1 = { c with line := l, col := b } ∧ At ts (chargeS ts s l b).2 r := by
  have lenu : us.length ≤ (us.flatMap tierX).length := flat_len_le us (fun t _ => by show 1 ≤ 5; decide)
  have lena : c.adjusts.length ≤ (c.adjusts.flatMap adjX).length := flat_len_le c.adjusts (fun a ha => by obtain ⟨w, e1, _⟩ := adjX_head (hc.adjs a ha); rw [e1]; simp)
  have L := h.len
  unfold chargeX at h L
  simp only [List.tail_cons, List.cons_append, List.append_assoc, List.nil_append] at h L
  simp only [List.length_cons, List.length_append] at L
  obtain ⟨a1, a2⟩ := h.tkn
  obtain ⟨b1, b2⟩ := At.win hc.win (show sOpen ≠ wFrom by decide) a2
  have b3 := b2.wnt (.inr rfl)
  have kw := kind_word hc.kind
  obtain ⟨k', l', r', e1, e2⟩ := opt_head (word := wBlock) (n := c.block) (d := 1) (k := 2) (l := kindT c.kind) (r := (5, sOpen) :: (us.flatMap tierX ++ (restX q ++ (5, sShut) :: (2, wRound) :: (2, modeT c.mode) :: smX :: (c.adjusts.flatMap adjX ++ (5, sShut) :: r))))
  rw [e1] at b3
  obtain ⟨c1, c2⟩ := b3.opt (word := wAllowance) hc.allow (by rcases e2 with rfl | rfl; exact (by decide); exact kw.1)
  rw [← e1] at c2
  obtain ⟨d1, d2⟩ := c2.opt (word := wBlock) hc.block kw.2
  obtain ⟨f1, f2⟩ := d2.kind hc.kind
  obtain ⟨g1, g2⟩ := At.tiers us ts.length _ [] hu (by omega) (f2.wnt (.inr rfl))
  obtain ⟨i1, i2⟩ := ((g2.wnt (.inl rfl)).wnt (.inl rfl)).dec6 hq (by decide)
  obtain ⟨j1, j2⟩ := (((i2.wnt (.inr rfl)).wnt (.inr rfl)).wnt (.inl rfl)).mode hc.mode
  obtain ⟨k1, k2⟩ := At.adjs c.adjusts ts.length _ [] hc.adjs (by omega) (j2.wnt (.inr rfl))
  refine ⟨?_, k2.wnt (.inr rfl)⟩
  unfold P.chargeS
  simp only
  rw [a1, b1, c1, d1, f1, g1, i1, j1, k1, ba_list, List.nil_append, List.nil_append, ← e]
/-- A charge's tokens. -/
def chX (c : Charge) : TkL := chargeX c c.tiers.dropLast ((c.tiers.getLast?.map Tier.rate).getD 0)
theorem chX_of {c : Charge} {us : List Tier} {q : Int} (e : c.tiers = us ++ [⟨0, q⟩]) : chX c = chargeX c us q := by
  unfold chX
  rw [e, List.dropLast_concat, List.getLast?_append]
  rfl
def headX (p : Plan) : TkL := [(2, wPlan), (1, p.name.data.toList), (2, wCurrency), (1, p.cur.data.toList), smX, (2, wHorizon), (4, dayT p.a), (4, dayT p.b), smX]
/-- A plan's tokens. -/
def planX (p : Plan) : TkL := headX p ++ (p.meters.flatMap meterX ++ (p.fees.flatMap feeX ++ (p.charges.flatMap chX ++ [(0, [])])))
theorem Lx.plan {p : Plan} (h : Gd p) : Lx (planT p) (planX p) := by
  have z1 := Lx.flat (f := chargeT) (g := chX) p.charges (fun c hc l xs hl => by
    obtain ⟨us, q, e, _, _⟩ := (h.charges c hc).tiers
    rw [chX_of e]
    exact Lx.charge (h.charges c hc) e hl) Lx.nil
  have z2 := Lx.flat (f := feeT) (g := feeX) p.fees (fun f hf l xs hl => Lx.fee (h.fees f hf).2 hl) z1
  have z3 := Lx.flat (f := meterT) (g := meterX) p.meters (fun m hm l xs hl => Lx.meter (h.meters m hm).1 (h.meters m hm).2.1 hl) z2
  have z7 := Lx.pl h.name.1 h.name.2 (Lx.hor h.days.1 h.days.2 z3)
  unfold planT headT8 planX headX
  simp only [List.append_assoc, List.cons_append, List.nil_append, List.append_nil] at z7 ⊢
  exact z7
theorem item_one {w : List UInt8} {r : TkL} {i : Int} (h : At ts s ((2, w) :: r)) (e : oneP itemWords w 0 = some i) : oneS ts s itemWords = (i, s.next) ∧ goesOn ts s = true := by
  refine ⟨h.one (.inl rfl) e, ?_⟩
  unfold goesOn
  rw [h.tk.1, decide_eq_true h.1]; rfl
theorem At.ok {x : Nat × List UInt8} {r : TkL} (T : Toks ts) (h : At ts s (x :: r)) : Ok ts s := ⟨T, h.lt⟩
theorem At.itemM {m : Meter} {r : TkL} (p : Plan) (h1 : NmOk m.name ∧ NmOk m.unit ∧ NumOk m.max 2000) (h : At ts s (meterX m ++ r)) : ∃ m' s', itemS ts s p = ({ p with meters := p.meters ++ [m'] }, s') ∧ nM m' = nM m ∧ At ts s' r ∧ goesOn ts s = true := by
  have h : At ts s ((2, wMeter) :: ((meterX m).tail ++ r)) := h
  obtain ⟨o, g⟩ := item_one h (i := 0) (by decide)
  obtain ⟨a1, a2⟩ := h.next.meterS h1 (P.tk ts s).ln (P.tk ts s).cl
  refine ⟨(P.meterS ts s.next (P.tk ts s).ln (P.tk ts s).cl).1, _, ?_, ?_, a2, g⟩
  · unfold itemS
    simp only
    rw [o, if_pos (show (0 : Int) = 0 from rfl)]
  · rw [a1]; rfl
theorem At.itemF {f : Fee} {r : TkL} (p : Plan) (h1 : NumOk f.amount 1000000000000 ∧ WinOk f.win) (h : At ts s (feeX f ++ r)) : ∃ m' s', itemS ts s p = ({ p with fees := p.fees ++ [m'] }, s') ∧ nF m' = nF f ∧ At ts s' r ∧ goesOn ts s = true := by
  have h : At ts s ((2, wFee) :: ((feeX f).tail ++ r)) := h
  obtain ⟨o, g⟩ := item_one h (i := 1) (by decide)
  obtain ⟨a1, a2⟩ := h.next.feeS h1 (P.tk ts s).ln (P.tk ts s).cl
  refine ⟨(P.feeS ts s.next (P.tk ts s).ln (P.tk ts s).cl).1, _, ?_, ?_, a2, g⟩
  · unfold itemS
    simp only
    rw [o, if_neg (show ¬ ((1 : Int) = 0) by decide), if_pos (show (1 : Int) = 1 from rfl)]
  · rw [a1]; rfl
theorem At.itemC {c : Charge} {r : TkL} (p : Plan) (h1 : ChOk c) (h : At ts s (chX c ++ r)) : ∃ m' s', itemS ts s p = ({ p with charges := p.charges ++ [m'] }, s') ∧ nC m' = nC c ∧ At ts s' r ∧ goesOn ts s = true := by
  obtain ⟨us, q, e, hu, hq⟩ := h1.tiers
  rw [chX_of e] at h
  have h : At ts s ((2, wCharge) :: ((chargeX c us q).tail ++ r)) := h
  obtain ⟨o, g⟩ := item_one h (i := 2) (by decide)
  obtain ⟨a1, a2⟩ := h.next.chargeS h1 e hu hq (P.tk ts s).ln (P.tk ts s).cl
  refine ⟨(P.chargeS ts s.next (P.tk ts s).ln (P.tk ts s).cl).1, _, ?_, ?_, a2, g⟩
  · unfold itemS
    simp only
    rw [o, if_neg (show ¬ ((2 : Int) = 0) by decide), if_neg (show ¬ ((2 : Int) = 1) by decide), if_pos (show (2 : Int) = 2 from rfl)]
  · rw [a1]; rfl
theorem At.meters (T : Toks ts) {r : TkL} : ∀ (xs : List Meter) (s : St) (p : Plan), (∀ m ∈ xs, NmOk m.name ∧ NmOk m.unit ∧ NumOk m.max 2000) → At ts s (xs.flatMap meterX ++ r) → ∃ ys s', itemsS ts ts.length s p = itemsS ts ts.length s' { p with meters := p.meters ++ ys } ∧ ys.map nM = xs.map nM ∧ At ts s' r
  | [], s, p, _, h => ⟨[], s, by rw [List.append_nil], rfl, h⟩
  | m :: q, s, p, hm, h => by
    rw [List.flatMap_cons, List.append_assoc] at h
    have ok : Ok ts s := At.ok (x := (2, wMeter)) (r := (meterX m).tail ++ (q.flatMap meterX ++ r)) T h
    obtain ⟨m', s', e1, e2, e3, e4⟩ := At.itemM p (hm m (List.mem_cons_self ..)) h
    obtain ⟨ys, s2, f1, f2, f3⟩ := At.meters T q s' { p with meters := p.meters ++ [m'] } (fun x hx => hm x (List.mem_cons_of_mem _ hx)) e3
    refine ⟨m' :: ys, s2, ?_, by rw [List.map_cons, List.map_cons, e2, f2], f3⟩
    rw [items_step ok e4, e1, f1]
    simp
theorem At.fees (T : Toks ts) {r : TkL} : ∀ (xs : List Fee) (s : St) (p : Plan), (∀ f ∈ xs, NumOk f.amount 1000000000000 ∧ WinOk f.win) → At ts s (xs.flatMap feeX ++ r) → ∃ ys s', itemsS ts ts.length s p = itemsS ts ts.length s' { p with fees := p.fees ++ ys } ∧ ys.map nF = xs.map nF ∧ At ts s' r
  | [], s, p, _, h => ⟨[], s, by rw [List.append_nil], rfl, h⟩
  | m :: q, s, p, hm, h => by
    rw [List.flatMap_cons, List.append_assoc] at h
    have ok : Ok ts s := At.ok (x := (2, wFee)) (r := (feeX m).tail ++ (q.flatMap feeX ++ r)) T h
    obtain ⟨m', s', e1, e2, e3, e4⟩ := At.itemF p (hm m (List.mem_cons_self ..)) h
    obtain ⟨ys, s2, f1, f2, f3⟩ := At.fees T q s' { p with fees := p.fees ++ [m'] } (fun x hx => hm x (List.mem_cons_of_mem _ hx)) e3
    refine ⟨m' :: ys, s2, ?_, by rw [List.map_cons, List.map_cons, e2, f2], f3⟩
    rw [items_step ok e4, e1, f1]
    simp
theorem At.charges (T : Toks ts) {r : TkL} : ∀ (xs : List Charge) (s : St) (p : Plan), (∀ c ∈ xs, ChOk c) → At ts s (xs.flatMap chX ++ r) → ∃ ys s', itemsS ts ts.length s p = itemsS ts ts.length s' { p with charges := p.charges ++ ys } ∧ ys.map nC = xs.map nC ∧ At ts s' r
  | [], s, p, _, h => ⟨[], s, by rw [List.append_nil], rfl, h⟩
  | m :: q, s, p, hm, h => by
    rw [List.flatMap_cons, List.append_assoc] at h
    have ok : Ok ts s := At.ok (x := (2, wCharge)) (r := (chX m).tail ++ (q.flatMap chX ++ r)) T h
    obtain ⟨m', s', e1, e2, e3, e4⟩ := At.itemC p (hm m (List.mem_cons_self ..)) h
    obtain ⟨ys, s2, f1, f2, f3⟩ := At.charges T q s' { p with charges := p.charges ++ [m'] } (fun x hx => hm x (List.mem_cons_of_mem _ hx)) e3
    refine ⟨m' :: ys, s2, ?_, by rw [List.map_cons, List.map_cons, e2, f2], f3⟩
    rw [items_step ok e4, e1, f1]
    simp
/-- The tokens of a plan's text are that plan, but for places. -/
theorem plan_read (T : Toks ts) {p : Plan} (h : Gd p) (e : ts.map (fun t => (t.k, t.t)) = planX p) : (planS ts).2.1 = 0 ∧ noPl (planS ts).1 = noPl p := by
  have h0 : At ts st0 (planX p) := ⟨rfl, e⟩
  have h0 : At ts st0 ((2, wPlan) :: (1, p.name.data.toList) :: (2, wCurrency) :: (1, p.cur.data.toList) :: smX :: (2, wHorizon) :: (4, dayT p.a) :: (4, dayT p.b) :: smX :: (p.meters.flatMap meterX ++ (p.fees.flatMap feeX ++ (p.charges.flatMap chX ++ [(0, [])])))) := h0
  obtain ⟨a1, a2⟩ := (h0.wnt (.inl rfl)).tkn
  obtain ⟨b1, b2⟩ := (a2.wnt (.inl rfl)).tkn
  obtain ⟨c1, c2⟩ := ((b2.wnt (.inr rfl)).wnt (.inl rfl)).day h.days.1
  obtain ⟨d1, d2⟩ := c2.day h.days.2
  have d3 : At ts (headS ts st0).2 (p.meters.flatMap meterX ++ (p.fees.flatMap feeX ++ (p.charges.flatMap chX ++ [(0, [])]))) := d2.wnt (.inr rfl)
  obtain ⟨ms, s1, e1, e2, e3⟩ := At.meters T p.meters _ (headS ts st0).1 h.meters d3
  obtain ⟨fs, s2, f1, f2, f3⟩ := At.fees T p.fees s1 { (headS ts st0).1 with meters := (headS ts st0).1.meters ++ ms } h.fees e3
  obtain ⟨cs, s3, g1, g2, g3⟩ := At.charges T p.charges s2 { (headS ts st0).1 with meters := (headS ts st0).1.meters ++ ms, fees := (headS ts st0).1.fees ++ fs } h.charges f3
  have gs : goesOn ts s3 = false := by unfold goesOn; rw [g3.tk.1]; simp
  have e4 := items_stop ts ts.length s3 { (headS ts st0).1 with meters := (headS ts st0).1.meters ++ ms, fees := (headS ts st0).1.fees ++ fs, charges := (headS ts st0).1.charges ++ cs } gs
  have e1 := ((e1.trans f1).trans g1).trans e4
  unfold planS
  simp only
  rw [e1, if_pos g3.1]
  refine ⟨rfl, ?_⟩
  unfold noPl headS
  simp only [List.nil_append]
  rw [a1, b1, c1, d1, ba_list, ba_list, e2, f2, g2]
/-- The tokens of a text that reads so. -/
theorem toks_of {xs : TkL} (e : ts.map (fun t => (t.k, t.t)) = xs ++ [(0, [])]) : Toks ts := by
  refine ⟨fun i t h1 h2 => ?_, ?_⟩
  · have := congrArg (·[i]?) e
    have hl := congrArg List.length e
    simp only [List.length_map, List.length_append, List.length_singleton] at hl
    simp only [List.getElem?_map, h1, Option.map_some] at this
    rw [List.getElem?_append_right (by omega), show i - xs.length = 0 by omega] at this
    simp only [List.getElem?_cons_zero, Option.some.injEq, Prod.mk.injEq] at this
    exact this.1
  · have hl := congrArg List.length e
    simp only [List.length_map, List.length_append, List.length_singleton] at hl
    omega
theorem planX_end (p : Plan) : ∃ xs, planX p = xs ++ [(0, [])] := ⟨headX p ++ (p.meters.flatMap meterX ++ (p.fees.flatMap feeX ++ p.charges.flatMap chX)), by unfold planX; simp only [List.append_assoc]⟩
theorem lex_read {p : Plan} (h : Gd p) : (lex (planT p) 1 1).2 = none ∧ (planS (lex (planT p) 1 1).1).2.1 = 0 ∧ noPl (planS (lex (planT p) 1 1).1).1 = noPl p := by
  obtain ⟨l1, l2⟩ := Lx.plan h 1 1
  obtain ⟨xs, e⟩ := planX_end p
  exact ⟨l1, plan_read (toks_of (by rw [l2, e])) h l2⟩
/-- A plan's text is parsed to the same plan, but for places. -/
theorem show_back {p : Plan} (h : Gd p) (hl : (planT p).length ≤ 8192) : (parsed (planT p)).2.1 = 0 ∧ noPl (parsed (planT p)).1 = noPl p := by
  obtain ⟨l1, l2⟩ := lex_read h
  have e : lexed (planT p) = ((lex (planT p) 1 1).1, 0, 0, 0) := lexed_ok (acc := (lex (planT p) 1 1).1) hl (by rw [← l1])
  unfold parsed
  simp only [e, if_true]
  exact l2
theorem planT_noPl (p : Plan) : planT (noPl p) = planT p := by
  unfold planT noPl headT8
  simp only [List.flatMap_map]
  rfl
/-- Two plans have one text just if they are the same, but for places. -/
theorem text_same {p q : Plan} (hp : Gd p) (hq : Gd q) : planT p = planT q ↔ noPl p = noPl q := by
  constructor
  · intro e
    have a := (lex_read hp).2.2
    rw [e, (lex_read hq).2.2] at a
    exact a.symm
  · intro e
    rw [← planT_noPl p, e, planT_noPl]
end Go.Proofs.YtnhhhnngocdagaaDoor.P
/- What is wrong with a plan, and its bound (layer 9): places don't count; what a text tells. No program is named here. -/
namespace Go.Proofs.YtnhhhnngocdagaaDoor.P
open Go.RowKit Mm R6
theorem dn_same {p : Plan} {w : Win} : winIn (noPl p) w = winIn p w := rfl
theorem ix_noPl (ms : List Meter) (n : ByteArray) : meterIx (ms.map nM) n = meterIx ms n := by
  unfold meterIx
  rw [List.findIdx?_map]
  rfl
theorem max_noPl (ms : List Meter) (i : Nat) : ((ms.map nM).getD i default).max = (ms.getD i default).max := by
  rw [List.getD_eq_getElem?_getD, List.getD_eq_getElem?_getD, List.getElem?_map]
  cases ms[i]? <;> rfl
theorem most_noPl (c : Charge) (mx : Int) : mostOf (nC c) mx = mostOf c mx := rfl
theorem mosts_noPl (ms : List Meter) : ∀ cs : List Charge, mosts (ms.map nM) (cs.map nC) = mosts ms cs
  | [] => rfl
  | c :: r => by
    rw [List.map_cons]
    unfold mosts
    rw [show (nC c).meter = c.meter from rfl, ix_noPl]
    split
    · exact mosts_noPl ms r
    · rw [most_noPl, max_noPl, mosts_noPl ms r]
theorem bound_noPl (p : Plan) : boundOf (noPl p) = boundOf p := by
  unfold boundOf
  show ((mosts (p.meters.map nM) (p.charges.map nC)).bind fun l => sumUp 0 ((p.fees.map nF).map (·.amount) ++ l)) = _
  rw [mosts_noPl, List.map_map]
  rfl
/-- The first that is wrong of rows that are alike. -/
theorem firstE_map {α : Type} {f g : Nat → α → Int} {pl pl' : α → Int × Int} {t : α → α} (h : ∀ i x, f i (t x) = g i x) : ∀ (i : Nat) (l : List α), (firstE f pl i (l.map t)).map (·.1) = (firstE g pl' i l).map (·.1)
  | _, [] => rfl
  | i, x :: r => by
    rw [List.map_cons]
    unfold firstE
    rw [h]
    split
    · exact firstE_map h (i + 1) r
    · rfl
theorem meterE_noPl (p : Plan) (i : Nat) (m : Meter) : meterE (noPl p) i (nM m) = meterE p i m := by
  unfold meterE
  show (if 4 ≤ i then 6 else if meterIx (p.meters.map nM) m.name = some i then 0 else 5) = _
  rw [ix_noPl]
theorem chE_noPl (p : Plan) (i : Nat) (c : Charge) : chE (noPl p) i (nC c) = chE p i c := by
  unfold chE
  show (if 8 ≤ i then 6 else if meterIx (p.meters.map nM) c.meter = none ∨ winIn p c.win = false ∨ c.block = 0 then 5 else if 8 < c.tiers.length then 6 else if risesB 0 c.tiers = false then 5 else if 6 < c.adjusts.length then 6 else 0) = _
  rw [ix_noPl]
/-- What is wrong, by its number alone. -/
theorem wrong_num (p : Plan) : (wrongOf p).1 = if headE p = 0 then (((firstE (meterE p) (fun m => (m.line, m.col)) 0 p.meters).map (·.1)).getD (((firstE (feeE p) (fun f => (f.line, f.col)) 0 p.fees).map (·.1)).getD (((firstE (chE p) (fun c => (c.line, c.col)) 0 p.charges).map (·.1)).getD (if boundOf p = none then 6 else 0)))) else headE p := by
  unfold wrongOf
  split
  · split
    · rename_i e he; rw [he]; rfl
    · rename_i he
      rw [he]
      split
      · rename_i e hf; rw [hf]; rfl
      · rename_i hf
        rw [hf]
        split
        · rename_i e hc; rw [hc]; rfl
        · rename_i hc
          rw [hc]
          split <;> rfl
  · rfl
theorem wrong_noPl (p : Plan) : (wrongOf (noPl p)).1 = (wrongOf p).1 := by
  rw [wrong_num, wrong_num, bound_noPl]
  have a : (firstE (meterE (noPl p)) (fun m => (m.line, m.col)) 0 (noPl p).meters).map (·.1) = (firstE (meterE p) (fun m => (m.line, m.col)) 0 p.meters).map (·.1) := firstE_map (meterE_noPl p) 0 p.meters
  have b : (firstE (feeE (noPl p)) (fun m => (m.line, m.col)) 0 (noPl p).fees).map (·.1) = (firstE (feeE p) (fun m => (m.line, m.col)) 0 p.fees).map (·.1) := firstE_map (t := nF) (fun _ _ => rfl) 0 p.fees
  have c : (firstE (chE (noPl p)) (fun m => (m.line, m.col)) 0 (noPl p).charges).map (·.1) = (firstE (chE p) (fun m => (m.line, m.col)) 0 p.charges).map (·.1) := firstE_map (chE_noPl p) 0 p.charges
  rw [a, b, c]
  rfl
theorem wrong_same {p q : Plan} (h : noPl p = noPl q) : (wrongOf p).1 = (wrongOf q).1 := by rw [← wrong_noPl p, h, wrong_noPl]
theorem bound_same {p q : Plan} (h : noPl p = noPl q) : boundOf p = boundOf q := by rw [← bound_noPl p, h, bound_noPl]
theorem wrong_nought {p : Plan} (h : (wrongOf p).1 = 0) : wrongOf p = (0, 0, 0) := by
  obtain ⟨h0, h1, h2, h3, h4⟩ := wrongOf_zero.1 h
  unfold wrongOf
  rw [if_pos h0, h1, h2, h3, if_neg h4]
theorem gd_noneg {p : Plan} (h : Gd p) : NoNeg p where
  fees := fun f hf => (h.fees f hf).1.1
  rates := fun c hc t ht => by
    obtain ⟨ts, r, e, g, gr⟩ := (h.charges c hc).tiers
    rw [e] at ht
    rcases List.mem_append.1 ht with ht | ht
    · exact (g t ht).rate.1
    · obtain rfl := List.mem_singleton.1 ht
      exact gr.1
  adjs := fun c hc a ha => by
    rcases (h.charges c hc).adjs a ha with g | g
    · exact g.2.1.1
    · exact g.2.1.1
  blocks := fun c hc => (h.charges c hc).block.1
theorem gd_less_fee {p : Plan} (h : Gd p) (k : Nat) : Gd { p with fees := p.fees.eraseIdx k } := ⟨h.name, h.days, h.meters, fun f hf => h.fees f (List.mem_of_mem_eraseIdx hf), h.charges⟩
theorem gd_less_charge {p : Plan} (h : Gd p) (k : Nat) : Gd { p with charges := p.charges.eraseIdx k } := ⟨h.name, h.days, h.meters, h.fees, fun c hc => h.charges c (List.mem_of_mem_eraseIdx hc)⟩
theorem flat_less {α : Type} (f : α → List UInt8) : ∀ (l : List α) (k : Nat), ((l.eraseIdx k).flatMap f).length ≤ (l.flatMap f).length
  | [], k => by simp
  | x :: r, 0 => by rw [List.eraseIdx_cons_zero, List.flatMap_cons, List.length_append]; omega
  | x :: r, k + 1 => by
    have := flat_less f r k
    rw [List.eraseIdx_cons_succ, List.flatMap_cons, List.flatMap_cons, List.length_append, List.length_append]
    omega
theorem text_less_fee (p : Plan) (k : Nat) : (planT { p with fees := p.fees.eraseIdx k }).length ≤ (planT p).length := by
  have := flat_less feeT p.fees k
  unfold planT headT8
  simp only [List.length_append]
  omega
theorem text_less_charge (p : Plan) (k : Nat) : (planT { p with charges := p.charges.eraseIdx k }).length ≤ (planT p).length := by
  have := flat_less chargeT p.charges k
  unfold planT headT8
  simp only [List.length_append]
  omega
/-- A plan with which nothing is wrong, less a fee, told and read again. -/
theorem parts_fee {p : Plan} (h : Gd p) (h0 : (wrongOf p).1 = 0) (k : Nat) {t : List UInt8} (ht : t = planT { p with fees := p.fees.eraseIdx k }) (hl : t.length ≤ 8192) :
    (parsed t).2.1 = 0 ∧ wrongOf (parsed t).1 = (0, 0, 0) ∧ ∃ a b, boundOf p = some a ∧ boundOf (parsed t).1 = some b ∧ b ≤ a := by
  subst ht
  obtain ⟨e, s⟩ := show_back (gd_less_fee h k) hl
  obtain ⟨g, a, b, ha, hb, hab⟩ := sound_less_fee (gd_noneg h) h0 k
  exact ⟨e, wrong_nought (by rw [wrong_same s]; exact g), a, b, ha, by rw [bound_same s]; exact hb, hab⟩
theorem parts_charge {p : Plan} (h : Gd p) (h0 : (wrongOf p).1 = 0) (k : Nat) {t : List UInt8} (ht : t = planT { p with charges := p.charges.eraseIdx k }) (hl : t.length ≤ 8192) :
    (parsed t).2.1 = 0 ∧ wrongOf (parsed t).1 = (0, 0, 0) ∧ ∃ a b, boundOf p = some a ∧ boundOf (parsed t).1 = some b ∧ b ≤ a := by
  subst ht
  obtain ⟨e, s⟩ := show_back (gd_less_charge h k) hl
  obtain ⟨g, a, b, ha, hb, hab⟩ := sound_less_charge (gd_noneg h) h0 k
  exact ⟨e, wrong_nought (by rw [wrong_same s]; exact g), a, b, ha, by rw [bound_same s]; exact hb, hab⟩
/-- CheckPlain, as plain data. -/
theorem plain_wrong {p : Plan} (h : Gd p) {t : List UInt8} (ht : t = planT p) (hl : t.length ≤ 8192) : (parsed t).2.1 = 0 ∧ (wrongOf (parsed t).1).1 = (wrongOf p).1 := by
  subst ht
  obtain ⟨e, s⟩ := show_back h hl
  exact ⟨e, wrong_same s⟩
end Go.Proofs.YtnhhhnngocdagaaDoor.P
/- Package show, walked: its writer: a strings.Builder that lies within a struct, and how many braces are open. -/
namespace Go.Proofs.YtnhhhnngocdagaaDoor.Sw
open Go.RowKit P Mm
/-- What a writer's calls leave alone: what lay there when the owner began; and all but the writer, and rows of bytes. -/
structure Kp (B k : Nat) (w w' : World) : Prop where
  bel : Below B w w'
  oth : ∀ j, j < w.heap.size → j ≠ k → (∀ cs fr, w.heap[j]? ≠ some (.cells cs 5 fr)) → w'.heap[j]? = w.heap[j]?
theorem Kp.refl (B k : Nat) (w : World) : Kp B k w w := ⟨Below.refl B w, fun _ _ _ _ => rfl⟩
theorem Kp.trans {B k : Nat} {a b c : World} (h : Kp B k a b) (g : Kp B k b c) : Kp B k a c :=
  ⟨h.bel.trans g.bel, fun j hj hk hn => by
    have e := h.oth j hj hk hn
    exact (g.oth j (Nat.lt_of_lt_of_le hj h.bel.size) hk (fun cs fr => by rw [e]; exact hn cs fr)).trans e⟩
theorem Kp.of {B k : Nat} {a b : World} (h : Below a.heap.size a b) (hB : B ≤ a.heap.size) : Kp B k a b := ⟨h.mono hB, fun j hj _ _ => h.block j hj⟩
theorem Kp.at {B k : Nat} {a b : World} (h : Kp B k a b) {j : Nat} {cs : Array Value} {t : TypeId} {fr : Nat × Nat} (hj : a.heap[j]? = some (.cells cs t fr)) (hk : j ≠ k) (ht : t ≠ 5) : b.heap[j]? = some (.cells cs t fr) := by
  have hl : j < a.heap.size := by
    rcases Nat.lt_or_ge j a.heap.size with c | c
    · exact c
    · rw [Array.getElem?_eq_none c] at hj; cases hj
  rw [h.oth j hl hk (fun cs' fr' e => by rw [hj] at e; simp only [Option.some.injEq, Obj.cells.injEq] at e; exact ht e.2.1)]
  exact hj
section
variable {B : Nat} {w w' : World} {k : Nat} {l : List UInt8} {d : Nat}
/-- Another block is written. -/
theorem heap_put {w : World} {k i : Nat} {cs : Array Value} {t : TypeId} (h : w.heap[k]? = some (.cells cs t (0, 0))) (u : Value) : (w.setCell ⟨k, i, none⟩ u).heap[k]? = some (.cells (cs.setIfInBounds i u) t (0, 0)) := by
  unfold World.setCell
  simp only [Array.getElem?_modify, if_true, h, Option.map_some]
  simp
theorem owns_put {B : Nat} {w : World} {e : TypeId} {size n : Nat} {v : Value} {xs : List Value} (h : w.ownsRow B e size v n xs) {k i : Nat} (hk : v.ownBlock ≠ some k) (u : Value) : (w.setCell ⟨k, i, none⟩ u).ownsRow B e size v n xs := by
  refine ⟨h.1, ?_⟩
  rcases h.2 with h2 | ⟨g, cap, cur, h1, h2, h3, h4⟩
  · exact .inl h2
  · refine .inr ⟨g, cap, cur, h1, h2, ?_, h4⟩
    rw [Below.heap_setCell w ⟨k, i, none⟩ u g (fun e => hk (by rw [h1]; exact congrArg some e))]
    exact h3
end
theorem info_byte : (Tryd.prog.info? 5).map (fun i => (i.zero, i.size, i.bytes)) = some (some (.int .u8 0), 1, 1) := by kernel_rfl
end Go.Proofs.YtnhhhnngocdagaaDoor.Sw
/- Package show, walked: lines, lines of words, lines of a number; the writer's text. -/
namespace Go.Proofs.YtnhhhnngocdagaaDoor.Sw
open Go.RowKit P Mm
theorem tellT_len {d : Nat} {ws : List (List UInt8)} : (tellT d ws).length = d + (Lib.join ws [32]).length + 2 := by
  unfold tellT ln
  simp only [List.length_append, List.length_replicate, List.length_cons, List.length_nil]
  omega
theorem news_cells (w : World) (xs : List ByteArray) (t : TypeId) : ∀ (j : Nat) x, xs[j]? = some x → (w.alloc (.cells (xs.map Value.string).toArray t)).cell? ⟨w.heap.size, 0 + j, none⟩ = some (.string x) := fun j x hj => by
  rw [Nat.zero_add, World.cell?_alloc_new]
  simp [hj]
end Go.Proofs.YtnhhhnngocdagaaDoor.Sw
/- Package show, walked: words of modes and kinds, windows, lines of a number, adjustments. -/
namespace Go.Proofs.YtnhhhnngocdagaaDoor.Sw
open Go.RowKit Go.Sort P Mm
theorem jl2 (a b : ByteArray) : (Lib.join ([a, b].map (·.data.toList)) [32]).length = a.size + b.size + 1 := by
  show (Lib.join [a.data.toList, b.data.toList] [32]).length = _
  rw [join2]
  simp only [List.length_append, List.length_cons, List.length_nil, size_list]
  omega
theorem jl3 (a b c : ByteArray) : (Lib.join ([a, b, c].map (·.data.toList)) [32]).length = a.size + b.size + c.size + 2 := by
  show (Lib.join [a.data.toList, b.data.toList, c.data.toList] [32]).length = _
  rw [join3]
  simp only [List.length_append, List.length_cons, List.length_nil, size_list]
  omega
theorem jl4 (a b c d : ByteArray) : (Lib.join ([a, b, c, d].map (·.data.toList)) [32]).length = a.size + b.size + c.size + d.size + 3 := by
  show (Lib.join [a.data.toList, b.data.toList, c.data.toList, d.data.toList] [32]).length = _
  rw [join4]
  simp only [List.length_append, List.length_cons, List.length_nil, size_list]
  omega
theorem jl6 (a b c d e f : ByteArray) : (Lib.join ([a, b, c, d, e, f].map (·.data.toList)) [32]).length = a.size + b.size + c.size + d.size + e.size + f.size + 5 := by
  show (Lib.join [a.data.toList, b.data.toList, c.data.toList, d.data.toList, e.data.toList, f.data.toList] [32]).length = _
  rw [join6]
  simp only [List.length_append, List.length_cons, List.length_nil, size_list]
  omega
def dC (d : Day) : Value := .agg #[.int .i64 d.y, .int .i64 d.m, .int .i64 d.d]
section
def wC (x : Win) : Value := .agg #[.bool x.has, .int .i64 x.a.y, .int .i64 x.a.m, .int .i64 x.a.d, .int .i64 x.b.y, .int .i64 x.b.m, .int .i64 x.b.d]
end
end Go.Proofs.YtnhhhnngocdagaaDoor.Sw
