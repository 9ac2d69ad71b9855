/- A plan's text, read again: the same plan, but for places. Pure: no program is named here. -/
import Derived.Test.YtcbeocpllnmcjaaJShR
import Derived.Test.YtcbeocpllnmcjaaJParJ
import Derived.Test.YtcbeocpllnmcjaaJDatB
import Derived.Test.YtcbeocpllnmcjaaJDecP
import Derived.Lib.AppendIntMem
import Derived.Deep.RegionWith
namespace Go.Proofs.Ytcbeocpllnmcjaa.P
open Go.RowKit Mm R6
variable {ts : List Tok} {s : St}
theorem ba_list (b : ByteArray) : (⟨b.data.toList.toArray⟩ : ByteArray) = b := by simp
theorem At.dec6 {r : TkL} {n m : Int} (hn : NumOk n m) (hm : m ≤ 1000000000000) (h : At ts s ((3, decT n 6) :: r)) : (numS ts s 6 m).1 = n ∧ At ts (numS ts s 6 m).2 r := At.dec (p := 6) (by decide) hn hm h
theorem At.meterS {m : Meter} {r : TkL} (h1 : NmOk m.name ∧ NmOk m.unit ∧ NumOk m.max 2000) (l c : Int) (h : At ts s ((meterX m).tail ++ r)) : (meterS ts s l c).1 = { m with line := l, col := c } ∧ At ts (meterS ts s l c).2 r := by
  have h : At ts s ((1, m.name.data.toList) :: (2, wUnit) :: (1, m.unit.data.toList) :: (2, wMax) :: (3, nmbT m.max) :: smX :: r) := h
  obtain ⟨a1, a2⟩ := h.tkn
  obtain ⟨b1, b2⟩ := (a2.wnt (.inl rfl)).tkn
  obtain ⟨c1, c2⟩ := (b2.wnt (.inl rfl)).nmb h1.2.2 (by decide)
  refine ⟨?_, c2.wnt (.inr rfl)⟩
  unfold P.meterS
  simp only
  rw [a1, b1, c1, ba_list, ba_list]
theorem At.feeS {f : Fee} {r : TkL} (h1 : NumOk f.amount 1000000000000 ∧ WinOk f.win) (l c : Int) (h : At ts s ((feeX f).tail ++ r)) : (feeS ts s l c).1 = { f with line := l, col := c } ∧ At ts (feeS ts s l c).2 r := by
  have h : At ts s ((3, nmbT f.amount) :: ((winX f.win ++ [smX]) ++ r)) := h
  obtain ⟨a1, a2⟩ := h.nmb h1.1 (by decide)
  rw [List.append_assoc] at a2
  obtain ⟨b1, b2⟩ := At.win h1.2 (show sSemi ≠ wFrom by decide) a2
  refine ⟨?_, b2.wnt (.inr rfl)⟩
  unfold P.feeS
  simp only
  rw [a1, b1]
theorem flat_len_le {α β : Type} {f : α → List β} : ∀ (l : List α), (∀ a ∈ l, 1 ≤ (f a).length) → l.length ≤ (l.flatMap f).length
  | [], _ => Nat.le_refl _
  | a :: r, h => by
    have e := flat_len_le r (fun b hb => h b (List.mem_cons_of_mem _ hb))
    have k := h a (List.mem_cons_self ..)
    rw [List.flatMap_cons, List.length_append, List.length_cons]
    omega
theorem opt_head {word : List UInt8} {n d : Int} {k : Nat} {l : List UInt8} {r : TkL} : ∃ k' l' r', (if n = d then [] else [(2, word), (3, nmbT n), smX]) ++ (k, l) :: r = (k', l') :: r' ∧ (l' = word ∨ l' = l) := by
  by_cases g : n = d
  · rw [if_pos g]; exact ⟨_, _, _, rfl, .inr rfl⟩
  · rw [if_neg g]; exact ⟨_, _, _, rfl, .inl rfl⟩
theorem kind_word {k : Int} (hk : k = 1 ∨ k = 2) : kindT k ≠ wAllowance ∧ kindT k ≠ wBlock := by
  rcases hk with rfl | rfl <;> exact ⟨by decide, by decide⟩
theorem At.chargeS {c : Charge} {us : List Tier} {q : Int} {r : TkL} (hc : ChOk c) (e : c.tiers = us ++ [⟨0, q⟩]) (hu : ∀ t ∈ us, TierOk t) (hq : NumOk q 1000000000000) (l b : Int) (h : At ts s ((chargeX c us q).tail ++ r)) :
    (chargeS ts s l b).1 = { c with line := l, col := b } ∧ At ts (chargeS ts s l b).2 r := by
  have lenu : us.length ≤ (us.flatMap tierX).length := flat_len_le us (fun t _ => by show 1 ≤ 5; decide)
  have lena : c.adjusts.length ≤ (c.adjusts.flatMap adjX).length := flat_len_le c.adjusts (fun a ha => by obtain ⟨w, e1, _⟩ := adjX_head (hc.adjs a ha); rw [e1]; simp)
  have L := h.len
  unfold chargeX at h L
  simp only [List.tail_cons, List.cons_append, List.append_assoc, List.nil_append] at h L
  simp only [List.length_cons, List.length_append] at L
  obtain ⟨a1, a2⟩ := h.tkn
  obtain ⟨b1, b2⟩ := At.win hc.win (show sOpen ≠ wFrom by decide) a2
  have b3 := b2.wnt (.inr rfl)
  have kw := kind_word hc.kind
  obtain ⟨k', l', r', e1, e2⟩ := opt_head (word := wBlock) (n := c.block) (d := 1) (k := 2) (l := kindT c.kind) (r := (5, sOpen) :: (us.flatMap tierX ++ (restX q ++ (5, sShut) :: (2, wRound) :: (2, modeT c.mode) :: smX :: (c.adjusts.flatMap adjX ++ (5, sShut) :: r))))
  rw [e1] at b3
  obtain ⟨c1, c2⟩ := b3.opt (word := wAllowance) hc.allow (by rcases e2 with rfl | rfl; exact (by decide); exact kw.1)
  rw [← e1] at c2
  obtain ⟨d1, d2⟩ := c2.opt (word := wBlock) hc.block kw.2
  obtain ⟨f1, f2⟩ := d2.kind hc.kind
  obtain ⟨g1, g2⟩ := At.tiers us ts.length _ [] hu (by omega) (f2.wnt (.inr rfl))
  obtain ⟨i1, i2⟩ := ((g2.wnt (.inl rfl)).wnt (.inl rfl)).dec6 hq (by decide)
  obtain ⟨j1, j2⟩ := (((i2.wnt (.inr rfl)).wnt (.inr rfl)).wnt (.inl rfl)).mode hc.mode
  obtain ⟨k1, k2⟩ := At.adjs c.adjusts ts.length _ [] hc.adjs (by omega) (j2.wnt (.inr rfl))
  refine ⟨?_, k2.wnt (.inr rfl)⟩
  unfold P.chargeS
  simp only
  rw [a1, b1, c1, d1, f1, g1, i1, j1, k1, ba_list, List.nil_append, List.nil_append, ← e]
/-- A charge's tokens. -/
def chX (c : Charge) : TkL := chargeX c c.tiers.dropLast ((c.tiers.getLast?.map Tier.rate).getD 0)
theorem chX_of {c : Charge} {us : List Tier} {q : Int} (e : c.tiers = us ++ [⟨0, q⟩]) : chX c = chargeX c us q := by
  unfold chX
  rw [e, List.dropLast_concat, List.getLast?_append]
  rfl
def headX (p : Plan) : TkL := [(2, wPlan), (1, p.name.data.toList), (2, wCurrency), (1, p.cur.data.toList), smX, (2, wHorizon), (4, dayT p.a), (4, dayT p.b), smX]
/-- A plan's tokens. -/
def planX (p : Plan) : TkL := headX p ++ (p.meters.flatMap meterX ++ (p.fees.flatMap feeX ++ (p.charges.flatMap chX ++ [(0, [])])))
theorem item_one {w : List UInt8} {r : TkL} {i : Int} (h : At ts s ((2, w) :: r)) (e : oneP itemWords w 0 = some i) : oneS ts s itemWords = (i, s.next) ∧ goesOn ts s = true := by
  refine ⟨h.one (.inl rfl) e, ?_⟩
  unfold goesOn
  rw [h.tk.1, decide_eq_true h.1]; rfl
theorem At.ok {x : Nat × List UInt8} {r : TkL} (T : Toks ts) (h : At ts s (x :: r)) : Ok ts s := ⟨T, h.lt⟩
theorem At.itemM {m : Meter} {r : TkL} (p : Plan) (h1 : NmOk m.name ∧ NmOk m.unit ∧ NumOk m.max 2000) (h : At ts s (meterX m ++ r)) : ∃ m' s', itemS ts s p = ({ p with meters := p.meters ++ [m'] }, s') ∧ nM m' = nM m ∧ At ts s' r ∧ goesOn ts s = true := by
  have h : At ts s ((2, wMeter) :: ((meterX m).tail ++ r)) := h
  obtain ⟨o, g⟩ := item_one h (i := 0) (by decide)
  obtain ⟨a1, a2⟩ := h.next.meterS h1 (P.tk ts s).ln (P.tk ts s).cl
  refine ⟨(P.meterS ts s.next (P.tk ts s).ln (P.tk ts s).cl).1, _, ?_, ?_, a2, g⟩
  · unfold itemS
    simp only
    rw [o, if_pos (show (0 : Int) = 0 from rfl)]
  · rw [a1]; rfl
theorem At.itemF {f : Fee} {r : TkL} (p : Plan) (h1 : NumOk f.amount 1000000000000 ∧ WinOk f.win) (h : At ts s (feeX f ++ r)) : ∃ m' s', itemS ts s p = ({ p with fees := p.fees ++ [m'] }, s') ∧ nF m' = nF f ∧ At ts s' r ∧ goesOn ts s = true := by
  have h : At ts s ((2, wFee) :: ((feeX f).tail ++ r)) := h
  obtain ⟨o, g⟩ := item_one h (i := 1) (by decide)
  obtain ⟨a1, a2⟩ := h.next.feeS h1 (P.tk ts s).ln (P.tk ts s).cl
  refine ⟨(P.feeS ts s.next (P.tk ts s).ln (P.tk ts s).cl).1, _, ?_, ?_, a2, g⟩
  · unfold itemS
    simp only
    rw [o, if_neg (show ¬ ((1 : Int) = 0) by decide), if_pos (show (1 : Int) = 1 from rfl)]
  · rw [a1]; rfl
theorem At.itemC {c : Charge} {r : TkL} (p : Plan) (h1 : ChOk c) (h : At ts s (chX c ++ r)) : ∃ m' s', itemS ts s p = ({ p with charges := p.charges ++ [m'] }, s') ∧ nC m' = nC c ∧ At ts s' r ∧ goesOn ts s = true := by
  obtain ⟨us, q, e, hu, hq⟩ := h1.tiers
  rw [chX_of e] at h
  have h : At ts s ((2, wCharge) :: ((chargeX c us q).tail ++ r)) := h
  obtain ⟨o, g⟩ := item_one h (i := 2) (by decide)
  obtain ⟨a1, a2⟩ := h.next.chargeS h1 e hu hq (P.tk ts s).ln (P.tk ts s).cl
  refine ⟨(P.chargeS ts s.next (P.tk ts s).ln (P.tk ts s).cl).1, _, ?_, ?_, a2, g⟩
  · unfold itemS
    simp only
    rw [o, if_neg (show ¬ ((2 : Int) = 0) by decide), if_neg (show ¬ ((2 : Int) = 1) by decide), if_pos (show (2 : Int) = 2 from rfl)]
  · rw [a1]; rfl
theorem At.meters (T : Toks ts) {r : TkL} : ∀ (xs : List Meter) (s : St) (p : Plan), (∀ m ∈ xs, NmOk m.name ∧ NmOk m.unit ∧ NumOk m.max 2000) → At ts s (xs.flatMap meterX ++ r) → ∃ ys s', itemsS ts ts.length s p = itemsS ts ts.length s' { p with meters := p.meters ++ ys } ∧ ys.map nM = xs.map nM ∧ At ts s' r
  | [], s, p, _, h => ⟨[], s, by rw [List.append_nil], rfl, h⟩
  | m :: q, s, p, hm, h => by
    rw [List.flatMap_cons, List.append_assoc] at h
    have ok : Ok ts s := At.ok (x := (2, wMeter)) (r := (meterX m).tail ++ (q.flatMap meterX ++ r)) T h
    obtain ⟨m', s', e1, e2, e3, e4⟩ := At.itemM p (hm m (List.mem_cons_self ..)) h
    obtain ⟨ys, s2, f1, f2, f3⟩ := At.meters T q s' { p with meters := p.meters ++ [m'] } (fun x hx => hm x (List.mem_cons_of_mem _ hx)) e3
    refine ⟨m' :: ys, s2, ?_, by rw [List.map_cons, List.map_cons, e2, f2], f3⟩
    rw [items_step ok e4, e1, f1]
    simp
theorem At.fees (T : Toks ts) {r : TkL} : ∀ (xs : List Fee) (s : St) (p : Plan), (∀ f ∈ xs, NumOk f.amount 1000000000000 ∧ WinOk f.win) → At ts s (xs.flatMap feeX ++ r) → ∃ ys s', itemsS ts ts.length s p = itemsS ts ts.length s' { p with fees := p.fees ++ ys } ∧ ys.map nF = xs.map nF ∧ At ts s' r
  | [], s, p, _, h => ⟨[], s, by rw [List.append_nil], rfl, h⟩
  | m :: q, s, p, hm, h => by
    rw [List.flatMap_cons, List.append_assoc] at h
    have ok : Ok ts s := At.ok (x := (2, wFee)) (r := (feeX m).tail ++ (q.flatMap feeX ++ r)) T h
    obtain ⟨m', s', e1, e2, e3, e4⟩ := At.itemF p (hm m (List.mem_cons_self ..)) h
    obtain ⟨ys, s2, f1, f2, f3⟩ := At.fees T q s' { p with fees := p.fees ++ [m'] } (fun x hx => hm x (List.mem_cons_of_mem _ hx)) e3
    refine ⟨m' :: ys, s2, ?_, by rw [List.map_cons, List.map_cons, e2, f2], f3⟩
    rw [items_step ok e4, e1, f1]
    simp
theorem At.charges (T : Toks ts) {r : TkL} : ∀ (xs : List Charge) (s : St) (p : Plan), (∀ c ∈ xs, ChOk c) → At ts s (xs.flatMap chX ++ r) → ∃ ys s', itemsS ts ts.length s p = itemsS ts ts.length s' { p with charges := p.charges ++ ys } ∧ ys.map nC = xs.map nC ∧ At ts s' r
  | [], s, p, _, h => ⟨[], s, by rw [List.append_nil], rfl, h⟩
  | m :: q, s, p, hm, h => by
    rw [List.flatMap_cons, List.append_assoc] at h
    have ok : Ok ts s := At.ok (x := (2, wCharge)) (r := (chX m).tail ++ (q.flatMap chX ++ r)) T h
    obtain ⟨m', s', e1, e2, e3, e4⟩ := At.itemC p (hm m (List.mem_cons_self ..)) h
    obtain ⟨ys, s2, f1, f2, f3⟩ := At.charges T q s' { p with charges := p.charges ++ [m'] } (fun x hx => hm x (List.mem_cons_of_mem _ hx)) e3
    refine ⟨m' :: ys, s2, ?_, by rw [List.map_cons, List.map_cons, e2, f2], f3⟩
    rw [items_step ok e4, e1, f1]
    simp
end Go.Proofs.Ytcbeocpllnmcjaa.P
/- A plan that tells its horizon alone (layer 9's CheckHorizon), as plain data. No program is named here. -/
namespace Go.Proofs.Ytcbeocpllnmcjaa.P
open Go.RowKit Mm R6
/-- The law's text. -/
def horT (a b : Day) : List UInt8 := [112, 108, 97, 110, 32, 112, 32, 99, 117, 114, 114, 101, 110, 99, 121, 32, 99, 59, 10, 32, 104, 111, 114, 105, 122, 111, 110, 32] ++ dayT a ++ [32] ++ dayT b ++ [59]
def horP (a b : Day) : Plan := ⟨⟨#[112]⟩, ⟨#[99]⟩, a, b, [], [], [], 1, 1⟩
theorem Lx.horT {a b : Day} (ha : DayOk a) (hb : DayOk b) : Lx (P.horT a b) (planX (horP a b)) := by
  have ka := kd_day ha
  have kb := kd_day hb
  have z1 : Lx (dayT b ++ 59 :: []) ((4, dayT b) :: smX :: [(0, [])]) := Lx.word ⟨kb.2.1, kb.2.2.1⟩ kb.1 (by decide) (by decide) (Lx.sign (by decide) Lx.nil)
  have z3 := Lx.word (t := dayT a) (x := 32) ⟨ka.2.1, ka.2.2.1⟩ ka.1 (by decide) (by decide) (Lx.sp z1)
  obtain ⟨R, hR⟩ : ∃ R, R = dayT a ++ 32 :: (dayT b ++ 59 :: []) := ⟨_, rfl⟩
  rw [← hR] at z3
  have z5 := Lx.semi (Lx.sp (Lx.kw (t := wHorizon) (x := 32) (by decide) (by decide) (Lx.sp z3)))
  obtain ⟨S, hS⟩ : ∃ Q, Q = 10 :: 32 :: (wHorizon ++ 32 :: R) := ⟨_, rfl⟩
  rw [← hS] at z5
  have z6 := Lx.word (t := [99]) (x := 59) (k := 1) ⟨by decide, by decide⟩ (by decide) (by decide) (by decide) z5
  have z7 := Lx.kw (t := wCurrency) (x := 32) (by decide) (by decide) (Lx.sp z6)
  have z8 := Lx.word (t := [112]) (x := 32) (k := 1) ⟨by decide, by decide⟩ (by decide) (by decide) (by decide) (Lx.sp z7)
  have z9 := Lx.kw (t := wPlan) (x := 32) (by decide) (by decide) (Lx.sp z8)
  have e : P.horT a b = wPlan ++ 32 :: ([112] ++ 32 :: (wCurrency ++ 32 :: ([99] ++ 59 :: S))) := by
    rw [hS, hR]
    unfold P.horT
    simp [wPlan, wCurrency, wHorizon]
  rw [e]
  exact z9
theorem hor_first (a b : Day) : ∃ r, (lex (horT a b) 1 1).1 = ⟨2, wPlan, 1, 1⟩ :: r := by
  have W : Whole wPlan := ⟨by decide, by decide, by decide, .inl (by decide)⟩
  have := lex_one W ([112, 32, 99, 117, 114, 114, 101, 110, 99, 121, 32, 99, 59, 10, 32, 104, 111, 114, 105, 122, 111, 110, 32] ++ dayT a ++ [32] ++ dayT b ++ [59]) 1 1
  have e : horT a b = wPlan ++ 32 :: ([112, 32, 99, 117, 114, 114, 101, 110, 99, 121, 32, 99, 59, 10, 32, 104, 111, 114, 105, 122, 111, 110, 32] ++ dayT a ++ [32] ++ dayT b ++ [59]) := by
    unfold horT
    simp [wPlan]
  rw [e, this]
  exact ⟨_, rfl⟩
theorem hor_plan {ts : List Tok} {a b : Day} (ha : DayOk a) (hb : DayOk b) (e : ts.map (fun t => (t.k, t.t)) = planX (horP a b)) (hp : (tk ts st0).ln = 1 ∧ (tk ts st0).cl = 1) : planS ts = (horP a b, 0, 0, 0) := by
  have h0 : At ts st0 ((2, wPlan) :: (1, [112]) :: (2, wCurrency) :: (1, [99]) :: smX :: (2, wHorizon) :: (4, dayT a) :: (4, dayT b) :: smX :: [(0, [])]) := ⟨rfl, e⟩
  obtain ⟨a1, a2⟩ := (h0.wnt (.inl rfl)).tkn
  obtain ⟨b1, b2⟩ := (a2.wnt (.inl rfl)).tkn
  obtain ⟨c1, c2⟩ := ((b2.wnt (.inr rfl)).wnt (.inl rfl)).day ha
  obtain ⟨d1, d2⟩ := c2.day hb
  have d3 : At ts (headS ts st0).2 [(0, [])] := d2.wnt (.inr rfl)
  have gs : goesOn ts (headS ts st0).2 = false := by unfold goesOn; rw [d3.tk.1]; simp
  have e4 := items_stop ts ts.length (headS ts st0).2 (headS ts st0).1 gs
  have eh : (headS ts st0).1 = horP a b := by
    unfold headS horP
    simp only
    rw [a1, b1, c1, d1, hp.1, hp.2]
    rfl
  unfold planS
  simp only
  rw [e4, if_pos d3.1, eh]
/-- A text that tells two days alone is the plan of them. -/
theorem hor_parsed {a b : Day} (ha : DayOk a) (hb : DayOk b) : parsed (horT a b) = (horP a b, 0, 0, 0) := by
  obtain ⟨l1, l2⟩ := Lx.horT ha hb 1 1
  have hl : (horT a b).length ≤ 8192 := by
    have h1 := dayT_len a
    have h2 := dayT_len b
    unfold horT
    simp only [List.length_append, List.length_cons, List.length_nil]
    omega
  have e : lexed (horT a b) = ((lex (horT a b) 1 1).1, 0, 0, 0) := lexed_ok (acc := (lex (horT a b) 1 1).1) hl (by rw [← l1])
  obtain ⟨r, hr⟩ := hor_first a b
  unfold parsed
  simp only [e, if_true]
  exact hor_plan ha hb l2 (by rw [hr]; exact ⟨rfl, rfl⟩)
/-- CheckHorizon, as plain data. -/
theorem hor_wrong (a b : Day) : wrongOf (horP a b) = if dn b < dn a then (5, 1, 1) else if 3999 < dn b - dn a then (6, 1, 1) else (0, 0, 0) := by
  have hb : boundOf (horP a b) = some 0 := rfl
  have hh : headE (horP a b) = if dn b - dn a + 1 < 1 then 5 else if 4000 < dn b - dn a + 1 then 6 else 0 := rfl
  unfold wrongOf
  rw [hh, hb]
  by_cases h1 : dn b < dn a
  · rw [if_pos (by omega : dn b - dn a + 1 < 1), if_pos h1]; rfl
  · rw [if_neg (by omega : ¬ dn b - dn a + 1 < 1), if_neg h1]
    by_cases h2 : 3999 < dn b - dn a
    · rw [if_pos (by omega : 4000 < dn b - dn a + 1), if_pos h2]; rfl
    · rw [if_neg (by omega : ¬ 4000 < dn b - dn a + 1), if_neg h2]; rfl
end Go.Proofs.Ytcbeocpllnmcjaa.P
/- What the document's answers for layer 3 (poundageref03) come to: Of. -/
namespace Go.Proofs.Ytcbeocpllnmcjaa.R3
open Go.RowKit Go.Sort P
set_option maxHeartbeats 2000000 in
theorem of_walk (n : Int) (G : Ending) (w : World)
    (hN : Hid (n < 0 ∨ 3652059 ≤ n → .returned (.tuple #[.agg #[.int .i64 0, .int .i64 0, .int .i64 0], .bool false]) = G))
    (hY : Hid (∀ y m d, good y m d = true → num y m d = n → .returned (.tuple #[.agg #[.int .i64 y, .int .i64 m, .int .i64 d], .bool true]) = G)) :
    Calls Try.prog 5 #[.int .i64 n] w fun e w' => e = G ∧ Below w.heap.size w w' := by
  by_cases h : n < 0 ∨ 4000000 < n
  · have hG := hid (hN.out (by omega))
    clear hN hY
    have h' : n < 0 ∨ (¬ n < 0 ∧ 4000000 < n) := by omega
    clear h
    go_enter Try.func5, Try.ntmps5
    rcases h' with h | ⟨h1, h2⟩
    · go_wp2
      exact bodyPost_ret (v := .tuple #[.agg #[.int .i64 0, .int .i64 0, .int .i64 0], .bool false]) (by simp [results, Try.results5, go_sem]) rfl ⟨hG.out, (Below.refl _ _).alloc (Nat.le_refl _) _⟩
    · go_wp2
      exact bodyPost_ret (v := .tuple #[.agg #[.int .i64 0, .int .i64 0, .int .i64 0], .bool false]) (by simp [results, Try.results5, go_sem]) rfl ⟨hG.out, (Below.refl _ _).alloc (Nat.le_refl _) _⟩
  · have h0 : 0 ≤ n := by omega
    have h1 : n ≤ 4000000 := by omega
    have L : Lies3 (w.alloc (.cells #[.int .i64 0, .int .i64 0, .int .i64 0] 24)) w.heap.size (.int .i64 0) (.int .i64 0) (.int .i64 0) := Lies3.new rfl
    clear h
    go_enter Try.func5, Try.ntmps5
    go_wp2
    go_loopw [0, 4] (fun r y wr => ∃ r' y' : Int, y = .int .i64 y' ∧ r = .int .i64 r' ∧ 1 ≤ y' ∧ y' ≤ 10000 ∧ 0 ≤ r' ∧ r' + yrs y' = n ∧ Lies3 wr w.heap.size (.int .i64 0) (.int .i64 0) (.int .i64 0) ∧ Below w.heap.size w wr) (fun _ y _ => (10000 - intOf y).toNat)
    case atStart => exact ⟨n, 1, rfl, rfl, by omega, by omega, h0, by rw [yrs_1]; omega, L, (Below.refl _ _).alloc (Nat.le_refl _) _⟩
    case round =>
      obtain ⟨r', y', rfl, rfl, y0, y1, r0, hr, L', hb⟩ := hrel
      by_cases hy : y' ≤ 9999
      · have hst := yrs_step y'
        have h13 := mon_13 y'
        have hyb := yrs_bound (y := y') y0 (by omega)
        obtain ⟨K, hK, hKl⟩ : ∃ K, K = 365 + lp y' ∧ ((leap y' = true ∧ K = 366) ∨ (leap y' = false ∧ K = 365)) := by
          refine ⟨_, rfl, ?_⟩
          cases hl : leap y'
          · rw [lp_no hl]; exact .inr ⟨rfl, rfl⟩
          · rw [lp_yes hl]; exact .inl ⟨rfl, rfl⟩
        rw [← hK] at h13
        rw [Int.add_assoc, ← hK] at hst
        clear hK
        rcases hKl with ⟨hl, rfl⟩ | ⟨hl, rfl⟩
        all_goals
          rcases Decidable.em (r' + mon y' 1 < mon y' 13) with hc | hc
          all_goals
            rw [mon_1, h13] at hc
          · go_wp2_with (go_at_call 10; refine (leap_any _ _).mono ?_; rintro e w' ⟨rfl, h'⟩; rw [h'])
            go_loopw [0, 6] (fun q m wr => ∃ q' m' : Int, m = .int .i64 m' ∧ q = .int .i64 q' ∧ 1 ≤ m' ∧ m' ≤ 12 ∧ 0 ≤ q' ∧ q' + mon y' m' = r' ∧ Lies3 wr w.heap.size (.int .i64 0) (.int .i64 0) (.int .i64 0) ∧ Below w.heap.size w wr) (fun _ m _ => (13 - intOf m).toNat)
            case atStart => exact ⟨r', 1, rfl, rfl, by omega, by omega, r0, by rw [mon_1]; omega, L', hb⟩
            case round =>
              obtain ⟨q', m', rfl, rfl, m0, m1, q0, hq, L2, hb2⟩ := hrel
              have hms := mon_step (y := y') m0 m1
              have hd := days_in (y := y') m0 m1
              have hmb := mon_bound (y := y') m0 (by omega)
              by_cases ht : q' < days y' m'
              · have g : good y' m' (q' + 1) = true := good_iff.2 ⟨y0, hy, m0, m1, by omega, by omega⟩
                have e : num y' m' (q' + 1) = n := by unfold num; omega
                have hG := hid (hY.out _ _ _ g e)
                clear hY hN g e
                go_wp2_with (go_at_call 11; refine (days_any _ _ _).mono ?_; rintro e w2 ⟨rfl, b2⟩; have L3 := L2.on b2; have hb3 := below_on hb2 b2; obtain ⟨l, c0, c1, c2, f0, f1, f2⟩ := L3)
                exact bodyPost_ret (v := .tuple #[.agg #[.int .i64 y', .int .i64 m', .int .i64 (q' + 1)], .bool true]) (by simp [results, Try.results5, go_sem, *]) rfl
                  ⟨hG.out, ((hb3.setCell (Nat.le_refl _) _).setCell (Nat.le_refl _) _).setCell (Nat.le_refl _) _⟩
              · have hm12 : m' ≤ 11 := by
                  rcases Decidable.em (m' ≤ 11) with k | k
                  · exact k
                  · obtain rfl : m' = 12 := by omega
                    rw [show (12 : Int) + 1 = 13 from rfl, h13] at hms
                    omega
                go_wp2_with (go_at_call 11; refine (days_any _ _ _).mono ?_; rintro e w2 ⟨rfl, b2⟩; have L3 := L2.on b2; have hb3 := below_on hb2 b2; clear L2 hb2 b2; have L2 := L3; have hb2 := hb3; clear L3 hb3)
                go_roundw
                case rel => exact ⟨q' - days y' m', m' + 1, rfl, rfl, by omega, by omega, by omega, by rw [hms]; omega, L2, hb2⟩
                case measure => simp [intOf]; omega
          · go_wp2_with (go_at_call 10; refine (leap_any _ _).mono ?_; rintro e w' ⟨rfl, h'⟩; rw [h'])
            go_roundw
            case rel => exact ⟨_, y' + 1, rfl, rfl, by omega, by omega, by omega, by rw [hst]; omega, L', hb⟩
            case measure => simp [intOf]; omega
      · obtain rfl : y' = 10000 := by omega
        rw [yrs_10000] at hr
        have hG := hid (hN.out (by omega))
        clear hY hN
        obtain ⟨l, c0, c1, c2, f0, f1, f2⟩ := L'
        go_wp2
        exact bodyPost_ret (v := .tuple #[.agg #[.int .i64 0, .int .i64 0, .int .i64 0], .bool false]) (by simp [results, Try.results5, go_sem, *]) rfl
          ⟨hG.out, ((hb.setCell (Nat.le_refl _) _).setCell (Nat.le_refl _) _).setCell (Nat.le_refl _) _⟩
end Go.Proofs.Ytcbeocpllnmcjaa.R3
/- What the document's answers for layer 3 (poundageref03) come to: digits, Text. -/
namespace Go.Proofs.Ytcbeocpllnmcjaa.R3
open Go.RowKit Go.Sort P
theorem pad_front : ∀ (i n : Nat), pad (i + 1) n = dch (n / 10 ^ i % 10) :: pad i n
  | 0, n => by simp [pad]
  | i + 1, n => by
    show pad (i + 1) (n / 10) ++ [dch (n % 10)] = _
    rw [pad_front i (n / 10), Nat.div_div_eq_div_mul, Nat.pow_succ, Nat.mul_comm 10]
    rfl
set_option maxHeartbeats 1000000 in
theorem digits_any (n k : Int) (w : World) (h0 : 0 ≤ n) (h1 : n ≤ 9999) (k0 : 0 ≤ k) (k1 : k ≤ 4) :
    Calls Try.prog 14 #[.int .i64 n, .int .i64 k] w fun e w' => e = .returned (.string ⟨(pad k.toNat n.toNat).toArray⟩) ∧ Below w.heap.size w w' := by
  go_enter Try.func14, Try.ntmps14
  go_wp2
  go_loopw [0, 5, 6] (fun q s i wr => ∃ (q' i' : Int) (S : ByteArray), q = .int .i64 q' ∧ s = .string S ∧ i = .int .i64 i' ∧ 0 ≤ i' ∧ i' ≤ k ∧ 0 ≤ q' ∧ q' ≤ 9999 ∧ q'.toNat = n.toNat / 10 ^ i'.toNat ∧ Hid (S = ⟨(pad i'.toNat n.toNat).toArray⟩) ∧ (S.size : Int) = i' ∧ Below w.heap.size w wr) (fun _ _ i _ => (k - intOf i).toNat)
  case atStart => exact ⟨n, 0, ⟨#[]⟩, rfl, rfl, rfl, by omega, k0, h0, h1, by simp, rfl, rfl, Below.refl _ _⟩
  case round =>
    obtain ⟨q', i', S, rfl, rfl, rfl, i0, i1, q0, q1, hq, hS, hz, hb⟩ := hrel
    by_cases hlt : i' < k
    · have hn1 : ¬ 9223372036854775807 < 1 + S.size := by omega
      have hc : q'.toNat % 10 < 10 := Nat.mod_lt _ (by decide)
      have hx : ((dch (q'.toNat % 10)).toNat : Int) = 48 + q' % 10 := by rw [dig_toNat hc]; omega
      have hcv := run_convert_bytes_back (P := Try.prog) (wr.alloc (.cells #[.int .u8 (48 + q' % 10)] 5)) 81 9 5 ⟨wr.heap.size, 0, none⟩ 1 [dch (q'.toNat % 10)] Try.underlying81 Try.underlying5 Try.underlying9 (fun j hj => by
        obtain rfl : j = 0 := by simpa using hj
        rw [Lib.add_plain, World.cell?_alloc_new]
        show some (Value.int .u8 (48 + q' % 10)) = some (Value.int .u8 (((dch (q'.toNat % 10)).toNat : Nat) : Int))
        rw [hx])
      obtain ⟨B, hB⟩ : ∃ B : ByteArray, B = ⟨[dch (q'.toNat % 10)].toArray⟩ := ⟨_, rfl⟩
      rw [← hB, show [dch (q'.toNat % 10)].length = 1 from rfl] at hcv
      have hBz : B.size = 1 := by rw [hB, ba_size]; rfl
      have hn2 : ¬ 9223372036854775807 < B.size + S.size := by omega
      have HB := hid hB
      have fin : Hid (B ++ S = ⟨(pad (i' + 1).toNat n.toNat).toArray⟩) := hid (by
        rw [hB, hS.out, ba_append, show (i' + 1).toNat = i'.toNat + 1 by omega, pad_front, ← hq]
        rfl)
      have hsz : ((B ++ S).size : Int) = i' + 1 := by rw [ByteArray.size_append]; omega
      have hq2 : (q' / 10).toNat = n.toNat / 10 ^ (i' + 1).toNat := by
        rw [show (i' + 1).toNat = i'.toNat + 1 by omega, Nat.pow_succ, ← Nat.div_div_eq_div_mul, ← hq]
        omega
      have HQ := hid hq2
      clear hB hx hq hc hq2
      go_wp2
      go_roundw
      case rel => exact ⟨_, i' + 1, _, rfl, rfl, rfl, by omega, by omega, by omega, by omega, HQ.out, fin, hsz, hb.alloc hb.size _⟩
      case measure => simp [intOf]; omega
    · obtain rfl : i' = k := by omega
      go_wp2
      go_ret
      exact ⟨ret_s hS.out, hb⟩
set_option maxHeartbeats 1000000 in
theorem text_yes (y m d : Int) (w : World) (g : good y m d = true) :
    Calls Try.prog 7 #[dv y m d] w fun e w' => e = .returned (.string ⟨(txt y m d).toArray⟩) ∧ Below w.heap.size w w' := by
  have cG := good_any y m d (w.alloc (.cells #[.int .i64 y, .int .i64 m, .int .i64 d] 24))
  rw [g] at cG
  obtain ⟨h0, h1, h2, h3, h4, h5⟩ := good_small g
  have cY : ∀ W, Calls Try.prog 14 #[.int .i64 y, .int .i64 4] W fun e w' => e = .returned (.string ⟨(pad 4 y.toNat).toArray⟩) ∧ Below W.heap.size W w' :=
    fun W => digits_any y 4 W h0 h1 (by omega) (by omega)
  have cM : ∀ W, Calls Try.prog 14 #[.int .i64 m, .int .i64 2] W fun e w' => e = .returned (.string ⟨(pad 2 m.toNat).toArray⟩) ∧ Below W.heap.size W w' :=
    fun W => digits_any m 2 W h2 (by omega) (by omega) (by omega)
  have cD : ∀ W, Calls Try.prog 14 #[.int .i64 d, .int .i64 2] W fun e w' => e = .returned (.string ⟨(pad 2 d.toNat).toArray⟩) ∧ Below W.heap.size W w' :=
    fun W => digits_any d 2 W h4 (by omega) (by omega) (by omega)
  obtain ⟨Y, hY⟩ : ∃ S : ByteArray, S = ⟨(pad 4 y.toNat).toArray⟩ := ⟨_, rfl⟩
  obtain ⟨M, hM⟩ : ∃ S : ByteArray, S = ⟨(pad 2 m.toNat).toArray⟩ := ⟨_, rfl⟩
  obtain ⟨D, hD⟩ : ∃ S : ByteArray, S = ⟨(pad 2 d.toNat).toArray⟩ := ⟨_, rfl⟩
  have zY : Y.size = 4 := by rw [hY, ba_size, pad_length]
  have zM : M.size = 2 := by rw [hM, ba_size, pad_length]
  have zD : D.size = 2 := by rw [hD, ba_size, pad_length]
  rw [← hY] at cY; rw [← hM] at cM; rw [← hD] at cD
  have fin : Hid (Y ++ ⟨#[45]⟩ ++ M ++ ⟨#[45]⟩ ++ D = ⟨(txt y m d).toArray⟩) := hid (by
    rw [hY, hM, hD, show (⟨#[45]⟩ : ByteArray) = ⟨([45] : List UInt8).toArray⟩ from rfl, ba_append, ba_append, ba_append, ba_append]
    rfl)
  clear hY hM hD h0 h1 h2 h3 h4 h5 g
  unfold dv
  unfold dv at cG
  go_enter Try.func7, Try.ntmps7
  go_wp2_with (go_at_call 13; refine cG.mono ?_; rintro e w1 ⟨rfl, bel⟩; have M3 := box3 bel; obtain ⟨c0, c1, c2, hlt, b1⟩ := M3)
  clear cG bel
  have k0 := cell_regrown c0
  have k1 := cell_regrown c1
  have k2 := cell_regrown c2
  have qY := fun d os => Calls.regrown_of (cY (grow (redrawn w1 d) os))
  have qM := fun d os => Calls.regrown_of (cM (grow (redrawn w1 d) os))
  have qD := fun d os => Calls.regrown_of (cD (grow (redrawn w1 d) os))
  clear cY cM cD
  refine wp_region_quiet_below (by kernel_rfl) (by kernel_rfl) ?_
  repeat (quiet_step (first | (go_at_call_of 14 (Value.int IntKind.i64 y); exact qY _ _) | (go_at_call_of 14 (Value.int IntKind.i64 m); exact qM _ _) | (go_at_call_of 14 (Value.int IntKind.i64 d); exact qD _ _)))
  refine wpQuiet_nil ?_
  intro _ hw'
  obtain ⟨⟨dq, osq⟩, hw''⟩ := hw'
  subst hw''
  go_wp2
  go_ret
  exact ⟨ret_s fin.out, b1.trans ((below_regrown w1 dq osq).mono b1.size)⟩
end Go.Proofs.Ytcbeocpllnmcjaa.R3
