/- A plan's text, read again: the same plan, but for places. Pure: no program is named here. -/
import Derived.Test.YteelbdcgdkpioaaGreatDoorJShR
import Derived.Test.YteelbdcgdkpioaaGreatDoorJLexR
import Derived.Test.YteelbdcgdkpioaaGreatDoorJShT
import Derived.Test.YteelbdcgdkpioaaGreatDoorJLexQ
import Derived.Test.YteelbdcgdkpioaaGreatDoorJRef1
import Derived.WalkSmall
import Derived.WalkKit
namespace Go.Proofs.YteelbdcgdkpioaaGreatDoor.P
open Go.RowKit Mm R6

variable {ts : List Tok} {s : St}
theorem ba_list (b : ByteArray) : (⟨b.data.toList.toArray⟩ : ByteArray) = b := by simp
theorem At.dec6 {r : TkL} {n m : Int} (hn : NumOk n m) (hm : m ≤ 1000000000000) (h : At ts s ((3, decT n 6) :: r)) : (numS ts s 6 m).1 = n ∧ At ts (numS ts s 6 m).2 r := At.dec (p := 6) (by decide) hn hm h
theorem Lx.hor {a b : Day} {l : List UInt8} {xs : TkL} (ha : DayOk a) (hb : DayOk b) (h : Lx l xs) : Lx (tellT 0 [wHorizon, dayT a, dayT b] ++ l) ((2, wHorizon) :: (4, dayT a) :: (4, dayT b) :: smX :: xs) := by
  have a := kd_day ha
  have b := kd_day hb
  have z4 := Lx.kw (t := wHorizon) (by decide) (by decide) (Lx.sp (Lx.word ⟨a.2.1, a.2.2.1⟩ a.1 (by decide) (by decide) (Lx.sp (Lx.word ⟨b.2.1, b.2.2.1⟩ b.1 (by decide) (by decide) (Lx.semi h)))))
  unfold tellT
  rw [join3]
  refine Lx.ln 0 ?_
  simp only [List.append_assoc, List.cons_append, List.nil_append]
  exact z4
theorem Lx.pl {n c : ByteArray} {l : List UInt8} {xs : TkL} (hn : NmOk n) (hc : NmOk c) (h : Lx l xs) : Lx (tellT 0 [wPlan, n.data.toList, wCurrency, c.data.toList] ++ l) ((2, wPlan) :: (1, n.data.toList) :: (2, wCurrency) :: (1, c.data.toList) :: smX :: xs) := by
  have z6 := Lx.kw (t := wPlan) (by decide) (by decide) (Lx.sp (Lx.nm hn (by decide) (Lx.sp (Lx.kw (t := wCurrency) (by decide) (by decide) (Lx.sp (Lx.nm hc (by decide) (Lx.semi h)))))))
  unfold tellT
  rw [join4]
  refine Lx.ln 0 ?_
  simp only [List.append_assoc, List.cons_append, List.nil_append]
  exact z6
theorem At.meterS {m : Meter} {r : TkL} (h1 : NmOk m.name ∧ NmOk m.unit ∧ NumOk m.max 2000) (l c : Int) (h : At ts s ((meterX m).tail ++ r)) : (meterS ts s l c).1 = { m with line := l, col := c } ∧ At ts (meterS ts s l c).2 r := by
  have h : At ts s ((1, m.name.data.toList) :: (2, wUnit) :: (1, m.unit.data.toList) :: (2, wMax) :: (3, nmbT m.max) :: smX :: r) := h
  obtain ⟨a1, a2⟩ := h.tkn
  obtain ⟨b1, b2⟩ := (a2.wnt (.inl rfl)).tkn
  obtain ⟨c1, c2⟩ := (b2.wnt (.inl rfl)).nmb h1.2.2 (by decide)
  refine ⟨?_, c2.wnt (.inr rfl)⟩
  unfold P.meterS
  simp only
  rw [a1, b1, c1, ba_list, ba_list]
theorem At.feeS {f : Fee} {r : TkL} (h1 : NumOk f.amount 1000000000000 ∧ WinOk f.win) (l c : Int) (h : At ts s ((feeX f).tail ++ r)) : (feeS ts s l c).1 = { f with line := l, col := c } ∧ At ts (feeS ts s l c).2 r := by
  have h : At ts s ((3, nmbT f.amount) :: ((winX f.win ++ [smX]) ++ r)) := h
  obtain ⟨a1, a2⟩ := h.nmb h1.1 (by decide)
  rw [List.append_assoc] at a2
  obtain ⟨b1, b2⟩ := At.win h1.2 (show sSemi ≠ wFrom by decide) a2
  refine ⟨?_, b2.wnt (.inr rfl)⟩
  unfold P.feeS
  simp only
  rw [a1, b1]
theorem flat_len_le {α β : Type} {f : α → List β} : ∀ (l : List α), (∀ a ∈ l, 1 ≤ (f a).length) → l.length ≤ (l.flatMap f).length
  | [], _ => Nat.le_refl _
  | a :: r, h => by
    have e := flat_len_le r (fun b hb => h b (List.mem_cons_of_mem _ hb))
    have k := h a (List.mem_cons_self ..)
    rw [List.flatMap_cons, List.length_append, List.length_cons]
    omega
theorem opt_head {word : List UInt8} {n d : Int} {k : Nat} {l : List UInt8} {r : TkL} : ∃ k' l' r', (if n = d then [] else [(2, word), (3, nmbT n), smX]) ++ (k, l) :: r = (k', l') :: r' ∧ (l' = word ∨ l' = l) := by
  by_cases g : n = d
  · rw [if_pos g]; exact ⟨_, _, _, rfl, .inr rfl⟩
  · rw [if_neg g]; exact ⟨_, _, _, rfl, .inl rfl⟩
theorem kind_word {k : Int} (hk : k = 1 ∨ k = 2) : kindT k ≠ wAllowance ∧ kindT k ≠ wBlock := by
  rcases hk with rfl | rfl <;> exact ⟨by decide, by decide⟩
theorem At.chargeS {c : Charge} {us : List Tier} {q : Int} {r : TkL} (hc : ChOk c) (e : c.tiers = us ++ [⟨0, q⟩]) (hu : ∀ t ∈ us, TierOk t) (hq : NumOk q 1000000000000) (l b : Int) (h : At ts s ((chargeX c us q).tail ++ r)) :
    (chargeS ts s l b).1 = { c with line := l, col := b } ∧ At ts (chargeS ts s l b).2 r := by
  have lenu : us.length ≤ (us.flatMap tierX).length := flat_len_le us (fun t _ => by show 1 ≤ 5; decide)
  have lena : c.adjusts.length ≤ (c.adjusts.flatMap adjX).length := flat_len_le c.adjusts (fun a ha => by obtain ⟨w, e1, _⟩ := adjX_head (hc.adjs a ha); rw [e1]; simp)
  have L := h.len
  unfold chargeX at h L
  simp only [List.tail_cons, List.cons_append, List.append_assoc, List.nil_append] at h L
  simp only [List.length_cons, List.length_append] at L
  obtain ⟨a1, a2⟩ := h.tkn
  obtain ⟨b1, b2⟩ := At.win hc.win (show sOpen ≠ wFrom by decide) a2
  have b3 := b2.wnt (.inr rfl)
  have kw := kind_word hc.kind
  obtain ⟨k', l', r', e1, e2⟩ := opt_head (word := wBlock) (n := c.block) (d := 1) (k := 2) (l := kindT c.kind) (r := (5, sOpen) :: (us.flatMap tierX ++ (restX q ++ (5, sShut) :: (2, wRound) :: (2, modeT c.mode) :: smX :: (c.adjusts.flatMap adjX ++ (5, sShut) :: r))))
  rw [e1] at b3
  obtain ⟨c1, c2⟩ := b3.opt (word := wAllowance) hc.allow (by rcases e2 with rfl | rfl; exact (by decide); exact kw.1)
  rw [← e1] at c2
  obtain ⟨d1, d2⟩ := c2.opt (word := wBlock) hc.block kw.2
  obtain ⟨f1, f2⟩ := d2.kind hc.kind
  obtain ⟨g1, g2⟩ := At.tiers us ts.length _ [] hu (by omega) (f2.wnt (.inr rfl))
  obtain ⟨i1, i2⟩ := ((g2.wnt (.inl rfl)).wnt (.inl rfl)).dec6 hq (by decide)
  obtain ⟨j1, j2⟩ := (((i2.wnt (.inr rfl)).wnt (.inr rfl)).wnt (.inl rfl)).mode hc.mode
  obtain ⟨k1, k2⟩ := At.adjs c.adjusts ts.length _ [] hc.adjs (by omega) (j2.wnt (.inr rfl))
  refine ⟨?_, k2.wnt (.inr rfl)⟩
  unfold P.chargeS
  simp only
  rw [a1, b1, c1, d1, f1, g1, i1, j1, k1, ba_list, List.nil_append, List.nil_append, ← e]
/-- A charge's tokens. -/
def chX (c : Charge) : TkL := chargeX c c.tiers.dropLast ((c.tiers.getLast?.map Tier.rate).getD 0)
theorem chX_of {c : Charge} {us : List Tier} {q : Int} (e : c.tiers = us ++ [⟨0, q⟩]) : chX c = chargeX c us q := by
  unfold chX
  rw [e, List.dropLast_concat, List.getLast?_append]
  rfl
def headX (p : Plan) : TkL := [(2, wPlan), (1, p.name.data.toList), (2, wCurrency), (1, p.cur.data.toList), smX, (2, wHorizon), (4, dayT p.a), (4, dayT p.b), smX]
/-- A plan's tokens. -/
def planX (p : Plan) : TkL := headX p ++ (p.meters.flatMap meterX ++ (p.fees.flatMap feeX ++ (p.charges.flatMap chX ++ [(0, [])])))
theorem Lx.plan {p : Plan} (h : Gd p) : Lx (planT p) (planX p) := by
  have z1 := Lx.flat (f := chargeT) (g := chX) p.charges (fun c hc l xs hl => by
    obtain ⟨us, q, e, _, _⟩ := (h.charges c hc).tiers
    rw [chX_of e]
    exact Lx.charge (h.charges c hc) e hl) Lx.nil
  have z2 := Lx.flat (f := feeT) (g := feeX) p.fees (fun f hf l xs hl => Lx.fee (h.fees f hf).2 hl) z1
  have z3 := Lx.flat (f := meterT) (g := meterX) p.meters (fun m hm l xs hl => Lx.meter (h.meters m hm).1 (h.meters m hm).2.1 hl) z2
  have z7 := Lx.pl h.name.1 h.name.2 (Lx.hor h.days.1 h.days.2 z3)
  unfold planT headT8 planX headX
  simp only [List.append_assoc, List.cons_append, List.nil_append, List.append_nil] at z7 ⊢
  exact z7
theorem item_one {w : List UInt8} {r : TkL} {i : Int} (h : At ts s ((2, w) :: r)) (e : oneP itemWords w 0 = some i) : oneS ts s itemWords = (i, s.next) ∧ goesOn ts s = true := by
  refine ⟨h.one (.inl rfl) e, ?_⟩
  unfold goesOn
  rw [h.tk.1, decide_eq_true h.1]; rfl
theorem At.ok {x : Nat × List UInt8} {r : TkL} (T : Toks ts) (h : At ts s (x :: r)) : Ok ts s := ⟨T, h.lt⟩
theorem At.itemM {m : Meter} {r : TkL} (p : Plan) (h1 : NmOk m.name ∧ NmOk m.unit ∧ NumOk m.max 2000) (h : At ts s (meterX m ++ r)) : ∃ m' s', itemS ts s p = ({ p with meters := p.meters ++ [m'] }, s') ∧ nM m' = nM m ∧ At ts s' r ∧ goesOn ts s = true := by
  have h : At ts s ((2, wMeter) :: ((meterX m).tail ++ r)) := h
  obtain ⟨o, g⟩ := item_one h (i := 0) (by decide)
  obtain ⟨a1, a2⟩ := h.next.meterS h1 (P.tk ts s).ln (P.tk ts s).cl
  refine ⟨(P.meterS ts s.next (P.tk ts s).ln (P.tk ts s).cl).1, _, ?_, ?_, a2, g⟩
  · unfold itemS
    simp only
    rw [o, if_pos (show (0 : Int) = 0 from rfl)]
  · rw [a1]; rfl
theorem At.itemF {f : Fee} {r : TkL} (p : Plan) (h1 : NumOk f.amount 1000000000000 ∧ WinOk f.win) (h : At ts s (feeX f ++ r)) : ∃ m' s', itemS ts s p = ({ p with fees := p.fees ++ [m'] }, s') ∧ nF m' = nF f ∧ At ts s' r ∧ goesOn ts s = true := by
  have h : At ts s ((2, wFee) :: ((feeX f).tail ++ r)) := h
  obtain ⟨o, g⟩ := item_one h (i := 1) (by decide)
  obtain ⟨a1, a2⟩ := h.next.feeS h1 (P.tk ts s).ln (P.tk ts s).cl
  refine ⟨(P.feeS ts s.next (P.tk ts s).ln (P.tk ts s).cl).1, _, ?_, ?_, a2, g⟩
  · unfold itemS
    simp only
    rw [o, if_neg (show ¬ ((1 : Int) = 0) by decide), if_pos (show (1 : Int) = 1 from rfl)]
  · rw [a1]; rfl
theorem At.itemC {c : Charge} {r : TkL} (p : Plan) (h1 : ChOk c) (h : At ts s (chX c ++ r)) : ∃ m' s', itemS ts s p = ({ p with charges := p.charges ++ [m'] }, s') ∧ nC m' = nC c ∧ At ts s' r ∧ goesOn ts s = true := by
  obtain ⟨us, q, e, hu, hq⟩ := h1.tiers
  rw [chX_of e] at h
  have h : At ts s ((2, wCharge) :: ((chargeX c us q).tail ++ r)) := h
  obtain ⟨o, g⟩ := item_one h (i := 2) (by decide)
  obtain ⟨a1, a2⟩ := h.next.chargeS h1 e hu hq (P.tk ts s).ln (P.tk ts s).cl
  refine ⟨(P.chargeS ts s.next (P.tk ts s).ln (P.tk ts s).cl).1, _, ?_, ?_, a2, g⟩
  · unfold itemS
    simp only
    rw [o, if_neg (show ¬ ((2 : Int) = 0) by decide), if_neg (show ¬ ((2 : Int) = 1) by decide), if_pos (show (2 : Int) = 2 from rfl)]
  · rw [a1]; rfl
theorem At.meters (T : Toks ts) {r : TkL} : ∀ (xs : List Meter) (s : St) (p : Plan), (∀ m ∈ xs, NmOk m.name ∧ NmOk m.unit ∧ NumOk m.max 2000) → At ts s (xs.flatMap meterX ++ r) → ∃ ys s', itemsS ts ts.length s p = itemsS ts ts.length s' { p with meters := p.meters ++ ys } ∧ ys.map nM = xs.map nM ∧ At ts s' r
  | [], s, p, _, h => ⟨[], s, by rw [List.append_nil], rfl, h⟩
  | m :: q, s, p, hm, h => by
    rw [List.flatMap_cons, List.append_assoc] at h
    have ok : Ok ts s := At.ok (x := (2, wMeter)) (r := (meterX m).tail ++ (q.flatMap meterX ++ r)) T h
    obtain ⟨m', s', e1, e2, e3, e4⟩ := At.itemM p (hm m (List.mem_cons_self ..)) h
    obtain ⟨ys, s2, f1, f2, f3⟩ := At.meters T q s' { p with meters := p.meters ++ [m'] } (fun x hx => hm x (List.mem_cons_of_mem _ hx)) e3
    refine ⟨m' :: ys, s2, ?_, by rw [List.map_cons, List.map_cons, e2, f2], f3⟩
    rw [items_step ok e4, e1, f1]
    simp
theorem At.fees (T : Toks ts) {r : TkL} : ∀ (xs : List Fee) (s : St) (p : Plan), (∀ f ∈ xs, NumOk f.amount 1000000000000 ∧ WinOk f.win) → At ts s (xs.flatMap feeX ++ r) → ∃ ys s', itemsS ts ts.length s p = itemsS ts ts.length s' { p with fees := p.fees ++ ys } ∧ ys.map nF = xs.map nF ∧ At ts s' r
  | [], s, p, _, h => ⟨[], s, by rw [List.append_nil], rfl, h⟩
  | m :: q, s, p, hm, h => by
    rw [List.flatMap_cons, List.append_assoc] at h
    have ok : Ok ts s := At.ok (x := (2, wFee)) (r := (feeX m).tail ++ (q.flatMap feeX ++ r)) T h
    obtain ⟨m', s', e1, e2, e3, e4⟩ := At.itemF p (hm m (List.mem_cons_self ..)) h
    obtain ⟨ys, s2, f1, f2, f3⟩ := At.fees T q s' { p with fees := p.fees ++ [m'] } (fun x hx => hm x (List.mem_cons_of_mem _ hx)) e3
    refine ⟨m' :: ys, s2, ?_, by rw [List.map_cons, List.map_cons, e2, f2], f3⟩
    rw [items_step ok e4, e1, f1]
    simp
theorem At.charges (T : Toks ts) {r : TkL} : ∀ (xs : List Charge) (s : St) (p : Plan), (∀ c ∈ xs, ChOk c) → At ts s (xs.flatMap chX ++ r) → ∃ ys s', itemsS ts ts.length s p = itemsS ts ts.length s' { p with charges := p.charges ++ ys } ∧ ys.map nC = xs.map nC ∧ At ts s' r
  | [], s, p, _, h => ⟨[], s, by rw [List.append_nil], rfl, h⟩
  | m :: q, s, p, hm, h => by
    rw [List.flatMap_cons, List.append_assoc] at h
    have ok : Ok ts s := At.ok (x := (2, wCharge)) (r := (chX m).tail ++ (q.flatMap chX ++ r)) T h
    obtain ⟨m', s', e1, e2, e3, e4⟩ := At.itemC p (hm m (List.mem_cons_self ..)) h
    obtain ⟨ys, s2, f1, f2, f3⟩ := At.charges T q s' { p with charges := p.charges ++ [m'] } (fun x hx => hm x (List.mem_cons_of_mem _ hx)) e3
    refine ⟨m' :: ys, s2, ?_, by rw [List.map_cons, List.map_cons, e2, f2], f3⟩
    rw [items_step ok e4, e1, f1]
    simp
/-- The tokens of a plan's text are that plan, but for places. -/
theorem plan_read (T : Toks ts) {p : Plan} (h : Gd p) (e : ts.map (fun t => (t.k, t.t)) = planX p) : (planS ts).2.1 = 0 ∧ noPl (planS ts).1 = noPl p := by
  have h0 : At ts st0 (planX p) := ⟨rfl, e⟩
  have h0 : At ts st0 ((2, wPlan) :: (1, p.name.data.toList) :: (2, wCurrency) :: (1, p.cur.data.toList) :: smX :: (2, wHorizon) :: (4, dayT p.a) :: (4, dayT p.b) :: smX :: (p.meters.flatMap meterX ++ (p.fees.flatMap feeX ++ (p.charges.flatMap chX ++ [(0, [])])))) := h0
  obtain ⟨a1, a2⟩ := (h0.wnt (.inl rfl)).tkn
  obtain ⟨b1, b2⟩ := (a2.wnt (.inl rfl)).tkn
  obtain ⟨c1, c2⟩ := ((b2.wnt (.inr rfl)).wnt (.inl rfl)).day h.days.1
  obtain ⟨d1, d2⟩ := c2.day h.days.2
  have d3 : At ts (headS ts st0).2 (p.meters.flatMap meterX ++ (p.fees.flatMap feeX ++ (p.charges.flatMap chX ++ [(0, [])]))) := d2.wnt (.inr rfl)
  obtain ⟨ms, s1, e1, e2, e3⟩ := At.meters T p.meters _ (headS ts st0).1 h.meters d3
  obtain ⟨fs, s2, f1, f2, f3⟩ := At.fees T p.fees s1 { (headS ts st0).1 with meters := (headS ts st0).1.meters ++ ms } h.fees e3
  obtain ⟨cs, s3, g1, g2, g3⟩ := At.charges T p.charges s2 { (headS ts st0).1 with meters := (headS ts st0).1.meters ++ ms, fees := (headS ts st0).1.fees ++ fs } h.charges f3
  have gs : goesOn ts s3 = false := by unfold goesOn; rw [g3.tk.1]; simp
  have e4 := items_stop ts ts.length s3 { (headS ts st0).1 with meters := (headS ts st0).1.meters ++ ms, fees := (headS ts st0).1.fees ++ fs, charges := (headS ts st0).1.charges ++ cs } gs
  have e1 := ((e1.trans f1).trans g1).trans e4
  unfold planS
  simp only
  rw [e1, if_pos g3.1]
  refine ⟨rfl, ?_⟩
  unfold noPl headS
  simp only [List.nil_append]
  rw [a1, b1, c1, d1, ba_list, ba_list, e2, f2, g2]
/-- The tokens of a text that reads so. -/
theorem toks_of {xs : TkL} (e : ts.map (fun t => (t.k, t.t)) = xs ++ [(0, [])]) : Toks ts := by
  refine ⟨fun i t h1 h2 => ?_, ?_⟩
  · have := congrArg (·[i]?) e
    have hl := congrArg List.length e
    simp only [List.length_map, List.length_append, List.length_singleton] at hl
    simp only [List.getElem?_map, h1, Option.map_some] at this
    rw [List.getElem?_append_right (by omega), show i - xs.length = 0 by omega] at this
    simp only [List.getElem?_cons_zero, Option.some.injEq, Prod.mk.injEq] at this
    exact this.1
  · have hl := congrArg List.length e
    simp only [List.length_map, List.length_append, List.length_singleton] at hl
    omega
theorem planX_end (p : Plan) : ∃ xs, planX p = xs ++ [(0, [])] := ⟨headX p ++ (p.meters.flatMap meterX ++ (p.fees.flatMap feeX ++ p.charges.flatMap chX)), by unfold planX; simp only [List.append_assoc]⟩
theorem lex_read {p : Plan} (h : Gd p) : (lex (planT p) 1 1).2 = none ∧ (planS (lex (planT p) 1 1).1).2.1 = 0 ∧ noPl (planS (lex (planT p) 1 1).1).1 = noPl p := by
  obtain ⟨l1, l2⟩ := Lx.plan h 1 1
  obtain ⟨xs, e⟩ := planX_end p
  exact ⟨l1, plan_read (toks_of (by rw [l2, e])) h l2⟩
/-- A plan's text is parsed to the same plan, but for places. -/
theorem show_back {p : Plan} (h : Gd p) (hl : (planT p).length ≤ 8192) : (parsed (planT p)).2.1 = 0 ∧ noPl (parsed (planT p)).1 = noPl p := by
  obtain ⟨l1, l2⟩ := lex_read h
  have e : lexed (planT p) = ((lex (planT p) 1 1).1, 0, 0, 0) := lexed_ok (acc := (lex (planT p) 1 1).1) hl (by rw [← l1])
  unfold parsed
  simp only [e, if_true]
  exact l2
theorem planT_noPl (p : Plan) : planT (noPl p) = planT p := by
  unfold planT noPl headT8
  simp only [List.flatMap_map]
  rfl
/-- Two plans have one text just if they are the same, but for places. -/
theorem text_same {p q : Plan} (hp : Gd p) (hq : Gd q) : planT p = planT q ↔ noPl p = noPl q := by
  constructor
  · intro e
    have a := (lex_read hp).2.2
    rw [e, (lex_read hq).2.2] at a
    exact a.symm
  · intro e
    rw [← planT_noPl p, e, planT_noPl]
end Go.Proofs.YteelbdcgdkpioaaGreatDoor.P
/- Rows that are owned: one is turned, in its block or in a new one; one more. -/
namespace Go.Proofs.YteelbdcgdkpioaaGreatDoor.Mm
open Go.RowKit P R6

/-- One row is turned, in its block or in a new one. -/
theorem Owns.turn {W W' : World} {base H : Nat} {ρ ρ' : Slot → Option R} (h : Owns W base ρ) {σ : Slot} {r r' : R} (hσ : ρ σ = some r) (hσ' : ρ' σ = some r') (he : ∀ s, s ≠ σ → ρ' s = ρ s)
    (hg : W.grownBy W' r.v.ownBlock) (ho : W'.ownsRow base r'.e r'.size r'.v r'.n r'.xs) (hat : r'.v.ownBlock = r.v.ownBlock ∨ r'.v.ownBlock = some H) (hH : W.heap.size ≤ H) : Owns W' base ρ' := by
  have oth := h.others hσ hg
  have far : ∀ t q k, t ≠ σ → ρ t = some q → q.v.ownBlock = some k → r'.v.ownBlock = some k → False := fun t q k hne hq hk hk' => by
    rcases hat with e | e
    · exact hne (h.apart t σ q r k hq hσ hk (e ▸ hk'))
    · rw [e] at hk'
      have := Option.some.inj hk'
      have := ((h.own t q hq).lt k hk).2
      omega
  refine ⟨fun s q hs => ?_, fun s t q q' k hs ht hk hk' => ?_⟩
  · by_cases e : s = σ
    · subst e
      rw [hσ'] at hs
      obtain rfl := Option.some.inj hs
      exact ho
    · rw [he s e] at hs
      exact oth s q e hs
  · by_cases e : s = σ <;> by_cases e2 : t = σ
    · rw [e, e2]
    · subst e
      rw [hσ'] at hs
      obtain rfl := Option.some.inj hs
      rw [he t e2] at ht
      exact (far t q' k e2 ht hk' hk).elim
    · subst e2
      rw [hσ'] at ht
      obtain rfl := Option.some.inj ht
      rw [he s e] at hs
      exact (far s q k e hs hk hk').elim
    · rw [he s e] at hs
      rw [he t e2] at ht
      exact h.apart s t q q' k hs ht hk hk'
/-- One row more. -/
theorem Owns.add {W : World} {base S : Nat} {ρ ρ' : Slot → Option R} (h : Owns W base ρ) {σ : Slot} {r : R} (hσ' : ρ' σ = some r) (he : ∀ s, s ≠ σ → ρ' s = ρ s)
    (ho : W.ownsRow S r.e r.size r.v r.n r.xs) (hS : base ≤ S) (far : ∀ t q k, t ≠ σ → ρ t = some q → q.v.ownBlock = some k → r.v.ownBlock ≠ some k) : Owns W base ρ' := by
  refine ⟨fun s q hs => ?_, fun s t q q' k hs ht hk hk' => ?_⟩
  · by_cases e : s = σ
    · subst e
      rw [hσ'] at hs
      obtain rfl := Option.some.inj hs
      exact ho.mono hS
    · rw [he s e] at hs
      exact h.own s q hs
  · by_cases e : s = σ <;> by_cases e2 : t = σ
    · rw [e, e2]
    · subst e
      rw [hσ'] at hs
      obtain rfl := Option.some.inj hs
      rw [he t e2] at ht
      exact (far t q' k e2 ht hk' hk).elim
    · subst e2
      rw [hσ'] at ht
      obtain rfl := Option.some.inj ht
      rw [he s e] at hs
      exact (far s q k e hs hk hk').elim
    · rw [he s e] at hs
      rw [he t e2] at ht
      exact h.apart s t q q' k hs ht hk hk'
def zeroP : List Value := planC planZ none 0 none 0 none 0
end Go.Proofs.YteelbdcgdkpioaaGreatDoor.Mm
/- What the document's answers for layer 5 (poundageref05) come to: letter, Words. -/
namespace Go.Proofs.YteelbdcgdkpioaaGreatDoor.R5
open Go.RowKit P R4

set_option maxHeartbeats 1000000 in
theorem letter_any (x : Int) (w : World) : Calls Tryz.prog 38 #[.int .u8 x] w fun e w' => e = .returned (.bool (ltI x)) ∧ w' = w := by
  go_enter Tryz.func38, Tryz.ntmps38
  go_wp2
  all_goals
    go_ret
    refine ⟨ret_b ?_, rfl⟩
    unfold ltI
    simp_all
    try (rw [Bool.eq_iff_iff]; simp only [Bool.or_eq_true, Bool.and_eq_true, beq_iff_eq, decide_eq_true_eq]; omega)
def wordCells : Array Value := (words.map fun l => Value.string ⟨l.toArray⟩).toArray
theorem words_any (w : World) : Calls Tryz.prog 68 #[] w fun e w' => e = .returned (.slice (some ⟨w.heap.size, 0, none⟩) 26 26) ∧ w' = w.alloc (.cells wordCells 9) := by
  go_enter Tryz.func68, Tryz.ntmps68
  go_wp2
  go_ret
  exact ⟨rfl, rfl⟩
theorem word_cell (w : World) (i : Nat) (hi : i < 26) : (w.alloc (.cells wordCells 9)).cell? ⟨w.heap.size, i, none⟩ = some (.string ⟨(words.getD i []).toArray⟩) := by
  have hl : i < words.length := hi
  rw [World.cell?_alloc_new]
  show wordCells[i]? = _
  unfold wordCells
  simp [List.getElem?_map, List.getElem?_eq_getElem hl]
end Go.Proofs.YteelbdcgdkpioaaGreatDoor.R5
/- Blocks of three cells, behind calls that leave them alone: no program is named here. -/
namespace Go.Proofs.YteelbdcgdkpioaaGreatDoor.P
open Go.RowKit

/-- Three cells of a block, and that they may be written. -/
structure Lies3 (w : World) (k : Nat) (a b c : Value) : Prop where
  lt : k < w.heap.size
  c0 : w.cell? ⟨k, 0, none⟩ = some a
  c1 : w.cell? ⟨k, 1, none⟩ = some b
  c2 : w.cell? ⟨k, 2, none⟩ = some c
  f0 : w.frozen? ⟨k, 0, none⟩ = false
  f1 : w.frozen? ⟨k, 1, none⟩ = false
  f2 : w.frozen? ⟨k, 2, none⟩ = false
theorem Lies3.on {w W : World} {k : Nat} {a b c : Value} (h : Lies3 w k a b c) (hb : Below w.heap.size w W) : Lies3 W k a b c := by
  obtain ⟨h1, h2, h3, h4, h5, h6, h7⟩ := h
  exact ⟨Nat.lt_of_lt_of_le h1 hb.size, by rw [hb.cell h1]; exact h2, by rw [hb.cell h1]; exact h3, by rw [hb.cell h1]; exact h4,
    by rw [hb.frozen h1]; exact h5, by rw [hb.frozen h1]; exact h6, by rw [hb.frozen h1]; exact h7⟩
theorem Lies3.new {w : World} {k : Nat} {a b c : Value} {t : TypeId} (hk : w.heap.size = k) : Lies3 (w.alloc (.cells #[a, b, c] t)) k a b c := by
  subst hk
  refine ⟨by simp, ?_, ?_, ?_, ?_, ?_, ?_⟩ <;> go_simp
theorem Lies3.later {w w2 : World} {k : Nat} {a b c : Value} {t : TypeId} (hb : Below (w.alloc (.cells #[a, b, c] t)).heap.size (w.alloc (.cells #[a, b, c] t)) w2) (hk : w.heap.size = k) : Lies3 w2 k a b c := (Lies3.new hk).on hb
theorem Lies3.alloc {w : World} {k : Nat} {a b c : Value} (h : Lies3 w k a b c) (o : Obj) : Lies3 (w.alloc o) k a b c := h.on ((Below.refl _ _).alloc (Nat.le_refl _) _)
theorem Lies3.drewN {w : World} {k : Nat} {a b c : Value} (h : Lies3 w k a b c) (n : Nat) : Lies3 (w.drewN n) k a b c := by
  refine h.on ⟨rfl, rfl, rfl, Nat.le_refl _, fun _ _ => rfl⟩
theorem Lies3.set0 {w : World} {k : Nat} {a b c : Value} (h : Lies3 w k a b c) (v : Value) : Lies3 (w.setCell ⟨k, 0, none⟩ v) k v b c := by
  obtain ⟨h1, h2, h3, h4, h5, h6, h7⟩ := h
  refine ⟨?_, ?_, ?_, ?_, ?_, ?_, ?_⟩ <;> go_simp
theorem Lies3.set1 {w : World} {k : Nat} {a b c : Value} (h : Lies3 w k a b c) (v : Value) : Lies3 (w.setCell ⟨k, 1, none⟩ v) k a v c := by
  obtain ⟨h1, h2, h3, h4, h5, h6, h7⟩ := h
  refine ⟨?_, ?_, ?_, ?_, ?_, ?_, ?_⟩ <;> go_simp
theorem Lies3.set2 {w : World} {k : Nat} {a b c : Value} (h : Lies3 w k a b c) (v : Value) : Lies3 (w.setCell ⟨k, 2, none⟩ v) k a b v := by
  obtain ⟨h1, h2, h3, h4, h5, h6, h7⟩ := h
  refine ⟨?_, ?_, ?_, ?_, ?_, ?_, ?_⟩ <;> go_simp
/-- A store into another block. -/
theorem Lies3.other {w : World} {k : Nat} {a b c : Value} (h : Lies3 w k a b c) {j o : Nat} (hj : k ≠ j) (v : Value) : Lies3 (w.setCell ⟨j, o, none⟩ v) k a b c := by
  obtain ⟨h1, h2, h3, h4, h5, h6, h7⟩ := h
  have e := Below.heap_setCell w ⟨j, o, none⟩ v k hj
  refine ⟨?_, ?_, ?_, ?_, ?_, ?_, ?_⟩
  · simpa using h1
  · rw [World.cell?_of_block (w := w) e]; exact h2
  · rw [World.cell?_of_block (w := w) e]; exact h3
  · rw [World.cell?_of_block (w := w) e]; exact h4
  · rw [World.frozen?_of_block (w := w) e]; exact h5
  · rw [World.frozen?_of_block (w := w) e]; exact h6
  · rw [World.frozen?_of_block (w := w) e]; exact h7
end Go.Proofs.YteelbdcgdkpioaaGreatDoor.P
