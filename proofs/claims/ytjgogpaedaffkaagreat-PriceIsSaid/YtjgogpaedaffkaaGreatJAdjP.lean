/- A plan's text, read again: the same plan, but for places. Pure: no program is named here. -/
import Derived.Test.YtjgogpaedaffkaaGreatJShR
import Derived.Test.YtjgogpaedaffkaaGreatJLexJ
import Derived.Test.YtjgogpaedaffkaaGreatJParP
import Derived.Test.YtjgogpaedaffkaaGreatJPureS
import Derived.Sort.Walk0
namespace Go.Proofs.YtjgogpaedaffkaaGreat.Mm
end Go.Proofs.YtjgogpaedaffkaaGreat.Mm
namespace Go.Proofs.YtjgogpaedaffkaaGreat.R6
end Go.Proofs.YtjgogpaedaffkaaGreat.R6
namespace Go.Proofs.YtjgogpaedaffkaaGreat.P
end Go.Proofs.YtjgogpaedaffkaaGreat.P
namespace Go.Proofs.YtjgogpaedaffkaaGreat.P
open Go.RowKit Mm R6
variable {ts : List Tok} {s : St}
theorem ba_list (b : ByteArray) : (⟨b.data.toList.toArray⟩ : ByteArray) = b := by simp
theorem At.dec6 {r : TkL} {n m : Int} (hn : NumOk n m) (hm : m ≤ 1000000000000) (h : At ts s ((3, decT n 6) :: r)) : (numS ts s 6 m).1 = n ∧ At ts (numS ts s 6 m).2 r := At.dec (p := 6) (by decide) hn hm h
theorem At.meterS {m : Meter} {r : TkL} (h1 : NmOk m.name ∧ NmOk m.unit ∧ NumOk m.max 2000) (l c : Int) (h : At ts s ((meterX m).tail ++ r)) : (meterS ts s l c).1 = { m with line := l, col := c } ∧ At ts (meterS ts s l c).2 r := by
  have h : At ts s ((1, m.name.data.toList) :: (2, wUnit) :: (1, m.unit.data.toList) :: (2, wMax) :: (3, nmbT m.max) :: smX :: r) := h
  obtain ⟨a1, a2⟩ := h.tkn
  obtain ⟨b1, b2⟩ := (a2.wnt (.inl rfl)).tkn
  obtain ⟨c1, c2⟩ := (b2.wnt (.inl rfl)).nmb h1.2.2 (by decide)
  refine ⟨?_, c2.wnt (.inr rfl)⟩
  unfold P.meterS
  simp only
  rw [a1, b1, c1, ba_list, ba_list]
theorem At.feeS {f : Fee} {r : TkL} (h1 : NumOk f.amount 1000000000000 ∧ WinOk f.win) (l c : Int) (h : At ts s ((feeX f).tail ++ r)) : (feeS ts s l c).1 = { f with line := l, col := c } ∧ At ts (feeS ts s l c).2 r := by
  have h : At ts s ((3, nmbT f.amount) :: ((winX f.win ++ [smX]) ++ r)) := h
  obtain ⟨a1, a2⟩ := h.nmb h1.1 (by decide)
  rw [List.append_assoc] at a2
  obtain ⟨b1, b2⟩ := At.win h1.2 (show sSemi ≠ wFrom by decide) a2
  refine ⟨?_, b2.wnt (.inr rfl)⟩
  unfold P.feeS
  simp only
  rw [a1, b1]
theorem flat_len_le {α β : Type} {f : α → List β} : ∀ (l : List α), (∀ a ∈ l, 1 ≤ (f a).length) → l.length ≤ (l.flatMap f).length
  | [], _ => Nat.le_refl _
  | a :: r, h => by
    have e := flat_len_le r (fun b hb => h b (List.mem_cons_of_mem _ hb))
    have k := h a (List.mem_cons_self ..)
    rw [List.flatMap_cons, List.length_append, List.length_cons]
    omega
theorem opt_head {word : List UInt8} {n d : Int} {k : Nat} {l : List UInt8} {r : TkL} : ∃ k' l' r', (if n = d then [] else [(2, word), (3, nmbT n), smX]) ++ (k, l) :: r = (k', l') :: r' ∧ (l' = word ∨ l' = l) := by
  by_cases g : n = d
  · rw [if_pos g]; exact ⟨_, _, _, rfl, .inr rfl⟩
  · rw [if_neg g]; exact ⟨_, _, _, rfl, .inl rfl⟩
theorem kind_word {k : Int} (hk : k = 1 ∨ k = 2) : kindT k ≠ wAllowance ∧ kindT k ≠ wBlock := by
  rcases hk with rfl | rfl <;> exact ⟨by decide, by decide⟩
theorem At.chargeS {c : Charge} {us : List Tier} {q : Int} {r : TkL} (hc : ChOk c) (e : c.tiers = us ++ [⟨0, q⟩]) (hu : ∀ t ∈ us, TierOk t) (hq : NumOk q 1000000000000) (l b : Int) (h : At ts s ((chargeX c us q).tail ++ r)) :
    (chargeS ts s l b).1 = { c with line := l, col := b } ∧ At ts (chargeS ts s l b).2 r := by
  have lenu : us.length ≤ (us.flatMap tierX).length := flat_len_le us (fun t _ => by show 1 ≤ 5; decide)
  have lena : c.adjusts.length ≤ (c.adjusts.flatMap adjX).length := flat_len_le c.adjusts (fun a ha => by obtain ⟨w, e1, _⟩ := adjX_head (hc.adjs a ha); rw [e1]; simp)
  have L := h.len
  unfold chargeX at h L
  simp only [List.tail_cons, List.cons_append, List.append_assoc, List.nil_append] at h L
  simp only [List.length_cons, List.length_append] at L
  obtain ⟨a1, a2⟩ := h.tkn
  obtain ⟨b1, b2⟩ := At.win hc.win (show sOpen ≠ wFrom by decide) a2
  have b3 := b2.wnt (.inr rfl)
  have kw := kind_word hc.kind
  obtain ⟨k', l', r', e1, e2⟩ := opt_head (word := wBlock) (n := c.block) (d := 1) (k := 2) (l := kindT c.kind) (r := (5, sOpen) :: (us.flatMap tierX ++ (restX q ++ (5, sShut) :: (2, wRound) :: (2, modeT c.mode) :: smX :: (c.adjusts.flatMap adjX ++ (5, sShut) :: r))))
  rw [e1] at b3
  obtain ⟨c1, c2⟩ := b3.opt (word := wAllowance) hc.allow (by rcases e2 with rfl | rfl; exact (by decide); exact kw.1)
  rw [← e1] at c2
  obtain ⟨d1, d2⟩ := c2.opt (word := wBlock) hc.block kw.2
  obtain ⟨f1, f2⟩ := d2.kind hc.kind
  obtain ⟨g1, g2⟩ := At.tiers us ts.length _ [] hu (by omega) (f2.wnt (.inr rfl))
  obtain ⟨i1, i2⟩ := ((g2.wnt (.inl rfl)).wnt (.inl rfl)).dec6 hq (by decide)
  obtain ⟨j1, j2⟩ := (((i2.wnt (.inr rfl)).wnt (.inr rfl)).wnt (.inl rfl)).mode hc.mode
  obtain ⟨k1, k2⟩ := At.adjs c.adjusts ts.length _ [] hc.adjs (by omega) (j2.wnt (.inr rfl))
  refine ⟨?_, k2.wnt (.inr rfl)⟩
  unfold P.chargeS
  simp only
  rw [a1, b1, c1, d1, f1, g1, i1, j1, k1, ba_list, List.nil_append, List.nil_append, ← e]
/-- A charge's tokens. -/
def chX (c : Charge) : TkL := chargeX c c.tiers.dropLast ((c.tiers.getLast?.map Tier.rate).getD 0)
theorem chX_of {c : Charge} {us : List Tier} {q : Int} (e : c.tiers = us ++ [⟨0, q⟩]) : chX c = chargeX c us q := by
  unfold chX
  rw [e, List.dropLast_concat, List.getLast?_append]
  rfl
theorem item_one {w : List UInt8} {r : TkL} {i : Int} (h : At ts s ((2, w) :: r)) (e : oneP itemWords w 0 = some i) : oneS ts s itemWords = (i, s.next) ∧ goesOn ts s = true := by
  refine ⟨h.one (.inl rfl) e, ?_⟩
  unfold goesOn
  rw [h.tk.1, decide_eq_true h.1]; rfl
theorem At.ok {x : Nat × List UInt8} {r : TkL} (T : Toks ts) (h : At ts s (x :: r)) : Ok ts s := ⟨T, h.lt⟩
theorem At.itemM {m : Meter} {r : TkL} (p : Plan) (h1 : NmOk m.name ∧ NmOk m.unit ∧ NumOk m.max 2000) (h : At ts s (meterX m ++ r)) : ∃ m' s', itemS ts s p = ({ p with meters := p.meters ++ [m'] }, s') ∧ nM m' = nM m ∧ At ts s' r ∧ goesOn ts s = true := by
  have h : At ts s ((2, wMeter) :: ((meterX m).tail ++ r)) := h
  obtain ⟨o, g⟩ := item_one h (i := 0) (by decide)
  obtain ⟨a1, a2⟩ := h.next.meterS h1 (P.tk ts s).ln (P.tk ts s).cl
  refine ⟨(P.meterS ts s.next (P.tk ts s).ln (P.tk ts s).cl).1, _, ?_, ?_, a2, g⟩
  · unfold itemS
    simp only
    rw [o, if_pos (show (0 : Int) = 0 from rfl)]
  · rw [a1]; rfl
theorem At.itemF {f : Fee} {r : TkL} (p : Plan) (h1 : NumOk f.amount 1000000000000 ∧ WinOk f.win) (h : At ts s (feeX f ++ r)) : ∃ m' s', itemS ts s p = ({ p with fees := p.fees ++ [m'] }, s') ∧ nF m' = nF f ∧ At ts s' r ∧ goesOn ts s = true := by
  have h : At ts s ((2, wFee) :: ((feeX f).tail ++ r)) := h
  obtain ⟨o, g⟩ := item_one h (i := 1) (by decide)
  obtain ⟨a1, a2⟩ := h.next.feeS h1 (P.tk ts s).ln (P.tk ts s).cl
  refine ⟨(P.feeS ts s.next (P.tk ts s).ln (P.tk ts s).cl).1, _, ?_, ?_, a2, g⟩
  · unfold itemS
    simp only
    rw [o, if_neg (show ¬ ((1 : Int) = 0) by decide), if_pos (show (1 : Int) = 1 from rfl)]
  · rw [a1]; rfl
theorem At.itemC {c : Charge} {r : TkL} (p : Plan) (h1 : ChOk c) (h : At ts s (chX c ++ r)) : ∃ m' s', itemS ts s p = ({ p with charges := p.charges ++ [m'] }, s') ∧ nC m' = nC c ∧ At ts s' r ∧ goesOn ts s = true := by
  obtain ⟨us, q, e, hu, hq⟩ := h1.tiers
  rw [chX_of e] at h
  have h : At ts s ((2, wCharge) :: ((chargeX c us q).tail ++ r)) := h
  obtain ⟨o, g⟩ := item_one h (i := 2) (by decide)
  obtain ⟨a1, a2⟩ := h.next.chargeS h1 e hu hq (P.tk ts s).ln (P.tk ts s).cl
  refine ⟨(P.chargeS ts s.next (P.tk ts s).ln (P.tk ts s).cl).1, _, ?_, ?_, a2, g⟩
  · unfold itemS
    simp only
    rw [o, if_neg (show ¬ ((2 : Int) = 0) by decide), if_neg (show ¬ ((2 : Int) = 1) by decide), if_pos (show (2 : Int) = 2 from rfl)]
  · rw [a1]; rfl
theorem At.meters (T : Toks ts) {r : TkL} : ∀ (xs : List Meter) (s : St) (p : Plan), (∀ m ∈ xs, NmOk m.name ∧ NmOk m.unit ∧ NumOk m.max 2000) → At ts s (xs.flatMap meterX ++ r) → ∃ ys s', itemsS ts ts.length s p = itemsS ts ts.length s' { p with meters := p.meters ++ ys } ∧ ys.map nM = xs.map nM ∧ At ts s' r
  | [], s, p, _, h => ⟨[], s, by rw [List.append_nil], rfl, h⟩
  | m :: q, s, p, hm, h => by
    rw [List.flatMap_cons, List.append_assoc] at h
    have ok : Ok ts s := At.ok (x := (2, wMeter)) (r := (meterX m).tail ++ (q.flatMap meterX ++ r)) T h
    obtain ⟨m', s', e1, e2, e3, e4⟩ := At.itemM p (hm m (List.mem_cons_self ..)) h
    obtain ⟨ys, s2, f1, f2, f3⟩ := At.meters T q s' { p with meters := p.meters ++ [m'] } (fun x hx => hm x (List.mem_cons_of_mem _ hx)) e3
    refine ⟨m' :: ys, s2, ?_, by rw [List.map_cons, List.map_cons, e2, f2], f3⟩
    rw [items_step ok e4, e1, f1]
    simp
theorem At.fees (T : Toks ts) {r : TkL} : ∀ (xs : List Fee) (s : St) (p : Plan), (∀ f ∈ xs, NumOk f.amount 1000000000000 ∧ WinOk f.win) → At ts s (xs.flatMap feeX ++ r) → ∃ ys s', itemsS ts ts.length s p = itemsS ts ts.length s' { p with fees := p.fees ++ ys } ∧ ys.map nF = xs.map nF ∧ At ts s' r
  | [], s, p, _, h => ⟨[], s, by rw [List.append_nil], rfl, h⟩
  | m :: q, s, p, hm, h => by
    rw [List.flatMap_cons, List.append_assoc] at h
    have ok : Ok ts s := At.ok (x := (2, wFee)) (r := (feeX m).tail ++ (q.flatMap feeX ++ r)) T h
    obtain ⟨m', s', e1, e2, e3, e4⟩ := At.itemF p (hm m (List.mem_cons_self ..)) h
    obtain ⟨ys, s2, f1, f2, f3⟩ := At.fees T q s' { p with fees := p.fees ++ [m'] } (fun x hx => hm x (List.mem_cons_of_mem _ hx)) e3
    refine ⟨m' :: ys, s2, ?_, by rw [List.map_cons, List.map_cons, e2, f2], f3⟩
    rw [items_step ok e4, e1, f1]
    simp
theorem At.charges (T : Toks ts) {r : TkL} : ∀ (xs : List Charge) (s : St) (p : Plan), (∀ c ∈ xs, ChOk c) → At ts s (xs.flatMap chX ++ r) → ∃ ys s', itemsS ts ts.length s p = itemsS ts ts.length s' { p with charges := p.charges ++ ys } ∧ ys.map nC = xs.map nC ∧ At ts s' r
  | [], s, p, _, h => ⟨[], s, by rw [List.append_nil], rfl, h⟩
  | m :: q, s, p, hm, h => by
    rw [List.flatMap_cons, List.append_assoc] at h
    have ok : Ok ts s := At.ok (x := (2, wCharge)) (r := (chX m).tail ++ (q.flatMap chX ++ r)) T h
    obtain ⟨m', s', e1, e2, e3, e4⟩ := At.itemC p (hm m (List.mem_cons_self ..)) h
    obtain ⟨ys, s2, f1, f2, f3⟩ := At.charges T q s' { p with charges := p.charges ++ [m'] } (fun x hx => hm x (List.mem_cons_of_mem _ hx)) e3
    refine ⟨m' :: ys, s2, ?_, by rw [List.map_cons, List.map_cons, e2, f2], f3⟩
    rw [items_step ok e4, e1, f1]
    simp
end Go.Proofs.YtjgogpaedaffkaaGreat.P
/- What is wrong with a plan, and its bound (layer 9): one step of a loop after the other. No program is named here. -/
namespace Go.Proofs.YtjgogpaedaffkaaGreat.P
open Go.RowKit Mm
theorem drop_at {α : Type} {l : List α} {i : Nat} {x : α} (h : l[i]? = some x) : l.drop i = x :: l.drop (i + 1) := by
  obtain ⟨hi, rfl⟩ := List.getElem?_eq_some_iff.1 h
  exact List.drop_eq_getElem_cons hi
theorem rises_stop {l : List Tier} {u : Int} {i : Nat} (h : l.length ≤ i + 1) : risesB u (l.drop i) = true := by
  have : (l.drop i).length ≤ 1 := by rw [List.length_drop]; omega
  cases hd : l.drop i with
  | nil => rfl
  | cons t r =>
    rw [hd] at this
    cases r with
    | nil => rfl
    | cons _ _ => simp at this
theorem rises_step {l : List Tier} {u : Int} {i : Nat} {t : Tier} (h : l[i]? = some t) (hi : i + 1 < l.length) : risesB u (l.drop i) = (decide (1 ≤ t.upto) && decide (u < t.upto) && risesB t.upto (l.drop (i + 1))) := by
  obtain ⟨t', h'⟩ : ∃ t', l[i + 1]? = some t' := ⟨_, List.getElem?_eq_getElem hi⟩
  rw [drop_at h, drop_at h']
  rfl
end Go.Proofs.YtjgogpaedaffkaaGreat.P
/- Cores in memory (api.Core and its parts), and the plain data that they hold. -/
namespace Go.Proofs.YtjgogpaedaffkaaGreat.Mm
open Go.RowKit Go.Deep Go.ChangeShapes Go.WideShapes P
structure Sm where
  amt : Int
  a : Int
  b : Int
deriving Inhabited, DecidableEq
structure Prt where
  mt : Int
  a : Int
  b : Int
  allowance : Int
  block : Int
  kind : Int
  tiers : List Tier
  mode : Int
  adjusts : List Adj
deriving Inhabited, DecidableEq
structure Cor where
  cur : ByteArray
  a : Int
  b : Int
  meters : List Meter
  sums : List Sm
  parts : List Prt
deriving Inhabited
def smC (s : Sm) : List Value := [.int .i64 s.amt, .int .i64 s.a, .int .i64 s.b]
def tSm : Ty Sm := leaf 3 smC (fun s => I64 s.amt ∧ I64 s.a ∧ I64 s.b) (fun _ => rfl)
def prtC (x : Prt) (ta : Option Addr) (tc : Nat) (aa : Option Addr) (ac : Nat) : List Value :=
  [.int .i64 x.mt, .int .i64 x.a, .int .i64 x.b, .int .i64 x.allowance, .int .i64 x.block, .int .i64 x.kind, .slice ta x.tiers.length tc, .int .i64 x.mode, .slice aa x.adjusts.length ac]
structure PrtLies (w : World) (cs : List Value) (x : Prt) (ta : Option Addr) (tc : Nat) (aa : Option Addr) (ac : Nat) : Prop where
  cells : cs = prtC x ta tc aa ac
  tiers : Row tTier w ta x.tiers.length tc x.tiers
  adjusts : Row tAdj w aa x.adjusts.length ac x.adjusts
  nums : I64 x.mt ∧ I64 x.a ∧ I64 x.b ∧ I64 x.allowance ∧ I64 x.block ∧ I64 x.kind ∧ I64 x.mode
def tPrt : Ty Prt where
  n := 9
  lies := fun w cs x => ∃ ta tc aa ac, PrtLies w cs x ta tc aa ac
  len := fun ⟨_, _, _, _, h⟩ => by rw [h.cells]; rfl
  keep := fun ⟨ta, tc, aa, ac, h⟩ hb => ⟨ta, tc, aa, ac, h.cells, h.tiers.on hb, h.adjusts.on hb, h.nums⟩
def corC (c : Cor) (ma : Option Addr) (mc : Nat) (sa : Option Addr) (sc : Nat) (pa : Option Addr) (pc : Nat) : List Value :=
  [.string c.cur, .int .i64 c.a, .int .i64 c.b, .slice ma c.meters.length mc, .slice sa c.sums.length sc, .slice pa c.parts.length pc]
structure CorLies (w : World) (cs : List Value) (c : Cor) (ma : Option Addr) (mc : Nat) (sa : Option Addr) (sc : Nat) (pa : Option Addr) (pc : Nat) : Prop where
  cells : cs = corC c ma mc sa sc pa pc
  meters : Row tMeter w ma c.meters.length mc c.meters
  sums : Row tSm w sa c.sums.length sc c.sums
  parts : Row tPrt w pa c.parts.length pc c.parts
  cur : strOk c.cur
  days : I64 c.a ∧ I64 c.b
theorem CorLies.on {w w' : World} {cs : List Value} {c : Cor} {ma : Option Addr} {mc : Nat} {sa : Option Addr} {sc : Nat} {pa : Option Addr} {pc : Nat} (h : CorLies w cs c ma mc sa sc pa pc) (hb : Below w.heap.size w w') : CorLies w' cs c ma mc sa sc pa pc :=
  ⟨h.cells, h.meters.on hb, h.sums.on hb, h.parts.on hb, h.cur, h.days⟩
def tCor : Ty Cor where
  n := 6
  lies := fun w cs c => ∃ ma mc sa sc pa pc, CorLies w cs c ma mc sa sc pa pc
  len := fun ⟨_, _, _, _, _, _, h⟩ => by rw [h.cells]; rfl
  keep := fun ⟨ma, mc, sa, sc, pa, pc, h⟩ hb => ⟨ma, mc, sa, sc, pa, pc, h.on hb⟩
section
variable {H : Type} {enc : TypeId × Value → H} {w : World} {base : Nat} {spare : Nat → Bool} {held : Bool}
theorem down_sm {fuel : Nat} {cs : List Value} {x : DataW H × List MemPlace} (h : DataW.trod enc Tryz.prog w base spare held fuel 52 cs = some x) : ∃ y, tSm.lies w cs y := by
  obtain ⟨hl, n, hf⟩ := down_struct Tryz.underlying52 h
  obtain ⟨_, h0⟩ := fld hf 0 _ rfl 1 (by kernel_rfl)
  obtain ⟨_, h1⟩ := fld hf 1 _ rfl 1 (by kernel_rfl)
  obtain ⟨_, h2⟩ := fld hf 2 _ rfl 1 (by kernel_rfl)
  obtain ⟨a, e0, g0⟩ := down_int Tryz.underlying3 h0
  obtain ⟨b, e1, g1⟩ := down_int Tryz.underlying3 h1
  obtain ⟨c, e2, g2⟩ := down_int Tryz.underlying3 h2
  rw [show Tryz.prog.cellsOf 52 = 3 by kernel_rfl] at hl
  exact ⟨⟨a, b, c⟩, piece_all (piece (k := 1) e0 (piece (k := 1) e1 (piece (k := 1) e2 (piece_end hl)))), g0, g1, g2⟩
theorem down_prt {fuel : Nat} {cs : List Value} {x : DataW H × List MemPlace} (h : DataW.trod enc Tryz.prog w base spare held fuel 58 cs = some x) : ∃ y, tPrt.lies w cs y := by
  obtain ⟨hl, n, hf⟩ := down_struct Tryz.underlying58 h
  obtain ⟨_, h0⟩ := fld hf 0 _ rfl 1 (by kernel_rfl)
  obtain ⟨_, h1⟩ := fld hf 1 _ rfl 1 (by kernel_rfl)
  obtain ⟨_, h2⟩ := fld hf 2 _ rfl 1 (by kernel_rfl)
  obtain ⟨_, h3⟩ := fld hf 3 _ rfl 1 (by kernel_rfl)
  obtain ⟨_, h4⟩ := fld hf 4 _ rfl 1 (by kernel_rfl)
  obtain ⟨_, h5⟩ := fld hf 5 _ rfl 1 (by kernel_rfl)
  obtain ⟨_, h6⟩ := fld hf 6 _ rfl 1 (by kernel_rfl)
  obtain ⟨_, h7⟩ := fld hf 7 _ rfl 1 (by kernel_rfl)
  obtain ⟨_, h8⟩ := fld hf 8 _ rfl 1 (by kernel_rfl)
  obtain ⟨a, e0, g0⟩ := down_int Tryz.underlying3 h0
  obtain ⟨b, e1, g1⟩ := down_int Tryz.underlying3 h1
  obtain ⟨c, e2, g2⟩ := down_int Tryz.underlying3 h2
  obtain ⟨d, e3, g3⟩ := down_int Tryz.underlying3 h3
  obtain ⟨e, e4, g4⟩ := down_int Tryz.underlying3 h4
  obtain ⟨f, e5, g5⟩ := down_int Tryz.underlying3 h5
  obtain ⟨ta, tl, tc, ts, e6, g6⟩ := down_row (T := tTier) Tryz.underlying55 (by kernel_rfl) (by decide) (fun _ _ _ h => down_tier h) h6
  obtain ⟨i, e7, g7⟩ := down_int Tryz.underlying3 h7
  obtain ⟨aa, al, ac, as', e8, g8⟩ := down_row (T := tAdj) Tryz.underlying56 (by kernel_rfl) (by decide) (fun _ _ _ h => down_adj h) h8
  rw [show Tryz.prog.cellsOf 58 = 9 by kernel_rfl] at hl
  obtain rfl := g6.hlen
  obtain rfl := g8.hlen
  exact ⟨⟨a, b, c, d, e, f, ts, i, as'⟩, ta, tc, aa, ac, piece_all (piece (k := 1) e0 (piece (k := 1) e1 (piece (k := 1) e2 (piece (k := 1) e3 (piece (k := 1) e4 (piece (k := 1) e5 (piece (k := 1) e6 (piece (k := 1) e7 (piece (k := 1) e8 (piece_end hl)))))))))),
    g6, g8, g0, g1, g2, g3, g4, g5, g7⟩
theorem down_cor {fuel : Nat} {cs : List Value} {x : DataW H × List MemPlace} (h : DataW.trod enc Tryz.prog w base spare held fuel 26 cs = some x) : ∃ y, tCor.lies w cs y := by
  obtain ⟨hl, n, hf⟩ := down_struct Tryz.underlying26 h
  obtain ⟨_, h0⟩ := fld hf 0 _ rfl 1 (by kernel_rfl)
  obtain ⟨_, h1⟩ := fld hf 1 _ rfl 1 (by kernel_rfl)
  obtain ⟨_, h2⟩ := fld hf 2 _ rfl 1 (by kernel_rfl)
  obtain ⟨_, h3⟩ := fld hf 3 _ rfl 1 (by kernel_rfl)
  obtain ⟨_, h4⟩ := fld hf 4 _ rfl 1 (by kernel_rfl)
  obtain ⟨_, h5⟩ := fld hf 5 _ rfl 1 (by kernel_rfl)
  obtain ⟨a, e0, g0⟩ := down_str Tryz.underlying9 h0
  obtain ⟨b, e1, g1⟩ := down_int Tryz.underlying3 h1
  obtain ⟨c, e2, g2⟩ := down_int Tryz.underlying3 h2
  obtain ⟨ma, ml, mc, ms, e3, g3⟩ := down_row (T := tMeter) Tryz.underlying22 (by kernel_rfl) (by decide) (fun _ _ _ h => down_meter h) h3
  obtain ⟨fa, fl, fc, fs, e4, g4⟩ := down_row (T := tSm) Tryz.underlying23 (by kernel_rfl) (by decide) (fun _ _ _ h => down_sm h) h4
  obtain ⟨ca, cl, cc, cs', e5, g5⟩ := down_row (T := tPrt) Tryz.underlying24 (by kernel_rfl) (by decide) (fun _ _ _ h => down_prt h) h5
  rw [show Tryz.prog.cellsOf 26 = 6 by kernel_rfl] at hl
  obtain rfl := g3.hlen
  obtain rfl := g4.hlen
  obtain rfl := g5.hlen
  exact ⟨⟨a, b, c, ms, fs, cs'⟩, ma, mc, fa, fc, ca, cc, piece_all (piece (k := 1) e0 (piece (k := 1) e1 (piece (k := 1) e2 (piece (k := 1) e3 (piece (k := 1) e4 (piece (k := 1) e5 (piece_end hl))))))),
    g3, g4, g5, g0, g1, g2⟩
set_option maxRecDepth 100000 in
/-- A core that is an argument. -/
theorem open_cor {d : DataW H} {v : Value} {ps : List MemPlace} {r : Reach} {b0 : Nat} (hv : Value.okWide Tryz.prog w r b0 26 v) (h : DataW.Trod enc Tryz.prog w base spare held 26 v d ps) :
    ∃ p ma mc fa fc ca cc, v = .agg (corC p ma mc fa fc ca cc).toArray ∧ CorLies w (corC p ma mc fa fc ca cc) p ma mc fa fc ca cc := by
  obtain ⟨fuel, hf⟩ := h
  obtain ⟨p, ma, mc, fa, fc, ca, cc, hp⟩ := down_cor hf
  have hx := okWide_struct (P := Tryz.prog) (t := 26) Tryz.underlying26 hv
  obtain ⟨cs, hx, _⟩ := hx
  subst hx
  have e : cs.toList = corC p ma mc fa fc ca cc := hp.cells
  exact ⟨p, ma, mc, fa, fc, ca, cc, by rw [← e], rfl, hp.meters, hp.sums, hp.parts, hp.cur, hp.days⟩
end
end Go.Proofs.YtjgogpaedaffkaaGreat.Mm
/- A plan, made out (layer 10), as plain data: no program is named here. -/
namespace Go.Proofs.YtjgogpaedaffkaaGreat.P
open Go.RowKit Go.Sort Mm R6
/-- Whether a text is ahead of another one, byte by byte. -/
def klt (x y : ByteArray) : Bool := decide (x.data.toList < y.data.toList)
theorem klt_eq (x y : ByteArray) : Op.bytesLess x.toList y.toList = klt x y := by
  unfold klt
  rw [bytesLess_eq, ByteArray.toList_eq, ByteArray.toList_eq]
theorem klt_irr (x : ByteArray) : klt x x = false := by
  unfold klt
  exact decide_eq_false (List.lt_irrefl _)
theorem klt_tr {x y z : ByteArray} (h : klt x y = true) (k : klt y z = true) : klt x z = true := by
  unfold klt at *
  simp only [decide_eq_true_eq] at *
  exact List.lt_trans h k
theorem klt_as {x y : ByteArray} (h : klt x y = true) : klt y x = false := by
  rcases Bool.eq_false_or_eq_true (klt y x) with k | k
  · have := klt_tr h k
    rw [klt_irr] at this
    cases this
  · exact k
theorem ba_ext {x y : ByteArray} (h : x.data.toList = y.data.toList) : x = y := by
  rcases x with ⟨⟨x⟩⟩
  rcases y with ⟨⟨y⟩⟩
  simp only at h
  rw [h]
theorem klt_tot {x y : ByteArray} (h : klt x y = false) (n : x ≠ y) : klt y x = true := by
  unfold klt at *
  simp only [decide_eq_false_iff_not, decide_eq_true_eq] at *
  rcases List.le_total x.data.toList y.data.toList with k | k
  · exact absurd (ba_ext (List.le_antisymm k (List.not_lt.1 h))) n
  · rcases Decidable.em (y.data.toList < x.data.toList) with q | q
    · exact q
    · exact absurd (ba_ext (List.le_antisymm (List.not_lt.1 q) (List.not_lt.1 h))) n
/-- Whether a core can be. -/
def inB (n a b : Int) : Bool := decide (a ≤ n) && decide (n ≤ b)
def spanB (a b x y : Int) : Bool := decide (a ≤ x) && decide (x ≤ y) && decide (y ≤ b)
def tiersB : Int → List Tier → Bool
  | _, [] => true
  | _, [t] => inB t.rate 0 1000000000000 && decide (t.upto = 0)
  | u, t :: r => inB t.rate 0 1000000000000 && inB t.upto (u + 1) 1000000 && tiersB t.upto r
def adjB (a : Adj) : Bool := if a.kind = 1 then inB a.num 0 100000000 && inB a.mode 0 3 else if a.kind = 2 ∨ a.kind = 3 ∨ a.kind = 4 then inB a.num 0 1000000000000 && decide (a.mode = 0) else false
def sumB (c : Cor) (s : Mm.Sm) : Bool := inB s.amt 0 1000000000000 && spanB c.a c.b s.a s.b
def tierRow (ts : List Tier) : Bool := inB ts.length 1 8 && tiersB 0 ts
def partB (c : Cor) (x : Prt) : Bool :=
  spanB c.a c.b x.a x.b && (inB x.mt 0 ((c.meters.length : Int) - 1) && (inB x.allowance 0 1000000 && (inB x.block 1 1000000 && (inB x.kind 1 2 && (inB x.mode 0 3 && (tierRow x.tiers && (decide (x.adjusts.length ≤ 6) && x.adjusts.all adjB)))))))
def ordB : Option ByteArray → ByteArray → Bool
  | none, _ => true
  | some p, n => klt p n
def mtB (m : Meter) : Bool := inB m.max 0 2000 && (decide (m.line = 0) && decide (m.col = 0))
def metersF : Option ByteArray → List Meter → Bool
  | _, [] => true
  | q, m :: r => (ordB q m.name && mtB m) && metersF (some m.name) r
def metersB (ms : List Meter) : Bool := metersF none ms
def horB (c : Cor) : Bool := decide (0 ≤ c.b ∧ c.b < 3652059) && (inB c.a 0 c.b && decide (c.b - c.a < 4000))
def goodC (c : Cor) : Bool :=
  horB c && ((decide (c.meters.length ≤ 4) && metersB c.meters) && (decide (c.sums.length ≤ 8) && (c.sums.all (sumB c) && (decide (c.parts.length ≤ 8) && c.parts.all (partB c)))))
theorem metersF_step {ms : List Meter} {q : Option ByteArray} {i : Nat} {m : Meter} (h : ms[i]? = some m) : metersF q (ms.drop i) = ((ordB q m.name && mtB m) && metersF (some m.name) (ms.drop (i + 1))) := by
  rw [drop_at h]
  rfl
theorem leq_klt (a b : ByteArray) : (Op.bytesLess a.toList b.toList || a.toList == b.toList) = !klt b a := by
  rw [klt_eq]
  by_cases e : a = b
  · subst e
    rw [klt_irr]
    simp
  · have ne : (a.toList == b.toList) = false := by
      rw [beq_eq_false_iff_ne]
      intro h
      rw [ByteArray.toList_eq, ByteArray.toList_eq] at h
      exact e (ba_ext h)
    rw [ne, Bool.or_false]
    rcases Bool.eq_false_or_eq_true (klt a b) with g | g
    · rw [g, klt_as g]
      rfl
    · rw [g, klt_tot g e]
      rfl
/-- The tiers' ends and their rates, apart. -/
def upB : Int → List Tier → Bool
  | _, [] => true
  | _, [_] => true
  | u, t :: r => inB t.upto (u + 1) 1000000 && upB t.upto r
def rateB (t : Tier) : Bool := inB t.rate 0 1000000000000
theorem tiersB_split : ∀ (l : List Tier) (z : Tier) (u : Int), tiersB u (l ++ [z]) = (upB u (l ++ [z]) && (decide (z.upto = 0) && (l ++ [z]).all rateB))
  | [], z, u => by
    show (inB z.rate 0 1000000000000 && decide (z.upto = 0)) = (true && (decide (z.upto = 0) && (rateB z && true)))
    unfold rateB
    cases inB z.rate 0 1000000000000 <;> cases decide (z.upto = 0) <;> rfl
  | t :: l, z, u => by
    have ih := tiersB_split l z t.upto
    have e1 : tiersB u (t :: l ++ [z]) = (inB t.rate 0 1000000000000 && inB t.upto (u + 1) 1000000 && tiersB t.upto (l ++ [z])) := by cases l <;> rfl
    have e2 : upB u (t :: l ++ [z]) = (inB t.upto (u + 1) 1000000 && upB t.upto (l ++ [z])) := by cases l <;> rfl
    have e3 : (t :: l ++ [z]).all rateB = (rateB t && (l ++ [z]).all rateB) := rfl
    rw [e1, e2, e3, ih]
    unfold rateB
    cases inB t.rate 0 1000000000000 <;> cases inB t.upto (u + 1) 1000000 <;> cases upB t.upto (l ++ [z]) <;> cases decide (z.upto = 0) <;> rfl
theorem upB_step {l : List Tier} {i : Nat} {t : Tier} {u : Int} (h : l[i]? = some t) (hi : i + 1 < l.length) : upB u (l.drop i) = (inB t.upto (u + 1) 1000000 && upB t.upto (l.drop (i + 1))) := by
  obtain ⟨t', h'⟩ : ∃ t', l[i + 1]? = some t' := ⟨_, List.getElem?_eq_getElem hi⟩
  rw [drop_at h, drop_at h']
  rfl
theorem upB_end {l : List Tier} {i : Nat} {u : Int} (h : l.length ≤ i + 1) : upB u (l.drop i) = true := by
  have : (l.drop i).length ≤ 1 := by rw [List.length_drop]; omega
  cases hd : l.drop i with
  | nil => rfl
  | cons t r =>
    rw [hd] at this
    cases r with
    | nil => rfl
    | cons _ _ => simp at this
theorem tiersB_of {l : List Tier} {z : Tier} (h : l[l.length - 1]? = some z) (n : 1 ≤ l.length) : tiersB 0 l = (upB 0 l && (decide (z.upto = 0) && l.all rateB)) := by
  have e : l = l.take (l.length - 1) ++ [z] := by
    have := drop_at h
    rw [show l.length - 1 + 1 = l.length by omega, List.drop_length] at this
    rw [← this, List.take_append_drop]
  rw [e]
  exact tiersB_split _ z 0
end Go.Proofs.YtjgogpaedaffkaaGreat.P
/- What a quantity costs by a part's tiers (layer 11), as plain data. No program is named here. -/
namespace Go.Proofs.YtjgogpaedaffkaaGreat.P
open Go.RowKit Mm
/-- A step of a quantity: from, to, at which rate. -/
structure Stp where
  a : Int
  b : Int
  r : Int
deriving DecidableEq, Inhabited
/-- What is left of a quantity. -/
def lq (x : Prt) (q : Int) : Int := (max 0 (q - x.allowance) + x.block - 1) / x.block * x.block
def lqOk (x : Prt) (q : Int) : Bool := decide (0 ≤ q) && ok64 (lq x q)
def lqO (x : Prt) (q : Int) : Option Int := if lqOk x q = true then some (lq x q) else none
def gradS (q : Int) : Int → List Tier → List Stp
  | _, [] => []
  | u, [t] => if u < q then [⟨u, q, t.rate⟩] else []
  | u, t :: s :: ts => (if u < min q t.upto then [⟨u, min q t.upto, t.rate⟩] else []) ++ gradS q t.upto (s :: ts)
def volR (q : Int) : List Tier → Int
  | [] => 0
  | [t] => t.rate
  | t :: s :: ts => if q ≤ t.upto then t.rate else volR q (s :: ts)
def volS (q : Int) (ts : List Tier) : List Stp := if 0 < q then [⟨0, q, volR q ts⟩] else []
def stepsP (x : Prt) (q : Int) : List Stp := if x.kind = 2 then volS q x.tiers else gradS q 0 x.tiers
def stW (s : Stp) : Int := s.r * (s.b - s.a)
def costS : List Stp → Int
  | [] => 0
  | s :: l => stW s + costS l
/-- The sum, as long as it stays within 64 bits. -/
def sumS : Int → List Stp → Option Int
  | s, [] => some s
  | s, t :: ts => if (ok64 (stW t) && ok64 (s + stW t)) = true then sumS (s + stW t) ts else none
def microO (x : Prt) (q : Int) : Option Int := if lqOk x q = true then sumS 0 (stepsP x (lq x q)) else none
def chargeO (x : Prt) (q : Int) : Option Int := (microO x q).map fun m => rnd m 1000000 x.mode
/-- A part that can be, whatever its meter and its days are. -/
structure GoodT (x : Prt) : Prop where
  allow : 0 ≤ x.allowance ∧ x.allowance ≤ 1000000
  block : 1 ≤ x.block ∧ x.block ≤ 1000000
  kind : x.kind = 1 ∨ x.kind = 2
  mode : 0 ≤ x.mode ∧ x.mode ≤ 3
  len : 1 ≤ x.tiers.length ∧ x.tiers.length ≤ 8
  tiers : tiersB 0 x.tiers = true
  adjs : x.adjusts.length ≤ 6
theorem inB_iff {n a b : Int} : inB n a b = true ↔ a ≤ n ∧ n ≤ b := by unfold inB; rw [Bool.and_eq_true, decide_eq_true_eq, decide_eq_true_eq]
theorem tiersB_cons {u : Int} {t s : Tier} {ts : List Tier} (h : tiersB u (t :: s :: ts) = true) : 0 ≤ t.rate ∧ t.rate ≤ 1000000000000 ∧ u < t.upto ∧ t.upto ≤ 1000000 ∧ tiersB t.upto (s :: ts) = true := by
  have h' : (inB t.rate 0 1000000000000 && inB t.upto (u + 1) 1000000 && tiersB t.upto (s :: ts)) = true := h
  rw [Bool.and_eq_true, Bool.and_eq_true, inB_iff, inB_iff] at h'
  exact ⟨h'.1.1.1, h'.1.1.2, by omega, h'.1.2.2, h'.2⟩
theorem tiersB_one {u : Int} {t : Tier} (h : tiersB u [t] = true) : 0 ≤ t.rate ∧ t.rate ≤ 1000000000000 ∧ t.upto = 0 := by
  have h' : (inB t.rate 0 1000000000000 && decide (t.upto = 0)) = true := h
  rw [Bool.and_eq_true, inB_iff, decide_eq_true_eq] at h'
  exact ⟨h'.1.1, h'.1.2, h'.2⟩
theorem gradS_none : ∀ (ts : List Tier) (u q : Int), tiersB u ts = true → q ≤ u → gradS q u ts = []
  | [], _, _, _, _ => rfl
  | [t], u, q, _, h => by unfold gradS; rw [if_neg (by omega)]
  | t :: s :: ts, u, q, hB, h => by
    obtain ⟨_, _, h1, _, h2⟩ := tiersB_cons hB
    unfold gradS
    rw [if_neg (by omega), gradS_none (s :: ts) t.upto q h2 (by omega)]
    rfl
theorem gradS_len : ∀ (ts : List Tier) (u q : Int), (gradS q u ts).length ≤ ts.length
  | [], _, _ => Nat.le_refl _
  | [t], u, q => by unfold gradS; split <;> simp
  | t :: s :: ts, u, q => by
    have := gradS_len (s :: ts) t.upto q
    unfold gradS
    rw [List.length_append, List.length_cons]
    split <;> simp at this ⊢ <;> omega
theorem volR_in : ∀ (ts : List Tier) (u q : Int), tiersB u ts = true → 0 ≤ volR q ts ∧ volR q ts ≤ 1000000000000
  | [], _, _, _ => by unfold volR; omega
  | [t], _, _, h => by have := tiersB_one h; unfold volR; omega
  | t :: s :: ts, u, q, h => by
    obtain ⟨h0, h1, _, _, h2⟩ := tiersB_cons h
    unfold volR
    split
    · omega
    · exact volR_in (s :: ts) t.upto q h2
theorem gradS_pos : ∀ (ts : List Tier) (u q : Int), tiersB u ts = true → ∀ s ∈ gradS q u ts, u ≤ s.a ∧ s.a < s.b ∧ s.b ≤ q ∧ 0 ≤ s.r ∧ s.r ≤ 1000000000000
  | [], _, _, _, s, hs => by cases hs
  | [t], u, q, hB, s, hs => by
    obtain ⟨h0, h1, _⟩ := tiersB_one hB
    unfold gradS at hs
    split at hs
    · rw [List.mem_singleton] at hs; subst hs; exact ⟨Int.le_refl _, by assumption, Int.le_refl _, h0, h1⟩
    · cases hs
  | t :: y :: ts, u, q, hB, s, hs => by
    obtain ⟨h0, h1, h2, _, h3⟩ := tiersB_cons hB
    unfold gradS at hs
    rcases List.mem_append.1 hs with k | k
    · split at k
      · rw [List.mem_singleton] at k; subst k
        exact ⟨Int.le_refl _, by assumption, by show min q t.upto ≤ q; omega, h0, h1⟩
      · cases k
    · have := gradS_pos (y :: ts) t.upto q h3 s k
      omega
theorem stepsP_pos {x : Prt} (g : GoodT x) (q : Int) : ∀ s ∈ stepsP x q, 0 ≤ s.a ∧ s.a < s.b ∧ s.b ≤ q ∧ 0 ≤ s.r ∧ s.r ≤ 1000000000000 := by
  unfold stepsP
  split
  · unfold volS
    split
    · intro s hs
      rw [List.mem_singleton] at hs
      subst hs
      have := volR_in x.tiers 0 q g.tiers
      exact ⟨Int.le_refl _, by assumption, Int.le_refl _, this.1, this.2⟩
    · intro s hs; cases hs
  · exact gradS_pos x.tiers 0 q g.tiers
theorem stepsP_len {x : Prt} (g : GoodT x) (q : Int) : (stepsP x q).length ≤ 8 := by
  unfold stepsP
  split
  · unfold volS; split <;> simp
  · have := gradS_len x.tiers 0 q; have := g.len; omega
theorem costS_pos : ∀ (l : List Stp), (∀ s ∈ l, 0 ≤ stW s) → 0 ≤ costS l
  | [], _ => Int.le_refl _
  | s :: l, h => by
    have h1 := h s (List.mem_cons_self ..)
    have h2 := costS_pos l fun z hz => h z (List.mem_cons_of_mem _ hz)
    show 0 ≤ stW s + costS l
    omega
theorem stW_pos {s : Stp} (h : s.a < s.b) (hr : 0 ≤ s.r) : 0 ≤ stW s := Int.mul_nonneg hr (by omega)
theorem sumS_eq : ∀ (l : List Stp) (s : Int), 0 ≤ s → I64 s → (∀ t ∈ l, 0 ≤ stW t) → sumS s l = if ok64 (s + costS l) = true then some (s + costS l) else none
  | [], s, _, hi, _ => by
    show some s = _
    rw [show s + costS [] = s by show s + 0 = s; omega, if_pos (ok64_t hi)]
  | t :: l, s, h0, hi, hp => by
    have h1 := hp t (List.mem_cons_self ..)
    have h2 := costS_pos l fun z hz => hp z (List.mem_cons_of_mem _ hz)
    have e : s + costS (t :: l) = s + stW t + costS l := by show s + (stW t + costS l) = _; omega
    unfold sumS
    rw [e]
    by_cases k : I64 (s + stW t)
    · have k2 : I64 (stW t) := by unfold I64 at *; omega
      rw [ok64_t k, ok64_t k2, if_pos (show (true && true) = true from rfl)]
      exact sumS_eq l (s + stW t) (by omega) k fun z hz => hp z (List.mem_cons_of_mem _ hz)
    · rw [ok64_f k, Bool.and_false, if_neg (by simp), ok64_f (by unfold I64 at *; omega), if_neg (by simp)]
/-- What a quantity costs, without end. -/
def costP (x : Prt) (q : Int) : Int := costS (stepsP x (lq x q))
theorem stepsP_w {x : Prt} (g : GoodT x) (q : Int) : ∀ s ∈ stepsP x q, 0 ≤ stW s := fun s hs => by
  have := stepsP_pos g q s hs
  exact stW_pos this.2.1 this.2.2.2.1
theorem microO_eq {x : Prt} (g : GoodT x) (q : Int) : microO x q = if (lqOk x q && ok64 (costP x q)) = true then some (costP x q) else none := by
  unfold microO
  rcases Bool.eq_false_or_eq_true (lqOk x q) with k | k
  · rw [k, if_pos rfl, Bool.true_and, sumS_eq _ 0 (Int.le_refl _) (by unfold I64; omega) (stepsP_w g _), Int.zero_add]
    rfl
  · rw [k, if_neg (by simp), Bool.false_and, if_neg (by simp)]
theorem gt_mode {x : Prt} (g : GoodT x) : goodm x.mode = true := (goodm_iff _).2 g.mode
end Go.Proofs.YtjgogpaedaffkaaGreat.P
/- What becomes of an amount by its adjustments (layer 12), as plain data. No program is named here. -/
namespace Go.Proofs.YtjgogpaedaffkaaGreat.P
open Go.RowKit Mm
/-- What an amount becomes by one adjustment. -/
def adjO (a : Adj) (n : Int) : Option Int :=
  if a.kind = 1 then (if mdb (n * a.num) 100000 a.mode = true then some (mdn (n * a.num) 100000 a.mode) else none)
  else if a.kind = 2 then some (min n a.num)
  else if a.kind = 3 then some (max n a.num)
  else if a.kind = 4 then (if ok64 (n + a.num) = true then some (n + a.num) else none)
  else none
/-- By all, the first one first. -/
def adjsO : Int → List Adj → Option Int
  | n, [] => some n
  | n, a :: l => match adjO a n with
    | some m => adjsO m l
    | none => none
theorem adjsO_step {n : Int} {l : List Adj} {i : Nat} {a : Adj} (h : l[i]? = some a) : adjsO n (l.drop i) = match adjO a n with
    | some m => adjsO m (l.drop (i + 1))
    | none => none := by
  rw [drop_at h]
  rfl
theorem i64_min {a b : Int} (h : I64 a) (k : I64 b) : I64 (min a b) := by unfold I64 at *; omega
theorem i64_max {a b : Int} (h : I64 a) (k : I64 b) : I64 (max a b) := by unfold I64 at *; omega
theorem ok64_i {n : Int} (h : ok64 n = true) : I64 n := by
  by_cases k : I64 n
  · exact k
  · rw [ok64_f k] at h; cases h
theorem adjO_i64 {a : Adj} {n m : Int} (hn : I64 n) (ha : I64 a.num) (h : adjO a n = some m) : I64 m := by
  unfold adjO at h
  split at h
  · split at h
    · obtain rfl := Option.some.inj h
      unfold mdn
      split
      · exact i64_cut _
      · unfold I64; omega
    · cases h
  · split at h
    · obtain rfl := Option.some.inj h; exact i64_min hn ha
    · split at h
      · obtain rfl := Option.some.inj h; exact i64_max hn ha
      · split at h
        · split at h
          · obtain rfl := Option.some.inj h; exact ok64_i (by assumption)
          · cases h
        · cases h
end Go.Proofs.YtjgogpaedaffkaaGreat.P
