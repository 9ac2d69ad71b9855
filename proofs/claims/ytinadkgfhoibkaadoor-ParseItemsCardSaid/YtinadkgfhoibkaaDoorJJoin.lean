/- A plan's text and items behind it, as plans: the items are put behind the plan's. Pure: no program is named here. -/
import Derived.Test.YtinadkgfhoibkaaDoorJParS
import Derived.Test.YtinadkgfhoibkaaDoorJL07a
import Derived.Test.YtinadkgfhoibkaaDoorJParI
import Derived.Deep.AppendLies
namespace Go.Proofs.YtinadkgfhoibkaaDoor.P
open Go.RowKit Mm R6

theorem Sm.goes {n d : Nat} {ts ts' : List Tok} {s s' : St} (A : Al n d ts ts') (h : Sm d s s') (hi : s.i < n) : goesOn ts s = goesOn ts' s' := by
  unfold goesOn
  rw [(Sm.tok A h hi).1, h.err]
/-- The rest of the items, in two rows that read alike to the end of the first. -/
theorem Rl.rest {d : Nat} {ts ts' : List Tok} (A : Al ts.length d ts ts') : ∀ (k : Nat) (s s' : St) (p0 p q : Plan), Ok ts s → Ok ts' s' → Sm d s s' → Rl p0 p q → ts.length ≤ k + s.i →
    Rl p0 (itemsS ts ts.length s p).1 (itemsS ts' ts'.length s' q).1 ∧ Sm d (itemsS ts ts.length s p).2 (itemsS ts' ts'.length s' q).2
  | 0, s, _, _, _, _, ok, _, _, _, hk => by have := ok.lt; omega
  | k + 1, s, s', p0, p, q, ok, ok', h, g, hk => by
    have e := Sm.goes A h ok.lt
    cases hg : goesOn ts s
    · rw [items_stop ts _ s p hg, items_stop ts' _ s' q (by rw [← e, hg])]
      exact ⟨g, h⟩
    · have i1 := Rl.item A ok ok' h g ok.lt (.inl (ok.itemS p).lt)
      rw [items_step ok hg, items_step ok' (by rw [← e, hg])]
      rcases item_next ts s p hg with n1 | ⟨n1, n2⟩
      · exact Rl.rest A k _ _ p0 _ _ (ok.itemS p) (ok'.itemS q) i1.2 i1.1 (by omega)
      · have n3 : goesOn ts (itemS ts s p).2 = false := by rw [n1]; exact n2
        have e2 := Sm.goes A i1.2 (ok.itemS p).lt
        rw [items_stop ts _ _ _ n3, items_stop ts' _ _ _ (by rw [← e2, n3])]
        exact i1
theorem items_err {ts : List Tok} {n : Nat} {s : St} {p : Plan} (h : (itemsS ts n s p).2.err = 0) : s.err = 0 := by
  by_cases k : s.err = 0
  · exact k
  · have : goesOn ts s = false := by unfold goesOn; rw [decide_eq_false k]; rfl
    rw [items_stop ts n s p this] at h
    exact h
/-- The items of a text that goes on: up to where the first one ends. -/
theorem Rl.first {n : Nat} {ts ts' : List Tok} (A : Al n 0 ts ts') (hn : n + 1 = ts.length) (nz : ∀ j, j < n → (ts.getD j nil0).k ≠ 0) : ∀ (k : Nat) (s s' : St) (p0 p q : Plan), Ok ts s → Ok ts' s' → Sm 0 s s' → Rl p0 p q → ts.length ≤ k + s.i →
    (itemsS ts ts.length s p).2.err = 0 → ∃ s2 q2, itemsS ts' ts'.length s' q = itemsS ts' ts'.length s2 q2 ∧ Rl p0 (itemsS ts ts.length s p).1 q2 ∧ s2.err = 0 ∧ s2.i = n ∧ Ok ts' s2
  | 0, s, _, _, _, _, ok, _, _, _, hk, _ => by have := ok.lt; omega
  | k + 1, s, s', p0, p, q, ok, ok', h, g, hk, he => by
    have hlt := ok.lt
    cases hg : goesOn ts s
    · rw [items_stop ts _ s p hg] at he ⊢
      have he : s.err = 0 := he
      have hk0 : (tk ts s).k = 0 := by
        unfold goesOn at hg
        rw [decide_eq_true he] at hg
        simpa using hg
      have hi : s.i = n := by
        rcases Nat.lt_or_ge s.i n with c | c
        · exact absurd hk0 (nz s.i c)
        · omega
      exact ⟨s', q, rfl, g, by rw [← h.err]; exact he, by rw [h.ix, hi]; rfl, ok'⟩
    · have hi : s.i < n := by
        rcases Nat.lt_or_ge s.i n with c | c
        · exact c
        · have hk0 := ok.toks.last s.i _ ok.at (by omega)
          unfold goesOn at hg
          rw [hk0] at hg
          simp at hg
      have e := Sm.goes A h hi
      rw [items_step ok hg] at he ⊢
      rw [items_step ok' (by rw [← e, hg])]
      have er := items_err he
      have l1 := (ok.itemS p).lt
      have i1 := Rl.item A ok ok' h g hi (.inr ⟨er, by omega⟩)
      rcases item_next ts s p hg with n1 | ⟨n1, n2⟩
      · exact Rl.first A hn nz k _ _ p0 _ _ (ok.itemS p) (ok'.itemS q) i1.2 i1.1 (by omega) he
      · rw [n1] at er
        have s0 : s.err = 0 := by
          unfold goesOn at hg
          simp only [Bool.and_eq_true, decide_eq_true_eq] at hg
          exact hg.1
        rw [wrgErr, if_pos s0] at er
        cases er
theorem head_eq {n : Nat} {ts ts' : List Tok} (A : Al n 0 ts ts') (hi : (headS ts st0).2.i < n ∨ ((headS ts st0).2.err = 0 ∧ (headS ts st0).2.i ≤ n)) :
    (headS ts st0).1.name = (headS ts' st0).1.name ∧ (headS ts st0).1.cur = (headS ts' st0).1.cur ∧ (headS ts st0).1.a = (headS ts' st0).1.a ∧ (headS ts st0).1.b = (headS ts' st0).1.b ∧ Sm 0 (headS ts st0).2 (headS ts' st0).2 := by
  have b8 := wnt_start hi
  have h0 : Sm 0 st0 st0 := ⟨rfl, rfl⟩
  have l1 := wnt_le ts st0 wPlan
  have l2 := tkn_le ts (wnt ts st0 wPlan) 1
  have l3 := wnt_le ts (tkn ts (wnt ts st0 wPlan) 1).2 wCurrency
  have l4 := tkn_le ts (wnt ts (tkn ts (wnt ts st0 wPlan) 1).2 wCurrency) 1
  have l5 := wnt_le ts (tkn ts (wnt ts (tkn ts (wnt ts st0 wPlan) 1).2 wCurrency) 1).2 sSemi
  have l6 := wnt_le ts (wnt ts (tkn ts (wnt ts (tkn ts (wnt ts st0 wPlan) 1).2 wCurrency) 1).2 sSemi) wHorizon
  have l7 : (wnt ts (wnt ts (tkn ts (wnt ts (tkn ts (wnt ts st0 wPlan) 1).2 wCurrency) 1).2 sSemi) wHorizon).i ≤ (dayS ts (wnt ts (wnt ts (tkn ts (wnt ts (tkn ts (wnt ts st0 wPlan) 1).2 wCurrency) 1).2 sSemi) wHorizon)).2.i := tkn_le ts _ 4
  have l8 : (dayS ts (wnt ts (wnt ts (tkn ts (wnt ts (tkn ts (wnt ts st0 wPlan) 1).2 wCurrency) 1).2 sSemi) wHorizon)).2.i ≤ (dayS ts (dayS ts (wnt ts (wnt ts (tkn ts (wnt ts (tkn ts (wnt ts st0 wPlan) 1).2 wCurrency) 1).2 sSemi) wHorizon)).2).2.i := tkn_le ts _ 4
  have a1 := Sm.wnt A h0 (by omega) wPlan
  have a2 := Sm.tkn A a1 (by omega) 1
  have a3 := Sm.wnt A a2.2 (by omega) wCurrency
  have a4 := Sm.tkn A a3 (by omega) 1
  have a5 := Sm.wnt A a4.2 (by omega) sSemi
  have a6 := Sm.wnt A a5 (by omega) wHorizon
  have a7 := Sm.dayS A a6 (by omega)
  have a8 := Sm.dayS A a7.2 (by omega)
  exact ⟨congrArg (fun l => (⟨l.toArray⟩ : ByteArray)) a2.1, congrArg (fun l => (⟨l.toArray⟩ : ByteArray)) a4.1, a7.1, a8.1, Sm.wnt A a8.2 b8 sSemi⟩
theorem items_hd (ts : List Tok) : ∀ (n : Nat) (s : St) (p : Plan), (itemsS ts n s p).1.name = p.name ∧ (itemsS ts n s p).1.cur = p.cur ∧ (itemsS ts n s p).1.a = p.a ∧ (itemsS ts n s p).1.b = p.b
  | 0, _, _ => ⟨rfl, rfl, rfl, rfl⟩
  | n + 1, s, p => by
    unfold itemsS
    split
    · have e := items_hd ts n (itemS ts s p).2 (itemS ts s p).1
      have f : (itemS ts s p).1.name = p.name ∧ (itemS ts s p).1.cur = p.cur ∧ (itemS ts s p).1.a = p.a ∧ (itemS ts s p).1.b = p.b := by
        unfold itemS
        simp only
        repeat' split
        all_goals exact ⟨rfl, rfl, rfl, rfl⟩
      exact ⟨e.1.trans f.1, e.2.1.trans f.2.1, e.2.2.1.trans f.2.2.1, e.2.2.2.trans f.2.2.2⟩
    · exact ⟨rfl, rfl, rfl, rfl⟩
/-- What a plan's tokens, and behind them the tokens of a text of items, come to. -/
theorem join_plan {xs ys zs : List Tok} {u v : Nat} (tA : Toks (xs ++ [⟨0, [], u, v⟩])) (tR : Toks (xs ++ zs)) (tM : Toks ys) (nz : ∀ t ∈ xs, t.k ≠ 0)
    (hz : ∀ j, (ys.getD j nil0).k = (zs.getD j nil0).k ∧ (ys.getD j nil0).t = (zs.getD j nil0).t) (hp : (planS (xs ++ [⟨0, [], u, v⟩])).2.1 = 0) :
    (planS (xs ++ zs)).2.1 = (itemsS ys ys.length st0 planZ).2.err ∧
    ((itemsS ys ys.length st0 planZ).2.err = 0 → Rl (planS (xs ++ [⟨0, [], u, v⟩])).1 (itemsS ys ys.length st0 planZ).1 (planS (xs ++ zs)).1) := by
  obtain ⟨A, hA⟩ : ∃ A, A = xs ++ [⟨0, [], u, v⟩] := ⟨_, rfl⟩
  obtain ⟨R, hR⟩ : ∃ R, R = xs ++ zs := ⟨_, rfl⟩
  have lA : xs.length + 1 = A.length := by rw [hA]; simp
  have al : Al xs.length 0 A R := fun j hj => by
    rw [hA, hR, Nat.add_zero, List.getD_eq_getElem?_getD, List.getD_eq_getElem?_getD, List.getElem?_append_left hj, List.getElem?_append_left hj]
    exact ⟨rfl, rfl⟩
  have nzA : ∀ j, j < xs.length → (A.getD j nil0).k ≠ 0 := fun j hj => by
    rw [hA, List.getD_eq_getElem?_getD, List.getElem?_append_left hj, List.getElem?_eq_getElem hj]
    exact nz _ (List.getElem_mem hj)
  have al2 : Al ys.length xs.length ys R := fun j _ => by
    have : R.getD (j + xs.length) nil0 = zs.getD j nil0 := by
      rw [hR, List.getD_eq_getElem?_getD, List.getD_eq_getElem?_getD, List.getElem?_append_right (by omega), Nat.add_sub_cancel]
    rw [this]
    exact hz j
  rw [← hA] at tA hp ⊢
  rw [← hR] at tR ⊢
  clear hA hR hz nz
  have okA : Ok A st0 := ⟨tA, tA.pos⟩
  have okR : Ok R st0 := ⟨tR, tR.pos⟩
  have okM : Ok ys st0 := ⟨tM, tM.pos⟩
  have oh := okA.headS
  have oh' := okR.headS
  -- the first text is a plan
  have he : (itemsS A A.length (headS A st0).2 (headS A st0).1).2.err = 0 := by
    unfold planS at hp
    simp only at hp
    split at hp
    · rename_i k; exact k
    · rename_i k; exact absurd hp k
  have pA : (planS A).1 = (itemsS A A.length (headS A st0).2 (headS A st0).1).1 := by
    unfold planS
    simp only
    rw [if_pos he]
  have h1 := oh.lt
  obtain ⟨e1, e2, e3, e4, m0⟩ := head_eq al (.inr ⟨items_err he, by omega⟩)
  have g0 : Rl (headS A st0).1 (headS A st0).1 (headS R st0).1 := ⟨⟨e1.symm, e2.symm, e3.symm, e4.symm⟩, rfl, rfl, rfl⟩
  obtain ⟨s2, q2, r1, r2, r3, r4, r5⟩ := Rl.first al lA nzA A.length _ _ _ _ _ oh oh' m0 g0 (by omega) he
  have hd := items_hd A A.length (headS A st0).2 (headS A st0).1
  have g2 : Rl (planS A).1 planZ q2 := by
    rw [pA]
    refine ⟨⟨r2.hd.1.trans hd.1.symm, r2.hd.2.1.trans hd.2.1.symm, r2.hd.2.2.1.trans hd.2.2.1.symm, r2.hd.2.2.2.trans hd.2.2.2.symm⟩, ?_, ?_, ?_⟩
    · rw [r2.meters]; exact (List.append_nil _).symm
    · rw [r2.fees]; exact (List.append_nil _).symm
    · rw [r2.charges]; exact (List.append_nil _).symm
  have m2 : Sm xs.length st0 s2 := ⟨r3.symm, by rw [r4]; exact (Nat.zero_add _).symm⟩
  obtain ⟨f1, f2⟩ := Rl.rest al2 ys.length st0 s2 _ planZ q2 okM r5 m2 g2 (by omega)
  have f3 := f2.err
  refine ⟨?_, fun h => ?_⟩
  · unfold planS
    simp only
    rw [r1]
    split
    · rename_i k; rw [f3, k]
    · exact f3.symm
  · have : (planS R).1 = (itemsS R R.length s2 q2).1 := by
      unfold planS
      simp only
      rw [r1, if_pos (by rw [← f3]; exact h)]
    rw [this]
    exact f1
theorem lx_kinds (n : Nat) (l : List UInt8) (ln cl : Nat) : ∀ i t, (lx n l ln cl).1[i]? = some t → i + 1 < (lx n l ln cl).1.length → t.k ≠ 0 := by
  induction n generalizing l ln cl with
  | zero =>
    intro i t _ h
    have : (lx 0 l ln cl).1.length = 1 := rfl
    omega
  | succ n ih =>
    cases l with
    | nil =>
      intro i t _ h
      have : (lx (n + 1) [] ln cl).1.length = 1 := rfl
      omega
    | cons c r =>
      unfold lx
      split
      · exact ih _ _ _
      · split
        · intro i t h _; simp at h
        · rename_i hk
          intro i t h hl
          cases i with
          | zero =>
            simp only [List.getElem?_cons_zero, Option.some.injEq] at h
            subst h
            exact hk
          | succ i => exact ih _ _ _ i t (by simpa using h) (by simpa using hl)
theorem lexed_kinds (l : List UInt8) : ∀ i t, (lexed l).1[i]? = some t → i + 1 < (lexed l).1.length → t.k ≠ 0 := by
  unfold lexed
  split
  · intro i t h _; simp at h
  · cases h2 : (lex l 1 1).2 with
    | none => exact lx_kinds _ _ _ _
    | some p => intro i t h _; simp at h
/-- What a text of items comes to behind a plan. -/
def itemsOf (l : List UInt8) : Int × Plan :=
  if (lexed l).2.1 = 0 then ((itemsS (lexed l).1 (lexed l).1.length st0 planZ).2.err, (itemsS (lexed l).1 (lexed l).1.length st0 planZ).1) else (((lexed l).2.1 : Int), planZ)
theorem join_text (a b : List UInt8) (ha : a.length ≤ 4096) (hb : b.length < 4096) (e0 : (parsed a).2.1 = 0) :
    (parsed (a ++ 10 :: b)).2.1 = (itemsOf b).1 ∧ ((itemsOf b).1 = 0 → Rl (parsed a).1 (itemsOf b).2 (parsed (a ++ 10 :: b)).1) := by
  rcases lexed_joins a b ha hb with ⟨p, q, h1, _⟩ | ⟨init, u, v, h1, _, ⟨p, q, h2, h3, _⟩ | ⟨ys, h2, h3, _⟩⟩
  · unfold parsed at e0
    simp only [h1] at e0
    rw [if_neg (by decide)] at e0
    have e0 : (3 : Int) = 0 := e0
    omega
  · unfold parsed itemsOf
    simp only [h2, h3]
    rw [if_neg (by decide), if_neg (by decide)]
    exact ⟨rfl, fun h => by have h : (3 : Int) = 0 := h; omega⟩
  · have kA := lexed_kinds a
    have tA := (lexed_fine (l := a) (by rw [h1])).toks
    have tR := (lexed_fine (l := a ++ 10 :: b) (by rw [h3])).toks
    have tM := (lexed_fine (l := b) (by rw [h2])).toks
    rw [h1] at tA kA
    rw [h3] at tR
    rw [h2] at tM
    unfold parsed at e0 ⊢
    unfold itemsOf
    simp only [h1, if_true] at e0
    simp only [h1, h2, h3, if_true]
    refine join_plan tA tR tM (fun t ht => ?_) (fun j => ?_) e0
    · obtain ⟨i, hi, e⟩ := List.getElem_of_mem ht
      refine kA i t ?_ (by simp only [List.length_append, List.length_singleton]; omega)
      show (init ++ [_])[i]? = _
      rw [List.getElem?_append_left hi, List.getElem?_eq_getElem hi, e]
    · rw [List.getD_eq_getElem?_getD, List.getD_eq_getElem?_getD, List.getElem?_map]
      cases ys[j]? with
      | none => exact ⟨rfl, rfl⟩
      | some t => exact ⟨rfl, rfl⟩
set_option maxRecDepth 100000 in
theorem head_plan : (parsed headT).2.1 = 0 ∧ (parsed headT).1.meters.length = 0 ∧ (parsed headT).1.fees.length = 0 ∧ (parsed headT).1.charges.length = 0 := by decide +kernel
/-- One plan with another's items behind its own. -/
def withOf (p q : Plan) : Plan := { p with meters := p.meters ++ q.meters, fees := p.fees ++ q.fees, charges := p.charges ++ q.charges }
theorem small_noPl {p q : Plan} (h : Small p) (e : noPl p = noPl q) : Small q := by
  have em : p.meters.map nM = q.meters.map nM := congrArg Plan.meters e
  have ef : p.fees.map nF = q.fees.map nF := congrArg Plan.fees e
  have ec : p.charges.map nC = q.charges.map nC := congrArg Plan.charges e
  refine ⟨?_, ?_, ?_, fun c hc => ?_⟩
  · have := congrArg List.length em; rw [List.length_map, List.length_map] at this; rw [← this]; exact h.meters
  · have := congrArg List.length ef; rw [List.length_map, List.length_map] at this; rw [← this]; exact h.fees
  · have := congrArg List.length ec; rw [List.length_map, List.length_map] at this; rw [← this]; exact h.charges
  · have hm : nC c ∈ p.charges.map nC := by rw [ec]; exact List.mem_map_of_mem hc
    obtain ⟨c', hc', e'⟩ := List.mem_map.1 hm
    have k := h.parts c' hc'
    have t1 : (nC c').tiers = (nC c).tiers := congrArg Charge.tiers e'
    have t2 : (nC c').adjusts = (nC c).adjusts := congrArg Charge.adjusts e'
    exact ⟨by rw [← show c'.tiers = c.tiers from t1]; exact k.1, by rw [← show c'.adjusts = c.adjusts from t2]; exact k.2⟩
theorem parsed_zero {l : List UInt8} (h : (parsed l).2.1 = 0) : (parsed l).2.2.1 = 0 ∧ (parsed l).2.2.2 = 0 := by
  unfold parsed at h ⊢
  simp only at h ⊢
  split
  · rename_i k
    rw [if_pos k] at h
    unfold planS at h ⊢
    simp only at h ⊢
    split
    · exact ⟨rfl, rfl⟩
    · rename_i k2; rw [if_neg k2] at h; exact absurd h k2
  · rename_i k
    rw [if_neg k] at h
    have h : ((lexed l).2.1 : Int) = 0 := h
    omega
/-- What ParseItems compares. -/
theorem items_pure (a b : List UInt8) (ha : a.length ≤ 4096) (hb : b.length < 4096) (e0 : (parsed a).2.1 = 0) :
    (parsed (a ++ 10 :: b)).2.1 = (parsed (headT ++ 10 :: b)).2.1 ∧
    ((parsed (headT ++ 10 :: b)).2.1 = 0 → row (parsed (a ++ 10 :: b)).1 = row (withOf (parsed a).1 (parsed (headT ++ 10 :: b)).1) ∧ Small (withOf (parsed a).1 (parsed (headT ++ 10 :: b)).1)) := by
  have h1 := join_text a b ha hb e0
  have h2 := join_text headT b (by decide) hb head_plan.1
  refine ⟨h1.1.trans h2.1.symm, fun h => ?_⟩
  rw [h2.1] at h
  have g1 := h1.2 h
  have g2 := h2.2 h
  have n1 := List.eq_nil_of_length_eq_zero head_plan.2.1
  have n2 := List.eq_nil_of_length_eq_zero head_plan.2.2.1
  have n3 := List.eq_nil_of_length_eq_zero head_plan.2.2.2
  have q1 := g2.meters
  have q2 := g2.fees
  have q3 := g2.charges
  rw [n1] at q1
  rw [n2] at q2
  rw [n3] at q3
  have e : noPl (parsed (a ++ 10 :: b)).1 = noPl (withOf (parsed a).1 (parsed (headT ++ 10 :: b)).1) := by
    unfold noPl withOf
    simp only [Plan.mk.injEq, List.map_append]
    rw [g1.meters, g1.fees, g1.charges, q1, q2, q3]
    exact ⟨g1.hd.1, g1.hd.2.1, g1.hd.2.2.1, g1.hd.2.2.2, rfl, rfl, rfl, trivial, trivial⟩
  refine ⟨?_, small_noPl (parsed_small _) e⟩
  rw [← row_noPl, e, row_noPl]
end Go.Proofs.YtinadkgfhoibkaaDoor.P
/- The laws of layer 7: ParseItems, where a text is too long, or is no plan. -/
namespace Go.Proofs.YtinadkgfhoibkaaDoor.L07
open Go.RowKit Go.Sort P Mm Md Pa L05

theorem head_text (b : ByteArray) : ((⟨#[112, 108, 97, 110, 32, 112, 32, 99, 117, 114, 114, 101, 110, 99, 121, 32, 99, 59, 32, 104, 111, 114, 105, 122, 111, 110, 32, 50, 48, 50, 52, 45, 48, 49, 45, 48, 49, 32, 50, 48, 50, 52, 45, 48, 49, 45, 48, 50, 59, 10]⟩ : ByteArray) ++ b).data.toList = headT ++ 10 :: b.data.toList := by simp [headT]
theorem both_text (a b : ByteArray) : (a ++ ⟨#[10]⟩ ++ b).data.toList = a.data.toList ++ 10 :: b.data.toList := by simp
set_option maxHeartbeats 16000000 in
set_option maxRecDepth 100000 in
theorem items_long (a b : ByteArray) (w : World) (k : Ky w) (hs : 4096 < a.size ∨ 2048 < b.size) : Calls Tryd.prog 3 #[.string a, .string b] w fun e w' => e = .returned (.bool true) ∧ Below w.heap.size w w' := by
  have cA := alive_any w k
  have hs2 : (4096 : Int) < (a.size : Int) ∨ (¬ (4096 : Int) < (a.size : Int) ∧ (2048 : Int) < (b.size : Int)) := by omega
  clear hs k
  go_enter Tryd.func3, Tryd.ntmps3
  rcases hs2 with h | ⟨h, h2⟩
  all_goals
    go_wp2_with (go_at_call 6; refine cA.mono ?_; rintro e w1 ⟨rfl, b1⟩)
    go_ret
    exact ⟨rfl, b1⟩
set_option maxHeartbeats 16000000 in
set_option maxRecDepth 100000 in
theorem items_bad (a b : ByteArray) (w : World) (k : Ky w) (ha : a.size ≤ 4096) (hb : b.size ≤ 2048) (hbad : ¬ ((parsed a.data.toList).2.1 = 0 ∧ (parsed (headT ++ 10 :: b.data.toList)).2.1 = 0)) : Calls Tryd.prog 3 #[.string a, .string b] w fun e w' => e = .returned (.bool true) ∧ Below w.heap.size w w' := by
  have cA := alive_any w k
  have K := hid k
  have g1 : ¬ (4096 : Int) < (a.size : Int) := by omega
  have g2 : ¬ (2048 : Int) < (b.size : Int) := by omega
  have cP := fun W k => parse_lies a W k
  have cQ := fun W k => parse_lies (⟨#[112, 108, 97, 110, 32, 112, 32, 99, 117, 114, 114, 101, 110, 99, 121, 32, 99, 59, 32, 104, 111, 114, 105, 122, 111, 110, 32, 50, 48, 50, 52, 45, 48, 49, 45, 48, 49, 32, 50, 48, 50, 52, 45, 48, 49, 45, 48, 50, 59, 10]⟩ ++ b) W k
  have cR := fun W k => parse_lies (a ++ ⟨#[10]⟩ ++ b) W k
  unfold fl3 at cP cQ cR
  rw [head_text] at cQ
  rw [both_text] at cR
  have hal : a.data.toList.length = a.size := by simp
  have hbl : b.data.toList.length = b.size := by simp
  have IP := fun h => (items_pure a.data.toList b.data.toList (by omega) (by omega) h).1
  obtain ⟨p, hp⟩ : ∃ p, p = (parsed a.data.toList).1 := ⟨_, rfl⟩
  obtain ⟨x, hx⟩ : ∃ x, x = (parsed a.data.toList).2.1 := ⟨_, rfl⟩
  obtain ⟨y, hy⟩ : ∃ y, y = (parsed a.data.toList).2.2.1 := ⟨_, rfl⟩
  obtain ⟨z, hz⟩ : ∃ z, z = (parsed a.data.toList).2.2.2 := ⟨_, rfl⟩
  obtain ⟨q, hq⟩ : ∃ p, p = (parsed (headT ++ 10 :: b.data.toList)).1 := ⟨_, rfl⟩
  obtain ⟨x', hx'⟩ : ∃ x, x = (parsed (headT ++ 10 :: b.data.toList)).2.1 := ⟨_, rfl⟩
  obtain ⟨y', hy'⟩ : ∃ y, y = (parsed (headT ++ 10 :: b.data.toList)).2.2.1 := ⟨_, rfl⟩
  obtain ⟨z', hz'⟩ : ∃ z, z = (parsed (headT ++ 10 :: b.data.toList)).2.2.2 := ⟨_, rfl⟩
  obtain ⟨r, hr⟩ : ∃ p, p = (parsed (a.data.toList ++ 10 :: b.data.toList)).1 := ⟨_, rfl⟩
  obtain ⟨x2, hx2⟩ : ∃ x, x = (parsed (a.data.toList ++ 10 :: b.data.toList)).2.1 := ⟨_, rfl⟩
  obtain ⟨y2, hy2⟩ : ∃ y, y = (parsed (a.data.toList ++ 10 :: b.data.toList)).2.2.1 := ⟨_, rfl⟩
  obtain ⟨z2', hz2⟩ : ∃ z, z = (parsed (a.data.toList ++ 10 :: b.data.toList)).2.2.2 := ⟨_, rfl⟩
  have XZ : Hid (x = 0 → y = 0 ∧ z = 0) := hid (by rw [hx, hy, hz]; exact parsed_zero)
  rw [← hp, ← hx, ← hy, ← hz] at cP
  rw [← hq, ← hx', ← hy', ← hz'] at cQ
  rw [← hr, ← hx2, ← hy2, ← hz2] at cR
  rw [← hx, ← hx', ← hx2] at IP
  rw [← hx, ← hx'] at hbad
  have CP := hid cP
  have CQ := hid cQ
  have CR := hid cR
  have HI := hid IP
  have HBAD := hid hbad
  have s1 : ¬ 9223372036854775807 < 50 + b.size := by omega
  have s2 : ¬ 9223372036854775807 < a.size + 1 := by omega
  have s3 : ¬ 9223372036854775807 < a.size + 1 + b.size := by omega
  clear cP cQ cR IP hbad hp hx hy hz hq hx' hy' hz' hr hx2 hy2 hz2 hal hbl k
  go_enter Tryd.func3, Tryd.ntmps3
  go_wp2_with fail
  refine cA.mono ?_
  rintro e w1 ⟨rfl, b1⟩
  have K1 := hid (K.out.later b1)
  clear cA
  go_wp2_with fail
  refine (CP.out w1 K1.out).mono ?_
  rintro e w2 ⟨ma, mc, fa, fc, ca, cc, rfl, lA, b2⟩
  have B2 := hid (bel_on b1 b2)
  clear b1 b2
  have T1 := hid (there_pf w2 29 32)
  have F1 := flt_pf w2 29 32 [.string p.name, .string p.cur, .int .i64 p.a.y, .int .i64 p.a.m, .int .i64 p.a.d, .int .i64 p.b.y, .int .i64 p.b.m, .int .i64 p.b.d, .slice ma p.meters.length mc, .slice fa p.fees.length fc, .slice ca p.charges.length cc, .int .i64 p.line, .int .i64 p.col]
  have z0 := F1.cell 0 _ rfl
  have z1 := F1.cell 1 _ rfl
  have z2 := F1.cell 2 _ rfl
  have f0 := F1.free 0
  have f1 := F1.free 1
  have f2 := F1.free 2
  have lz := F1.lt
  obtain ⟨PF, BF⟩ := pf_new (x := x) (y := y) (z := z) lA 29 32
  obtain ⟨wA, hwA⟩ : ∃ W, W = (((((w2.alloc (.cells #[.string ⟨#[]⟩, .string ⟨#[]⟩, .int .i64 0, .int .i64 0, .int .i64 0, .int .i64 0, .int .i64 0, .int .i64 0, .slice none 0 0, .slice none 0 0, .slice none 0 0, .int .i64 0, .int .i64 0] 29)).alloc (.cells #[.int .i64 0, .int .i64 0, .int .i64 0] 32)).setCells w2.heap.size 0 [.string p.name, .string p.cur, .int .i64 p.a.y, .int .i64 p.a.m, .int .i64 p.a.d, .int .i64 p.b.y, .int .i64 p.b.m, .int .i64 p.b.d, .slice ma p.meters.length mc, .slice fa p.fees.length fc, .slice ca p.charges.length cc, .int .i64 p.line, .int .i64 p.col]).setCell ⟨w2.heap.size + 1, 0, none⟩ (.int .i64 (x))).setCell ⟨w2.heap.size + 1, 1, none⟩ (.int .i64 (y))).setCell ⟨w2.heap.size + 1, 2, none⟩ (.int .i64 (z)) := ⟨_, rfl⟩
  obtain ⟨k1, hk1⟩ : ∃ k, k = w2.heap.size := ⟨_, rfl⟩
  have HP1 : Hid (Pf wA k1 p ma mc fa fc ca cc (x) (y) (z)) := hid (by rw [hwA, hk1]; exact PF)
  have HB1 : Hid (Below w2.heap.size w2 wA) := hid (by rw [hwA]; exact BF)
  have HW1 := hid hwA
  have HK1 := hid hk1
  clear F1 PF BF hwA hk1
  unfold planC
  go_upto_region 7 with (first
    | (with_reducible refine wpList_store_mid (op := Oper.mk none (Op.store 29 (Operand.tmp 6) (Operand.tmp 26)) _ _ _ _) ?_ 29 (.tmp 6) (.tmp 26) ?_ w2.heap.size 0 #[.string p.name, .string p.cur, .int .i64 p.a.y, .int .i64 p.a.m, .int .i64 p.a.d, .int .i64 p.b.y, .int .i64 p.b.m, .int .i64 p.b.d, .slice ma p.meters.length mc, .slice fa p.fees.length fc, .slice ca p.charges.length cc, .int .i64 p.line, .int .i64 p.col] ?_ ?_ ?_ ?_ ?_ ?_; rfl; rfl; go_simp; go_simp; (simpa using T1.out); kernel_rfl; (simp [Value.oneCell']))
    | (fail))
  rw [← HW1.out, ← HK1.out]
  clear z0 z1 z2 f0 f1 f2 lz T1
  have BA := hid (bel_on B2.out HB1.out)
  have KA := hid (K.out.later BA.out)
  clear B2 HB1 HW1 HK1 lA K1 CP
  go_wp2_with fail
  refine (CQ.out wA KA.out).mono ?_
  rintro e w3 ⟨maB, mcB, faB, fcB, caB, ccB, rfl, lB, b3⟩
  have P1 := hid (HP1.out.on b3)
  have B3 := hid (bel_on BA.out b3)
  clear b3 HP1 KA BA
  have T2 := hid (there_pf w3 29 32)
  have F2 := flt_pf w3 29 32 [.string q.name, .string q.cur, .int .i64 q.a.y, .int .i64 q.a.m, .int .i64 q.a.d, .int .i64 q.b.y, .int .i64 q.b.m, .int .i64 q.b.d, .slice maB q.meters.length mcB, .slice faB q.fees.length fcB, .slice caB q.charges.length ccB, .int .i64 q.line, .int .i64 q.col]
  have z0 := F2.cell 0 _ rfl
  have z1 := F2.cell 1 _ rfl
  have z2 := F2.cell 2 _ rfl
  have f0 := F2.free 0
  have f1 := F2.free 1
  have f2 := F2.free 2
  have lz := F2.lt
  obtain ⟨PF, BF⟩ := pf_new (x := x') (y := y') (z := z') lB 29 32
  obtain ⟨wB, hwB⟩ : ∃ W, W = (((((w3.alloc (.cells #[.string ⟨#[]⟩, .string ⟨#[]⟩, .int .i64 0, .int .i64 0, .int .i64 0, .int .i64 0, .int .i64 0, .int .i64 0, .slice none 0 0, .slice none 0 0, .slice none 0 0, .int .i64 0, .int .i64 0] 29)).alloc (.cells #[.int .i64 0, .int .i64 0, .int .i64 0] 32)).setCells w3.heap.size 0 [.string q.name, .string q.cur, .int .i64 q.a.y, .int .i64 q.a.m, .int .i64 q.a.d, .int .i64 q.b.y, .int .i64 q.b.m, .int .i64 q.b.d, .slice maB q.meters.length mcB, .slice faB q.fees.length fcB, .slice caB q.charges.length ccB, .int .i64 q.line, .int .i64 q.col]).setCell ⟨w3.heap.size + 1, 0, none⟩ (.int .i64 (x'))).setCell ⟨w3.heap.size + 1, 1, none⟩ (.int .i64 (y'))).setCell ⟨w3.heap.size + 1, 2, none⟩ (.int .i64 (z')) := ⟨_, rfl⟩
  obtain ⟨k2, hk2⟩ : ∃ k, k = w3.heap.size := ⟨_, rfl⟩
  have HP2 : Hid (Pf wB k2 q maB mcB faB fcB caB ccB (x') (y') (z')) := hid (by rw [hwB, hk2]; exact PF)
  have HB2 : Hid (Below w3.heap.size w3 wB) := hid (by rw [hwB]; exact BF)
  have HW2 := hid hwB
  have HK2 := hid hk2
  clear F2 PF BF hwB hk2
  unfold planC
  go_upto_region 8 with (first
    | (with_reducible refine wpList_store_mid (op := Oper.mk none (Op.store 29 (Operand.tmp 8) (Operand.tmp 33)) _ _ _ _) ?_ 29 (.tmp 8) (.tmp 33) ?_ w3.heap.size 0 #[.string q.name, .string q.cur, .int .i64 q.a.y, .int .i64 q.a.m, .int .i64 q.a.d, .int .i64 q.b.y, .int .i64 q.b.m, .int .i64 q.b.d, .slice maB q.meters.length mcB, .slice faB q.fees.length fcB, .slice caB q.charges.length ccB, .int .i64 q.line, .int .i64 q.col] ?_ ?_ ?_ ?_ ?_ ?_; rfl; rfl; go_simp; go_simp; (simpa using T2.out); kernel_rfl; (simp [Value.oneCell']))
    | (fail))
  rw [← HW2.out, ← HK2.out]
  clear z0 z1 z2 f0 f1 f2 lz T2
  have BB := hid (bel_on B3.out HB2.out)
  have KB := hid (K.out.later BB.out)
  have P2 := hid (P1.out.on HB2.out)
  clear B3 HB2 HW2 HK2 lB CQ P1
  go_wp2_with fail
  refine (CR.out wB KB.out).mono ?_
  rintro e w4 ⟨maC, mcC, faC, fcC, caC, ccC, rfl, lC, b4⟩
  have P3 := hid (P2.out.on b4)
  have Q3 := hid (HP2.out.on b4)
  have B4 := hid (bel_on BB.out b4)
  clear b4 HP2 KB BB P2
  have T3 := hid (there_pf w4 29 32)
  have F3 := flt_pf w4 29 32 [.string r.name, .string r.cur, .int .i64 r.a.y, .int .i64 r.a.m, .int .i64 r.a.d, .int .i64 r.b.y, .int .i64 r.b.m, .int .i64 r.b.d, .slice maC r.meters.length mcC, .slice faC r.fees.length fcC, .slice caC r.charges.length ccC, .int .i64 r.line, .int .i64 r.col]
  have z0 := F3.cell 0 _ rfl
  have z1 := F3.cell 1 _ rfl
  have z2 := F3.cell 2 _ rfl
  have f0 := F3.free 0
  have f1 := F3.free 1
  have f2 := F3.free 2
  have lz := F3.lt
  obtain ⟨PF, BF⟩ := pf_new (x := x2) (y := y2) (z := z2') lC 29 32
  obtain ⟨wC, hwC⟩ : ∃ W, W = (((((w4.alloc (.cells #[.string ⟨#[]⟩, .string ⟨#[]⟩, .int .i64 0, .int .i64 0, .int .i64 0, .int .i64 0, .int .i64 0, .int .i64 0, .slice none 0 0, .slice none 0 0, .slice none 0 0, .int .i64 0, .int .i64 0] 29)).alloc (.cells #[.int .i64 0, .int .i64 0, .int .i64 0] 32)).setCells w4.heap.size 0 [.string r.name, .string r.cur, .int .i64 r.a.y, .int .i64 r.a.m, .int .i64 r.a.d, .int .i64 r.b.y, .int .i64 r.b.m, .int .i64 r.b.d, .slice maC r.meters.length mcC, .slice faC r.fees.length fcC, .slice caC r.charges.length ccC, .int .i64 r.line, .int .i64 r.col]).setCell ⟨w4.heap.size + 1, 0, none⟩ (.int .i64 (x2))).setCell ⟨w4.heap.size + 1, 1, none⟩ (.int .i64 (y2))).setCell ⟨w4.heap.size + 1, 2, none⟩ (.int .i64 (z2')) := ⟨_, rfl⟩
  obtain ⟨k3, hk3⟩ : ∃ k, k = w4.heap.size := ⟨_, rfl⟩
  have HP3 : Hid (Pf wC k3 r maC mcC faC fcC caC ccC (x2) (y2) (z2')) := hid (by rw [hwC, hk3]; exact PF)
  have HB3 : Hid (Below w4.heap.size w4 wC) := hid (by rw [hwC]; exact BF)
  have HW3 := hid hwC
  have HK3 := hid hk3
  clear F3 PF BF hwC hk3
  unfold planC
  go_upto_region 9 with (first
    | (with_reducible refine wpList_store_mid (op := Oper.mk none (Op.store 29 (Operand.tmp 10) (Operand.tmp 41)) _ _ _ _) ?_ 29 (.tmp 10) (.tmp 41) ?_ w4.heap.size 0 #[.string r.name, .string r.cur, .int .i64 r.a.y, .int .i64 r.a.m, .int .i64 r.a.d, .int .i64 r.b.y, .int .i64 r.b.m, .int .i64 r.b.d, .slice maC r.meters.length mcC, .slice faC r.fees.length fcC, .slice caC r.charges.length ccC, .int .i64 r.line, .int .i64 r.col] ?_ ?_ ?_ ?_ ?_ ?_; rfl; rfl; go_simp; go_simp; (simpa using T3.out); kernel_rfl; (simp [Value.oneCell']))
    | (fail))
  rw [← HW3.out, ← HK3.out]
  clear z0 z1 z2 f0 f1 f2 lz T3
  have BC := hid (bel_on B4.out HB3.out)
  have P4 := P3.out.on HB3.out
  have Q4 := Q3.out.on HB3.out
  have c0 := P4.flt.cell 0 _ rfl
  have c1 := P4.flt.cell 1 _ rfl
  have c2 := P4.flt.cell 2 _ rfl
  have d0 := Q4.flt.cell 0 _ rfl
  have d1 := Q4.flt.cell 1 _ rfl
  have d2 := Q4.flt.cell 2 _ rfl
  have e0 := HP3.out.flt.cell 0 _ rfl
  clear P4 Q4 B4 HB3 HW3 HK3 lC CR P3 Q3 HP3 K
  by_cases hx0 : x = 0
  · obtain ⟨rfl, rfl⟩ := XZ.out hx0
    have h2 := HI.out hx0
    have h3 : ¬ x' = 0 := fun h => HBAD.out ⟨hx0, h⟩
    subst hx0
    subst h2
    clear HI HBAD XZ
    go_wp2
    go_ret
    exact ⟨rfl, BC.out⟩
  · clear HI HBAD XZ
    go_wp2
    go_ret
    exact ⟨rfl, BC.out⟩
end Go.Proofs.YtinadkgfhoibkaaDoor.L07
/- Rows put one behind the other: `append` of whole rows, whose elements lie as they lay; and what a store into one block leaves alone. -/
namespace Go.Proofs.YtinadkgfhoibkaaDoor.Mm
open Go.RowKit Go.Deep Go.ChangeShapes P

theorem fl_len {β : Type} {n : Nat} : ∀ (css : List (List β)), (∀ cs ∈ css, cs.length = n) → css.flatten.length = css.length * n
  | [], _ => by simp
  | a :: r, h => by
    have e := fl_len r (fun cs hc => h cs (List.mem_cons_of_mem _ hc))
    have ha := h a (List.mem_cons_self ..)
    rw [List.flatten_cons, List.length_append, e, ha, List.length_cons, Nat.succ_mul]
    omega
theorem fl_get {β : Type} {n : Nat} : ∀ (css : List (List β)), (∀ cs ∈ css, cs.length = n) → ∀ (j : Nat) (cs : List β) (i : Nat) (u : β), css[j]? = some cs → cs[i]? = some u → css.flatten[j * n + i]? = some u
  | [], _, j, _, _, _, hj, _ => by cases j <;> cases hj
  | a :: r, h, 0, cs, i, u, hj, hi => by
    obtain rfl : a = cs := by simpa using hj
    rw [List.flatten_cons, Nat.zero_mul, Nat.zero_add, List.getElem?_append_left (List.getElem?_eq_some_iff.1 hi).1]
    exact hi
  | a :: r, h, j + 1, cs, i, u, hj, hi => by
    have ha := h a (List.mem_cons_self ..)
    rw [List.flatten_cons, List.getElem?_append_right (by rw [ha, Nat.succ_mul]; omega), ha, show (j + 1) * n + i - n = j * n + i by rw [Nat.succ_mul]; omega]
    exact fl_get r (fun cs hc => h cs (List.mem_cons_of_mem _ hc)) j cs i u (by simpa using hj) hi
theorem fl_split {β : Type} {n : Nat} : ∀ (css : List (List β)), (∀ cs ∈ css, cs.length = n) → ∀ (j : Nat) (u : β), css.flatten[j]? = some u → ∃ q cs i, css[q]? = some cs ∧ cs[i]? = some u ∧ j = q * n + i
  | [], _, j, u, h => by simp at h
  | a :: r, hh, j, u, h => by
    have ha := hh a (List.mem_cons_self ..)
    rw [List.flatten_cons] at h
    by_cases hj : j < n
    · rw [List.getElem?_append_left (by rw [ha]; exact hj)] at h
      exact ⟨0, a, j, rfl, h, by omega⟩
    · rw [List.getElem?_append_right (by rw [ha]; omega), ha] at h
      obtain ⟨q, x, i, h1, h2, h3⟩ := fl_split r (fun cs hc => hh cs (List.mem_cons_of_mem _ hc)) (j - n) u h
      refine ⟨q + 1, x, i, by simpa using h1, h2, ?_⟩
      rw [Nat.succ_mul]
      omega
/-- Elements' cells, one by one. -/
structure Ch {α : Type} (T : Ty α) (w : World) (css : List (List Value)) (xs : List α) : Prop where
  len : css.length = xs.length
  lies : ∀ (j : Nat) (cs : List Value) (x : α), css[j]? = some cs → xs[j]? = some x → T.lies w cs x
section
variable {α : Type} {T : Ty α} {w w' : World}
theorem Ch.on {css : List (List Value)} {xs : List α} (h : Ch T w css xs) (b : Below w.heap.size w w') : Ch T w' css xs := ⟨h.len, fun j cs x h1 h2 => T.keep (h.lies j cs x h1 h2) b⟩
theorem Ch.sizes {css : List (List Value)} {xs : List α} (h : Ch T w css xs) : ∀ cs ∈ css, cs.length = T.n := fun cs hc => by
  obtain ⟨j, hj, e⟩ := List.getElem_of_mem hc
  have hjx : j < xs.length := by rw [← h.len]; exact hj
  exact T.len (h.lies j cs (xs[j]'hjx) (by rw [List.getElem?_eq_getElem hj, e]) (List.getElem?_eq_getElem hjx))
theorem Ch.app {css ds : List (List Value)} {xs ys : List α} (h : Ch T w css xs) (k : Ch T w ds ys) : Ch T w (css ++ ds) (xs ++ ys) := by
  refine ⟨by rw [List.length_append, List.length_append, h.len, k.len], fun j cs x h1 h2 => ?_⟩
  by_cases hj : j < css.length
  · rw [List.getElem?_append_left hj] at h1
    rw [List.getElem?_append_left (by rw [← h.len]; exact hj)] at h2
    exact h.lies j cs x h1 h2
  · rw [List.getElem?_append_right (by omega)] at h1
    rw [List.getElem?_append_right (by rw [← h.len]; omega), ← h.len] at h2
    exact k.lies _ cs x h1 h2
theorem Ch.ones {css : List (List Value)} {xs : List α} (h : Ch T w css xs) (one : ∀ cs x, T.lies w cs x → ∀ u ∈ cs, u.oneCell' = true) : ∀ u ∈ css.flatten, u.oneCell' = true := fun u hu => by
  obtain ⟨cs, hc, h2⟩ := List.mem_flatten.1 hu
  obtain ⟨j, hj, e⟩ := List.getElem_of_mem hc
  have hjx : j < xs.length := by rw [← h.len]; exact hj
  exact one cs _ (h.lies j cs (xs[j]'hjx) (by rw [List.getElem?_eq_getElem hj, e]) (List.getElem?_eq_getElem hjx)) u h2
theorem choose_list {β : Type} {p : Nat → β → Prop} : ∀ (n : Nat), (∀ i, i < n → ∃ y, p i y) → ∃ l : List β, l.length = n ∧ ∀ i y, l[i]? = some y → p i y
  | 0, _ => ⟨[], rfl, fun i y h => by simp at h⟩
  | n + 1, h => by
    obtain ⟨l, h1, h2⟩ := choose_list n (fun i hi => h i (by omega))
    obtain ⟨y, hy⟩ := h n (by omega)
    refine ⟨l ++ [y], by simp [h1], fun i z hz => ?_⟩
    by_cases hi : i < l.length
    · rw [List.getElem?_append_left hi] at hz
      exact h2 i z hz
    · have hl := (List.getElem?_eq_some_iff.1 hz).1
      simp only [List.length_append, List.length_singleton] at hl
      obtain rfl : i = l.length := by omega
      simp only [List.getElem?_append_right (Nat.le_refl _), Nat.sub_self, List.getElem?_cons_zero, Option.some.injEq] at hz
      subst hz
      rw [h1]
      exact hy
/-- A row's cells. -/
theorem row_chunks {ao : Option Addr} {len cap : Nat} {xs : List α} (h : Row T w ao len cap xs) :
    ∃ css, Ch T w css xs ∧ css.flatten.length = len * T.n ∧ (ao = none → len = 0) ∧ (∀ ad, ao = some ad → 0 < len → ad.block < w.heap.size) ∧ ∀ ad, ao = some ad → ∀ j u, css.flatten[j]? = some u → w.cell? (ad.add j) = some u := by
  by_cases hx : xs = []
  · subst hx
    have hl : len = 0 := by rw [← h.hlen]; rfl
    subst hl
    exact ⟨[], ⟨rfl, fun j cs x h1 _ => by simp at h1⟩, by simp, fun _ => rfl, fun _ _ k => absurd k (Nat.lt_irrefl _), fun _ _ j u h1 => by simp at h1⟩
  · obtain ⟨b, o, rfl, hb, hl⟩ := h.lie hx
    obtain ⟨css, h1, h2⟩ := choose_list (p := fun j cs => ∃ x, xs[j]? = some x ∧ T.lies w cs x ∧ ∀ i v, cs[i]? = some v → w.cell? ⟨b, o + j * T.n + i, none⟩ = some v) xs.length (fun j hj => by
      obtain ⟨cs, h1, h2⟩ := hl j _ (List.getElem?_eq_getElem hj)
      exact ⟨cs, _, List.getElem?_eq_getElem hj, h1, h2⟩)
    have hc : Ch T w css xs := ⟨h1, fun j cs x k1 k2 => by
      obtain ⟨x', e, k3, _⟩ := h2 j cs k1
      rw [k2] at e
      obtain rfl := Option.some.inj e
      exact k3⟩
    refine ⟨css, hc, by rw [fl_len css hc.sizes, h1, h.hlen], (fun e => by cases e), (fun ad e _ => by obtain rfl := Option.some.inj e; exact hb), fun ad e j u hj => ?_⟩
    obtain rfl := Option.some.inj e
    obtain ⟨q, cs, i, k1, k2, rfl⟩ := fl_split css hc.sizes j u hj
    obtain ⟨_, _, _, k3⟩ := h2 q cs k1
    rw [add_plain, ← Nat.add_assoc]
    exact k3 i u k2
/-- A row that is owned, whose elements lie. -/
theorem own_row {base : Nat} {e : TypeId} {ao : Option Addr} {cap n : Nat} {css : List (List Value)} {xs : List α} (h : w.ownsRow base e T.n (.slice ao n cap) n css.flatten) (hn : n = xs.length) (hc : Ch T w css xs) :
    Row T w ao n cap xs := by
  subst hn
  rcases h.2 with ⟨h1, h2⟩ | ⟨g, cap', cur, h1, _, h3, h4, h5, _, _⟩
  · simp only [Value.slice.injEq] at h1
    obtain ⟨rfl, _, rfl⟩ := h1
    exact ⟨rfl, Nat.le_of_eq h2, Nat.zero_le _, fun k => absurd (List.eq_nil_of_length_eq_zero h2) k⟩
  · simp only [Value.slice.injEq] at h1
    obtain ⟨rfl, _, rfl⟩ := h1
    have hg : g < w.heap.size := by
      rcases Nat.lt_or_ge g w.heap.size with k | k
      · exact k
      · rw [Array.getElem?_eq_none k] at h3; cases h3
    refine ⟨rfl, h4, by unfold maxLen at h5; omega, fun _ => ⟨g, 0, rfl, hg, fun j x hj => ?_⟩⟩
    have hjl := (List.getElem?_eq_some_iff.1 hj).1
    obtain ⟨cs, hcs⟩ : ∃ cs, css[j]? = some cs := ⟨_, List.getElem?_eq_getElem (by rw [hc.len]; exact hjl)⟩
    have lie := hc.lies j cs x hcs hj
    refine ⟨cs, lie, fun i u hi => ?_⟩
    have hil : i < T.n := by rw [← T.len lie]; exact (List.getElem?_eq_some_iff.1 hi).1
    have hlt : j * T.n + i < xs.length * T.n := by
      have := Nat.mul_le_mul_right T.n (Nat.succ_le_of_lt hjl)
      rw [Nat.succ_mul] at this
      omega
    show w.cell? ⟨g, 0 + j * T.n + i, none⟩ = some u
    rw [Nat.zero_add, h.cellAt _ hlt]
    exact fl_get css hc.sizes j cs i u hcs hi
end
theorem own_slice {w : World} {base : Nat} {e : TypeId} {size n : Nat} {v : Value} {xs : List Value} (h : w.ownsRow base e size v n xs) : ∃ ao cap, v = .slice ao n cap := by
  rcases h.2 with ⟨rfl, rfl⟩ | ⟨g, cap, cur, rfl, _⟩
  · exact ⟨_, _, rfl⟩
  · exact ⟨_, _, rfl⟩
theorem one_meter : ∀ {w : World} (cs : List Value) (x : Meter), tMeter.lies w cs x → ∀ u ∈ cs, u.oneCell' = true := fun cs x ⟨h, _⟩ u hu => by
  subst h
  simp only [meterC, List.mem_cons, List.not_mem_nil, or_false] at hu
  rcases hu with rfl | rfl | rfl | rfl | rfl <;> rfl
theorem one_fee : ∀ {w : World} (cs : List Value) (x : Fee), tFee.lies w cs x → ∀ u ∈ cs, u.oneCell' = true := fun cs x ⟨h, _⟩ u hu => by
  subst h
  simp only [feeC, List.mem_cons, List.not_mem_nil, or_false] at hu
  rcases hu with rfl | rfl | rfl | rfl | rfl | rfl | rfl | rfl | rfl | rfl <;> rfl
theorem one_charge : ∀ {w : World} (cs : List Value) (x : Charge), tCharge.lies w cs x → ∀ u ∈ cs, u.oneCell' = true := fun cs x ⟨ta, tc, aa, ac, h⟩ u hu => by
  obtain rfl := h.cells
  simp only [chargeC, List.mem_cons, List.not_mem_nil, or_false] at hu
  rcases hu with rfl | rfl | rfl | rfl | rfl | rfl | rfl | rfl | rfl | rfl | rfl | rfl | rfl | rfl | rfl | rfl <;> rfl
/-- Nothing is put behind a row: it is as it was. -/
theorem run_append_none {Pr : Program} {w : World} {base : Nat} {t ty e : TypeId} {i : TypeInfo} {size : Nat} (ht : Pr.underlying t = some (.slice e)) (hi : Pr.info? e = some i)
    {v : Value} {n : Nat} {xs : List Value} (hown : w.ownsRow base e size v n xs) (c : Nat) :
    (Builtin.append_ #[t, t] ty #[v, .slice none 0 c]).run Pr w = .ok v w := by
  rcases hown.2 with ⟨rfl, rfl⟩ | ⟨g, cap, cur, rfl, hbg, hg, hnc, hcm, hcs, htake⟩
  · simp [Builtin.append_, run_underlying ht, sizeOf, typeInfo, hi, Builtin.lenOf, run_firstCells_none]
  · simp [Builtin.append_, run_underlying ht, sizeOf, typeInfo, hi, Builtin.lenOf, hnc, run_firstCells_none, Addr.add_lit, storeCells]
/-- A step of a region that draws its order: a row, whatever it is, behind a row that is owned. -/
theorem step_join {Pr : Program} {ops : Array Oper} {o : Oper} {a : Act} {K : Act → World → Prop} {Q : Exit → Act → World → Prop} {E : Prop} {W : World} {base : Nat} (d : Tmp) (hd : o.dst = some d) (hgd : o.guard = none) (s x : Operand) (t e : TypeId) (z : Value) (size bytes : Nat)
    (ho : o.op = .call { callee := .builtin .append, args := #[s, x], argTypes := #[t, t] }) (hu : Pr.underlying t = some (.slice e)) (hinfo : (Pr.info? e).map (fun i => (i.zero, i.size, i.bytes)) = some (some z, size, bytes)) (hzs : z.cells.size = size) (hsz : 0 < size)
    (v : Value) (n : Nat) (xs : List Value) (hs : a.eval s = v) (hown : W.ownsRow base e size v n xs) (ao : Option Addr) (m c : Nat) (news : List Value) (hx : a.eval x = .slice ao m c) (hl : news.length = m * size)
    (h0 : ao = none → m = 0) (hnews : ∀ ad, ao = some ad → ∀ j u, news[j]? = some u → W.cell? (ad.add j) = some u) (h1 : ∀ u ∈ news, u.oneCell' = true) (hn : n + m ≤ 1000000000) (hb : bytes ≤ 1000) (N : Nat) (hN : n + m = N) (hbase : base ≤ W.heap.size)
    (h : ∀ ao' cap w', w'.ownsRow base e size (.slice ao' N cap) N (xs ++ news) → W.grownBy w' v.ownBlock → K (a.put (some d) (.slice ao' N cap)) w') :
    if Region.wanted o (yielded ops a.tmps) = true then Oper.wp Pr o a W K Q else E := by
  have hw : Region.wanted o (yielded ops a.tmps) = true := by simp [Region.wanted, hgd]
  rw [if_pos hw]
  subst hN
  obtain ⟨i0, hi, hz0, hz1, hz2⟩ := info_parts hinfo
  have hby : (n + m) * bytes ≤ 140737488355328 := Nat.le_trans (Nat.mul_le_mul hn hb) (by decide)
  cases ao with
  | some ad =>
    refine wp_append_own W s x t ho base e i0 z size bytes hu hi hz0 hz1 hz2 hzs hsz v n xs hs hown ad m c news hx hl (hnews ad rfl) h1 (by unfold maxLen; omega) hby hbase ?_
    intro v' w' k1 k2 _
    obtain ⟨ao', cap, rfl⟩ := own_slice k1
    rw [hd]
    exact h ao' cap w' k1 k2
  | none =>
    obtain rfl := h0 rfl
    obtain rfl : news = [] := List.eq_nil_of_length_eq_zero (by rw [hl, Nat.zero_mul])
    have hr := run_append_none (ty := o.type) hu hi hown c
    obtain ⟨ao', cap, rfl⟩ := own_slice hown
    unfold Oper.wp execOp
    simp only [ho, resolve, invoke, builtin, Sem.run_bind, Sem.run_pure, Result.andThen_ok, List.map_toArray, List.map_cons, List.map_nil, hs, hx, hr]
    show K (a.put o.dst (.slice ao' n cap)) W
    rw [hd]
    exact h ao' cap W (by simpa using hown) ⟨rfl, rfl, rfl, Nat.le_refl _, fun _ _ _ => rfl⟩
/-- All blocks of a world but one stand. -/
def Gk (w : World) (k : Nat) (w' : World) : Prop := w.grownBy w' (some k)
section
variable {w w' w2 : World} {k : Nat}
theorem Gk.refl (w : World) (k : Nat) : Gk w k w := ⟨rfl, rfl, rfl, Nat.le_refl _, fun _ _ _ => rfl⟩
theorem Gk.drew (h : Gk w k w') : Gk w k w'.drew := ⟨h.os, h.tape, h.output, h.size, h.block⟩
theorem Gk.alloc (h : Gk w k w') (o : Obj) : Gk w k (w'.alloc o) := ⟨h.os, h.tape, h.output, by have := h.size; simp; omega, fun j hj hne => ((bel_alloc w' o).block j (Nat.lt_of_lt_of_le hj h.size)).trans (h.block j hj hne)⟩
theorem Gk.grown (h : Gk w k w') {v : Value} (g : w'.grownBy w2 v.ownBlock) (hv : ∀ j, v.ownBlock = some j → w.heap.size ≤ j) : Gk w k w2 :=
  ⟨g.os.trans h.os, g.tape.trans h.tape, g.output.trans h.output, Nat.le_trans h.size g.size, fun j hj hne => (g.block j (Nat.lt_of_lt_of_le hj h.size) (fun e => by have := hv j e.symm; omega)).trans (h.block j hj hne)⟩
theorem Gk.set (h : Gk w k w') (i : Nat) (u : Value) : Gk w k (w'.setCell ⟨k, i, none⟩ u) :=
  ⟨h.os, h.tape, h.output, by simpa using h.size, fun j hj hne => (Below.heap_setCell w' ⟨k, i, none⟩ u j (fun e => hne (by rw [e]))).trans (h.block j hj hne)⟩
theorem Gk.cell (h : Gk w k w') {b i : Nat} {v : Value} (hc : w.cell? ⟨b, i, none⟩ = some v) (hne : b ≠ k) : w'.cell? ⟨b, i, none⟩ = some v :=
  (World.cell?_of_block (h.block b (World.block_lt_of_cell? w _ hc) (fun e => hne (Option.some.inj e)))).trans hc
theorem Gk.bel {B : Nat} {w0 : World} (h : Gk w k w') (hb : Below B w0 w) (hB : B ≤ w.heap.size) (hk : B ≤ k) : Below B w0 w' :=
  ⟨h.os.trans hb.os, h.tape.trans hb.tape, h.output.trans hb.output, Nat.le_trans hb.size h.size, fun j hj => (h.block j (Nat.lt_of_lt_of_le hj hB) (fun e => by have := Option.some.inj e; omega)).trans (hb.block j hj)⟩
theorem Gk.own (h : Gk w k w') {base : Nat} {e : TypeId} {size n : Nat} {v : Value} {xs : List Value} (o : w.ownsRow base e size v n xs) (hv : ∀ j, v.ownBlock = some j → j ≠ k) : w'.ownsRow base e size v n xs := by
  refine o.kept h ?_
  cases e : v.ownBlock with
  | none => exact .inl rfl
  | some j => exact .inr (fun e2 => hv j e (Option.some.inj e2))
end
end Go.Proofs.YtinadkgfhoibkaaDoor.Mm
