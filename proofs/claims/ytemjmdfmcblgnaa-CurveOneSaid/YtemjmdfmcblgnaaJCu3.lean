/- Groups, as package curve makes them and searches in them: plain data. No program is named here. -/
import Derived.Test.YtemjmdfmcblgnaaJCurR
import Derived.Test.YtemjmdfmcblgnaaJRef15
import Derived.Test.YtemjmdfmcblgnaaJRef6d
import Derived.Test.YtemjmdfmcblgnaaJL15
import Derived.Lib.QuietBelowIn
import Derived.Sort.QuietTacIn
namespace Go.Proofs.Ytemjmdfmcblgnaa.Mm
end Go.Proofs.Ytemjmdfmcblgnaa.Mm
namespace Go.Proofs.Ytemjmdfmcblgnaa.P
end Go.Proofs.Ytemjmdfmcblgnaa.P
namespace Go.Proofs.Ytemjmdfmcblgnaa.R6
end Go.Proofs.Ytemjmdfmcblgnaa.R6
namespace Go.Proofs.Ytemjmdfmcblgnaa.R14
end Go.Proofs.Ytemjmdfmcblgnaa.R14
namespace Go.Proofs.Ytemjmdfmcblgnaa.R15
end Go.Proofs.Ytemjmdfmcblgnaa.R15
namespace Go.Proofs.Ytemjmdfmcblgnaa.L14
end Go.Proofs.Ytemjmdfmcblgnaa.L14
namespace Go.Proofs.Ytemjmdfmcblgnaa.P
open Go.RowKit Mm
/-- How many plateaus go on behind one: as many as the walk has found, when it stops. -/
theorem ext_is {w r : Int} : ∀ (L : List (Rn Int)) (q : Rn Int) (i : Nat), i ≤ L.length → (∀ (j : Nat) (x y : Rn Int), j < i → (q :: L)[j]? = some x → (q :: L)[j + 1]? = some y → y.a = x.a + w ∧ y.v = x.v + r) →
    (∀ x y : Rn Int, (q :: L)[i]? = some x → (q :: L)[i + 1]? = some y → ¬ (y.a = x.a + w ∧ y.v = x.v + r)) → extN w r q.a q.v L = i
  | [], _, i, hi, _, _ => by
    have : i = 0 := by simpa using hi
    subst this
    rfl
  | z :: L, q, 0, _, _, h2 => by
    unfold extN
    rw [if_neg (h2 q z rfl rfl)]
  | z :: L, q, i + 1, hi, h1, h2 => by
    unfold extN
    rw [if_pos (h1 0 q z (by omega) rfl rfl), ext_is L z i (by rw [List.length_cons] at hi; omega) (fun j x y hj hx hy => h1 (j + 1) x y (by omega) hx hy) (fun x y hx hy => h2 x y hx hy)]
/-- The first group of plateaus. -/
def hdG : List (Rn Int) → Gp
  | [] => ⟨0, 0, 0, 0, 0⟩
  | [p] => ⟨p.a, p.v, 0, 0, 1⟩
  | p :: q :: l => ⟨p.a, p.v, q.a - p.a, q.v - p.v, (extN (q.a - p.a) (q.v - p.v) q.a q.v l : Int) + 2⟩
theorem grp_hd : ∀ {ps : List (Rn Int)}, ps ≠ [] → grp ps = hdG ps :: grp (ps.drop (hdG ps).c.toNat) ∧ 1 ≤ (hdG ps).c ∧ (hdG ps).c.toNat ≤ ps.length
  | [], h => absurd rfl h
  | [p], _ => ⟨rfl, by show (1 : Int) ≤ 1; omega, by show (1 : Int).toNat ≤ 1; omega⟩
  | p :: q :: l, _ => by
    have := extN_le (q.a - p.a) (q.v - p.v) l q.a q.v
    refine ⟨?_, ?_, ?_⟩
    · rw [grp_two]
      show _ :: _ = _ :: grp ((p :: q :: l).drop ((extN (q.a - p.a) (q.v - p.v) q.a q.v l : Int) + 2).toNat)
      rw [show ((extN (q.a - p.a) (q.v - p.v) q.a q.v l : Int) + 2).toNat = extN (q.a - p.a) (q.v - p.v) q.a q.v l + 2 by omega]
      rfl
    · show (1 : Int) ≤ (extN (q.a - p.a) (q.v - p.v) q.a q.v l : Int) + 2
      omega
    · show ((extN (q.a - p.a) (q.v - p.v) q.a q.v l : Int) + 2).toNat ≤ l.length + 1 + 1
      omega
/-- What the walk over plateaus has counted, when it stops behind some of them. -/
theorem hd_is {ps : List (Rn Int)} {p q : Rn Int} {i : Nat} (hp : ps[0]? = some p) (hq : ps[1]? = some q) (hi : 1 ≤ i) (hl : i + 1 ≤ ps.length)
    (h1 : ∀ (j : Nat) (x y : Rn Int), j < i → ps[j]? = some x → ps[j + 1]? = some y → y.a - x.a = q.a - p.a ∧ y.v - x.v = q.v - p.v)
    (h2 : ∀ x y : Rn Int, ps[i]? = some x → ps[i + 1]? = some y → ¬ (y.a - x.a = q.a - p.a ∧ y.v - x.v = q.v - p.v)) : hdG ps = ⟨p.a, p.v, q.a - p.a, q.v - p.v, (i : Int) + 1⟩ := by
  rcases ps with _ | ⟨p', _ | ⟨q', l⟩⟩
  · cases hp
  · cases hq
  · obtain rfl : p' = p := Option.some.inj hp
    obtain rfl : q' = q := Option.some.inj hq
    obtain ⟨k, rfl⟩ : ∃ k, i = k + 1 := ⟨i - 1, by omega⟩
    show (⟨p'.a, p'.v, q'.a - p'.a, q'.v - p'.v, (extN (q'.a - p'.a) (q'.v - p'.v) q'.a q'.v l : Int) + 2⟩ : Gp) = _
    rw [ext_is l q' k (by simp only [List.length_cons] at hl; omega) (fun j x y hj hx hy => by
      have := h1 (j + 1) x y (by omega) hx hy
      omega) (fun x y hx hy => by
      have := h2 x y hx hy
      omega)]
    rw [show ((k + 1 : Nat) : Int) + 1 = (k : Int) + 2 by omega]
theorem hd_one {ps : List (Rn Int)} {p : Rn Int} (hp : ps[0]? = some p) (h : ps.length = 1) : hdG ps = ⟨p.a, p.v, 0, 0, 1⟩ := by
  rcases ps with _ | ⟨p', _ | ⟨q', l⟩⟩
  · cases hp
  · obtain rfl : p' = p := Option.some.inj hp
    rfl
  · simp at h
/-- Groups begin one behind the other. -/
def incG : List Gp → Prop
  | [] => True
  | [_] => True
  | a :: b :: l => a.f < b.f ∧ incG (b :: l)
theorem okG_inc {l : List Int} : ∀ (G : List Gp) (A : Int), okG l A G → incG G
  | [], _, _ => trivial
  | [_], _, _ => trivial
  | a :: b :: G, A, h => by
    obtain ⟨-, -, h3, -, h5⟩ := h
    refine ⟨?_, okG_inc (b :: G) _ h5⟩
    have h6 := h5.1
    rcases h3 with ⟨_, _, _, h⟩ | ⟨h7, h8, -⟩
    · cases h
    · have := Int.mul_le_mul (show (1 : Int) ≤ a.c - 1 by omega) h8 (by omega) (by omega)
      omega
theorem inc_tl {x : Gp} {l : List Gp} (h : incG (x :: l)) : incG l := by
  cases l with
  | nil => trivial
  | cons y l => exact h.2
theorem inc_hd : ∀ {l : List Gp} {x : Gp}, incG (x :: l) → ∀ g ∈ l, x.f < g.f
  | [], _, _, _, hg => by cases hg
  | y :: l, x, h, g, hg => by
    rcases List.mem_cons.1 hg with rfl | hm
    · exact h.1
    · have := inc_hd h.2 g hm
      have := h.1
      omega
theorem inc_lt : ∀ (G : List Gp), incG G → ∀ (i j : Nat) (a b : Gp), i < j → G[i]? = some a → G[j]? = some b → a.f < b.f := by
  intro G
  induction G with
  | nil => intro _ i j a b _ ha _; rw [List.getElem?_nil] at ha; cases ha
  | cons x l ih =>
    intro h i j a b hij ha hb
    cases j with
    | zero => omega
    | succ j =>
      cases i with
      | zero =>
        obtain rfl : x = a := Option.some.inj ha
        exact inc_hd h b (List.mem_of_getElem? (show l[j]? = some b from hb))
      | succ i => exact ih (inc_tl h) i j a b (by omega) ha hb
theorem atG_low {x : Int} : ∀ (G : List Gp) (o : Option Int), (∀ g ∈ G, x < g.f) → atG x G o = o
  | [], _, _ => rfl
  | g :: G, o, h => by
    show atG x G (if g.f ≤ x then some (valG g x) else o) = o
    rw [if_neg (by have := h g (List.mem_cons_self ..); omega)]
    exact atG_low G o fun z hz => h z (List.mem_cons_of_mem _ hz)
theorem atG_cat (x : Int) : ∀ (a b : List Gp) (o : Option Int), atG x (a ++ b) o = atG x b (atG x a o)
  | [], _, _ => rfl
  | _ :: a, b, _ => atG_cat x a b _
/-- The group that is found is the one that counts. -/
theorem atG_hit {x : Int} {G : List Gp} {i : Nat} {g : Gp} (hg : G[i]? = some g) (h1 : g.f ≤ x) (h2 : ∀ (j : Nat) (z : Gp), i < j → G[j]? = some z → x < z.f) (o : Option Int) : atG x G o = some (valG g x) := by
  have hi : i < G.length := (List.getElem?_eq_some_iff.1 hg).1
  have e : G = G.take i ++ (g :: G.drop (i + 1)) := by
    conv => lhs; rw [← List.take_append_drop i G]
    congr 1
    rw [List.drop_eq_getElem_cons hi]
    congr 1
    exact Option.some.inj ((List.getElem?_eq_getElem hi).symm.trans hg)
  rw [e, atG_cat]
  show atG x (G.drop (i + 1)) (if g.f ≤ x then some (valG g x) else _) = _
  rw [if_pos h1]
  refine atG_low _ _ fun z hz => ?_
  obtain ⟨j, hj⟩ := List.getElem?_of_mem hz
  rw [List.getElem?_drop] at hj
  exact h2 (i + 1 + j) z (by omega) hj
theorem atG_none {x : Int} {G : List Gp} (h : ∀ (j : Nat) (z : Gp), G[j]? = some z → x < z.f) : atG x G none = none :=
  atG_low G none fun z hz => by
    obtain ⟨j, hj⟩ := List.getElem?_of_mem hz
    exact h j z hj
end Go.Proofs.Ytemjmdfmcblgnaa.P
/- The document's number of a curve at a quantity (poundageref15.At). -/
namespace Go.Proofs.Ytemjmdfmcblgnaa.R15
open Go.RowKit Go.Sort P Mm R6 R14
theorem atG_app (x : Int) : ∀ (a b : List Gp) (o : Option Int), atG x (a ++ b) o = atG x b (atG x a o)
  | [], _, _ => rfl
  | _ :: a, b, _ => atG_app x a b _
/-- What a curve's groups are: they begin at 0 or above, each has a plateau. -/
def Low (g : Gp) : Prop := 0 ≤ g.f ∧ g.f ≤ 100000 ∧ 1 ≤ g.c
theorem grp_low : ∀ (n : Nat) (rs : List (Rn Int)), rs.length ≤ n → (∀ r ∈ rs, 0 ≤ r.a ∧ r.a ≤ 100000) → ∀ g ∈ grp rs, Low g
  | 0, rs, h, _, g, hg => by
    obtain rfl : rs = [] := List.eq_nil_of_length_eq_zero (by omega)
    cases hg
  | _ + 1, [], _, _, g, hg => by cases hg
  | _ + 1, [p], _, hr, g, hg => by
    have := hr p (List.mem_cons_self ..)
    rw [grp_one, List.mem_singleton] at hg
    subst hg
    exact ⟨this.1, this.2, Int.le_refl _⟩
  | n + 1, p :: q :: l, h, hr, g, hg => by
    rw [List.length_cons, List.length_cons] at h
    have h3 := hr p (List.mem_cons_self ..)
    rw [grp_two] at hg
    rcases List.mem_cons.1 hg with rfl | hg
    · exact ⟨h3.1, h3.2, by show 1 ≤ ((extN (q.a - p.a) (q.v - p.v) q.a q.v l : Int) + 2); omega⟩
    · exact grp_low n _ (by rw [List.length_drop]; omega) (fun r hm => hr r (List.mem_cons_of_mem _ (List.mem_cons_of_mem _ (List.mem_of_mem_drop hm)))) g hg
theorem cur_low {l : List Int} (h : curB l = true) : ∀ g ∈ curG l, Low g := by
  unfold curB at h
  simp only [Bool.and_eq_true, decide_eq_true_eq] at h
  refine grp_low _ _ (Nat.le_refl _) (fun r hr => ?_)
  obtain ⟨a1, a2, a3, a4⟩ := runs_in l 0 r hr
  omega
theorem val_low {g : Gp} {x : Int} (h : ¬ 0 < g.w) : valG g x = g.v := by unfold valG; rw [if_pos (by omega)]
theorem val_at {g : Gp} {x k : Int} (hw : 0 < g.w) (h : k - 1 = min ((x - g.f) / g.w) (g.c - 1)) : valG g x = g.v + g.r * (k - 1) := by unfold valG; rw [if_neg (by omega), h]
theorem wrap_step (v r k : Int) : IntKind.i64.wrap (IntKind.i64.wrap (v + r * (k - 1)) + r) = IntKind.i64.wrap (v + r * (k + 1 - 1)) := by
  have e : r * (k + 1 - 1) = r * (k - 1) + r := by rw [show k + 1 - 1 = k - 1 + 1 by omega, Int.mul_add, Int.mul_one]
  rw [e, IntKind.wrap_i64, IntKind.wrap_i64, IntKind.wrap_i64]
  omega
/-- What At answers. -/
def rN (m : Int) (G : List Gp) (x : Int) : Int := if 0 ≤ x ∧ x ≤ m then IntKind.i64.wrap (vO (atG x G none)) else 0
def rB (m : Int) (G : List Gp) (x : Int) : Bool := if 0 ≤ x ∧ x ≤ m then bO (atG x G none) else false
set_option maxHeartbeats 4000000 in
set_option maxRecDepth 100000 in
theorem at_any (m : Int) (G : List Gp) (ao : Option Addr) (cap : Nat) (x : Int) (w : World) (hl : Row tGp w ao G.length cap G) (hg : ∀ g ∈ G, Low g) (hx : I64 x) :
    Calls Try.prog 37 #[.agg #[.int .i64 m, .slice ao G.length cap], .int .i64 x] w fun e w' => e = .returned (.tuple #[.int .i64 (rN m G x), .bool (rB m G x)]) ∧ Below w.heap.size w w' := by
  obtain ⟨w1, hw1⟩ : ∃ W, W = w.alloc (.cells ([.int .i64 m, .slice ao G.length cap] : List Value).toArray 26) := ⟨_, rfl⟩
  obtain ⟨k1, hk1⟩ : ∃ k, k = w.heap.size := ⟨_, rfl⟩
  have b1 : Below w.heap.size w w1 := by rw [hw1]; exact bel_alloc _ _
  have X1 : Box w1 k1 [.int .i64 m, .slice ao G.length cap] := by rw [hw1, hk1]; exact Box.new w _ _
  have HX := hid (fun (W : World) (k : Below w1.heap.size w1 W) => (⟨X1.on k, hl.on (bel_on b1 k), bel_on b1 k⟩ : Box W k1 [.int .i64 m, .slice ao G.length cap] ∧ Row tGp W ao G.length cap G ∧ Below w.heap.size w W))
  have B0 := hid (Below.refl w1.heap.size w1)
  have BF := hid b1
  have HG := hid hg
  have lm := hl.hmax
  have lc := hl.hcap
  have HW := hid hw1
  have HK := hid hk1
  have c0 := X1.cell 0 _ rfl
  have c1 := X1.cell 1 _ rfl
  have l1 := X1.lt
  obtain ⟨RN, hRN⟩ : ∃ R, R = rN m G x := ⟨_, rfl⟩
  obtain ⟨RB, hRB⟩ : ∃ R, R = rB m G x := ⟨_, rfl⟩
  rw [← hRN, ← hRB]
  have OUT := hid (show ¬ (0 ≤ x ∧ x ≤ m) → RN = 0 ∧ RB = false from fun h => by rw [hRN, hRB]; unfold rN rB; rw [if_neg h, if_neg h]; exact ⟨rfl, rfl⟩)
  have INN := hid (show 0 ≤ x ∧ x ≤ m → RN = IntKind.i64.wrap (vO (atG x G none)) ∧ RB = bO (atG x G none) from fun h => by rw [hRN, hRB]; unfold rN rB; rw [if_pos h, if_pos h]; exact ⟨rfl, rfl⟩)
  unfold I64 at hx
  clear hw1 hk1 X1 b1 hl hg hRN hRB
  go_enter Try.func37, Try.ntmps37
  go_upto_region 1 with fail
  rw [← HW.out, ← HK.out]
  clear HW HK
  by_cases h1 : x < 0
  · have z1 : decide (x < 0) = true := decide_eq_true h1
    obtain ⟨e1, e2⟩ := OUT.out (by omega)
    subst e1 e2
    clear OUT INN HX
    go_wp2
    go_ret2
    exact ⟨rfl, BF.out⟩
  have z1 : decide (x < 0) = false := decide_eq_false h1
  by_cases h2 : m < x
  · have z2 : decide (m < x) = true := decide_eq_true h2
    obtain ⟨e1, e2⟩ := OUT.out (by omega)
    subst e1 e2
    clear OUT INN HX
    go_wp2
    go_ret2
    exact ⟨rfl, BF.out⟩
  have z2 : decide (m < x) = false := decide_eq_false h2
  obtain ⟨hRN, hRB⟩ := INN.out (by omega)
  have HRN := hid hRN
  have HRB := hid hRB
  have x0 : 0 ≤ x := by omega
  clear OUT INN hRN hRB h1 h2
  go_wp2
  clear z1 z2 c0 c1 l1 BF
  go_loopw [6, 7, 22] (fun v6 v7 v22 wr => ∃ (i' : Nat) (X : Int) (b : Bool), v6 = .int .i64 X ∧ v7 = .bool b ∧ v22 = .int .i64 (i' : Int) ∧ i' ≤ G.length ∧ Hid (X = IntKind.i64.wrap (vO (atG x (G.take i') none)) ∧ b = bO (atG x (G.take i') none)) ∧ Hid (Below w1.heap.size w1 wr)) (fun _ _ i _ => G.length - (intOf i).toNat)
  case atStart => exact ⟨0, 0, false, rfl, rfl, rfl, Nat.zero_le _, hid ⟨by rw [show vO (atG x (G.take 0) none) = 0 from rfl, wrap_l (by unfold I64; omega)], rfl⟩, B0⟩
  case round =>
    obtain ⟨i', X, b, rfl, rfl, rfl, hi, hX, hb⟩ := hrel
    clear B0
    by_cases hlt : i' < G.length
    · obtain ⟨g, hg⟩ : ∃ g, G[i']? = some g := ⟨_, List.getElem?_eq_getElem hlt⟩
      obtain ⟨gb, go', eg, -, g0, g1, g2, g3, g4, gok⟩ := gp_at (HX.out wr hb.out).2.1 hg
      subst eg
      obtain ⟨low1, low2, low3⟩ := HG.out g (List.mem_of_getElem? hg)
      obtain ⟨I0, I1, I2, I3, I4⟩ := gok
      have GOK1 := hid I1
      unfold I64 at I2 I4
      have TK := hid (show G.take (i' + 1) = G.take i' ++ [g] by rw [List.take_add_one, hg]; rfl)
      obtain ⟨w9, hw9⟩ : ∃ W, W = wr.alloc (.cells #[.int .i64 g.f, .int .i64 g.v, .int .i64 g.w, .int .i64 g.r, .int .i64 g.c] 45) := ⟨_, rfl⟩
      obtain ⟨k9, hk9⟩ : ∃ k, k = wr.heap.size := ⟨_, rfl⟩
      have b9 : Below wr.heap.size wr w9 := by rw [hw9]; exact bel_alloc _ _
      have X9 : Box w9 k9 (gpC g) := by rw [hw9, hk9]; exact Box.new wr (gpC g) _
      have b19 := bel_on hb.out b9
      have HX9 := hid (fun (W : World) (k : Below w9.heap.size w9 W) => (⟨X9.on k, bel_on b19 k⟩ : Box W k9 (gpC g) ∧ Below w1.heap.size w1 W))
      have B9 := hid (Below.refl w9.heap.size w9)
      have d0 := X9.cell 0 _ rfl; have d1 := X9.cell 1 _ rfl; have l9 := X9.lt
      have HW := hid hw9
      have HK := hid hk9
      have i1 : (i' : Int) < (G.length : Int) := by omega
      clear hg b9 X9 b19 hw9 hk9 I0 I1 I3 hb
      go_upto_region 7 with fail
      rw [← HW.out, ← HK.out]
      clear HW HK g0 g1 g2 g3 g4
      by_cases hf : x < g.f
      · have zf : decide (x < g.f) = true := decide_eq_true hf
        have NX := hid (show X = IntKind.i64.wrap (vO (atG x (G.take (i' + 1)) none)) ∧ b = bO (atG x (G.take (i' + 1)) none) by
          rw [TK.out, atG_app]
          show X = IntKind.i64.wrap (vO (if g.f ≤ x then _ else _)) ∧ b = bO (if g.f ≤ x then _ else _)
          rw [if_neg (by omega)]
          exact hX.out)
        have NB := hid (HX9.out w9 B9.out).2
        clear HX9 B9 hX TK hf
        go_wp2
        go_roundw
        case rel => exact ⟨i' + 1, X, b, rfl, rfl, rfl, by omega, NX, NB⟩
        case measure => simp [intOf]; omega
      · have zf : decide (x < g.f) = false := decide_eq_false hf
        have NX := hid (fun (Y : Int) (h : Y = IntKind.i64.wrap (valG g x)) => (show Y = IntKind.i64.wrap (vO (atG x (G.take (i' + 1)) none)) ∧ true = bO (atG x (G.take (i' + 1)) none) by
          rw [TK.out, atG_app]
          show Y = IntKind.i64.wrap (vO (if g.f ≤ x then _ else _)) ∧ true = bO (if g.f ≤ x then _ else _)
          rw [if_pos (by omega)]
          exact ⟨h, rfl⟩))
        have W0 := hid (show g.v = IntKind.i64.wrap (g.v + g.r * (1 - 1)) by
          rw [show g.r * (1 - 1) = 0 by simp, Int.add_zero, wrap_l (GOK1.out)])
        clear hX TK
        go_wp2
        clear d0 d1 l9 zf
        go_loopw [6, 10] (fun v6 v10 wr => ∃ X k : Int, v6 = .int .i64 X ∧ v10 = .int .i64 k ∧ 1 ≤ k ∧ k ≤ g.c ∧ Hid (k = 1 ∨ 0 < g.w ∧ k - 1 ≤ (x - g.f) / g.w) ∧ Hid (X = IntKind.i64.wrap (g.v + g.r * (k - 1))) ∧ Hid (Below w9.heap.size w9 wr)) (fun _ k _ => (g.c - intOf k).toNat)
        case atStart => exact ⟨g.v, 1, rfl, rfl, by omega, low3, hid (.inl rfl), W0, B9⟩
        case round =>
          clear W0 B9
          obtain ⟨X2, k, rfl, rfl, k0, kc, hK, hX2, hb2⟩ := hrel
          obtain ⟨Y9, yb⟩ := HX9.out wr hb2.out
          have d0 := Y9.cell 0 _ rfl; have d2 := Y9.cell 2 _ rfl; have d3 := Y9.cell 3 _ rfl; have d4 := Y9.cell 4 _ rfl; have l9 := Y9.lt
          have YB := hid yb
          clear Y9 yb
          by_cases hw : 0 < g.w
          rotate_left
          · have z1 : decide (0 < g.w) = false := decide_eq_false hw
            have NY := hid (NX.out X2 (by
              rw [hX2.out, val_low hw]
              have : k = 1 := by rcases hK.out with h | h <;> omega
              rw [this, show g.r * (1 - 1) = 0 by simp, Int.add_zero]))
            clear NX hX2 hK hb2 HX9
            go_wp2
            go_roundw
            case rel => exact ⟨i' + 1, X2, true, rfl, rfl, rfl, by omega, NY, YB⟩
            case measure => simp [intOf]; omega
          have z1 : decide (0 < g.w) = true := decide_eq_true hw
          obtain ⟨D, hD⟩ : ∃ D, D = (x - g.f) / g.w := ⟨_, rfl⟩
          rw [← hD] at hK
          have KD : k - 1 ≤ D := by
            have : 0 ≤ D := by rw [hD]; exact Int.ediv_nonneg (by omega) (by omega)
            rcases hK.out with h | h <;> omega
          have VA := hid (fun (h : k - 1 = min D (g.c - 1)) => NX.out X2 (by rw [hX2.out, val_at hw (by rw [← hD]; exact h)]))
          by_cases hc : k < g.c
          rotate_left
          · have z2 : decide (k < g.c) = false := decide_eq_false hc
            have NY := hid (VA.out (by omega))
            clear NX hX2 hK hb2 HX9 VA hD
            go_wp2
            go_roundw
            case rel => exact ⟨i' + 1, X2, true, rfl, rfl, rfl, by omega, NY, YB⟩
            case measure => simp [intOf]; omega
          have z2 : decide (k < g.c) = true := decide_eq_true hc
          have y1 : IntKind.i64.wrap (x - g.f) = x - g.f := wrap_l (by unfold I64; omega)
          have y2 : (x - g.f).tdiv g.w = D := by rw [hD]; exact Int.tdiv_eq_ediv_of_nonneg (by omega)
          have DB : 0 ≤ D ∧ D ≤ x - g.f := by
            rw [hD]
            exact ⟨Int.ediv_nonneg (by omega) (by omega), Int.ediv_le_self _ (by omega)⟩
          have y3 : IntKind.i64.wrap D = D := wrap_l (by unfold I64; omega)
          by_cases hd : k ≤ D
          rotate_left
          · have z3 : decide (k ≤ D) = false := decide_eq_false hd
            have NY := hid (VA.out (by omega))
            clear NX hX2 hK hb2 HX9 VA hD
            go_wp2
            go_roundw
            case rel => exact ⟨i' + 1, X2, true, rfl, rfl, rfl, by omega, NY, YB⟩
            case measure => simp [intOf]; omega
          have z3 : decide (k ≤ D) = true := decide_eq_true hd
          have y4 : IntKind.i64.wrap (k + 1) = k + 1 := wrap_l (by unfold I64; omega)
          obtain ⟨X3, hX3⟩ : ∃ Y, IntKind.i64.wrap (X2 + g.r) = Y := ⟨_, rfl⟩
          have NY := hid (show X3 = IntKind.i64.wrap (g.v + g.r * (k + 1 - 1)) by rw [← hX3, hX2.out, wrap_step])
          have NK := hid (show k + 1 = 1 ∨ 0 < g.w ∧ k + 1 - 1 ≤ (x - g.f) / g.w by rw [← hD]; exact .inr ⟨hw, by omega⟩)
          clear hX2 hK HX9 VA hD YB
          go_wp2
          go_roundw
          case rel => exact ⟨X3, k + 1, rfl, rfl, by omega, by omega, NK, NY, hb2⟩
          case measure => simp [intOf]; omega
    · have e1 : G.take i' = G := List.take_of_length_le (by omega)
      have E := hid (show X = RN ∧ b = RB by
        have h := hX.out
        rw [e1] at h
        exact ⟨by rw [HRN.out]; exact h.1, by rw [HRB.out]; exact h.2⟩)
      have BF := hid (HX.out wr hb.out).2.2
      clear e1 hX hb
      go_wp2
      go_ret2
      obtain ⟨e2, e3⟩ := E.out
      subst e2 e3
      exact ⟨rfl, BF.out⟩
end Go.Proofs.Ytemjmdfmcblgnaa.R15
/- Package curve, walked: the search among groups, and At. -/
namespace Go.Proofs.Ytemjmdfmcblgnaa.Cc
open Go.RowKit Go.Sort P Mm R6 R14 R15
attribute [local go_sem] Oper.semAt_some
theorem nan_int (a : Int) (w : World) : Calls Try.prog 38 #[.int .i64 a] w fun e w' => e = .returned (.bool false) ∧ Below w.heap.size w w' := by
  have B := hid (Below.refl w.heap.size w)
  have z : (a == a) = true := by rw [beq_iff_eq]
  go_enter Try.func38, Try.ntmps38
  go_wp2
  go_ret
  exact ⟨rfl, B.out⟩
def cmpI (a b : Int) : Int := if a < b then -1 else if b < a then 1 else 0
set_option maxHeartbeats 1600000 in
theorem cmp_int (a b : Int) (w : World) : Calls Try.prog 36 #[.int .i64 a, .int .i64 b] w fun e w' => e = .returned (.int .i64 (cmpI a b)) ∧ Below w.heap.size w w' := by
  have c1 := hid (nan_int a w)
  have c2 := hid (fun W => nan_int b W)
  go_enter Try.func36, Try.ntmps36
  go_wp2_with fail
  refine c1.out.mono ?_
  rintro e w1 ⟨rfl, b1⟩
  have B1 := hid b1
  clear b1 c1
  go_wp2_with fail
  refine (c2.out w1).mono ?_
  rintro e w2 ⟨rfl, b2⟩
  have B2 := hid (bel_on B1.out b2)
  clear b2 c2 B1
  by_cases h1 : a < b
  · have z : decide (a < b) = true := decide_eq_true h1
    have E := hid (show cmpI a b = -1 by unfold cmpI; rw [if_pos h1])
    clear h1
    go_wp2
    go_ret
    exact ⟨by rw [E.out]; rfl, B2.out⟩
  · have z : decide (a < b) = false := decide_eq_false h1
    by_cases h2 : b < a
    · have z2 : decide (b < a) = true := decide_eq_true h2
      have E := hid (show cmpI a b = 1 by unfold cmpI; rw [if_neg h1, if_pos h2])
      clear h1 h2
      go_wp2
      go_ret
      exact ⟨by rw [E.out]; rfl, B2.out⟩
    · have z2 : decide (b < a) = false := decide_eq_false h2
      have E := hid (show cmpI a b = 0 by unfold cmpI; rw [if_neg h1, if_neg h2])
      clear h1 h2
      go_wp2
      go_ret
      exact ⟨by rw [E.out]; rfl, B2.out⟩
set_option maxHeartbeats 1600000 in
theorem side_any (g : Gp) (q : Int) (w : World) :
    Calls Try.prog 27 #[.agg #[.int .i64 g.f, .int .i64 g.v, .int .i64 g.w, .int .i64 g.r, .int .i64 g.c], .int .i64 q] w fun e w' => e = .returned (.int .i64 (cmpI g.f q)) ∧ Below w.heap.size w w' := by
  obtain ⟨w1, hw1⟩ : ∃ W, W = w.alloc (.cells (gpC g).toArray 45) := ⟨_, rfl⟩
  obtain ⟨k1, hk1⟩ : ∃ k, k = w.heap.size := ⟨_, rfl⟩
  have b1 : Below w.heap.size w w1 := by rw [hw1]; exact bel_alloc _ _
  have X1 : Box w1 k1 (gpC g) := by rw [hw1, hk1]; exact Box.new w _ _
  have c0 := X1.cell 0 _ rfl
  have l1 := X1.lt
  have B := hid b1
  have cS := hid (cmp_int g.f q w1)
  have HW := hid (show w1 = w.alloc (.cells #[.int .i64 g.f, .int .i64 g.v, .int .i64 g.w, .int .i64 g.r, .int .i64 g.c] 45) from hw1)
  have HK := hid hk1
  clear hw1 hk1 X1 b1
  go_enter Try.func27, Try.ntmps27
  go_upto_region 1 with fail
  rw [← HW.out, ← HK.out]
  clear HW HK
  go_wp2_with fail
  refine cS.out.mono ?_
  rintro e w2 ⟨rfl, b2⟩
  have B2 := hid (bel_on B.out b2)
  clear b2 cS B
  go_wp2
  go_ret
  exact ⟨rfl, B2.out⟩
/-- What a search for a quantity among groups answers. -/
def SrchG (q : Int) (G : List Gp) (e : Ending) : Prop := ∃ (lo : Nat) (ok : Bool), lo ≤ G.length ∧ e = .returned (.tuple #[.int .i64 (lo : Int), .bool ok]) ∧ ((ok = true ∧ ∃ g, G[lo]? = some g ∧ g.f = q) ∨ (ok = false ∧ (∀ j g, j < lo → G[j]? = some g → g.f < q) ∧ (∀ j g, lo ≤ j → G[j]? = some g → q < g.f)))
theorem srch_yes {q : Int} {G : List Gp} {e : Ending} {lo : Nat} {g : Gp} (hl : lo ≤ G.length) (he : e = .returned (.tuple #[.int .i64 (lo : Int), .bool true])) (h1 : G[lo]? = some g) (h2 : g.f = q) : SrchG q G e := ⟨lo, true, hl, he, .inl ⟨rfl, g, h1, h2⟩⟩
theorem srch_no {q : Int} {G : List Gp} {e : Ending} {lo : Nat} (hl : lo ≤ G.length) (he : e = .returned (.tuple #[.int .i64 (lo : Int), .bool false])) (h1 : ∀ j g, j < lo → G[j]? = some g → g.f < q) (h2 : ∀ j g, lo ≤ j → G[j]? = some g → q < g.f) : SrchG q G e := ⟨lo, false, hl, he, .inr ⟨rfl, h1, h2⟩⟩
set_option maxHeartbeats 1600000 in
set_option maxRecDepth 100000 in
theorem search_any (q : Int) (G : List Gp) (ao : Option Addr) (cap : Nat) (w : World) (hr : Row tGp w ao G.length cap G) (hn : G.length ≤ 100000) (hi : incG G) :
    Calls Try.prog 26 #[.slice ao G.length cap, .int .i64 q, .func (.func 27) #[] #[]] w fun e w' => SrchG q G e ∧ Below w.heap.size w w' := by
  obtain ⟨n, hnn⟩ : ∃ n, n = G.length := ⟨_, rfl⟩
  have INC := hid (inc_lt G hi)
  have HR := hid (fun (W : World) (b : Below w.heap.size w W) => hr.on b)
  have lm := hr.hmax
  have lc := hr.hcap
  rw [← hnn] at HR hn lc ⊢
  have HN := hid hnn
  have B0 := hid (Below.refl w.heap.size w)
  clear hr hnn hi
  go_enter Try.func26, Try.ntmps26
  go_wp2
  go_loopw [9, 10] (fun i j wr => ∃ (lo hi : Nat), i = .int .i64 (lo : Int) ∧ j = .int .i64 (hi : Int) ∧ lo ≤ hi ∧ hi ≤ n ∧ Hid (∀ j g, j < lo → G[j]? = some g → g.f < q) ∧ Hid (∀ j g, hi ≤ j → G[j]? = some g → q ≤ g.f) ∧ Hid (Below w.heap.size w wr)) (fun i j _ => (intOf j).toNat - (intOf i).toNat)
  case atStart => exact ⟨0, n, rfl, rfl, Nat.zero_le _, Nat.le_refl _, hid (fun j r h => absurd h (Nat.not_lt_zero _)), hid (fun j r h e => by rw [List.getElem?_eq_none (by have := HN.out; omega)] at e; cases e), B0⟩
  case round =>
    obtain ⟨lo, hi, rfl, rfl, hlh, hhn, hL, hH, hb⟩ := hrel
    clear B0
    by_cases hlt : lo < hi
    · have w1 : IntKind.i64.wrap ((lo : Int) + (hi : Int)) = (lo : Int) + (hi : Int) := wrap_l (by unfold I64; omega)
      have w2 : IntKind.u64.wrap ((lo : Int) + (hi : Int)) = (lo : Int) + (hi : Int) := by rw [IntKind.wrap_u64]; omega
      obtain ⟨m, hm⟩ : ∃ m, m = (lo + hi) / 2 := ⟨_, rfl⟩
      have w3 : ((lo : Int) + (hi : Int)) / 2 = (m : Int) := by omega
      have w4 : IntKind.i64.wrap (m : Int) = (m : Int) := wrap_l (by unfold I64; omega)
      have w5 : IntKind.u64.wrap (m : Int) = (m : Int) := by rw [IntKind.wrap_u64]; omega
      have w6 : IntKind.i64.wrap ((m : Int) + 1) = (m : Int) + 1 := wrap_l (by unfold I64; omega)
      obtain ⟨r, hr⟩ : ∃ r, G[m]? = some r := ⟨_, List.getElem?_eq_getElem (by have := HN.out; omega)⟩
      obtain ⟨gb, go, eg, lg, s0, s1, s2, s3, s4, -⟩ := gp_at (HR.out wr hb.out) hr
      subst eg
      have cS := hid (side_any r q wr)
      have mlt : (m : Int) < (n : Int) := by omega
      have m0 : (0 : Int) ≤ (m : Int) := by omega
      by_cases hrb : r.f < q
      · have z : decide (cmpI r.f q < 0) = true := by unfold cmpI; rw [if_pos hrb]; rfl
        obtain ⟨sd, hsd⟩ : ∃ s, s = cmpI r.f q := ⟨_, rfl⟩
        rw [← hsd] at z cS
        have NL := hid (show ∀ j g, j < m + 1 → G[j]? = some g → g.f < q from fun j s hj hs => by
          rcases Nat.lt_or_ge j m with k | k
          · have := INC.out _ _ _ _ k hs hr
            omega
          · obtain rfl : j = m := by omega
            rw [hr] at hs
            obtain rfl := Option.some.inj hs
            exact hrb)
        have hm1 : lo ≤ m ∧ m < hi := by omega
        clear hsd hrb hm hr
        go_wp2_with fail
        refine cS.out.mono ?_
        rintro e wz ⟨rfl, hbz⟩
        have BZ := hid (bel_on hb.out hbz)
        clear cS hbz
        go_wp2
        go_roundw
        case rel => exact ⟨m + 1, hi, by simp, rfl, by omega, hhn, NL, hH, BZ⟩
        case measure => simp [intOf]; omega
      · have z : decide (cmpI r.f q < 0) = false := by
          unfold cmpI
          rw [if_neg hrb]
          split <;> rfl
        obtain ⟨sd, hsd⟩ : ∃ s, s = cmpI r.f q := ⟨_, rfl⟩
        rw [← hsd] at z cS
        have NH := hid (show ∀ j g, m ≤ j → G[j]? = some g → q ≤ g.f from fun j s hj hs => by
          rcases Nat.lt_or_ge m j with k | k
          · have := INC.out _ _ _ _ k hr hs
            omega
          · obtain rfl : j = m := by omega
            rw [hr] at hs
            obtain rfl := Option.some.inj hs
            omega)
        have hm1 : lo ≤ m ∧ m < hi := by omega
        clear hsd hrb hm hr
        go_wp2_with fail
        refine cS.out.mono ?_
        rintro e wz ⟨rfl, hbz⟩
        have BZ := hid (bel_on hb.out hbz)
        clear cS hbz
        go_wp2
        go_roundw
        case rel => exact ⟨lo, m, rfl, rfl, by omega, by omega, hL, NH, BZ⟩
        case measure => simp [intOf]; omega
    · obtain rfl : lo = hi := by omega
      by_cases hln : lo < n
      · obtain ⟨r, hr⟩ : ∃ r, G[lo]? = some r := ⟨_, List.getElem?_eq_getElem (by have := HN.out; omega)⟩
        obtain ⟨gb, go, eg, lg, s0, s1, s2, s3, s4, -⟩ := gp_at (HR.out wr hb.out) hr
        subst eg
        have cS := hid (side_any r q wr)
        have mlt : (lo : Int) < (n : Int) := by omega
        have m0 : (0 : Int) ≤ (lo : Int) := by omega
        have xb := hH.out lo r (Nat.le_refl _) hr
        by_cases hra : r.f = q
        · have z : (cmpI r.f q == 0) = true := by unfold cmpI; rw [if_neg (by omega), if_neg (by omega)]; rfl
          obtain ⟨sd, hsd⟩ : ∃ s, s = cmpI r.f q := ⟨_, rfl⟩
          rw [← hsd] at z cS
          have HRR := hid hr
          have HEQ := hid hra
          clear hsd hra hr xb
          go_wp2_with fail
          refine cS.out.mono ?_
          rintro e wz ⟨rfl, hbz⟩
          have BZ := hid (bel_on hb.out hbz)
          clear cS hbz
          go_wp2
          go_ret2
          exact ⟨srch_yes (lo := lo) (by have := HN.out; omega) rfl HRR.out HEQ.out, BZ.out⟩
        · have z : (cmpI r.f q == 0) = false := by unfold cmpI; rw [if_neg (by omega), if_pos (by omega)]; rfl
          obtain ⟨sd, hsd⟩ : ∃ s, s = cmpI r.f q := ⟨_, rfl⟩
          rw [← hsd] at z cS
          have FV := hid (show ∀ j g, lo ≤ j → G[j]? = some g → q < g.f from fun j s hj hs => by
            rcases Nat.lt_or_ge lo j with k | k
            · have := INC.out _ _ _ _ k hr hs
              omega
            · obtain rfl : j = lo := by omega
              rw [hr] at hs
              obtain rfl := Option.some.inj hs
              omega)
          clear hsd hra hr xb
          go_wp2_with fail
          refine cS.out.mono ?_
          rintro e wz ⟨rfl, hbz⟩
          have BZ := hid (bel_on hb.out hbz)
          clear cS hbz
          go_wp2
          go_ret2
          exact ⟨srch_no (lo := lo) (by have := HN.out; omega) rfl hL.out FV.out, BZ.out⟩
      · have z9 : ¬ (lo : Int) < (n : Int) := by omega
        have FV := hid (show ∀ j g, lo ≤ j → G[j]? = some g → q < g.f from fun j s hj hs => by rw [List.getElem?_eq_none (by have := HN.out; omega)] at hs; cases hs)
        go_wp2
        go_ret2
        exact ⟨srch_no (lo := lo) (by have := HN.out; omega) rfl hL.out FV.out, hb.out⟩
end Go.Proofs.Ytemjmdfmcblgnaa.Cc
/- Package curve, walked: At. -/
namespace Go.Proofs.Ytemjmdfmcblgnaa.Cc
open Go.RowKit Go.Sort P Mm R6 R14 R15
attribute [local go_sem] Oper.semAt_some
theorem w64 (n : Int) : IntKind.i64.wrap n = wrap64 n := IntWalk.i64_left n
theorem wrap_val (v r k : Int) : IntKind.i64.wrap (v + IntKind.i64.wrap (r * k)) = IntKind.i64.wrap (v + r * k) := by
  rw [IntKind.wrap_i64, IntKind.wrap_i64, IntKind.wrap_i64]
  omega
set_option maxHeartbeats 4000000 in
set_option maxRecDepth 100000 in
theorem at_any (m : Int) (G : List Gp) (ao : Option Addr) (cap : Nat) (x : Int) (w : World) (hl : Row tGp w ao G.length cap G) (hg : ∀ g ∈ G, Low g) (hi : incG G) (hn : G.length ≤ 100000) (hx : I64 x) :
    Calls Try.prog 13 #[.agg #[.int .i64 m, .slice ao G.length cap], .int .i64 x] w fun e w' => e = .returned (.tuple #[.int .i64 (rN m G x), .bool (rB m G x)]) ∧ Below w.heap.size w w' := by
  obtain ⟨w1, hw1⟩ : ∃ W, W = w.alloc (.cells ([.int .i64 m, .slice ao G.length cap] : List Value).toArray 26) := ⟨_, rfl⟩
  obtain ⟨k1, hk1⟩ : ∃ k, k = w.heap.size := ⟨_, rfl⟩
  have b1 : Below w.heap.size w w1 := by rw [hw1]; exact bel_alloc _ _
  have X1 : Box w1 k1 [.int .i64 m, .slice ao G.length cap] := by rw [hw1, hk1]; exact Box.new w _ _
  have HX := hid (fun (W : World) (k : Below w1.heap.size w1 W) => (⟨X1.on k, hl.on (bel_on b1 k), bel_on b1 k⟩ : Box W k1 [.int .i64 m, .slice ao G.length cap] ∧ Row tGp W ao G.length cap G ∧ Below w.heap.size w W))
  have cS := hid (search_any x G ao cap w1 (hl.on b1) hn hi)
  have BF := hid b1
  have HG := hid hg
  have INC := hid hi
  have lm := hl.hmax
  have lc := hl.hcap
  have HW := hid hw1
  have HK := hid hk1
  have c0 := X1.cell 0 _ rfl
  have c1 := X1.cell 1 _ rfl
  have l1 := X1.lt
  obtain ⟨RN, hRN⟩ : ∃ R, R = rN m G x := ⟨_, rfl⟩
  obtain ⟨RB, hRB⟩ : ∃ R, R = rB m G x := ⟨_, rfl⟩
  rw [← hRN, ← hRB]
  have OUT := hid (show ¬ (0 ≤ x ∧ x ≤ m) → RN = 0 ∧ RB = false from fun h => by rw [hRN, hRB]; unfold rN rB; rw [if_neg h, if_neg h]; exact ⟨rfl, rfl⟩)
  have INN := hid (show 0 ≤ x ∧ x ≤ m → RN = IntKind.i64.wrap (vO (atG x G none)) ∧ RB = bO (atG x G none) from fun h => by rw [hRN, hRB]; unfold rN rB; rw [if_pos h, if_pos h]; exact ⟨rfl, rfl⟩)
  unfold I64 at hx
  clear hw1 hk1 X1 b1 hl hg hRN hRB hi
  go_enter Try.func13, Try.ntmps13
  go_upto_region 1 with fail
  rw [← HW.out, ← HK.out]
  clear HW HK
  by_cases h1 : x < 0
  · have z1 : decide (x < 0) = true := decide_eq_true h1
    obtain ⟨e1, e2⟩ := OUT.out (by omega)
    subst e1 e2
    clear OUT INN HX
    go_wp2
    go_ret2
    exact ⟨rfl, BF.out⟩
  have z1 : decide (x < 0) = false := decide_eq_false h1
  by_cases h2 : m < x
  · have z2 : decide (m < x) = true := decide_eq_true h2
    obtain ⟨e1, e2⟩ := OUT.out (by omega)
    subst e1 e2
    clear OUT INN HX
    go_wp2
    go_ret2
    exact ⟨rfl, BF.out⟩
  have z2 : decide (m < x) = false := decide_eq_false h2
  have HR := hid (INN.out (by omega))
  have x0 : 0 ≤ x := by omega
  clear OUT INN h1 h2
  go_wp2_with fail
  refine cS.out.mono ?_
  rintro e w2 ⟨⟨lo, ok, hlo, rfl, hs⟩, b2⟩
  obtain ⟨Y1, R2, BW2⟩ := HX.out w2 b2
  have BF2 := hid BW2
  have d0 := Y1.cell 0 _ rfl
  have d1 := Y1.cell 1 _ rfl
  have l2 := Y1.lt
  clear z1 z2 c0 c1 l1 BF cS HX b2 BW2 Y1
  rcases hs with ⟨rfl, g, hg, hf⟩ | ⟨rfl, h1, h2⟩
  · have HIT := hid (show atG x G none = some (valG g x) from atG_hit hg (by omega) (fun j z hj hz => by have := inc_lt G INC.out lo j g z hj hg hz; omega) none)
    have hgf : g.f ≤ x := by omega
    have i1 : (lo : Int) < (G.length : Int) := by have := (List.getElem?_eq_some_iff.1 hg).1; omega
    have i2 : (0 : Int) ≤ (lo : Int) := by omega
    have i3 : decide ((lo : Int) < 0) = false := decide_eq_false (by omega)
    clear hf
    obtain ⟨gb, go', eg, -, g0, g1, g2, g3, g4, gok⟩ := gp_at R2 hg
    subst eg
    obtain ⟨low1, low2, low3⟩ := HG.out g (List.mem_of_getElem? hg)
    obtain ⟨I0, I1, I2, I3, I4⟩ := gok
    obtain ⟨w9, hw9⟩ : ∃ W, W = w2.alloc (.cells #[.int .i64 g.f, .int .i64 g.v, .int .i64 g.w, .int .i64 g.r, .int .i64 g.c] 45) := ⟨_, rfl⟩
    obtain ⟨k9, hk9⟩ : ∃ k, k = w2.heap.size := ⟨_, rfl⟩
    have b9 : Below w2.heap.size w2 w9 := by rw [hw9]; exact bel_alloc _ _
    have X9 : Box w9 k9 (gpC g) := by rw [hw9, hk9]; exact Box.new w2 (gpC g) _
    have BF9 := hid (bel_on BF2.out b9)
    have e0 := X9.cell 0 _ rfl; have e1 := X9.cell 1 _ rfl; have e2 := X9.cell 2 _ rfl; have e3 := X9.cell 3 _ rfl; have e4 := X9.cell 4 _ rfl; have l9 := X9.lt
    have HW := hid hw9
    have HK := hid hk9
    have RE := hid (show RN = IntKind.i64.wrap (valG g x) ∧ RB = true by
      have h := HR.out
      rw [HIT.out] at h
      exact h)
    clear b9 X9 hw9 hk9 R2 HR HIT hg BF2 HG
    go_upto_region 9 with fail
    rw [← HW.out, ← HK.out]
    clear HW HK g0 g1 g2 g3 g4
    by_cases hw : g.w < 1
    · have zw : decide (g.w < 1) = true := decide_eq_true hw
      have E := hid (show RN = g.v by
        rw [RE.out.1]
        unfold valG
        rw [if_pos hw, wrap_l I1])
      have E2 := hid RE.out.2
      clear RE
      go_wp2
      go_ret2
      exact ⟨by rw [E.out, E2.out]; rfl, BF9.out⟩
    · have zw : decide (g.w < 1) = false := decide_eq_false hw
      have E := hid (show RN = IntKind.i64.wrap (g.v + IntKind.i64.wrap (g.r * min ((x - g.f) / g.w) (g.c - 1))) by
        rw [wrap_val, RE.out.1]
        unfold valG
        rw [if_neg hw])
      have E2 := hid RE.out.2
      unfold I64 at I2 I4
      have y1 : IntKind.i64.wrap (x - g.f) = x - g.f := wrap_l (by unfold I64; omega)
      obtain ⟨D0, hD0⟩ : ∃ D, D = x - g.f := ⟨_, rfl⟩
      have hD1 : 0 ≤ D0 := by omega
      obtain ⟨D, hD⟩ : ∃ D, D = D0 / g.w := ⟨_, rfl⟩
      have y2 : D0.tdiv g.w = D := by rw [Int.tdiv_eq_ediv_of_nonneg hD1, hD]
      have dI : 0 ≤ D ∧ D ≤ D0 := by
        rw [hD]
        exact ⟨Int.ediv_nonneg hD1 (by omega), Int.ediv_le_self _ hD1⟩
      have y3 : IntKind.i64.wrap D = D := wrap_l (by unfold I64; omega)
      have y4 : IntKind.i64.wrap (g.c - 1) = g.c - 1 := wrap_l (by unfold I64; omega)
      have y5 : ¬ g.w = 0 := by omega
      have y6 : (g.w == 0) = false := by rw [beq_eq_false_iff_ne]; omega
      obtain ⟨C1, hC1⟩ : ∃ C, C = g.c - 1 := ⟨_, rfl⟩
      obtain ⟨q, hq⟩ : ∃ q, q = min D C1 := ⟨_, rfl⟩
      rw [← hD0] at y1 E
      rw [← hC1] at y4 E
      rw [← hD, ← hq] at E
      have q0 := cell_regrown e0
      have q1 := cell_regrown e1
      have q2 := cell_regrown e2
      have q3 := cell_regrown e3
      have q4 := cell_regrown e4
      clear RE
      go_upto_region 11 with fail
      refine wp_region_quiet_below (by kernel_rfl) (by kernel_rfl) ?_
      repeat (go_big_quiet_step (fail))
      refine wpQuiet_nil ?_
      intro _ hw'
      obtain ⟨⟨dq, osq⟩, hw''⟩ := hw'
      subst hw''
      have bz := hid (bel_on BF9.out (below_regrown w9 dq osq))
      obtain ⟨wz, hwz⟩ : ∃ wz, wz = grow (redrawn w9 dq) osq := ⟨_, rfl⟩
      rw [← hwz] at bz ⊢
      clear hwz q0 q1 q2 q3 q4
      go_wp2_with fail
      · have e : q = g.c - 1 := by
          rw [hD0] at hD
          omega
        go_ret2
        exact ⟨by rw [E.out, E2.out, e, w64, w64]; rfl, bz.out⟩
      · have e : q = (x - g.f) / g.w := by
          rw [hD0] at hD
          omega
        go_ret2
        exact ⟨by rw [E.out, E2.out, e, w64, w64]; rfl, bz.out⟩
  · cases lo with
    | zero =>
      have E := hid (show RN = 0 ∧ RB = false by
        have h := HR.out
        rw [atG_none (fun j z hz => h2 j z (Nat.zero_le _) hz)] at h
        exact h)
      have i4 : IntKind.i64.wrap (0 - 1) = -1 := by decide
      clear h1 h2 HR
      go_wp2
      go_ret2
      exact ⟨by rw [E.out.1, E.out.2]; rfl, BF2.out⟩
    | succ lo =>
      have hlt : lo < G.length := by omega
      obtain ⟨g, hg⟩ : ∃ g, G[lo]? = some g := ⟨_, List.getElem?_eq_getElem hlt⟩
      have hgf : g.f ≤ x := by have := h1 lo g (by omega) hg; omega
      have HIT := hid (show atG x G none = some (valG g x) from atG_hit hg hgf (fun j z hj hz => h2 j z (by omega) hz) none)
      have i1 : (lo : Int) < (G.length : Int) := by omega
      have i2 : (0 : Int) ≤ (lo : Int) := by omega
      have i3 : decide ((lo : Int) < 0) = false := decide_eq_false (by omega)
      have i4 : IntKind.i64.wrap ((((lo + 1 : Nat) : Int)) - 1) = (lo : Int) := by rw [show (((lo + 1 : Nat) : Int)) - 1 = (lo : Int) by omega]; exact wrap_l (by unfold I64; omega)
      clear h1 h2 hlt
      obtain ⟨gb, go', eg, -, g0, g1, g2, g3, g4, gok⟩ := gp_at R2 hg
      subst eg
      obtain ⟨low1, low2, low3⟩ := HG.out g (List.mem_of_getElem? hg)
      obtain ⟨I0, I1, I2, I3, I4⟩ := gok
      obtain ⟨w9, hw9⟩ : ∃ W, W = w2.alloc (.cells #[.int .i64 g.f, .int .i64 g.v, .int .i64 g.w, .int .i64 g.r, .int .i64 g.c] 45) := ⟨_, rfl⟩
      obtain ⟨k9, hk9⟩ : ∃ k, k = w2.heap.size := ⟨_, rfl⟩
      have b9 : Below w2.heap.size w2 w9 := by rw [hw9]; exact bel_alloc _ _
      have X9 : Box w9 k9 (gpC g) := by rw [hw9, hk9]; exact Box.new w2 (gpC g) _
      have BF9 := hid (bel_on BF2.out b9)
      have e0 := X9.cell 0 _ rfl; have e1 := X9.cell 1 _ rfl; have e2 := X9.cell 2 _ rfl; have e3 := X9.cell 3 _ rfl; have e4 := X9.cell 4 _ rfl; have l9 := X9.lt
      have HW := hid hw9
      have HK := hid hk9
      have RE := hid (show RN = IntKind.i64.wrap (valG g x) ∧ RB = true by
        have h := HR.out
        rw [HIT.out] at h
        exact h)
      clear b9 X9 hw9 hk9 R2 HR HIT hg BF2 HG
      go_upto_region 9 with fail
      rw [← HW.out, ← HK.out]
      clear HW HK g0 g1 g2 g3 g4
      by_cases hw : g.w < 1
      · have zw : decide (g.w < 1) = true := decide_eq_true hw
        have E := hid (show RN = g.v by
          rw [RE.out.1]
          unfold valG
          rw [if_pos hw, wrap_l I1])
        have E2 := hid RE.out.2
        clear RE
        go_wp2
        go_ret2
        exact ⟨by rw [E.out, E2.out]; rfl, BF9.out⟩
      · have zw : decide (g.w < 1) = false := decide_eq_false hw
        have E := hid (show RN = IntKind.i64.wrap (g.v + IntKind.i64.wrap (g.r * min ((x - g.f) / g.w) (g.c - 1))) by
          rw [wrap_val, RE.out.1]
          unfold valG
          rw [if_neg hw])
        have E2 := hid RE.out.2
        unfold I64 at I2 I4
        have y1 : IntKind.i64.wrap (x - g.f) = x - g.f := wrap_l (by unfold I64; omega)
        obtain ⟨D0, hD0⟩ : ∃ D, D = x - g.f := ⟨_, rfl⟩
        have hD1 : 0 ≤ D0 := by omega
        obtain ⟨D, hD⟩ : ∃ D, D = D0 / g.w := ⟨_, rfl⟩
        have y2 : D0.tdiv g.w = D := by rw [Int.tdiv_eq_ediv_of_nonneg hD1, hD]
        have dI : 0 ≤ D ∧ D ≤ D0 := by
          rw [hD]
          exact ⟨Int.ediv_nonneg hD1 (by omega), Int.ediv_le_self _ hD1⟩
        have y3 : IntKind.i64.wrap D = D := wrap_l (by unfold I64; omega)
        have y4 : IntKind.i64.wrap (g.c - 1) = g.c - 1 := wrap_l (by unfold I64; omega)
        have y5 : ¬ g.w = 0 := by omega
        have y6 : (g.w == 0) = false := by rw [beq_eq_false_iff_ne]; omega
        obtain ⟨C1, hC1⟩ : ∃ C, C = g.c - 1 := ⟨_, rfl⟩
        obtain ⟨q, hq⟩ : ∃ q, q = min D C1 := ⟨_, rfl⟩
        rw [← hD0] at y1 E
        rw [← hC1] at y4 E
        rw [← hD, ← hq] at E
        have q0 := cell_regrown e0
        have q1 := cell_regrown e1
        have q2 := cell_regrown e2
        have q3 := cell_regrown e3
        have q4 := cell_regrown e4
        clear RE
        go_upto_region 11 with fail
        refine wp_region_quiet_below (by kernel_rfl) (by kernel_rfl) ?_
        repeat (go_big_quiet_step (fail))
        refine wpQuiet_nil ?_
        intro _ hw'
        obtain ⟨⟨dq, osq⟩, hw''⟩ := hw'
        subst hw''
        have bz := hid (bel_on BF9.out (below_regrown w9 dq osq))
        obtain ⟨wz, hwz⟩ : ∃ wz, wz = grow (redrawn w9 dq) osq := ⟨_, rfl⟩
        rw [← hwz] at bz ⊢
        clear hwz q0 q1 q2 q3 q4
        go_wp2_with fail
        · have e : q = g.c - 1 := by
            rw [hD0] at hD
            omega
          go_ret2
          exact ⟨by rw [E.out, E2.out, e, w64, w64]; rfl, bz.out⟩
        · have e : q = (x - g.f) / g.w := by
            rw [hD0] at hD
            omega
          go_ret2
          exact ⟨by rw [E.out, E2.out, e, w64, w64]; rfl, bz.out⟩
end Go.Proofs.Ytemjmdfmcblgnaa.Cc
/- Package curve, walked: Same, step, beyond. -/
namespace Go.Proofs.Ytemjmdfmcblgnaa.Cc
open Go.RowKit Go.Sort Go.Shelf P Mm R6 R14 R15 L14
attribute [local go_sem] Oper.semAt_some
set_option maxHeartbeats 4000000 in
set_option maxRecDepth 100000 in
theorem eqs_any (R S : List Gp) (ao : Option Addr) (cap : Nat) (bo : Option Addr) (bcap : Nat) (w : World) (hr : Row tGp w ao R.length cap R) (hs : Row tGp w bo S.length bcap S) :
    Calls Try.prog 31 #[.slice ao R.length cap, .slice bo S.length bcap] w fun e w' => e = .returned (.bool (decide (R = S))) ∧ Below w.heap.size w w' := by
  obtain ⟨n, hnn⟩ : ∃ n, n = R.length := ⟨_, rfl⟩
  obtain ⟨m, hmm⟩ : ∃ m, m = S.length := ⟨_, rfl⟩
  have lc := hr.hcap
  have lm := hr.hmax
  have lc2 := hs.hcap
  have lm2 := hs.hmax
  have HR := hid (fun (W : World) (b : Below w.heap.size w W) => hr.on b)
  have HS := hid (fun (W : World) (b : Below w.heap.size w W) => hs.on b)
  rw [← hnn] at HR lc ⊢
  rw [← hmm] at HS lc2 ⊢
  have HN := hid hnn
  have HM := hid hmm
  have B0 := hid (Below.refl w.heap.size w)
  clear hr hs hnn hmm
  by_cases hlen : n = m
  · have z : ((n : Int) == (m : Int)) = true := by rw [beq_iff_eq]; omega
    subst hlen
    go_enter Try.func31, Try.ntmps31
    go_wp2
    go_loopw [13] (fun i wr => ∃ (i' : Nat), i = .int .i64 (i' : Int) ∧ i' ≤ n ∧ Hid (R.take i' = S.take i') ∧ Hid (Below w.heap.size w wr)) (fun i _ => n - (intOf i).toNat)
    case atStart => exact ⟨0, rfl, Nat.zero_le _, hid rfl, B0⟩
    case round =>
      obtain ⟨i', rfl, hi, hT, hb⟩ := hrel
      clear B0
      by_cases hlt : i' < n
      · obtain ⟨r, hr⟩ : ∃ r, R[i']? = some r := ⟨_, List.getElem?_eq_getElem (by have := HN.out; omega)⟩
        obtain ⟨s, hs⟩ : ∃ s, S[i']? = some s := ⟨_, List.getElem?_eq_getElem (by have := HM.out; omega)⟩
        obtain ⟨gb, go, eg, lg, s0, s1, s2, s3, s4, -⟩ := gp_at (HR.out wr hb.out) hr
        obtain ⟨hb', ho, eh, lh, t0, t1, t2, t3, t4, -⟩ := gp_at (HS.out wr hb.out) hs
        subst eg eh
        have i0 : (i' : Int) < (n : Int) := by omega
        have i2 : (0 : Int) ≤ (i' : Int) := by omega
        by_cases hrs : r = s
        · subst hrs
          have HT := hid (show R.take (i' + 1) = S.take (i' + 1) by rw [List.take_add_one, List.take_add_one, hT.out, hr, hs])
          clear hr hs
          go_wp2_with fail
          go_quiet (fail)
          go_wp2
          go_roundw
          case rel => exact ⟨i' + 1, by simp, by omega, HT, hid (bel_drewN hb.out _)⟩
          case measure => simp [intOf]; omega
        · have HD := hid (show decide (R = S) = false from decide_eq_false fun e => by
            rw [e, hs] at hr
            exact hrs (Option.some.inj hr).symm)
          have NE := hid hrs
          clear hr hs hrs
          by_cases h0 : r.f = s.f
          rotate_left
          · have q : (r.f == s.f) = false := by rw [beq_eq_false_iff_ne]; exact h0
            clear h0 NE
            go_wp2_with fail
            go_quiet (fail)
            go_wp2
            go_ret
            exact ⟨by rw [HD.out]; rfl, bel_drewN hb.out _⟩
          have z0 : (r.f == s.f) = true := by rw [beq_iff_eq]; exact h0
          by_cases h1 : r.v = s.v
          rotate_left
          · have q : (r.v == s.v) = false := by rw [beq_eq_false_iff_ne]; exact h1
            clear h1 NE h0
            go_wp2_with fail
            go_quiet (fail)
            go_wp2
            go_ret
            exact ⟨by rw [HD.out]; rfl, bel_drewN hb.out _⟩
          have z1 : (r.v == s.v) = true := by rw [beq_iff_eq]; exact h1
          by_cases h2 : r.w = s.w
          rotate_left
          · have q : (r.w == s.w) = false := by rw [beq_eq_false_iff_ne]; exact h2
            clear h2 NE h0 h1
            go_wp2_with fail
            go_quiet (fail)
            go_wp2
            go_ret
            exact ⟨by rw [HD.out]; rfl, bel_drewN hb.out _⟩
          have z2 : (r.w == s.w) = true := by rw [beq_iff_eq]; exact h2
          by_cases h3 : r.r = s.r
          rotate_left
          · have q : (r.r == s.r) = false := by rw [beq_eq_false_iff_ne]; exact h3
            clear h3 NE h0 h1 h2
            go_wp2_with fail
            go_quiet (fail)
            go_wp2
            go_ret
            exact ⟨by rw [HD.out]; rfl, bel_drewN hb.out _⟩
          have z3 : (r.r == s.r) = true := by rw [beq_iff_eq]; exact h3
          by_cases h4 : r.c = s.c
          rotate_left
          · have q : (r.c == s.c) = false := by rw [beq_eq_false_iff_ne]; exact h4
            clear h4 NE h0 h1 h2 h3
            go_wp2_with fail
            go_quiet (fail)
            go_wp2
            go_ret
            exact ⟨by rw [HD.out]; rfl, bel_drewN hb.out _⟩
          have z4 : (r.c == s.c) = true := by rw [beq_iff_eq]; exact h4
          exact absurd (by cases r; cases s; simp_all) NE.out
      · have HD := hid (show decide (R = S) = true from decide_eq_true (by
          have e := hT.out
          rw [List.take_of_length_le (by have := HN.out; omega), List.take_of_length_le (by have := HM.out; omega)] at e
          exact e))
        go_wp2
        go_ret
        exact ⟨by rw [HD.out]; rfl, hb.out⟩
  · have z : ((n : Int) == (m : Int)) = false := by rw [beq_eq_false_iff_ne]; omega
    have HD := hid (show decide (R = S) = false from decide_eq_false fun e => hlen (by rw [HN.out, HM.out, e]))
    go_enter Try.func31, Try.ntmps31
    go_wp2
    go_ret
    exact ⟨by rw [HD.out]; rfl, B0.out⟩
set_option maxHeartbeats 1600000 in
set_option maxRecDepth 100000 in
theorem same_any (m : Int) (R : List Gp) (ao : Option Addr) (cap : Nat) (m' : Int) (S : List Gp) (bo : Option Addr) (bcap : Nat) (w : World) (hr : Row tGp w ao R.length cap R) (hs : Row tGp w bo S.length bcap S) :
    Calls Try.prog 18 #[.agg #[.int .i64 m, .slice ao R.length cap], .agg #[.int .i64 m', .slice bo S.length bcap]] w fun e w' => e = .returned (.bool (eqC m R m' S)) ∧ Below w.heap.size w w' := by
  obtain ⟨w1, hw1⟩ : ∃ W, W = w.alloc (.cells ([.int .i64 m, .slice ao R.length cap] : List Value).toArray 26) := ⟨_, rfl⟩
  obtain ⟨k1, hk1⟩ : ∃ k, k = w.heap.size := ⟨_, rfl⟩
  have b1 : Below w.heap.size w w1 := by rw [hw1]; exact bel_alloc _ _
  have X1 : Box w1 k1 [.int .i64 m, .slice ao R.length cap] := by rw [hw1, hk1]; exact Box.new w _ _
  obtain ⟨w2, hw2⟩ : ∃ W, W = w1.alloc (.cells ([.int .i64 m', .slice bo S.length bcap] : List Value).toArray 26) := ⟨_, rfl⟩
  obtain ⟨k2, hk2⟩ : ∃ k, k = w1.heap.size := ⟨_, rfl⟩
  have b2 : Below w1.heap.size w1 w2 := by rw [hw2]; exact bel_alloc _ _
  have X2 : Box w2 k2 [.int .i64 m', .slice bo S.length bcap] := by rw [hw2, hk2]; exact Box.new w1 _ _
  have b12 := bel_on b1 b2
  have cE := hid (eqs_any R S ao cap bo bcap w2 (hr.on b12) (hs.on b12))
  have c0 := (X1.on b2).cell 0 _ rfl
  have c1 := (X1.on b2).cell 1 _ rfl
  have l1 := (X1.on b2).lt
  have d0 := X2.cell 0 _ rfl
  have d1 := X2.cell 1 _ rfl
  have l2 := X2.lt
  have B := hid b12
  have HW := hid (show w2 = (w.alloc (.cells #[.int .i64 m, .slice ao R.length cap] 26)).alloc (.cells #[.int .i64 m', .slice bo S.length bcap] 26) by rw [hw2, hw1])
  have HK1 := hid hk1
  have HK2 := hid (show k2 = w.heap.size + 1 by rw [hk2, hw1]; simp)
  clear hw1 hk1 X1 b1 hw2 hk2 X2 b2 b12 hr hs
  obtain ⟨a, haa⟩ : ∃ a, a = R.length := ⟨_, rfl⟩
  obtain ⟨b, hbb⟩ : ∃ b, b = S.length := ⟨_, rfl⟩
  rw [← haa] at cE c1 HW ⊢
  rw [← hbb] at cE d1 HW ⊢
  clear haa hbb
  by_cases hm : m = m'
  · have z : (m == m') = true := by rw [beq_iff_eq]; exact hm
    have E := hid (show eqC m R m' S = decide (R = S) by unfold eqC; rw [decide_eq_true hm, Bool.true_and])
    clear hm
    go_enter Try.func18, Try.ntmps18
    go_upto_region 1 with fail
    rw [← HW.out, ← HK2.out, ← HK1.out]
    clear HW HK1 HK2
    go_wp2_with fail
    refine cE.out.mono ?_
    rintro e w3 ⟨rfl, b3⟩
    have BF := hid (bel_on B.out b3)
    clear b3 cE
    go_wp2
    go_ret
    exact ⟨by rw [E.out]; rfl, BF.out⟩
  · have z : (m == m') = false := by rw [beq_eq_false_iff_ne]; exact hm
    have E := hid (show eqC m R m' S = false by unfold eqC; rw [decide_eq_false hm, Bool.false_and])
    clear hm cE
    go_enter Try.func18, Try.ntmps18
    go_upto_region 1 with fail
    rw [← HW.out, ← HK2.out, ← HK1.out]
    clear HW HK1 HK2
    go_wp2
    go_ret
    exact ⟨by rw [E.out]; rfl, B.out⟩
/-- How far one plateau begins behind another, and how much greater its value is. -/
theorem step_any (x y : Rn Int) (w : World) :
    Calls Try.prog 35 #[.agg #[.int .i64 x.a, .int .i64 x.b, .int .i64 x.v], .agg #[.int .i64 y.a, .int .i64 y.b, .int .i64 y.v]] w fun e w' => e = .returned (.tuple #[.int .i64 (IntKind.i64.wrap (y.a - x.a)), .int .i64 (IntKind.i64.wrap (y.v - x.v))]) ∧ Below w.heap.size w w' := by
  obtain ⟨w1, hw1⟩ : ∃ W, W = w.alloc (.cells ([.int .i64 x.a, .int .i64 x.b, .int .i64 x.v] : List Value).toArray 51) := ⟨_, rfl⟩
  obtain ⟨k1, hk1⟩ : ∃ k, k = w.heap.size := ⟨_, rfl⟩
  have b1 : Below w.heap.size w w1 := by rw [hw1]; exact bel_alloc _ _
  have X1 : Box w1 k1 [.int .i64 x.a, .int .i64 x.b, .int .i64 x.v] := by rw [hw1, hk1]; exact Box.new w _ _
  obtain ⟨w2, hw2⟩ : ∃ W, W = w1.alloc (.cells ([.int .i64 y.a, .int .i64 y.b, .int .i64 y.v] : List Value).toArray 51) := ⟨_, rfl⟩
  obtain ⟨k2, hk2⟩ : ∃ k, k = w1.heap.size := ⟨_, rfl⟩
  have b2 : Below w1.heap.size w1 w2 := by rw [hw2]; exact bel_alloc _ _
  have X2 : Box w2 k2 [.int .i64 y.a, .int .i64 y.b, .int .i64 y.v] := by rw [hw2, hk2]; exact Box.new w1 _ _
  have B := hid (bel_on b1 b2)
  have c0 := (X1.on b2).cell 0 _ rfl
  have c2 := (X1.on b2).cell 2 _ rfl
  have l1 := (X1.on b2).lt
  have d0 := X2.cell 0 _ rfl
  have d2 := X2.cell 2 _ rfl
  have l2 := X2.lt
  have HW := hid (show w2 = (w.alloc (.cells #[.int .i64 x.a, .int .i64 x.b, .int .i64 x.v] 51)).alloc (.cells #[.int .i64 y.a, .int .i64 y.b, .int .i64 y.v] 51) by rw [hw2, hw1])
  have HK1 := hid hk1
  have HK2 := hid (show k2 = w.heap.size + 1 by rw [hk2, hw1]; simp)
  obtain ⟨A, hA⟩ : ∃ A, A = IntKind.i64.wrap (y.a - x.a) := ⟨_, rfl⟩
  obtain ⟨V, hV⟩ : ∃ V, V = IntKind.i64.wrap (y.v - x.v) := ⟨_, rfl⟩
  rw [← hA, ← hV]
  have EA : IntKind.i64.wrap (y.a - x.a) = A := hA.symm
  have EV : IntKind.i64.wrap (y.v - x.v) = V := hV.symm
  clear hw1 hk1 X1 b1 hw2 hk2 X2 b2 hA hV
  go_enter Try.func35, Try.ntmps35
  go_upto_region 1 with fail
  rw [← HW.out, ← HK2.out, ← HK1.out]
  clear HW HK1 HK2
  go_wp2_with fail
  go_quiet (fail)
  go_wp2
  go_ret2
  exact ⟨rfl, bel_drewN B.out _⟩
/-- Whether a value is none of a curve's. -/
theorem beyond_any (x : Rn Int) (w : World) :
    Calls Try.prog 23 #[.agg #[.int .i64 x.a, .int .i64 x.b, .int .i64 x.v]] w fun e w' => e = .returned (.bool (bigB x.v)) ∧ Below w.heap.size w w' := by
  obtain ⟨w1, hw1⟩ : ∃ W, W = w.alloc (.cells ([.int .i64 x.a, .int .i64 x.b, .int .i64 x.v] : List Value).toArray 51) := ⟨_, rfl⟩
  obtain ⟨k1, hk1⟩ : ∃ k, k = w.heap.size := ⟨_, rfl⟩
  have b1 : Below w.heap.size w w1 := by rw [hw1]; exact bel_alloc _ _
  have X1 : Box w1 k1 [.int .i64 x.a, .int .i64 x.b, .int .i64 x.v] := by rw [hw1, hk1]; exact Box.new w _ _
  have c2 := X1.cell 2 _ rfl
  have l1 := X1.lt
  have B := hid b1
  have HW := hid (show w1 = w.alloc (.cells #[.int .i64 x.a, .int .i64 x.b, .int .i64 x.v] 51) from hw1)
  have HK := hid hk1
  clear hw1 hk1 X1 b1
  by_cases h1 : x.v < -2305843009213693952
  · have z1 : decide (x.v < -2305843009213693952) = true := decide_eq_true h1
    have E := hid (show bigB x.v = true by unfold bigB; rw [z1, Bool.or_true])
    clear h1
    go_enter Try.func23, Try.ntmps23
    go_upto_region 1 with fail
    rw [← HW.out, ← HK.out]
    clear HW HK
    go_wp2
    go_ret
    exact ⟨by rw [E.out]; rfl, B.out⟩
  have z1 : decide (x.v < -2305843009213693952) = false := decide_eq_false h1
  obtain ⟨q, hq⟩ : ∃ q, q = decide (2305843009213693952 < x.v) := ⟨_, rfl⟩
  have z2 : decide (2305843009213693952 < x.v) = q := hq.symm
  have E := hid (show bigB x.v = q by unfold bigB; rw [z1, Bool.or_false, hq])
  clear h1 hq
  go_enter Try.func23, Try.ntmps23
  go_upto_region 1 with fail
  rw [← HW.out, ← HK.out]
  clear HW HK
  cases q
  · go_wp2
    go_ret
    exact ⟨by rw [E.out]; rfl, B.out⟩
  · go_wp2
    go_ret
    exact ⟨by rw [E.out]; rfl, B.out⟩
def tIdx (n : Int) (e : Ending) (b : Bool) : Prop := e = .returned (.int .i64 n) ∧ (b = decide (0 ≤ n))
set_option maxHeartbeats 1600000 in
set_option maxRecDepth 100000 in
theorem index_any (R : List (Rn Int)) (ao : Option Addr) (cap : Nat) (w : World) (hr : Row tRn w ao R.length cap R) :
    Calls Try.prog 34 #[.slice ao R.length cap, .func (.func 23) #[] #[]] w fun e w' => (∃ n, tIdx n e (R.any fun r => bigB r.v)) ∧ Below w.heap.size w w' := by
  obtain ⟨n, hnn⟩ : ∃ n, n = R.length := ⟨_, rfl⟩
  have lc := hr.hcap
  have lm := hr.hmax
  have HR := hid (fun (W : World) (b : Below w.heap.size w W) => hr.on b)
  rw [← hnn] at HR lc ⊢
  have HN := hid hnn
  have B0 := hid (Below.refl w.heap.size w)
  clear hr hnn
  go_enter Try.func34, Try.ntmps34
  go_wp2
  go_loopw [8] (fun i wr => ∃ (i' : Nat), i = .int .i64 (i' : Int) ∧ i' ≤ n ∧ Hid (∀ j r, j < i' → R[j]? = some r → bigB r.v = false) ∧ Hid (Below w.heap.size w wr)) (fun i _ => n - (intOf i).toNat)
  case atStart => exact ⟨0, rfl, Nat.zero_le _, hid (fun j r h => absurd h (Nat.not_lt_zero _)), B0⟩
  case round =>
    obtain ⟨i', rfl, hi, hT, hb⟩ := hrel
    clear B0
    by_cases hlt : i' < n
    · obtain ⟨r, hr⟩ : ∃ r, R[i']? = some r := ⟨_, List.getElem?_eq_getElem (by have := HN.out; omega)⟩
      obtain ⟨gb, go, eg, lg, s0, s1, s2, -⟩ := rn_at (HR.out wr hb.out) hr
      subst eg
      have cS := hid (beyond_any r wr)
      have mlt : (i' : Int) < (n : Int) := by omega
      have m0 : (0 : Int) ≤ (i' : Int) := by omega
      obtain ⟨q, hq⟩ : ∃ q, q = bigB r.v := ⟨_, rfl⟩
      rw [← hq] at cS
      have HH := hid hr
      have HQ := hid hq
      clear hr hq
      cases q
      · have NT := hid (show ∀ j s, j < i' + 1 → R[j]? = some s → bigB s.v = false from fun j s hj hs => by
          rcases Nat.lt_or_ge j i' with k | k
          · exact hT.out j s k hs
          · obtain rfl : j = i' := by omega
            rw [HH.out] at hs
            obtain rfl := Option.some.inj hs
            exact HQ.out.symm)
        clear HH HQ hT
        go_wp2_with fail
        refine cS.out.mono ?_
        rintro e wz ⟨rfl, hbz⟩
        have BZ := hid (bel_on hb.out hbz)
        clear cS hbz
        go_wp2
        go_roundw
        case rel => exact ⟨i' + 1, by simp, by omega, NT, BZ⟩
        case measure => simp [intOf]; omega
      · have E := hid (show (R.any fun r => bigB r.v) = decide (0 ≤ (i' : Int)) by
          rw [decide_eq_true m0, List.any_eq_true]
          exact ⟨r, List.mem_of_getElem? HH.out, HQ.out.symm⟩)
        clear HH HQ hT
        go_wp2_with fail
        refine cS.out.mono ?_
        rintro e wz ⟨rfl, hbz⟩
        have BZ := hid (bel_on hb.out hbz)
        clear cS hbz
        go_wp2
        go_ret
        exact ⟨⟨_, rfl, E.out⟩, BZ.out⟩
    · have E := hid (show (R.any fun r => bigB r.v) = decide ((0 : Int) ≤ -1) by
        rw [show decide ((0 : Int) ≤ -1) = false by decide, List.any_eq_false]
        intro r hr
        obtain ⟨j, hj⟩ := List.getElem?_of_mem hr
        have := (List.getElem?_eq_some_iff.1 hj).1
        rw [hT.out j r (by have := HN.out; omega) hj]
        simp)
      go_wp2
      go_ret
      exact ⟨⟨_, rfl, E.out⟩, hb.out⟩
theorem contains_any (R : List (Rn Int)) (ao : Option Addr) (cap : Nat) (w : World) (hr : Row tRn w ao R.length cap R) :
    Calls Try.prog 22 #[.slice ao R.length cap, .func (.func 23) #[] #[]] w fun e w' => e = .returned (.bool (R.any fun r => bigB r.v)) ∧ Below w.heap.size w w' := by
  have cI := hid (index_any R ao cap w hr)
  obtain ⟨Q, hQ⟩ : ∃ Q, Q = (R.any fun r => bigB r.v) := ⟨_, rfl⟩
  rw [← hQ] at cI ⊢
  clear hr hQ
  go_enter Try.func22, Try.ntmps22
  go_wp2_with fail
  refine cI.out.mono ?_
  rintro e w1 ⟨⟨n, rfl, hq⟩, b1⟩
  have B1 := hid b1
  clear b1 cI
  have E := hid hq
  clear hq
  go_wp2
  go_ret
  exact ⟨by rw [E.out]; rfl, B1.out⟩
end Go.Proofs.Ytemjmdfmcblgnaa.Cc
