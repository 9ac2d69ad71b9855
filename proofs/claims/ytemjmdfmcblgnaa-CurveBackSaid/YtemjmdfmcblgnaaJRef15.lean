/- The document's curve of numbers (poundageref15.Of): where there is none, and where plateaus begin. -/
import Derived.Test.YtemjmdfmcblgnaaJL15
import Derived.Test.YtemjmdfmcblgnaaJRef6d
import Derived.Deep.RegionHeld3
namespace Go.Proofs.Ytemjmdfmcblgnaa.P
end Go.Proofs.Ytemjmdfmcblgnaa.P
namespace Go.Proofs.Ytemjmdfmcblgnaa.Mm
end Go.Proofs.Ytemjmdfmcblgnaa.Mm
namespace Go.Proofs.Ytemjmdfmcblgnaa.R6
end Go.Proofs.Ytemjmdfmcblgnaa.R6
namespace Go.Proofs.Ytemjmdfmcblgnaa.R14
end Go.Proofs.Ytemjmdfmcblgnaa.R14
namespace Go.Proofs.Ytemjmdfmcblgnaa.R15
open Go.RowKit Go.Sort P Mm R6 R14
theorem bel_below2 {a b c : World} (h : Below a.heap.size a b) (k : Below b.heap.size b c) : Below a.heap.size a c := bel_on h k
def stL (l : List Int) : List Int := (runsF 0 l).map fun r => r.a
theorem st_same {l : List Int} {i : Nat} {p v : Int} (hp : l[i]? = some p) (hv : l[i + 1]? = some v) (h : p = v) : stL (l.take (i + 2)) = stL (l.take (i + 1)) := by
  unfold stL
  obtain ⟨ys, a, hy⟩ := runs_last 0 l hp
  rw [runs_take 0 l hv, hy, add_same (by exact h), List.map_append, List.map_append]
  rfl
theorem st_new {l : List Int} {i : Nat} {p v : Int} (hp : l[i]? = some p) (hv : l[i + 1]? = some v) (h : p ≠ v) : stL (l.take (i + 2)) = stL (l.take (i + 1)) ++ [((i : Int) + 1)] := by
  unfold stL
  obtain ⟨ys, a, hy⟩ := runs_last 0 l hp
  rw [runs_take 0 l hv, hy, add_new (by exact h), List.map_append]
  congr 1
  show [(0 : Int) + ((i + 1 : Nat) : Int)] = _
  congr 1
  omega
theorem st_first {l : List Int} {v : Int} (hv : l[0]? = some v) : stL (l.take 1) = [0] := by
  cases l with
  | nil => cases hv
  | cons x r => rfl
theorem st_len (l : List Int) : (stL l).length ≤ l.length := by
  unfold stL
  rw [List.length_map]
  exact runs_len l 0
theorem any_take {l : List Int} (h : ∀ (j : Nat) (v : Int), j < l.length → l[j]? = some v → bigB v = false) : l.any bigB = false := by
  rw [List.any_eq_false]
  intro v hv
  obtain ⟨j, hj, e⟩ := List.mem_iff_getElem.1 hv
  rw [h j v hj (by rw [← e]; exact List.getElem?_eq_getElem hj)]
  simp
theorem runs_val : ∀ (l : List Int) (k : Int), ∀ r ∈ runsF k l, l[(r.a - k).toNat]? = some r.v
  | [], _, r, h => by cases h
  | v :: l, k, r, h => by
    have ih := runs_val l (k + 1)
    have hin := runs_in l (k + 1)
    have far : ∀ z ∈ runsF (k + 1) l, (v :: l)[(z.a - k).toNat]? = some z.v := fun z hz => by
      have h1 := ih z hz
      have h2 := (hin z hz).1
      rw [show (z.a - k).toNat = (z.a - (k + 1)).toNat + 1 by omega, List.getElem?_cons_succ]
      exact h1
    unfold runsF at h
    split at h
    · rw [List.mem_singleton] at h
      subst h
      rw [show (k - k).toNat = 0 by omega]
      rfl
    · rename_i z zs e
      rw [e] at far
      split at h
      · rcases List.mem_cons.1 h with rfl | h
        · rw [show (k - k).toNat = 0 by omega]
          rfl
        · exact far r (List.mem_cons_of_mem _ h)
      · rcases List.mem_cons.1 h with rfl | h
        · rw [show (k - k).toNat = 0 by omega]
          rfl
        · exact far r h
/-- What Of answers, of numbers from 0 on: Max, the groups. -/
def oM (l : List Int) : Int := if curB l = true then (l.length : Int) - 1 else 0
def oG (l : List Int) : List Gp := if curB l = true then curG l else []
theorem o_no {l : List Int} (h : curB l = false) : oM l = 0 ∧ oG l = [] := by
  unfold oM oG
  rw [h]
  exact ⟨rfl, rfl⟩
theorem o_yes {l : List Int} (h : curB l = true) : oM l = (l.length : Int) - 1 ∧ oG l = curG l := by
  unfold oM oG
  rw [h]
  exact ⟨rfl, rfl⟩
theorem gp_nil {w : World} : Row tGp w none 0 0 [] := ⟨rfl, Nat.le_refl _, by decide, fun h => absurd rfl h⟩
theorem cur_big {l : List Int} {j : Nat} {v : Int} (h : l[j]? = some v) (hb : bigB v = true) : curB l = false := by
  unfold curB
  rw [show l.any bigB = true from List.any_eq_true.2 ⟨v, List.mem_of_getElem? h, hb⟩]
  simp
theorem results_ct {P : Program} {fn : Func} {p q : Tmp} {ty : TypeId} (h : fn.results = #[.cell p ty, .tmp q]) (tmps : Array Value) (w : World) (b : Nat) (cs : List Value) (d : TypeDesc)
    (hp : tmps.getD p undef = .pointer (some ⟨b, 0, none⟩)) (hc : w.rangeAt b 0 cs) (hu : P.underlying ty = some d) (hd : d.isRow = true) (hi : (P.info? ty).map (·.size) = some cs.length) :
    (results fn tmps).run P w = .ok (.tuple #[.agg cs.toArray, tmps.getD q undef]) w := by
  have hp' : tmps[p]?.getD undef = .pointer (some ⟨b, 0, none⟩) := by simpa using hp
  simp [results, h, hp', asAddr, run_loadVar_mid w b 0 ty cs d hc hu hd hi]
theorem info_gp : (Try.prog.info? 45).map (fun i => (i.zero, i.size, i.bytes)) = some (some (.agg #[.int .i64 0, .int .i64 0, .int .i64 0, .int .i64 0, .int .i64 0]), 5, 40) := by kernel_rfl
theorem grp_ok : ∀ (n : Nat) (rs : List (Rn Int)), rs.length ≤ n → rs.length ≤ 100000 → (∀ r ∈ rs, 0 ≤ r.a ∧ r.a ≤ 100000 ∧ -2305843009213693952 ≤ r.v ∧ r.v ≤ 2305843009213693952) → ∀ g ∈ grp rs, GpOk g
  | 0, rs, h, _, _, g, hg => by
    obtain rfl : rs = [] := List.eq_nil_of_length_eq_zero (by omega)
    cases hg
  | _ + 1, [], _, _, _, g, hg => by cases hg
  | _ + 1, [p], _, _, hr, g, hg => by
    have := hr p (List.mem_cons_self ..)
    rw [grp_one, List.mem_singleton] at hg
    subst hg
    exact ⟨by show I64 p.a; unfold I64; omega, by show I64 p.v; unfold I64; omega, by show I64 0; unfold I64; omega, by show I64 0; unfold I64; omega, by show I64 1; unfold I64; omega⟩
  | n + 1, p :: q :: l, h, h2, hr, g, hg => by
    rw [List.length_cons, List.length_cons] at h h2
    have h3 := hr p (List.mem_cons_self ..)
    have h4 := hr q (List.mem_cons_of_mem _ (List.mem_cons_self ..))
    have h5 := extN_le (q.a - p.a) (q.v - p.v) l q.a q.v
    rw [grp_two] at hg
    rcases List.mem_cons.1 hg with rfl | hg
    · exact ⟨by show I64 p.a; unfold I64; omega, by show I64 p.v; unfold I64; omega, by show I64 (q.a - p.a); unfold I64; omega, by show I64 (q.v - p.v); unfold I64; omega, by show I64 ((extN (q.a - p.a) (q.v - p.v) q.a q.v l : Int) + 2); unfold I64; omega⟩
    · exact grp_ok n _ (by rw [List.length_drop]; omega) (by rw [List.length_drop]; omega) (fun r hm => hr r (List.mem_cons_of_mem _ (List.mem_cons_of_mem _ (List.mem_of_mem_drop hm)))) g hg
theorem cur_ok {l : List Int} (h : curB l = true) : ∀ g ∈ curG l, GpOk g := by
  unfold curB at h
  simp only [Bool.and_eq_true, decide_eq_true_eq, Bool.not_eq_true'] at h
  obtain ⟨⟨_, h2⟩, h3⟩ := h
  have h4 := runs_len l 0
  refine grp_ok _ _ (Nat.le_refl _) (by omega) (fun r hr => ?_)
  obtain ⟨a1, a2, a3, a4⟩ := runs_in l 0 r hr
  have a5 := List.any_eq_false.1 h3 r.v a4
  unfold bigB at a5
  simp only [Bool.or_eq_true, decide_eq_true_eq, not_or] at a5
  omega
/-- Within a round: a group in its own block, beside the curve so far. -/
structure GI (wB w : World) (k7 k9 : Nat) (m : Int) (V : Value) (done : List Gp) (g : Gp) : Prop where
  cur : Box w k7 [.int .i64 m, V]
  own : w.ownsRow (k7 + 1) 45 5 V done.length (done.flatMap gpC)
  ne : V.ownBlock ≠ some k9
  gp : Box w k9 (gpC g)
  bel : Below wB.heap.size wB w
  base : wB.heap.size ≤ k7 ∧ k7 < k9
theorem GI.on {wB w w' : World} {k7 k9 : Nat} {m : Int} {V : Value} {done : List Gp} {g : Gp} (h : GI wB w k7 k9 m V done g) (b : Below w.heap.size w w') : GI wB w' k7 k9 m V done g :=
  ⟨h.cur.on b, owns_on h.own b, h.ne, h.gp.on b, bel_on h.bel b, h.base⟩
theorem GI.put {wB w : World} {k7 k9 : Nat} {m : Int} {V : Value} {done : List Gp} {g g' : Gp} (h : GI wB w k7 k9 m V done g) (i : Nat) (u : Value) (e : gpC g' = (gpC g).set i u) : GI wB (w.setCell ⟨k9, i, none⟩ u) k7 k9 m V done g' :=
  ⟨h.cur.other (p := ⟨k9, i, none⟩) (by have := h.base; show k7 ≠ k9; omega) _, ownsRow_setCell_other h.own (a := ⟨k9, i, none⟩) h.ne u, h.ne, by rw [e]; exact h.gp.set i u, h.bel.setCell (p := ⟨k9, i, none⟩) (by have := h.base; show wB.heap.size ≤ k9; omega) _, h.base⟩
def cOf (w : World) (k : Nat) : Nat := match w.cell? ⟨k, 4, none⟩ with
  | some (.int _ v) => v.toNat
  | _ => 0
theorem GI.count {wB w : World} {k7 k9 : Nat} {m : Int} {V : Value} {done : List Gp} {g : Gp} (h : GI wB w k7 k9 m V done g) : cOf w k9 = g.c.toNat := by
  unfold cOf
  rw [h.gp.cell 4 _ rfl]
theorem drop_hd {ps : List (Rn Int)} {i : Nat} {p : Rn Int} (h : ps[i]? = some p) : ps.drop i = p :: ps.drop (i + 1) := by
  obtain ⟨hi, e⟩ := List.getElem?_eq_some_iff.1 h
  rw [List.drop_eq_getElem_cons hi, e]
theorem drop_two {ps : List (Rn Int)} {i : Nat} {p q : Rn Int} (hp : ps[i]? = some p) (hq : ps[i + 1]? = some q) : ps.drop i = p :: q :: ps.drop (i + 2) := by
  rw [drop_hd hp, drop_hd hq]
theorem drop_one {ps : List (Rn Int)} {i : Nat} {p : Rn Int} (hp : ps[i]? = some p) (h : ps.length = i + 1) : ps.drop i = [p] := by
  rw [drop_hd hp, List.drop_of_length_le (by omega)]
set_option maxHeartbeats 8000000 in
set_option maxRecDepth 100000 in
theorem of_fresh (l : List Int) (ao : Option Addr) (cap : Nat) (w : World) (hl : Row tInt w ao l.length cap l) :
    Calls Try.prog 11 #[.slice ao l.length cap] w fun e w' => (∃ ao' cap', e = .returned (.tuple #[.agg #[.int .i64 (oM l), .slice ao' (oG l).length cap'], .bool (curB l)]) ∧ Row tGp w' ao' (oG l).length cap' (oG l) ∧ ∀ ad : Addr, ao' = some ad → w.heap.size ≤ ad.block) ∧ Below w.heap.size w w' := by
  obtain ⟨w1, hw1⟩ : ∃ W, W = w.alloc (.cells ([.int .i64 0, .slice none 0 0] : List Value).toArray 26) := ⟨_, rfl⟩
  obtain ⟨k1, hk1⟩ : ∃ k, k = w.heap.size := ⟨_, rfl⟩
  have b1 : Below w.heap.size w w1 := by rw [hw1]; exact bel_alloc _ _
  have X1 : Box w1 k1 [.int .i64 0, .slice none 0 0] := by rw [hw1, hk1]; exact Box.new w _ _
  have HX := hid (fun (W : World) (k : Below w1.heap.size w1 W) => (⟨X1.on k, hl.on (bel_on b1 k), bel_on b1 k⟩ : Box W k1 [.int .i64 0, .slice none 0 0] ∧ Row tInt W ao l.length cap l ∧ Below w.heap.size w W))
  have HS := hid (show w.heap.size ≤ k1 by omega)
  have B0 := hid (Below.refl w1.heap.size w1)
  have lm := hl.hmax
  have lc := hl.hcap
  have HW := hid hw1
  have HK := hid hk1
  obtain ⟨i0, hi0, hz0, hz1, hz2⟩ := info_parts R14.info_int
  obtain ⟨j0, hj0, hy0, hy1, hy2⟩ := info_parts info_gp
  have stop := hid (fun (W : World) (k : Below w1.heap.size w1 W) => by
    obtain ⟨Y, _, bW⟩ := HX.out W k
    exact (⟨Y.cell 0 _ rfl, Y.cell 1 _ rfl, Y.free 0, Y.free 1, Y.lt, (Y.set 0 (.int .i64 0)).set 1 (.slice none 0 0), (bW.setCell (p := ⟨k1, 0, none⟩) HS.out _).setCell (p := ⟨k1, 1, none⟩) HS.out _⟩ : W.cell? ⟨k1, 0, none⟩ = some (.int .i64 0) ∧ W.cell? ⟨k1, 1, none⟩ = some (.slice none 0 0) ∧ W.frozen? ⟨k1, 0, none⟩ = false ∧ W.frozen? ⟨k1, 1, none⟩ = false ∧ k1 < W.heap.size ∧ Box ((W.setCell ⟨k1, 0, none⟩ (.int .i64 0)).setCell ⟨k1, 1, none⟩ (.slice none 0 0)) k1 [.int .i64 0, .slice none 0 0] ∧ Below w.heap.size w ((W.setCell ⟨k1, 0, none⟩ (.int .i64 0)).setCell ⟨k1, 1, none⟩ (.slice none 0 0))))
  obtain ⟨M, hM⟩ : ∃ M, M = oM l := ⟨_, rfl⟩
  obtain ⟨G, hG⟩ : ∃ G, G = oG l := ⟨_, rfl⟩
  obtain ⟨Q, hQ⟩ : ∃ Q, Q = curB l := ⟨_, rfl⟩
  rw [← hM, ← hG, ← hQ]
  have NO := hid (fun (h : curB l = false) => (⟨by rw [hM]; exact (o_no h).1, by rw [hG]; exact (o_no h).2, by rw [hQ]; exact h⟩ : M = 0 ∧ G = [] ∧ Q = false))
  have YES := hid (fun (h : curB l = true) => (⟨by rw [hM]; exact (o_yes h).1, by rw [hG]; exact (o_yes h).2, by rw [hQ]; exact h⟩ : M = (l.length : Int) - 1 ∧ G = curG l ∧ Q = true))
  clear hw1 hk1 X1 b1 hl hM hG hQ
  go_enter Try.func11, Try.ntmps11
  go_upto_region 1 with fail
  rw [← HW.out, ← HK.out]
  clear HW HK
  by_cases h1 : l.length = 0
  · have z1 : ((l.length : Int) == 0) = true := by rw [h1]; rfl
    obtain ⟨e1, e2, e3⟩ := NO.out (by unfold curB; rw [h1]; rfl)
    subst e1 e2 e3
    obtain ⟨c0, c1, f0, f1, l1, X2, B2⟩ := stop.out w1 B0.out
    have X2 := hid X2
    have B2 := hid B2
    obtain ⟨wz, hwz⟩ : ∃ W, W = (w1.setCell ⟨k1, 0, none⟩ (.int .i64 0)).setCell ⟨k1, 1, none⟩ (.slice none 0 0) := ⟨_, rfl⟩
    rw [← hwz] at X2 B2
    have HWZ := hid hwz
    clear stop hwz h1
    go_wp2
    rw [← HWZ.out]
    refine bodyPost_ret (v := .tuple #[.agg #[.int .i64 0, .slice none 0 0], .bool false]) ?_ rfl ⟨⟨none, 0, rfl, gp_nil, fun _ e => by cases e⟩, B2.out⟩
    exact results_ct (p := 2) (q := 3) rfl _ _ k1 [.int .i64 0, .slice none 0 0] _ rfl (fun j u h => by rw [Nat.zero_add]; exact X2.out.cell j u h) Try.underlying26 rfl (by kernel_rfl)
  have z1 : ((l.length : Int) == 0) = false := by rw [beq_eq_false_iff_ne]; omega
  by_cases h2 : 2001 < l.length
  · have z2 : decide ((2001 : Int) < (l.length : Int)) = true := decide_eq_true (by omega)
    obtain ⟨e1, e2, e3⟩ := NO.out (by unfold curB; rw [decide_eq_false (by omega : ¬ l.length ≤ 2001), Bool.and_false]; rfl)
    subst e1 e2 e3
    obtain ⟨c0, c1, f0, f1, l1, X2, B2⟩ := stop.out w1 B0.out
    have X2 := hid X2
    have B2 := hid B2
    obtain ⟨wz, hwz⟩ : ∃ W, W = (w1.setCell ⟨k1, 0, none⟩ (.int .i64 0)).setCell ⟨k1, 1, none⟩ (.slice none 0 0) := ⟨_, rfl⟩
    rw [← hwz] at X2 B2
    have HWZ := hid hwz
    clear stop hwz
    go_wp2
    rw [← HWZ.out]
    refine bodyPost_ret (v := .tuple #[.agg #[.int .i64 0, .slice none 0 0], .bool false]) ?_ rfl ⟨⟨none, 0, rfl, gp_nil, fun _ e => by cases e⟩, B2.out⟩
    exact results_ct (p := 2) (q := 3) rfl _ _ k1 [.int .i64 0, .slice none 0 0] _ rfl (fun j u h => by rw [Nat.zero_add]; exact X2.out.cell j u h) Try.underlying26 rfl (by kernel_rfl)
  have z2 : decide ((2001 : Int) < (l.length : Int)) = false := decide_eq_false (by omega)
  have LN := hid (show 0 < l.length ∧ l.length ≤ 2001 by omega)
  have ll : l.length ≤ 2001 := by omega
  clear h1 h2
  go_wp2
  clear z1 z2
  go_loopw [4, 21] (fun v i wr => ∃ (V : Value) (i' : Int) (N : Nat), v = V ∧ i = .int .i64 i' ∧ 0 ≤ i' ∧ i' ≤ l.length ∧ Hid (N = (stL (l.take i'.toNat)).length) ∧ N ≤ 2001 ∧ Hid (wr.ownsRow w1.heap.size 3 1 V N ((stL (l.take i'.toNat)).flatMap intC)) ∧ Hid (∀ (j : Nat) (v : Int), (j : Int) < i' → l[j]? = some v → bigB v = false) ∧ Hid (Below w1.heap.size w1 wr)) (fun _ i _ => ((l.length : Int) - intOf i).toNat)
  case atStart => exact ⟨_, 0, 0, rfl, rfl, Int.le_refl _, by omega, hid rfl, by omega, hid (World.ownsRow_nil _ _ _ _), hid (fun j v h => by omega), B0⟩
  case round =>
    obtain ⟨V, i', N, rfl, rfl, h0, hi, hN, hN2, hO, hA, hb⟩ := hrel
    clear B0
    by_cases hlt : i' < (l.length : Int)
    · obtain ⟨v, hv⟩ : ∃ v, l[i'.toNat]? = some v := ⟨_, List.getElem?_eq_getElem (by omega)⟩
      obtain ⟨b, o, e, lb, q0, -⟩ := int_at (HX.out wr hb.out).2.1 hv
      subst e
      obtain ⟨g1, z1⟩ : ∃ q, decide (2305843009213693952 < v) = q := ⟨_, rfl⟩
      obtain ⟨g2, z2⟩ : ∃ q, decide (v < -2305843009213693952) = q := ⟨_, rfl⟩
      have eb : bigB v = (g1 || g2) := by unfold bigB; rw [z1, z2]
      cases g1 with
      | true =>
        have cb := cur_big hv (by rw [eb]; rfl)
        clear eb hv hO hA hN
        obtain ⟨e1, e2, e3⟩ := NO.out cb
        subst e1 e2 e3
        obtain ⟨c0, c1, f0, f1, l1, X2, B2⟩ := stop.out wr hb.out
        have X2 := hid X2
        have B2 := hid B2
        obtain ⟨wz, hwz⟩ : ∃ W, W = (wr.setCell ⟨k1, 0, none⟩ (.int .i64 0)).setCell ⟨k1, 1, none⟩ (.slice none 0 0) := ⟨_, rfl⟩
        rw [← hwz] at X2 B2
        have HWZ := hid hwz
        clear stop hwz cb hb
        go_wp2
        rw [← HWZ.out]
        refine bodyPost_ret (v := .tuple #[.agg #[.int .i64 0, .slice none 0 0], .bool false]) ?_ rfl ⟨⟨none, 0, rfl, gp_nil, fun _ e => by cases e⟩, B2.out⟩
        exact results_ct (p := 2) (q := 3) rfl _ _ k1 [.int .i64 0, .slice none 0 0] _ rfl (fun j u h => by rw [Nat.zero_add]; exact X2.out.cell j u h) Try.underlying26 rfl (by kernel_rfl)
      | false =>
        cases g2 with
        | true =>
          have cb := cur_big hv (by rw [eb]; rfl)
          clear eb hv hO hA hN
          obtain ⟨e1, e2, e3⟩ := NO.out cb
          subst e1 e2 e3
          obtain ⟨c0, c1, f0, f1, l1, X2, B2⟩ := stop.out wr hb.out
          have X2 := hid X2
          have B2 := hid B2
          obtain ⟨wz, hwz⟩ : ∃ W, W = (wr.setCell ⟨k1, 0, none⟩ (.int .i64 0)).setCell ⟨k1, 1, none⟩ (.slice none 0 0) := ⟨_, rfl⟩
          rw [← hwz] at X2 B2
          have HWZ := hid hwz
          clear stop hwz cb hb
          go_wp2
          rw [← HWZ.out]
          refine bodyPost_ret (v := .tuple #[.agg #[.int .i64 0, .slice none 0 0], .bool false]) ?_ rfl ⟨⟨none, 0, rfl, gp_nil, fun _ e => by cases e⟩, B2.out⟩
          exact results_ct (p := 2) (q := 3) rfl _ _ k1 [.int .i64 0, .slice none 0 0] _ rfl (fun j u h => by rw [Nat.zero_add]; exact X2.out.cell j u h) Try.underlying26 rfl (by kernel_rfl)
        | false =>
          have nb : bigB v = false := eb
          have en : (i' + 1).toNat = i'.toNat + 1 := by omega
          have A2 := hid (show ∀ (j : Nat) (v : Int), (j : Int) < i' + 1 → l[j]? = some v → bigB v = false from fun j u hj hu => by
            by_cases k : (j : Int) < i'
            · exact hA.out j u k hu
            · obtain rfl : j = i'.toNat := by omega
              rw [hv] at hu
              obtain rfl := Option.some.inj hu
              exact nb)
          have LE := hid (show (stL (l.take (i' + 1).toNat)).length ≤ 2001 by
            have := st_len (l.take (i' + 1).toNat)
            rw [List.length_take] at this
            omega)
          have oo := hO.out
          have hsz := hb.out.size
          clear eb nb hA
          by_cases hz : 0 < i'
          · obtain ⟨p, hp⟩ : ∃ p, l[i'.toNat - 1]? = some p := ⟨_, List.getElem?_eq_getElem (by omega)⟩
            obtain ⟨b2, o2, e2, -, q1, -⟩ := int_at (HX.out wr hb.out).2.1 hp
            simp only [Option.some.injEq, Addr.mk.injEq, and_true] at e2
            obtain ⟨rfl, rfl⟩ := e2
            have j0 : 0 ≤ i' - 1 := by omega
            have j1 : i' - 1 < (l.length : Int) := by omega
            have j2 : 1 ≤ i' := by omega
            have j3 : ¬ i' = 0 := by omega
            have z0 : (i' == 0) = false := by rw [beq_eq_false_iff_ne]; omega
            have q2 : wr.cell? ⟨b, o + (i' - 1).toNat, none⟩ = some (.int .i64 p) := by rw [show (i' - 1).toNat = i'.toNat - 1 by omega]; exact q1
            have hv1 : l[(i'.toNat - 1) + 1]? = some v := by rw [show i'.toNat - 1 + 1 = i'.toNat by omega]; exact hv
            have e3 : (i' + 1).toNat = (i'.toNat - 1) + 2 := by omega
            have e4 : i'.toNat = (i'.toNat - 1) + 1 := by omega
            by_cases hpv : p = v
            · have z3 : (p == v) = true := by rw [hpv]; simp
              have ST := st_same hp hv1 hpv
              rw [← e3, ← e4] at ST
              have O2 := hid (show wr.ownsRow w1.heap.size 3 1 u4 N ((stL (l.take (i' + 1).toNat)).flatMap intC) by rw [ST]; exact oo)
              have N2 := hid (show N = (stL (l.take (i' + 1).toNat)).length by rw [ST]; exact hN.out)
              clear ST hv hv1 hp hpv oo hO hN e3 e4
              go_wp2
              go_roundw
              case rel => exact ⟨_, i' + 1, N, rfl, by simp, by omega, by omega, N2, hN2, O2, A2, hb⟩
              case measure => simp [intOf]; omega
            · have z3 : (p == v) = false := by rw [beq_eq_false_iff_ne]; exact hpv
              have ST := st_new hp hv1 hpv
              rw [← e3, ← e4, show ((i'.toNat - 1 : Nat) : Int) + 1 = i' by omega] at ST
              have ST := hid ST
              have HN := hid hN.out
              clear hv hv1 hp hpv hO hN e3 e4
              go_wp2_with (at_builtin; refine wpList_append_own _ rfl _ _ 22 rfl w1.heap.size 3 i0 (.int .i64 0) 1 8 Try.underlying22 hi0 hz0 hz1 hz2 rfl (by decide) _ _ _ rfl (oo.alloc _) ⟨wr.heap.size, 0, none⟩ 1 1 (intC i') rfl rfl (news_at wr (intC i') _) (by simp [intC, Value.oneCell']) (by unfold maxLen; omega) (by omega) (by simp; omega) ?_)
              intro v5 w5 hown hgrow _
              have B5 := hid ((hb.out.alloc hsz _).grown hgrow (hb.out.alloc hsz _).size (fun j hj => (oo.lt j hj).1))
              have O5 := hid (show w5.ownsRow w1.heap.size 3 1 v5 (N + 1) ((stL (l.take (i' + 1).toNat)).flatMap intC) by
                rw [ST.out, List.flatMap_append]
                exact hown)
              have N5 := hid (show N + 1 = (stL (l.take (i' + 1).toNat)).length by rw [ST.out, List.length_append, ← HN.out]; rfl)
              clear hown hgrow oo hb
              go_wp2
              go_roundw
              case rel => exact ⟨_, i' + 1, N + 1, rfl, by simp, by omega, by omega, N5, by have := N5.out; have := LE.out; omega, O5, A2, B5⟩
              case measure => simp [intOf]; omega
          · obtain rfl : i' = 0 := by omega
            have q0' : wr.cell? ⟨b, o, none⟩ = some (.int .i64 v) := q0
            have n1 : 0 < l.length := by omega
            have n2 : ¬ l.length = 0 := by omega
            have ST := hid (show stL (l.take 1) = [0] from st_first hv)
            obtain rfl : N = 0 := by rw [hN.out]; rfl
            clear hv hO hN hz
            go_wp2_with (at_builtin; refine wpList_append_own _ rfl _ _ 22 rfl w1.heap.size 3 i0 (.int .i64 0) 1 8 Try.underlying22 hi0 hz0 hz1 hz2 rfl (by decide) _ _ _ rfl (oo.alloc _) ⟨wr.heap.size, 0, none⟩ 1 1 (intC 0) rfl rfl (news_at wr (intC 0) _) (by simp [intC, Value.oneCell']) (by unfold maxLen; omega) (by omega) (by simp; omega) ?_)
            intro v5 w5 hown hgrow _
            have B5 := hid ((hb.out.alloc hsz _).grown hgrow (hb.out.alloc hsz _).size (fun j hj => (oo.lt j hj).1))
            have O5 := hid (show w5.ownsRow w1.heap.size 3 1 v5 1 ((stL (l.take 1)).flatMap intC) by
              rw [ST.out]
              exact hown)
            clear hown hgrow oo hb
            go_wp2
            go_roundw
            case rel => exact ⟨_, 1, 1, rfl, by simp, by omega, by omega, hid (by rw [show (1 : Int).toNat = 1 from rfl, ST.out]; rfl), by omega, O5, A2, B5⟩
            case measure => simp [intOf]; omega
    · obtain ⟨wB, hwB⟩ : ∃ W, W = wr := ⟨_, rfl⟩
      have e1 : l.take i'.toNat = l := List.take_of_length_le (by omega)
      have oV := hO.out
      rw [e1] at oV hN
      have hnb := any_take (l := l) (fun j v hj hv => hA.out j v (by omega) hv)
      have cb : curB l = true := by
        have := LN.out
        unfold curB
        rw [decide_eq_true this.1, decide_eq_true this.2, hnb]
        rfl
      obtain ⟨y1, y2, y3⟩ := YES.out cb
      have VB := hid (show ∀ v ∈ l, -2305843009213693952 ≤ v ∧ v ≤ 2305843009213693952 from fun v hv => by
        have a5 := List.any_eq_false.1 hnb v hv
        unfold bigB at a5
        simp only [Bool.or_eq_true, decide_eq_true_eq, not_or] at a5
        omega)
      have hn1 : N = (stL l).length := hN.out
      rw [hn1] at oV
      have svals : ∀ x ∈ stL l, I64 x := fun x hx => by
        unfold stL at hx
        obtain ⟨r, hr, rfl⟩ := List.mem_map.1 hx
        have h1 := runs_in l 0 r hr
        unfold I64
        omega
      obtain ⟨sa, sc, e, RS⟩ := row_own (n := 1) (cells := intC) (ok := I64) (hn := fun _ => rfl) oV svals
      rw [← hn1] at e RS
      have HPS := hid (fun (j : Nat) (r : Rn Int) (h : (runsF 0 l)[j]? = some r) => (⟨by unfold stL; rw [List.getElem?_map, h]; rfl, by
        have := runs_val l 0 r (List.mem_of_getElem? h)
        rwa [Int.sub_zero] at this, (runs_in l 0 r (List.mem_of_getElem? h)).1, by have := (runs_in l 0 r (List.mem_of_getElem? h)).2; omega⟩ : (stL l)[j]? = some r.a ∧ l[r.a.toNat]? = some r.v ∧ 0 ≤ r.a ∧ r.a < l.length))
      have hnp : N = (runsF 0 l).length := by rw [hn1]; unfold stL; rw [List.length_map]
      have INC := hid (chain_inc _ _ (chain_runs l 0))
      have GE : G = grp (runsF 0 l) := y2
      have GOK := hid (show ∀ g ∈ G, GpOk g by rw [y2]; exact cur_ok cb)
      obtain ⟨PS, hPS⟩ : ∃ P, P = runsF 0 l := ⟨_, rfl⟩
      rw [← hPS] at HPS hnp INC GE
      obtain ⟨SS, hSS⟩ : ∃ S, S = stL l := ⟨_, rfl⟩
      rw [← hSS] at HPS RS
      subst e
      have sm := RS.hmax
      have scc := RS.hcap
      have RS := hid RS
      have HB := hid hb.out
      rw [← hwB] at RS HB ⊢
      obtain ⟨m, hm⟩ : ∃ m, m = (l.length : Int) - 1 := ⟨_, rfl⟩
      have wm : IntKind.i64.wrap ((l.length : Int) - 1) = (l.length : Int) - 1 := wrap_l (by unfold I64; omega)
      obtain ⟨w7, hw7⟩ : ∃ W, W = wB.alloc (.cells ([.int .i64 m, .slice none 0 0] : List Value).toArray 26) := ⟨_, rfl⟩
      obtain ⟨k7, hk7⟩ : ∃ k, k = wB.heap.size := ⟨_, rfl⟩
      have b7 : Below wB.heap.size wB w7 := by rw [hw7]; exact bel_alloc _ _
      have X7 : Box w7 k7 [.int .i64 m, .slice none 0 0] := by rw [hw7, hk7]; exact Box.new wB _ _
      have s7 : w7.heap.size = k7 + 1 := by rw [hw7, hk7]; simp
      have HW := hid (show w7 = wB.alloc (.cells #[.int .i64 ((l.length : Int) - 1), .slice none 0 0] 26) by rw [hw7, hm])
      have HK := hid hk7
      have HX7 := hid X7
      have B7 := hid b7
      have GE0 := hid (show G = [] ++ grp (PS.drop 0) from GE)
      have HNP := hid hnp
      have S7 := hid (show k7 + 1 ≤ w7.heap.size by omega)
      have HKB := hid (show wB.heap.size ≤ k7 by omega)
      have MM := hid (show M = m ∧ Q = true from ⟨by rw [y1, hm], y3⟩)
      clear hO hA hN oV hb hwB e1 hnb cb y1 y2 y3 hn1 svals hPS hSS hw7 hk7 b7 X7 s7 GE NO YES stop hnp hm
      go_upto_region 13 with fail
      rw [← HW.out, ← HK.out]
      clear HW HK wm hlt hi h0
      go_wp2
      go_loopw [8] (fun i wr => ∃ (i' : Nat) (done : List Gp), i = .int .i64 (i' : Int) ∧ i' ≤ N ∧ Hid (G = done ++ grp (PS.drop i')) ∧ done.length ≤ i' ∧ Hid (∃ V2, Box wr k7 [.int .i64 m, V2] ∧ wr.ownsRow (k7 + 1) 45 5 V2 done.length (done.flatMap gpC)) ∧ Hid (Below wB.heap.size wB wr) ∧ Hid (k7 + 1 ≤ wr.heap.size)) (fun i _ => N - (intOf i).toNat)
      case atStart => exact ⟨0, [], rfl, Nat.zero_le _, GE0, Nat.le_refl _, hid ⟨_, HX7.out, World.ownsRow_nil _ _ _ _⟩, B7, S7⟩
      case round =>
        clear GE0 HX7 B7 S7
        obtain ⟨i', done, rfl, hi, hG, hd, hO, hb, hs⟩ := hrel
        by_cases hlt : i' < N
        · obtain ⟨p, hp⟩ : ∃ p, PS[i']? = some p := ⟨_, List.getElem?_eq_getElem (by rw [← HNP.out]; exact hlt)⟩
          obtain ⟨pS, pL, pa0, pa1⟩ := HPS.out i' p hp
          obtain ⟨sb, so, es, -, s0, -⟩ := int_at (RS.out.on hb.out) pS
          subst es
          obtain ⟨lb2, lo, el, -, v0, -⟩ := int_at ((HX.out wB HB.out).2.1.on hb.out) pL
          subst el
          have K := hid (fun (W : World) (k : Below wr.heap.size wr W) => (⟨by rw [k.cell (block_lt_of_cell s0)]; exact s0, by rw [k.cell (block_lt_of_cell v0)]; exact v0, k⟩ : W.cell? ⟨sb, so + i', none⟩ = some (.int .i64 p.a) ∧ W.cell? ⟨lb2, lo + p.a.toNat, none⟩ = some (.int .i64 p.v) ∧ Below wr.heap.size wr W))
          have B0 := Below.refl wr.heap.size wr
          have HP := hid hp
          have i1 : (i' : Int) < (N : Int) := by omega
          clear hp pS pL
          go_upto_region 15 with fail
          go_region_held3 (fun w' => w'.cell? ⟨sb, so + i', none⟩ = some (.int .i64 p.a) ∧ w'.cell? ⟨lb2, lo + p.a.toNat, none⟩ = some (.int .i64 p.v) ∧ Below wr.heap.size wr w')
            ((refine K.out _ ?_; repeat (first | assumption | exact Below.refl _ _ | (refine Below.drew ?_) | exact bel_alloc _ _ | (refine bel_below2 ?_ (bel_alloc _ _)))))
            (fail)
          obtain ⟨wt, hwt⟩ : ∃ W, W = (wr.alloc (.cells #[.int .i64 p.a, .int .i64 p.v, .int .i64 0, .int .i64 0, .int .i64 1] 45)).drew := ⟨_, rfl⟩
          obtain ⟨k9, hk9⟩ : ∃ k, k = wr.heap.size := ⟨_, rfl⟩
          have bt : Below wr.heap.size wr wt := by rw [hwt]; exact (bel_alloc wr _).drew
          obtain ⟨V2, hV2, oV2⟩ := hO.out
          have GG := hid (show GI wB wt k7 k9 m V2 done ⟨p.a, p.v, 0, 0, 1⟩ from
            ⟨hV2.on bt, owns_on oV2 bt, fun e => by have := (oV2.lt k9 e).2; omega, by rw [hwt, hk9]; exact (Box.new wr [.int .i64 p.a, .int .i64 p.v, .int .i64 0, .int .i64 0, .int .i64 1] _).on ((Below.refl _ _).drew), bel_on hb.out bt, by have := hs.out; have := HKB.out; omega⟩)
          have S9 := hid (show k9 + 1 ≤ wt.heap.size by rw [hwt, hk9]; simp)
          obtain ⟨vo, vc, eV⟩ : ∃ ao cap, V2 = .slice ao done.length cap := by
            rcases oV2.2 with ⟨h1, h2⟩ | ⟨g, cap, cur, h1, _⟩
            · exact ⟨none, 0, by rw [h1, h2]⟩
            · exact ⟨_, cap, h1⟩
          rw [← hwt, ← hk9]
          clear hwt hk9 bt hV2 oV2 hO hb hs K B0 s0 v0
          go_upto_if 73 with fail
          go_cut [] (fun wx => ∃ g : Gp, Hid (GI wB wx k7 k9 m V2 done g) ∧ Hid (grp (PS.drop i') = g :: grp (PS.drop (i' + g.c.toNat))) ∧ Hid (1 ≤ g.c ∧ (i' : Int) + g.c ≤ N) ∧ Hid (k9 + 1 ≤ wx.heap.size))
          case first =>
            by_cases hlast : i' + 1 < N
            rotate_left
            · have zz : decide ((i' : Int) + 1 < (N : Int)) = false := decide_eq_false (by omega)
              have F1 := hid (show grp (PS.drop i') = (⟨p.a, p.v, 0, 0, 1⟩ : Gp) :: grp (PS.drop (i' + (1 : Int).toNat)) by
                rw [drop_one HP.out (by rw [← HNP.out]; omega), grp_one, List.drop_of_length_le (by rw [← HNP.out, show (1 : Int).toNat = 1 from rfl]; omega)]
                rfl)
              have hi2 : (i' : Int) + 1 ≤ N := by omega
              go_wp2
              go_meet
              exact ⟨⟨p.a, p.v, 0, 0, 1⟩, GG, F1, hid ⟨Int.le_refl _, hi2⟩, S9⟩
            · have zz : decide ((i' : Int) + 1 < (N : Int)) = true := decide_eq_true (by omega)
              obtain ⟨q, hq⟩ : ∃ q, PS[i' + 1]? = some q := ⟨_, List.getElem?_eq_getElem (by rw [← HNP.out]; exact hlast)⟩
              obtain ⟨qS, qL, qa0, qa1⟩ := HPS.out (i' + 1) q hq
              obtain ⟨pS, pL, -, -⟩ := HPS.out i' p HP.out
              have hD := drop_two HP.out hq
              have HD := hid hD
              obtain ⟨W0, hW0⟩ : ∃ x, x = q.a - p.a := ⟨_, rfl⟩
              obtain ⟨R0, hR0⟩ : ∃ x, x = q.v - p.v := ⟨_, rfl⟩
              have cells := hid (fun (W : World) (k : Below wB.heap.size wB W) (j : Nat) (r : Rn Int) (h : PS[j]? = some r) => (by
                obtain ⟨rS, rL, r0, r1⟩ := HPS.out j r h
                obtain ⟨sb', so', es', -, s0, -⟩ := int_at (RS.out.on k) rS
                obtain ⟨lb', lo', el', -, v0, vi⟩ := int_at ((HX.out wB HB.out).2.1.on k) rL
                simp only [Option.some.injEq, Addr.mk.injEq, and_true] at es' el'
                obtain ⟨rfl, rfl⟩ := es'
                obtain ⟨rfl, rfl⟩ := el'
                exact ⟨s0, v0, vi, r0, r1⟩ : W.cell? ⟨sb, so + j, none⟩ = some (.int .i64 r.a) ∧ W.cell? ⟨lb2, lo + r.a.toNat, none⟩ = some (.int .i64 r.v) ∧ I64 r.v ∧ 0 ≤ r.a ∧ r.a < l.length))
              have vals := hid (fun (j : Nat) (r : Rn Int) (h : PS[j]? = some r) => VB.out r.v (List.mem_of_getElem? (HPS.out j r h).2.1))
              have bq := vals.out _ q hq
              have bp := vals.out _ p HP.out
              have HQ := hid hq
              have c1 := cells.out wt GG.out.bel (i' + 1) q hq
              have c0 := cells.out wt GG.out.bel i' p HP.out
              have f0 := cell_regrown c0.1
              have f1 := cell_regrown c1.1
              have f2 := cell_regrown c1.2.1
              have f3 := cell_regrown (GG.out.gp.cell 1 _ rfl)
              have w1' : IntKind.i64.wrap ((i' : Int) + 1) = (i' : Int) + 1 := wrap_l (by unfold I64; omega)
              have w2' : IntKind.i64.wrap (q.a - p.a) = q.a - p.a := wrap_l (by unfold I64; omega)
              have w3' : IntKind.i64.wrap (q.v - p.v) = q.v - p.v := wrap_l (by unfold I64; omega)
              have i2 : (i' : Int) + 1 < (N : Int) := by omega
              have i3 : (0 : Int) ≤ (i' : Int) + 1 := by omega
              clear hq qS qL pS pL hD c1 c0
              go_upto_region 17 with fail
              refine Tl.region_tail_below 11 (by kernel_rfl) (by kernel_rfl) ?_
              simp only [List.take_succ_cons, List.take_zero, List.drop_succ_cons, List.drop_zero]
              repeat (go_big_quiet_step (fail))
              refine wpQuiet_nil ?_
              intro _ hw'
              obtain ⟨⟨dq, osq⟩, hw''⟩ := hw'
              subst hw''
              obtain ⟨wu, hwu⟩ : ∃ W, W = grow (redrawn wt dq) osq := ⟨_, rfl⟩
              have bwu : Below wt.heap.size wt wu := by rw [hwu]; exact below_regrown wt dq osq
              rw [← hwu]
              clear hwu
              have GU := GG.out.on bwu
              have m2 := GU.gp.cell 2 _ rfl
              have g2 := GU.gp.free 2
              have lu := GU.gp.lt
              have HGU := hid GU
              clear GU bwu f0 f1 f2 f3
              go_upto_region 18 with fail
              obtain ⟨wv, hwv⟩ : ∃ W, W = wu.setCell ⟨k9, 2, none⟩ (.int .i64 (q.a - p.a)) := ⟨_, rfl⟩
              have GV := hid (show GI wB wv k7 k9 m V2 done ⟨p.a, p.v, q.a - p.a, 0, 1⟩ by rw [hwv]; exact HGU.out.put 2 _ rfl)
              rw [← hwv]
              clear hwv m2 g2 lu HGU
              have c1 := cells.out wv GV.out.bel (i' + 1) q HQ.out
              have f1 := cell_regrown c1.1
              have f2 := cell_regrown c1.2.1
              have f3 := cell_regrown (GV.out.gp.cell 1 _ rfl)
              clear c1
              refine Tl.region_tail_below 12 (by kernel_rfl) (by kernel_rfl) ?_
              simp only [List.take_succ_cons, List.take_zero, List.drop_succ_cons, List.drop_zero]
              repeat (go_big_quiet_step (fail))
              refine wpQuiet_nil ?_
              intro _ hw'
              obtain ⟨⟨dq, osq⟩, hw''⟩ := hw'
              subst hw''
              obtain ⟨wy, hwy⟩ : ∃ W, W = grow (redrawn wv dq) osq := ⟨_, rfl⟩
              have bwy : Below wv.heap.size wv wy := by rw [hwy]; exact below_regrown wv dq osq
              rw [← hwy]
              clear hwy
              have GU := GV.out.on bwy
              have m3 := GU.gp.cell 3 _ rfl
              have g3 := GU.gp.free 3
              have ly := GU.gp.lt
              have HGU := hid GU
              clear GU bwy f1 f2 f3
              go_upto_region 19 with fail
              obtain ⟨wz, hwz⟩ : ∃ W, W = wy.setCell ⟨k9, 3, none⟩ (.int .i64 (q.v - p.v)) := ⟨_, rfl⟩
              have GZ := hid (show GI wB wz k7 k9 m V2 done ⟨p.a, p.v, q.a - p.a, q.v - p.v, 1⟩ by rw [hwz]; exact HGU.out.put 3 _ rfl)
              rw [← hwz]
              clear hwz m3 g3 ly HGU
              have m4 := GZ.out.gp.cell 4 _ rfl
              have g4 := GZ.out.gp.free 4
              have lz := GZ.out.gp.lt
              have GZ2 := hid (GZ.out.put (g' := ⟨p.a, p.v, q.a - p.a, q.v - p.v, 2⟩) 4 (.int .i64 2) rfl)
              have SZ := hid (show k9 + 1 ≤ (wz.setCell ⟨k9, 4, none⟩ (.int .i64 2)).heap.size by have := lz; simp; omega)
              have INV0 := hid (show ∃ z, PS[i' + 2 - 1]? = some z ∧ z.a = p.a + (q.a - p.a) * ((2 : Nat) - 1 : Int) ∧ z.v = p.v + (q.v - p.v) * ((2 : Nat) - 1 : Int) ∧ extN (q.a - p.a) (q.v - p.v) z.a z.v (PS.drop (i' + 2)) + (2 - 2) = extN (q.a - p.a) (q.v - p.v) q.a q.v (PS.drop (i' + 2)) from
                ⟨q, HQ.out, by omega, by omega, rfl⟩)
              clear GZ
              go_wp2
              clear m4 g4 lz
              go_loopw [] (fun wr => ∃ c : Nat, Hid (GI wB wr k7 k9 m V2 done ⟨p.a, p.v, q.a - p.a, q.v - p.v, c⟩) ∧ 2 ≤ c ∧ i' + c ≤ N ∧ Hid (∃ z, PS[i' + c - 1]? = some z ∧ z.a = p.a + (q.a - p.a) * ((c : Nat) - 1 : Int) ∧ z.v = p.v + (q.v - p.v) * ((c : Nat) - 1 : Int) ∧ extN (q.a - p.a) (q.v - p.v) z.a z.v (PS.drop (i' + c)) + (c - 2) = extN (q.a - p.a) (q.v - p.v) q.a q.v (PS.drop (i' + 2))) ∧ Hid (k9 + 1 ≤ wr.heap.size)) (fun wr => N - cOf wr k9)
              case atStart => exact ⟨2, GZ2, Nat.le_refl _, by omega, INV0, SZ⟩
              case round =>
                obtain ⟨c, hG3, hc2, hcN, hI, hs3⟩ := hrel
                clear GZ2 INV0 SZ
                obtain ⟨z, hz, za, zv, hext⟩ := hI.out
                have FIN := hid (fun (e : extN (q.a - p.a) (q.v - p.v) z.a z.v (PS.drop (i' + c)) = 0) => (show grp (PS.drop i') = (⟨p.a, p.v, q.a - p.a, q.v - p.v, (c : Int)⟩ : Gp) :: grp (PS.drop (i' + (c : Int).toNat)) by
                  rw [HD.out, grp_two, ← hext, e, List.drop_drop]
                  rw [show i' + 2 + (0 + (c - 2)) = i' + (c : Int).toNat by omega, show ((0 + (c - 2) : Nat) : Int) + 2 = (c : Int) by omega]))
                have cz := cells.out wr hG3.out.bel (i' + c - 1) z hz
                have bz := vals.out _ z hz
                have y0 := cell_regrown (hG3.out.gp.cell 0 _ rfl); have y2 := cell_regrown (hG3.out.gp.cell 2 _ rfl); have y3 := cell_regrown (hG3.out.gp.cell 3 _ rfl); have y4 := cell_regrown (hG3.out.gp.cell 4 _ rfl)
                have u1 : IntKind.i64.wrap ((i' : Int) + (c : Int)) = (i' : Int) + (c : Int) := wrap_l (by unfold I64; omega)
                have lk := hG3.out.gp.lt
                by_cases hin : i' + c < N
                rotate_left
                · have zi : decide ((i' : Int) + (c : Int) < (N : Int)) = false := decide_eq_false (by omega)
                  have F := hid (FIN.out (by rw [List.drop_of_length_le (by rw [← HNP.out]; omega)]; rfl))
                  clear FIN hext cz hI hz
                  go_upto_region 20 with fail
                  refine wp_region_quiet_below (by kernel_rfl) (by kernel_rfl) ?_
                  repeat (go_big_quiet_step (fail))
                  refine wpQuiet_nil ?_
                  intro _ hw'
                  obtain ⟨⟨dq, osq⟩, hw''⟩ := hw'
                  subst hw''
                  have G4 := hid (hG3.out.on (below_regrown wr dq osq))
                  have S4 := hid (show k9 + 1 ≤ (grow (redrawn wr dq) osq).heap.size from Nat.le_trans hs3.out (below_regrown wr dq osq).size)
                  clear y0 y2 y3 y4 hG3 hs3
                  go_wp2
                  go_meet
                  exact ⟨_, G4, F, hid ⟨by show 1 ≤ (c : Int); omega, by show (i' : Int) + (c : Int) ≤ N; omega⟩, S4⟩
                · have zi : decide ((i' : Int) + (c : Int) < (N : Int)) = true := decide_eq_true (by omega)
                  obtain ⟨y, hy⟩ : ∃ y, PS[i' + c]? = some y := ⟨_, List.getElem?_eq_getElem (by rw [← HNP.out]; exact hin)⟩
                  have cy := cells.out wr hG3.out.bel (i' + c) y hy
                  have bY := vals.out _ y hy
                  have hdy := drop_hd hy
                  have a0 := cell_regrown cz.1; have a1 := cell_regrown cz.2.1; have a2 := cell_regrown cy.1; have a3 := cell_regrown cy.2.1
                  obtain ⟨-, -, -, ca0, ca1⟩ := cz
                  have cz : True := trivial
                  obtain ⟨-, -, -, cb0, cb1⟩ := cy
                  have cy : True := trivial
                  have e1 : z.a + (q.a - p.a) = p.a + (c : Int) * (q.a - p.a) := by
                    have h : (q.a - p.a) * ((c : Int) - 1) = (c : Int) * (q.a - p.a) - (q.a - p.a) := by rw [Int.mul_sub, Int.mul_one, Int.mul_comm]
                    rw [za, h]
                    omega
                  have u2 : IntKind.i64.wrap ((c : Int) * (q.a - p.a)) = (c : Int) * (q.a - p.a) := wrap_l (by unfold I64; omega)
                  have u3' : IntKind.i64.wrap (p.a + (c : Int) * (q.a - p.a)) = p.a + (c : Int) * (q.a - p.a) := wrap_l (by unfold I64; omega)
                  have u4' : IntKind.i64.wrap ((i' : Int) + (c : Int) - 1) = (i' : Int) + (c : Int) - 1 := wrap_l (by unfold I64; omega)
                  have u5' : IntKind.i64.wrap (z.v + (q.v - p.v)) = z.v + (q.v - p.v) := wrap_l (by unfold I64; omega)
                  have k1' : (0 : Int) ≤ (i' : Int) + (c : Int) := by omega
                  have k2' : (i' : Int) + (c : Int) < (N : Int) := by omega
                  have k3' : (0 : Int) ≤ (i' : Int) + (c : Int) - 1 := by omega
                  have k4' : (i' : Int) + (c : Int) - 1 < (N : Int) := by omega
                  by_cases fit1 : y.a = p.a + (c : Int) * (q.a - p.a)
                  rotate_left
                  · have z1 : (y.a == p.a + (c : Int) * (q.a - p.a)) = false := by rw [beq_eq_false_iff_ne]; exact fit1
                    have EX0 : extN (q.a - p.a) (q.v - p.v) z.a z.v (PS.drop (i' + c)) = 0 := by
                      rw [hdy]
                      unfold extN
                      rw [if_neg (fun h => fit1 (by omega))]
                    clear hdy e1 fit1
                    have F := hid (FIN.out EX0)
                    clear FIN hext cz cy hI hz hy EX0
                    go_upto_region 20 with fail
                    refine wp_region_quiet_below (by kernel_rfl) (by kernel_rfl) ?_
                    repeat (go_big_quiet_step (fail))
                    refine wpQuiet_nil ?_
                    intro _ hw'
                    obtain ⟨⟨dq, osq⟩, hw''⟩ := hw'
                    subst hw''
                    have G4 := hid (hG3.out.on (below_regrown wr dq osq))
                    have S4 := hid (show k9 + 1 ≤ (grow (redrawn wr dq) osq).heap.size from Nat.le_trans hs3.out (below_regrown wr dq osq).size)
                    clear y0 y2 y3 y4 a0 a1 a2 a3 hG3 hs3
                    go_wp2
                    go_meet
                    exact ⟨_, G4, F, hid ⟨by show 1 ≤ (c : Int); omega, by show (i' : Int) + (c : Int) ≤ N; omega⟩, S4⟩
                  have z1 : (y.a == p.a + (c : Int) * (q.a - p.a)) = true := by rw [beq_iff_eq]; exact fit1
                  by_cases fit2 : y.v = z.v + (q.v - p.v)
                  rotate_left
                  · have z2 : (y.v == z.v + (q.v - p.v)) = false := by rw [beq_eq_false_iff_ne]; exact fit2
                    have EX0 : extN (q.a - p.a) (q.v - p.v) z.a z.v (PS.drop (i' + c)) = 0 := by
                      rw [hdy]
                      unfold extN
                      rw [if_neg (fun h => fit2 h.2)]
                    clear hdy e1 fit1 fit2 za zv
                    have F := hid (FIN.out EX0)
                    clear FIN hext cz cy hI hz hy EX0
                    go_upto_region 20 with fail
                    refine wp_region_quiet_below (by kernel_rfl) (by kernel_rfl) ?_
                    repeat (go_big_quiet_step (fail))
                    refine wpQuiet_nil ?_
                    intro _ hw'
                    obtain ⟨⟨dq, osq⟩, hw''⟩ := hw'
                    subst hw''
                    have G4 := hid (hG3.out.on (below_regrown wr dq osq))
                    have S4 := hid (show k9 + 1 ≤ (grow (redrawn wr dq) osq).heap.size from Nat.le_trans hs3.out (below_regrown wr dq osq).size)
                    clear y0 y2 y3 y4 a0 a1 a2 a3 hG3 hs3
                    go_wp2
                    go_meet
                    exact ⟨_, G4, F, hid ⟨by show 1 ≤ (c : Int); omega, by show (i' : Int) + (c : Int) ≤ N; omega⟩, S4⟩
                  have z2 : (y.v == z.v + (q.v - p.v)) = true := by rw [beq_iff_eq]; exact fit2
                  have I4 := hid (show ∃ z, PS[i' + (c + 1) - 1]? = some z ∧ z.a = p.a + (q.a - p.a) * (((c + 1 : Nat) : Nat) - 1 : Int) ∧ z.v = p.v + (q.v - p.v) * (((c + 1 : Nat) : Nat) - 1 : Int) ∧ extN (q.a - p.a) (q.v - p.v) z.a z.v (PS.drop (i' + (c + 1))) + (c + 1 - 2) = extN (q.a - p.a) (q.v - p.v) q.a q.v (PS.drop (i' + 2)) from
                    ⟨y, by rw [show i' + (c + 1) - 1 = i' + c by omega]; exact hy, by rw [fit1, show (((c + 1 : Nat) : Int) - 1) = (c : Int) by omega, Int.mul_comm], by
                      rw [fit2, zv, show (((c + 1 : Nat) : Int) - 1) = (c : Int) by omega]
                      have h : (q.v - p.v) * ((c : Int) - 1) = (q.v - p.v) * (c : Int) - (q.v - p.v) := by rw [Int.mul_sub, Int.mul_one]
                      rw [h]
                      omega, by
                      rw [← hext, hdy]
                      show _ = extN (q.a - p.a) (q.v - p.v) z.a z.v (y :: PS.drop (i' + c + 1)) + (c - 2)
                      rw [show extN (q.a - p.a) (q.v - p.v) z.a z.v (y :: PS.drop (i' + c + 1)) = extN (q.a - p.a) (q.v - p.v) y.a y.v (PS.drop (i' + c + 1)) + 1 from if_pos ⟨by omega, fit2⟩, show i' + (c + 1) = i' + c + 1 by omega]
                      omega⟩)
                  clear hdy e1 fit1 fit2 za zv FIN hext cz cy hI hz hy
                  go_upto_region 20 with fail
                  refine wp_region_quiet_below (by kernel_rfl) (by kernel_rfl) ?_
                  repeat (go_big_quiet_step (fail))
                  refine wpQuiet_nil ?_
                  intro _ hw'
                  obtain ⟨⟨dq, osq⟩, hw''⟩ := hw'
                  subst hw''
                  obtain ⟨w4, hw4⟩ : ∃ W, W = grow (redrawn wr dq) osq := ⟨_, rfl⟩
                  have b4 : Below wr.heap.size wr w4 := by rw [hw4]; exact below_regrown wr dq osq
                  rw [← hw4]
                  have G4 := hG3.out.on b4
                  have G5 := hid (G4.put (g' := ⟨p.a, p.v, q.a - p.a, q.v - p.v, ((c + 1 : Nat) : Int)⟩) 4 (.int .i64 ((c + 1 : Nat) : Int)) rfl)
                  have S5 := hid (show k9 + 1 ≤ (w4.setCell ⟨k9, 4, none⟩ (.int .i64 ((c + 1 : Nat) : Int))).heap.size by have := hs3.out; have := b4.size; simp; omega)
                  have n4 := G4.gp.cell 4 _ rfl
                  have n5 := G4.gp.free 4
                  have n6 := G4.gp.lt
                  have CN0 := hid hG3.out.count
                  have CN1 := hid G5.out.count
                  have wc : IntKind.i64.wrap ((c : Int) + 1) = (c : Int) + 1 := wrap_l (by unfold I64; omega)
                  clear y0 y2 y3 y4 a0 a1 a2 a3 hG3 hs3 b4 hw4 G4 lk
                  go_wp2
                  rw [show (c : Int) + 1 = ((c + 1 : Nat) : Int) from rfl]
                  go_roundw
                  case rel => exact ⟨c + 1, G5, by omega, by omega, I4, S5⟩
                  case measure =>
                    rw [CN0.out, CN1.out]
                    show N - ((c + 1 : Nat) : Int).toNat < N - (c : Int).toNat
                    omega
          case rest =>
            obtain ⟨g, hG9, hF, hc, hs9⟩ := hcut
            obtain ⟨wx, hwx⟩ : ∃ W, W = wc := ⟨_, rfl⟩
            have GX := hid hG9.out
            have SX := hid hs9.out
            rw [← hwx] at GX SX ⊢
            clear GG S9 hG9 hs9 hwx
            obtain ⟨c1, c2⟩ := hc.out
            have G2 := hid (show G = (done ++ [g]) ++ grp (PS.drop (i' + g.c.toNat)) by rw [hG.out, hF.out, List.append_assoc]; rfl)
            have wi : IntKind.i64.wrap ((i' : Int) + g.c) = (i' : Int) + g.c := wrap_l (by unfold I64; omega)
            have x1 := GX.out.cur.cell 1 _ rfl
            have lx := GX.out.cur.lt
            have y0 := GX.out.gp.cell 0 _ rfl; have y1 := GX.out.gp.cell 1 _ rfl; have y2 := GX.out.gp.cell 2 _ rfl; have y3 := GX.out.gp.cell 3 _ rfl; have y4 := GX.out.gp.cell 4 _ rfl
            have ly := GX.out.gp.lt
            have dl : done.length ≤ 100000 := by omega
            have oo := GX.out.own
            have hsz : k7 + 1 ≤ wx.heap.size := by omega
            subst eV
            clear hG hF
            go_wp2_with (at_builtin; refine wpList_append_own _ rfl _ _ 24 rfl (k7 + 1) 45 j0 (.agg #[.int .i64 0, .int .i64 0, .int .i64 0, .int .i64 0, .int .i64 0]) 5 40 Try.underlying24 hj0 hy0 hy1 hy2 rfl (by decide) _ _ _ rfl (oo.alloc _) ⟨wx.heap.size, 0, none⟩ 1 1 (gpC g) rfl rfl (news_at wx (gpC g) _) (by simp [gpC, Value.oneCell']) (by unfold maxLen; omega) (by omega) (by simp; omega) ?_)
            intro v5 w5 hown hgrow _
            obtain ⟨g5, cp5, e5, -, -⟩ := hown.form (by omega)
            have ne7 : some k7 ≠ (Value.slice vo done.length vc).ownBlock := own_ne oo (by omega)
            have Z7 := (GX.out.cur.on (bel_alloc wx _)).grown hgrow ne7
            have Z9 := (GX.out.gp.on (bel_alloc wx _)).grown hgrow (fun e => GX.out.ne e.symm)
            have b5 := (GX.out.bel.alloc (by have := GX.out.base; omega) _).grown hgrow (by have := GX.out.base; simp; omega) (fun j hj => by have := (oo.lt j hj).1; have := GX.out.base; omega)
            have NX := hid (show ∃ V2, Box (w5.setCell ⟨k7, 1, none⟩ v5) k7 [.int .i64 m, V2] ∧ (w5.setCell ⟨k7, 1, none⟩ v5).ownsRow (k7 + 1) 45 5 V2 (done ++ [g]).length ((done ++ [g]).flatMap gpC) from ⟨v5, Z7.set 1 v5, by
              have h := other_own hown (k := k7) (i := 1) (by omega) v5
              rw [List.length_append, List.flatMap_append]
              exact h⟩)
            have NB := hid (b5.setCell (p := ⟨k7, 1, none⟩) GX.out.base.1 v5)
            have NS := hid (show k7 + 1 ≤ (w5.setCell ⟨k7, 1, none⟩ v5).heap.size by have h1 := hgrow.size; simp at h1 ⊢; omega)
            have m7 := Z7.cell 1 _ rfl
            have f7 := Z7.free 1
            have l7 := Z7.lt
            have m9 := (Z9.other (p := ⟨k7, 1, none⟩) (by have := GX.out.base; show k9 ≠ k7; omega) v5).cell 4 _ rfl
            have l9 := (Z9.other (p := ⟨k7, 1, none⟩) (by have := GX.out.base; show k9 ≠ k7; omega) v5).lt
            have nn : ¬ k9 = k7 := by have := GX.out.base; omega
            have m9' := Z9.cell 4 _ rfl
            have l9' := Z9.lt
            subst e5
            clear hown hgrow oo GX SX x1 lx y0 y1 y2 y3 y4 ly Z7 Z9 b5 ne7
            go_wp2
            go_roundw
            case rel => exact ⟨i' + g.c.toNat, done ++ [g], vi (by omega), by omega, G2, by rw [List.length_append]; show done.length + 1 ≤ _; omega, NX, NB, NS⟩
            case measure => simp [intOf]; omega
        · obtain rfl : i' = N := by omega
          obtain ⟨V2, BV, oV⟩ := hO.out
          have e0 : G = done := by rw [hG.out, List.drop_of_length_le (by rw [← HNP.out]; omega), grp_nil, List.append_nil]
          obtain ⟨w9, hw9⟩ : ∃ W, W = (wr.setCell ⟨k1, 0, none⟩ (.int .i64 m)).setCell ⟨k1, 1, none⟩ V2 := ⟨_, rfl⟩
          have k1b : k1 < wB.heap.size := (HX.out wB HB.out).1.lt
          have o9 : w9.ownsRow (k7 + 1) 45 5 V2 done.length (done.flatMap gpC) := by
            rw [hw9]
            exact other_own (other_own oV (by have := HKB.out; omega) _) (by have := HKB.out; omega) _
          obtain ⟨ga, gc, eV, RG⟩ := row_own (n := 5) (cells := gpC) (ok := GpOk) (hn := fun _ => rfl) o9 (by rw [← e0]; exact GOK.out)
          subst eV
          have FR := hid (show ∀ ad : Addr, ga = some ad → w.heap.size ≤ ad.block from fun ad e => by
            subst e
            have := (o9.lt ad.block rfl).1
            have := HKB.out
            have := (HX.out wB HB.out).2.2.size
            omega)
          rw [← e0] at RG
          have RG := hid RG
          have X1 := (HX.out wB HB.out).1.on hb.out
          have X9 := hid (show Box w9 k1 [.int .i64 m, .slice ga done.length gc] by rw [hw9]; exact (X1.set 0 _).set 1 _)
          have B9 := hid (show Below w.heap.size w w9 by
            rw [hw9]
            exact (((HX.out wB HB.out).2.2.trans (hb.out.mono (HX.out wB HB.out).2.2.size)).setCell (p := ⟨k1, 0, none⟩) HS.out _).setCell (p := ⟨k1, 1, none⟩) HS.out _)
          have HW9 := hid hw9
          have m0 := BV.cell 0 _ rfl
          have m1 := BV.cell 1 _ rfl
          have l7 := BV.lt
          have c0 := X1.cell 0 _ rfl
          have c1 := X1.cell 1 _ rfl
          have f0 := X1.free 0
          have f1 := X1.free 1
          have l1 := X1.lt
          obtain ⟨em, eq'⟩ := MM.out
          have EL := hid (show done.length = G.length by rw [e0])
          clear BV oV hO hb hs o9 hw9 X1 hG e0
          subst em eq'
          go_wp2
          rw [← HW9.out]
          refine bodyPost_ret (v := .tuple #[.agg #[.int .i64 M, .slice ga done.length gc], .bool true]) ?_ rfl ⟨⟨ga, gc, by rw [EL.out], ?_⟩, B9.out⟩
          · exact results_ct (p := 2) (q := 3) rfl _ _ k1 [.int .i64 M, .slice ga done.length gc] _ rfl (fun j u h => by rw [Nat.zero_add]; exact X9.out.cell j u h) Try.underlying26 rfl (by kernel_rfl)
          · exact ⟨RG.out, FR.out⟩
theorem of_any (l : List Int) (ao : Option Addr) (cap : Nat) (w : World) (hl : Row tInt w ao l.length cap l) :
    Calls Try.prog 11 #[.slice ao l.length cap] w fun e w' => (∃ ao' cap', e = .returned (.tuple #[.agg #[.int .i64 (oM l), .slice ao' (oG l).length cap'], .bool (curB l)]) ∧ Row tGp w' ao' (oG l).length cap' (oG l)) ∧ Below w.heap.size w w' :=
  (of_fresh l ao cap w hl).mono fun _ _ ⟨⟨a, b, c, d, _⟩, e⟩ => ⟨⟨a, b, c, d⟩, e⟩
end Go.Proofs.Ytemjmdfmcblgnaa.R15
