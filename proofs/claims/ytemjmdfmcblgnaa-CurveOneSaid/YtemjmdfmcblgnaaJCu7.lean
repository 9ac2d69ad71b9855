/- Package curve, walked: Of. -/
import Derived.Test.YtemjmdfmcblgnaaJCu5
import Derived.Test.YtemjmdfmcblgnaaJL15
import Derived.Test.YtemjmdfmcblgnaaJRef15
import Derived.Test.YtemjmdfmcblgnaaJPureL
import Derived.Test.YtemjmdfmcblgnaaJCu3
namespace Go.Proofs.Ytemjmdfmcblgnaa.P
end Go.Proofs.Ytemjmdfmcblgnaa.P
namespace Go.Proofs.Ytemjmdfmcblgnaa.Mm
end Go.Proofs.Ytemjmdfmcblgnaa.Mm
namespace Go.Proofs.Ytemjmdfmcblgnaa.R6
end Go.Proofs.Ytemjmdfmcblgnaa.R6
namespace Go.Proofs.Ytemjmdfmcblgnaa.R14
end Go.Proofs.Ytemjmdfmcblgnaa.R14
namespace Go.Proofs.Ytemjmdfmcblgnaa.R15
end Go.Proofs.Ytemjmdfmcblgnaa.R15
namespace Go.Proofs.Ytemjmdfmcblgnaa.L14
end Go.Proofs.Ytemjmdfmcblgnaa.L14
namespace Go.Proofs.Ytemjmdfmcblgnaa.L15
end Go.Proofs.Ytemjmdfmcblgnaa.L15
namespace Go.Proofs.Ytemjmdfmcblgnaa.Cc
open Go.RowKit Go.Sort Go.Shelf P Mm R6 R14 R15 L14 L15
attribute [local go_sem] Oper.semAt_some
/-- Behind some of a row. -/
theorem row_behind {α : Type} {T : Ty α} {w : World} {b o : Nat} {len cap : Nat} {xs : List α} (h : Row T w (some ⟨b, o, none⟩) len cap xs) {k : Nat} (hk : k ≤ len) : Row T w (some ⟨b, o + k * T.n, none⟩) (len - k) (cap - k) (xs.drop k) := by
  have h1 := h.hlen
  have h2 := h.hcap
  have h3 := h.hmax
  refine ⟨by rw [List.length_drop]; omega, by omega, by omega, fun hne => ?_⟩
  obtain ⟨b', o', e, hl, hx⟩ := h.lie (fun e => hne (by rw [e]; simp))
  simp only [Option.some.injEq, Addr.mk.injEq, and_true] at e
  obtain ⟨rfl, rfl⟩ := e
  refine ⟨b, o + k * T.n, rfl, hl, fun j x hj => ?_⟩
  rw [List.getElem?_drop] at hj
  obtain ⟨cs, h4, h5⟩ := hx (k + j) x hj
  refine ⟨cs, h4, fun i v hi => ?_⟩
  have := h5 i v hi
  rw [Nat.add_mul] at this
  rw [show o + k * T.n + j * T.n + i = o + (k * T.n + j * T.n) + i by omega]
  exact this
theorem row_nil {α : Type} {T : Ty α} {w : World} {ao : Option Addr} : Row T w ao 0 0 [] := ⟨rfl, Nat.le_refl _, by decide, fun h => absurd rfl h⟩
theorem any_runs (k : Int) (l : List Int) : ((runsF k l).any fun r => bigB r.v) = l.any bigB := by
  rw [Bool.eq_iff_iff, List.any_eq_true, List.any_eq_true]
  constructor
  · rintro ⟨r, hr, hb⟩
    exact ⟨r.v, (runs_in l k r hr).2.2.2, hb⟩
  · rintro ⟨v, hv, hb⟩
    rw [← exp_runs l k] at hv
    obtain ⟨r, hr, hm⟩ := List.mem_flatMap.1 hv
    obtain ⟨-, rfl⟩ := List.mem_replicate.1 hm
    exact ⟨r, hr, hb⟩
def lenV : Value → Nat
  | .slice _ n _ => n
  | _ => 0
theorem of_no {k : Int} {l : List Int} (h : ofB k l = false) : ofM k l = 0 ∧ ofG k l = [] := by
  unfold ofM ofG
  rw [h]
  exact ⟨rfl, rfl⟩
theorem of_yes {k : Int} {l : List Int} (h : ofB k l = true) : ofM k l = (l.length : Int) - 1 ∧ ofG k l = curG l := by
  unfold ofM ofG
  rw [h]
  exact ⟨rfl, rfl⟩
set_option maxHeartbeats 2000000 in
set_option maxRecDepth 100000 in
theorem of_any (S : LnO) (k : Int) (l : List Int) (ao : Option Addr) (cap : Nat) (w : World) (hr : Row tRn w ao (runsF k l).length cap (runsF k l)) (hp : Ply k l) (hl : l.length ≤ 100000) :
    Calls Try.prog 9 #[.agg #[.slice ao (runsF k l).length cap]] w fun e w' => (∃ ao' cap', e = .returned (.tuple #[.agg #[.int .i64 (ofM k l), .slice ao' (ofG k l).length cap'], .bool (ofB k l)]) ∧ Row tGp w' ao' (ofG k l).length cap' (ofG k l)) ∧ Below w.heap.size w w' := by
  obtain ⟨R, hR⟩ : ∃ R, R = runsF k l := ⟨_, rfl⟩
  obtain ⟨N, hN⟩ : ∃ N, N = R.length := ⟨_, rfl⟩
  have cSp := fun W (h : Row tRn W ao (runsF k l).length cap (runsF k l)) => S.span k l ao cap W h hp
  have cRu := fun W (h : Row tRn W ao (runsF k l).length cap (runsF k l)) => S.runs k l ao cap W h hp
  rw [← hR] at hr cSp cRu ⊢
  rw [← hN] at hr cSp cRu ⊢
  have SP := hid (show spanR R = if l = [] then (0, 0, false) else (k, k + l.length - 1, true) by rw [hR]; exact span_runs k l)
  have SI := hid (show ∀ s ∈ R, I64 s.a ∧ I64 s.b ∧ I64 s.v from fun s hs => by
    rw [hR] at hs
    obtain ⟨h1, h2, h3, h4⟩ := runs_in l k s hs
    obtain ⟨p1, p2, p3, p4, p5⟩ := hp
    have p3 : (l.length : Int) ≤ 8589934592 := by omega
    exact ⟨by unfold I64; omega, by unfold I64; omega, p4 _ h4⟩)
  have AN := hid (show (R.any fun r => bigB r.v) = l.any bigB by rw [hR]; exact any_runs k l)
  have kI : -2147483648 ≤ k ∧ k ≤ 2147483648 := ⟨hp.1, hp.2.1⟩
  have SN : N ≤ 100000 := by rw [hN, hR]; exact hp.2.2.2.2
  obtain ⟨M, hM⟩ : ∃ M, M = ofM k l := ⟨_, rfl⟩
  obtain ⟨G, hG⟩ : ∃ G, G = ofG k l := ⟨_, rfl⟩
  obtain ⟨Q, hQ⟩ : ∃ Q, Q = ofB k l := ⟨_, rfl⟩
  rw [← hM, ← hG, ← hQ]
  have NO := hid (fun (h : ofB k l = false) => (⟨by rw [hM]; exact (of_no h).1, by rw [hG]; exact (of_no h).2, by rw [hQ]; exact h⟩ : M = 0 ∧ G = [] ∧ Q = false))
  have YES := hid (fun (h : ofB k l = true) => (⟨by rw [hM]; exact (of_yes h).1, by rw [hG]; exact (of_yes h).2, by rw [hQ]; exact h⟩ : M = (l.length : Int) - 1 ∧ G = curG l ∧ Q = true))
  have HRR := hid hR
  have HN := hid hN
  obtain ⟨w1, hw1⟩ : ∃ W, W = (w.alloc (.cells ([.slice ao N cap] : List Value).toArray 31)).alloc (.cells ([.int .i64 0, .slice none 0 0] : List Value).toArray 26) := ⟨_, rfl⟩
  obtain ⟨k0, hk0⟩ : ∃ k, k = w.heap.size := ⟨_, rfl⟩
  obtain ⟨k1, hk1⟩ : ∃ k, k = w.heap.size + 1 := ⟨_, rfl⟩
  have b1 : Below w.heap.size w w1 := by rw [hw1]; exact (bel_alloc w _).alloc (by simp) _
  have X0 : Box w1 k0 [.slice ao N cap] := by
    rw [hw1, hk0]
    exact (Box.new w [.slice ao N cap] _).on (bel_alloc _ _)
  have X1 : Box w1 k1 [.int .i64 0, .slice none 0 0] := by
    rw [hw1, hk1]
    have := Box.new (w.alloc (.cells ([.slice ao N cap] : List Value).toArray 31)) [.int .i64 0, .slice none 0 0] 26
    simpa using this
  have HX := hid (fun (W : World) (b : Below w1.heap.size w1 W) => (⟨X0.on b, X1.on b, hr.on (bel_on b1 b), bel_on b1 b⟩ : Box W k0 [.slice ao N cap] ∧ Box W k1 [.int .i64 0, .slice none 0 0] ∧ Row tRn W ao N cap R ∧ Below w.heap.size w W))
  have HS := hid (show w.heap.size ≤ k1 ∧ k1 < w1.heap.size by rw [hk1, hw1]; simp)
  have B0 := hid (Below.refl w1.heap.size w1)
  have cSp := hid cSp
  have cRu := hid cRu
  have lm := hr.hmax
  have lc := hr.hcap
  have HW := hid hw1
  have HK0 := hid hk0
  have HK1 := hid hk1
  obtain ⟨j0, hj0, hy0, hy1, hy2⟩ := info_parts info_gp
  have stop := hid (fun (W : World) (b : Below w1.heap.size w1 W) => by
    obtain ⟨_, Y, _, bW⟩ := HX.out W b
    exact (⟨Y.cell 0 _ rfl, Y.cell 1 _ rfl, Y.free 0, Y.free 1, Y.lt, (Y.set 0 (.int .i64 0)).set 1 (.slice none 0 0), (bW.setCell (p := ⟨k1, 0, none⟩) HS.out.1 _).setCell (p := ⟨k1, 1, none⟩) HS.out.1 _⟩ : W.cell? ⟨k1, 0, none⟩ = some (.int .i64 0) ∧ W.cell? ⟨k1, 1, none⟩ = some (.slice none 0 0) ∧ W.frozen? ⟨k1, 0, none⟩ = false ∧ W.frozen? ⟨k1, 1, none⟩ = false ∧ k1 < W.heap.size ∧ Box ((W.setCell ⟨k1, 0, none⟩ (.int .i64 0)).setCell ⟨k1, 1, none⟩ (.slice none 0 0)) k1 [.int .i64 0, .slice none 0 0] ∧ Below w.heap.size w ((W.setCell ⟨k1, 0, none⟩ (.int .i64 0)).setCell ⟨k1, 1, none⟩ (.slice none 0 0))))
  have x0 := X0.cell 0 _ rfl
  have xl := X0.lt
  clear hw1 hk0 hk1 b1 X0 X1 hr hM hG hQ hR hN hp
  go_enter Try.func9, Try.ntmps9
  go_upto_region 1 with fail
  rw [← HW.out, ← HK1.out, ← HK0.out]
  clear HW HK0 HK1
  go_wp2_with fail
  refine (cSp.out w1 (HX.out w1 B0.out).2.2.1).mono ?_
  rintro e w2 ⟨rfl, b2⟩
  have B2 := hid b2
  clear b2 cSp x0 xl
  by_cases hl0 : l = []
  · have e := SP.out
    rw [if_pos hl0] at e
    rw [e]
    have cb : ofB k l = false := by unfold ofB curB; rw [hl0]; simp
    obtain ⟨e1, e2, e3⟩ := NO.out cb
    subst e1 e2 e3
    obtain ⟨c0, c1, f0, f1, l1, X2, B9⟩ := stop.out w2 B2.out
    have X2 := hid X2
    have B9 := hid B9
    obtain ⟨wz, hwz⟩ : ∃ W, W = (w2.setCell ⟨k1, 0, none⟩ (.int .i64 0)).setCell ⟨k1, 1, none⟩ (.slice none 0 0) := ⟨_, rfl⟩
    rw [← hwz] at X2 B9
    have HWZ := hid hwz
    clear stop hwz cb NO YES HX cRu
    go_wp2
    rw [← HWZ.out]
    refine bodyPost_ret (v := .tuple #[.agg #[.int .i64 0, .slice none 0 0], .bool false]) ?_ rfl ⟨⟨none, 0, rfl, row_nil⟩, B9.out⟩
    exact results_ct (p := 2) (q := 3) rfl _ _ k1 [.int .i64 0, .slice none 0 0] _ rfl (fun j u h => by rw [Nat.zero_add]; exact X2.out.cell j u h) Try.underlying26 rfl (by kernel_rfl)
  have e := SP.out
  rw [if_neg hl0] at e
  rw [e]
  have lpos : 0 < l.length := List.length_pos_iff.2 hl0
  by_cases hk : k = 0
  rotate_left
  · have zk : (k == 0) = false := by rw [beq_eq_false_iff_ne]; exact hk
    have cb : ofB k l = false := by unfold ofB; rw [decide_eq_false hk]; rfl
    obtain ⟨e1, e2, e3⟩ := NO.out cb
    subst e1 e2 e3
    obtain ⟨c0, c1, f0, f1, l1, X2, B9⟩ := stop.out w2 B2.out
    have X2 := hid X2
    have B9 := hid B9
    obtain ⟨wz, hwz⟩ : ∃ W, W = (w2.setCell ⟨k1, 0, none⟩ (.int .i64 0)).setCell ⟨k1, 1, none⟩ (.slice none 0 0) := ⟨_, rfl⟩
    rw [← hwz] at X2 B9
    have HWZ := hid hwz
    clear stop hwz cb NO YES HX cRu e
    go_wp2
    rw [← HWZ.out]
    refine bodyPost_ret (v := .tuple #[.agg #[.int .i64 0, .slice none 0 0], .bool false]) ?_ rfl ⟨⟨none, 0, rfl, row_nil⟩, B9.out⟩
    exact results_ct (p := 2) (q := 3) rfl _ _ k1 [.int .i64 0, .slice none 0 0] _ rfl (fun j u h => by rw [Nat.zero_add]; exact X2.out.cell j u h) Try.underlying26 rfl (by kernel_rfl)
  subst hk
  obtain ⟨L, hL⟩ : ∃ L, L = 0 + (l.length : Int) - 1 := ⟨_, rfl⟩
  rw [← hL]
  clear e
  by_cases hL2 : 2000 < L
  · have zL : decide (2000 < L) = true := decide_eq_true hL2
    have cb : ofB 0 l = false := by unfold ofB curB; rw [decide_eq_false (by omega : ¬ l.length ≤ 2001)]; simp
    obtain ⟨e1, e2, e3⟩ := NO.out cb
    subst e1 e2 e3
    obtain ⟨c0, c1, f0, f1, l1, X2, B9⟩ := stop.out w2 B2.out
    have X2 := hid X2
    have B9 := hid B9
    obtain ⟨wz, hwz⟩ : ∃ W, W = (w2.setCell ⟨k1, 0, none⟩ (.int .i64 0)).setCell ⟨k1, 1, none⟩ (.slice none 0 0) := ⟨_, rfl⟩
    rw [← hwz] at X2 B9
    have HWZ := hid hwz
    clear stop hwz cb NO YES HX cRu hL hL2
    go_wp2
    rw [← HWZ.out]
    refine bodyPost_ret (v := .tuple #[.agg #[.int .i64 0, .slice none 0 0], .bool false]) ?_ rfl ⟨⟨none, 0, rfl, row_nil⟩, B9.out⟩
    exact results_ct (p := 2) (q := 3) rfl _ _ k1 [.int .i64 0, .slice none 0 0] _ rfl (fun j u h => by rw [Nat.zero_add]; exact X2.out.cell j u h) Try.underlying26 rfl (by kernel_rfl)
  have zL : decide (2000 < L) = false := decide_eq_false hL2
  have HL := hid hL
  obtain ⟨Y0, _, R2, _⟩ := HX.out w2 B2.out
  have y0 := Y0.cell 0 _ rfl
  have yl := Y0.lt
  have R2 := hid R2
  clear hL Y0
  go_wp2_with fail
  refine (cRu.out w2 R2.out).mono ?_
  rintro e w3 ⟨b3, gf, lb, rfl, hen, hseq⟩
  have B3 := hid (bel_on B2.out b3)
  have TA := hid (show R ≠ [] → ∀ ad : Addr, ao = some ad → ad.block < w3.heap.size from fun hne ad e => by
    obtain ⟨b, o, e2, h, _⟩ := R2.out.lie hne
    rw [e] at e2
    obtain rfl := Option.some.inj e2
    have := b3.size
    exact Nat.lt_of_lt_of_le h this)
  have cC := hid (collect_any R N gf lb w2.heap.size w3.heap.size ao w3 HN.out SN SI.out (Nat.le_refl _) TA.out hen hseq)
  clear b3 hen hseq TA R2 cRu y0 yl
  go_wp2_with fail
  refine cC.out.mono ?_
  rintro e w4 ⟨⟨co, cc, rfl, RC⟩, b4⟩
  have B4 := hid (bel_on B3.out b4)
  have cK := hid (contains_any R co cc w4 RC)
  have RC := hid RC
  clear b4 cC
  rw [← HN.out] at cK RC
  rw [← HN.out]
  go_wp2_with fail
  refine cK.out.mono ?_
  rintro e w5 ⟨rfl, b5⟩
  have B5 := hid (bel_on B4.out b5)
  have RC := hid (RC.out.on b5)
  rw [AN.out]
  cases hbig : l.any bigB
  rotate_left
  · have cb : ofB 0 l = false := by unfold ofB curB; rw [hbig]; simp
    obtain ⟨e1, e2, e3⟩ := NO.out cb
    subst e1 e2 e3
    obtain ⟨c0, c1, f0, f1, l1, X2, B9⟩ := stop.out w5 B5.out
    have X2 := hid X2
    have B9 := hid B9
    obtain ⟨wz, hwz⟩ : ∃ W, W = (w5.setCell ⟨k1, 0, none⟩ (.int .i64 0)).setCell ⟨k1, 1, none⟩ (.slice none 0 0) := ⟨_, rfl⟩
    rw [← hwz] at X2 B9
    have HWZ := hid hwz
    clear stop hwz cb NO YES HX b5 cK hbig
    go_wp2
    rw [← HWZ.out]
    refine bodyPost_ret (v := .tuple #[.agg #[.int .i64 0, .slice none 0 0], .bool false]) ?_ rfl ⟨⟨none, 0, rfl, row_nil⟩, B9.out⟩
    exact results_ct (p := 2) (q := 3) rfl _ _ k1 [.int .i64 0, .slice none 0 0] _ rfl (fun j u h => by rw [Nat.zero_add]; exact X2.out.cell j u h) Try.underlying26 rfl (by kernel_rfl)
  have cb : curB l = true := by
    unfold curB
    rw [hbig, decide_eq_true lpos, decide_eq_true (by have := HL.out; omega)]
    rfl
  obtain ⟨eM, eG, eQ⟩ := YES.out (by rw [ofB_0]; exact cb)
  have GOK := hid (show ∀ g ∈ G, GpOk g by rw [eG]; exact cur_ok cb)
  have EL : L = M := by have := HL.out; omega
  subst EL
  have RV := hid (show ∀ r ∈ R, 0 ≤ r.a ∧ r.a ≤ 100000 ∧ -2305843009213693952 ≤ r.v ∧ r.v ≤ 2305843009213693952 from fun r hr => by
    rw [HRR.out] at hr
    obtain ⟨h1, h2, h3, h4⟩ := runs_in l 0 r hr
    have h5 := List.any_eq_false.1 hbig r.v h4
    unfold bigB at h5
    rw [Bool.or_eq_true, decide_eq_true_eq, decide_eq_true_eq, not_or] at h5
    omega)
  have EG := hid (show G = grp R by rw [eG, HRR.out]; rfl)
  have EQ := hid eQ
  have RNE := hid (show R ≠ [] by
    rw [HRR.out]
    cases l with
    | nil => exact absurd rfl hl0
    | cons a l => exact runsF_ne)
  obtain ⟨cb', coff, eo, -⟩ := RC.out.lie RNE.out
  subst eo
  have ccm := RC.out.hmax
  have ccl := RC.out.hcap
  clear cb eM eG eQ hbig b5 cK YES NO stop hl0
  obtain ⟨w8, hw8⟩ : ∃ W, W = w5.alloc (.cells ([.int .i64 L, .slice none 0 0] : List Value).toArray 26) := ⟨_, rfl⟩
  obtain ⟨k8, hk8⟩ : ∃ k, k = w5.heap.size := ⟨_, rfl⟩
  have b8 : Below w5.heap.size w5 w8 := by rw [hw8]; exact bel_alloc _ _
  have X8 : Box w8 k8 [.int .i64 L, .slice none 0 0] := by rw [hw8, hk8]; exact Box.new w5 _ _
  have HKB := hid (show k8 + 1 ≤ w8.heap.size ∧ k8 = w5.heap.size by rw [hk8, hw8]; simp)
  have HB8 := hid b8
  have O8 := hid (⟨.slice none 0 0, X8, World.ownsRow_nil _ _ _ _⟩ : ∃ V2, Box w8 k8 [.int .i64 L, V2] ∧ w8.ownsRow (k8 + 1) 45 5 V2 ([] : List Gp).length (([] : List Gp).flatMap gpC))
  have HW := hid hw8
  have HK := hid hk8
  clear hw8 hk8 b8 X8
  go_wp2
  rw [← HW.out, ← HK.out]
  clear HW HK
  go_loopw [7] (fun v wr => ∃ (i n' vb vo vc : Nat) (done : List Gp), v = .slice (some ⟨vb, vo, none⟩) n' vc ∧ i ≤ N ∧ Hid (n' = N - i) ∧ Hid (Row tRn w5 (some ⟨vb, vo, none⟩) n' vc (R.drop i)) ∧ Hid (G = done ++ grp (R.drop i)) ∧ Hid (done.length ≤ i) ∧ Hid (∃ V2, Box wr k8 [.int .i64 L, V2] ∧ wr.ownsRow (k8 + 1) 45 5 V2 done.length (done.flatMap gpC)) ∧ Hid (Below w5.heap.size w5 wr) ∧ Hid (k8 + 1 ≤ wr.heap.size)) (fun v _ => lenV v)
  case atStart => exact ⟨0, N, cb', coff, cc, [], rfl, Nat.zero_le _, hid rfl, RC, EG, hid (Nat.le_refl _), O8, HB8, hid HKB.out.1⟩
  case round =>
    clear O8 HB8
    obtain ⟨i, n', vb, vo, vc, done, rfl, hi, hn', hRow, hG, hdl, hO, hb, hs⟩ := hrel
    by_cases hlt : i < N
    · have hnn := hn'.out
      have zl : decide (0 < (n' : Int)) = true := decide_eq_true (by omega)
      have hdr : (R.drop i).length = n' := by rw [List.length_drop, ← HN.out]; omega
      have hne : R.drop i ≠ [] := fun e => by
        rw [e] at hdr
        have : n' = 0 := hdr.symm
        omega
      have cG := fun W (h : Row tRn W (some ⟨vb, vo, none⟩) n' vc (R.drop i)) => group_any (R.drop i) (some ⟨vb, vo, none⟩) vc W (by rw [hdr]; exact h) hne (by rw [hdr]; omega) (fun r hr => RV.out r (List.mem_of_mem_drop hr))
      rw [hdr] at cG
      obtain ⟨h1, h2, h3⟩ := grp_hd hne
      rw [hdr] at h3
      obtain ⟨g, hg⟩ : ∃ g, g = hdG (R.drop i) := ⟨_, rfl⟩
      rw [← hg] at cG h1 h2 h3
      clear hg
      obtain ⟨gf, gv, gw, gr, gc⟩ := g
      obtain ⟨c, rfl⟩ : ∃ c : Nat, gc = (c : Int) := ⟨gc.toNat, by have h2 : 1 ≤ gc := h2; omega⟩
      dsimp only at cG h1 h2 h3
      rw [Int.toNat_natCast] at h1 h3
      have G2 := hid (show G = (done ++ [⟨gf, gv, gw, gr, (c : Int)⟩]) ++ grp (R.drop (i + c)) by rw [hG.out, h1, List.append_assoc, List.drop_drop]; rfl)
      have cG := hid (cG wr (hRow.out.on hb.out))
      obtain ⟨V2, BV, oV⟩ := hO.out
      have BV := hid BV
      have oV := hid oV
      have dl : done.length ≤ 100000 := by have := hdl.out; omega
      obtain ⟨va, vcp, eV⟩ : ∃ ao cap, V2 = .slice ao done.length cap := by
        rcases oV.out.2 with ⟨h1, h2⟩ | ⟨g, cap, cur, h1, _⟩
        · exact ⟨none, 0, by rw [h1, h2]⟩
        · exact ⟨_, cap, h1⟩
      have c1 : 1 ≤ c := by omega
      have HNN := hid hnn
      have n'l : n' ≤ 100000 := by omega
      clear h1 hne hdr hG hO h2 hnn
      go_wp2_with fail
      refine cG.out.mono ?_
      rintro e w6 ⟨rfl, b6⟩
      have b6s := b6.size
      obtain ⟨w9, hw9⟩ : ∃ W, W = w6.alloc (.cells #[.int .i64 gf, .int .i64 gv, .int .i64 gw, .int .i64 gr, .int .i64 (c : Int)] 45) := ⟨_, rfl⟩
      obtain ⟨k9, hk9⟩ : ∃ k, k = w6.heap.size := ⟨_, rfl⟩
      have b9 : Below w6.heap.size w6 w9 := by rw [hw9]; exact bel_alloc _ _
      have X9 : Box w9 k9 (gpC ⟨gf, gv, gw, gr, (c : Int)⟩) := by rw [hw9, hk9]; exact Box.new w6 (gpC ⟨gf, gv, gw, gr, (c : Int)⟩) _
      have b69 := bel_on b6 b9
      have GX := hid (show GI w5 w9 k8 k9 L V2 done ⟨gf, gv, gw, gr, (c : Int)⟩ from
        ⟨BV.out.on b69, owns_on oV.out b69, fun e => by have := (oV.out.lt k9 e).2; omega, X9, bel_on hb.out b69, by have := HKB.out; have := hs.out; omega⟩)
      have SX := hid (show k8 + 1 ≤ w9.heap.size from Nat.le_trans hs.out b69.size)
      have HW := hid hw9
      have HK := hid hk9
      clear b6 b9 X9 b69 hw9 hk9 BV oV hb hs cG
      go_upto_region 10 with fail
      rw [← HW.out, ← HK.out]
      clear HW HK
      have x1 := GX.out.cur.cell 1 _ rfl
      have lx := GX.out.cur.lt
      have y0 := GX.out.gp.cell 0 _ rfl; have y1 := GX.out.gp.cell 1 _ rfl; have y2 := GX.out.gp.cell 2 _ rfl; have y3 := GX.out.gp.cell 3 _ rfl; have y4 := GX.out.gp.cell 4 _ rfl
      have ly := GX.out.gp.lt
      have oo := GX.out.own
      have hsz : k8 + 1 ≤ w9.heap.size := SX.out
      subst eV
      go_wp2_with (at_builtin; refine wpList_append_own _ rfl _ _ 24 rfl (k8 + 1) 45 j0 (.agg #[.int .i64 0, .int .i64 0, .int .i64 0, .int .i64 0, .int .i64 0]) 5 40 Try.underlying24 hj0 hy0 hy1 hy2 rfl (by decide) _ _ _ rfl (oo.alloc _) ⟨w9.heap.size, 0, none⟩ 1 1 (gpC ⟨gf, gv, gw, gr, (c : Int)⟩) rfl rfl (news_at w9 (gpC ⟨gf, gv, gw, gr, (c : Int)⟩) _) (by simp [gpC, Value.oneCell']) (by unfold maxLen; omega) (by omega) (by simp; omega) ?_)
      intro vq wq hown hgrow _
      obtain ⟨g5, cp5, e5, -, -⟩ := hown.form (by omega)
      have ne7 : some k8 ≠ (Value.slice va done.length vcp).ownBlock := own_ne oo (by omega)
      have Z7 := (GX.out.cur.on (bel_alloc w9 _)).grown hgrow ne7
      have Z9 := (GX.out.gp.on (bel_alloc w9 _)).grown hgrow (fun e => GX.out.ne e.symm)
      have b5 := (GX.out.bel.alloc (by have := GX.out.base; omega) _).grown hgrow (by have := GX.out.base; simp; omega) (fun j hj => by have := (oo.lt j hj).1; have := GX.out.base; omega)
      have NX := hid (show ∃ V2, Box (wq.setCell ⟨k8, 1, none⟩ vq) k8 [.int .i64 L, V2] ∧ (wq.setCell ⟨k8, 1, none⟩ vq).ownsRow (k8 + 1) 45 5 V2 (done ++ [(⟨gf, gv, gw, gr, (c : Int)⟩ : Gp)]).length ((done ++ [(⟨gf, gv, gw, gr, (c : Int)⟩ : Gp)]).flatMap gpC) from ⟨vq, Z7.set 1 vq, by
        have h := other_own hown (k := k8) (i := 1) (by omega) vq
        rw [List.length_append, List.flatMap_append]
        exact h⟩)
      have NB := hid (b5.setCell (p := ⟨k8, 1, none⟩) GX.out.base.1 vq)
      have NS := hid (show k8 + 1 ≤ (wq.setCell ⟨k8, 1, none⟩ vq).heap.size by have h1 := hgrow.size; simp at h1 ⊢; omega)
      have m7 := Z7.cell 1 _ rfl
      have f7 := Z7.free 1
      have l7 := Z7.lt
      have m9 := (Z9.other (p := ⟨k8, 1, none⟩) (by have := GX.out.base; show k9 ≠ k8; omega) vq).cell 4 _ rfl
      have l9 := (Z9.other (p := ⟨k8, 1, none⟩) (by have := GX.out.base; show k9 ≠ k8; omega) vq).lt
      have nn : ¬ k9 = k8 := by have := GX.out.base; omega
      have m9' := Z9.cell 4 _ rfl
      have l9' := Z9.lt
      have DL := hid (show (done ++ [(⟨gf, gv, gw, gr, (c : Int)⟩ : Gp)]).length ≤ i + c by have := hdl.out; rw [List.length_append]; show done.length + 1 ≤ _; omega)
      have RR := hid (row_behind hRow.out h3)
      have q0 : (0 : Int) ≤ (c : Int) := by omega
      have q1 : (c : Int) ≤ (n' : Int) := by omega
      have q2 : c ≤ vc := Nat.le_trans h3 hRow.out.hcap
      have q3 : (c : Int) ≤ (vc : Int) := by omega
      have q4 : (n' : Int) ≤ (vc : Int) := by have := hRow.out.hcap; omega
      subst e5
      clear hown hgrow oo GX SX x1 lx y0 y1 y2 y3 y4 ly Z7 Z9 b5 ne7
      have M1 : n' - c < n' := by omega
      have NN := hid (show n' - c = N - (i + c) by have := HNN.out; omega)
      have IC : i + c ≤ N := by have := HNN.out; omega
      by_cases hk : vc = c
      · have RZ := hid (show Row tRn w5 (some ⟨vb, vo, none⟩) (n' - c) 0 (R.drop (i + c)) by
          have e0 : n' - c = 0 := by omega
          rw [e0, List.drop_of_length_le (by rw [← HN.out]; have := NN.out; omega)]
          exact row_nil)
        clear RR HNN hRow
        go_wp2
        go_roundw
        case rel => exact ⟨i + c, n' - c, vb, vo, 0, done ++ [⟨gf, gv, gw, gr, (c : Int)⟩], rfl, IC, NN, RZ, G2, DL, NX, NB, NS⟩
        case measure => exact M1
      · have hk2 : c < vc := by omega
        have RZ := hid (show Row tRn w5 (some ⟨vb, vo + c * 3, none⟩) (n' - c) (vc - c) (R.drop (i + c)) by
          have := RR.out
          rw [List.drop_drop] at this
          exact this)
        clear RR HNN hRow
        go_wp2
        go_roundw
        case rel => exact ⟨i + c, n' - c, vb, vo + c * 3, vc - c, done ++ [⟨gf, gv, gw, gr, (c : Int)⟩], rfl, IC, NN, RZ, G2, DL, NX, NB, NS⟩
        case measure => exact M1
    · have hn0 : n' = 0 := by have := hn'.out; omega
      subst hn0
      obtain ⟨V2, BV, oV⟩ := hO.out
      have e0 : G = done := by rw [hG.out, List.drop_of_length_le (by rw [← HN.out]; omega), grp_nil, List.append_nil]
      obtain ⟨w9, hw9⟩ : ∃ W, W = (wr.setCell ⟨k1, 0, none⟩ (.int .i64 L)).setCell ⟨k1, 1, none⟩ V2 := ⟨_, rfl⟩
      have k18 : k1 < k8 := by have := HS.out.2; have := B5.out.size; have := HKB.out.2; omega
      have o9 : w9.ownsRow (k8 + 1) 45 5 V2 done.length (done.flatMap gpC) := by
        rw [hw9]
        exact other_own (other_own oV (by omega) _) (by omega) _
      obtain ⟨ga, gc, eV, RG⟩ := row_own (n := 5) (cells := gpC) (ok := GpOk) (hn := fun _ => rfl) o9 (by rw [← e0]; exact GOK.out)
      subst eV
      rw [← e0] at RG
      have RG := hid RG
      have bwr := B5.out.trans (hb.out.mono B5.out.size)
      obtain ⟨_, X1, _, BW⟩ := HX.out wr bwr
      have X9 := hid (show Box w9 k1 [.int .i64 L, .slice ga done.length gc] by rw [hw9]; exact (X1.set 0 _).set 1 _)
      have B9 := hid (show Below w.heap.size w w9 by
        rw [hw9]
        exact (BW.setCell (p := ⟨k1, 0, none⟩) HS.out.1 _).setCell (p := ⟨k1, 1, none⟩) HS.out.1 _)
      have HW9 := hid hw9
      have m0 := BV.cell 0 _ rfl
      have m1 := BV.cell 1 _ rfl
      have l7 := BV.lt
      have c0 := X1.cell 0 _ rfl
      have c1 := X1.cell 1 _ rfl
      have f0 := X1.free 0
      have f1 := X1.free 1
      have l1 := X1.lt
      have EL := hid (show done.length = G.length by rw [e0])
      clear BV oV hO hb hs o9 hw9 X1 hG e0 BW bwr HX hRow
      go_wp2
      rw [← HW9.out]
      refine bodyPost_ret (v := .tuple #[.agg #[.int .i64 L, .slice ga done.length gc], .bool true]) ?_ rfl ⟨⟨ga, gc, by rw [EL.out, EQ.out], ?_⟩, B9.out⟩
      · exact results_ct (p := 2) (q := 3) rfl _ _ k1 [.int .i64 L, .slice ga done.length gc] _ rfl (fun j u h => by rw [Nat.zero_add]; exact X9.out.cell j u h) Try.underlying26 rfl (by kernel_rfl)
      · exact RG.out
end Go.Proofs.Ytemjmdfmcblgnaa.Cc
/- Package curve, walked: the numbers of a curve that can be, Line, Good; what package curve answers, in one. -/
namespace Go.Proofs.Ytemjmdfmcblgnaa.Cc
open Go.RowKit Go.Sort Go.Shelf P Mm R6 R14 R15 L14 L15
attribute [local go_sem] Oper.semAt_some
theorem cur_i64 {l : List Int} (h : curB l = true) : ∀ v ∈ l, I64 v := fun v hv => by
  unfold curB at h
  simp only [Bool.and_eq_true, Bool.not_eq_true'] at h
  have h5 := List.any_eq_false.1 h.2 v hv
  unfold bigB at h5
  rw [Bool.or_eq_true, decide_eq_true_eq, decide_eq_true_eq, not_or] at h5
  unfold I64
  omega
theorem cur_len {l : List Int} (h : curB l = true) : 0 < l.length ∧ l.length ≤ 2001 := by
  unfold curB at h
  simp only [Bool.and_eq_true, decide_eq_true_eq] at h
  exact h.1
theorem cur_inc (l : List Int) : incG (curG l) := okG_inc _ 0 (okG_cur (runs_val l 0))
theorem grp_len : ∀ (n : Nat) (rs : List (Rn Int)), rs.length ≤ n → (grp rs).length ≤ rs.length
  | _, [], _ => Nat.zero_le _
  | 0, p :: l, h => by simp at h
  | n + 1, [p], _ => Nat.le_refl _
  | n + 1, p :: q :: l, h => by
    rw [grp_two, List.length_cons, List.length_cons, List.length_cons]
    rw [List.length_cons, List.length_cons] at h
    have := grp_len n (l.drop (extN (q.a - p.a) (q.v - p.v) q.a q.v l)) (by rw [List.length_drop]; omega)
    rw [List.length_drop] at this
    omega
theorem cur_few {l : List Int} (h : curB l = true) : (curG l).length ≤ 100000 := by
  have h1 := grp_len _ (runsF 0 l) (Nat.le_refl _)
  have h2 := runs_len l 0
  have h3 := cur_len h
  unfold curG
  omega
theorem rn_cur {l : List Int} (h : curB l = true) (q : Int) : rN ((l.length : Int) - 1) (curG l) q = vO (atL 0 l q) ∧ rB ((l.length : Int) - 1) (curG l) q = bO (atL 0 l q) := by
  unfold rN rB atL
  by_cases h0 : q < 0
  · rw [if_neg (by omega : ¬ (0 ≤ q ∧ q ≤ (l.length : Int) - 1)), if_neg (by omega : ¬ (0 ≤ q ∧ q ≤ (l.length : Int) - 1)), if_pos h0]
    exact ⟨rfl, rfl⟩
  · rw [if_neg h0, Int.sub_zero]
    by_cases h1 : q < l.length
    · rw [if_pos (by omega), if_pos (by omega), cur_at (by omega) h1]
      obtain ⟨v, hv⟩ : ∃ v, l[q.toNat]? = some v := ⟨_, List.getElem?_eq_getElem (by omega)⟩
      rw [hv]
      exact ⟨wrap_l (cur_i64 h v (List.mem_of_getElem? hv)), rfl⟩
    · rw [if_neg (by omega), if_neg (by omega), List.getElem?_eq_none (by omega)]
      exact ⟨rfl, rfl⟩
theorem at_cur (l : List Int) (q : Int) (ao : Option Addr) (cap : Nat) (w : World) (hr : Row tGp w ao (curG l).length cap (curG l)) (hb : curB l = true) (hq : I64 q) :
    Calls Try.prog 13 #[.agg #[.int .i64 ((l.length : Int) - 1), .slice ao (curG l).length cap], .int .i64 q] w fun e w' => e = .returned (.tuple #[.int .i64 (vO (atL 0 l q)), .bool (bO (atL 0 l q))]) ∧ Below w.heap.size w w' := by
  have := at_any ((l.length : Int) - 1) (curG l) ao cap q w hr (cur_low hb) (cur_inc l) (cur_few hb) hq
  rwa [(rn_cur hb q).1, (rn_cur hb q).2] at this
set_option maxHeartbeats 2000000 in
set_option maxRecDepth 100000 in
theorem numbers_any (S : LnO) (l : List Int) (ao : Option Addr) (cap : Nat) (w : World) (hr : Row tGp w ao (curG l).length cap (curG l)) (hb : curB l = true) :
    Calls Try.prog 28 #[.agg #[.int .i64 ((l.length : Int) - 1), .slice ao (curG l).length cap]] w fun e w' => (∃ ao' cap', e = .returned (.tuple #[.agg #[.slice ao' (runsF 0 l).length cap'], .bool true]) ∧ Row tRn w' ao' (runsF 0 l).length cap' (runsF 0 l)) ∧ Below w.heap.size w w' := by
  have cA := hid (fun (q : Int) (W : World) (h : Row tGp W ao (curG l).length cap (curG l)) (hq : I64 q) => at_cur l q ao cap W h hb hq)
  obtain ⟨hn0, hn1⟩ := cur_len hb
  have VB := hid (cur_i64 hb)
  obtain ⟨K, hK⟩ : ∃ K, K = (curG l).length := ⟨_, rfl⟩
  obtain ⟨n, hn⟩ : ∃ n, n = l.length := ⟨_, rfl⟩
  obtain ⟨m, hm⟩ : ∃ m, m = (n : Int) - 1 := ⟨_, rfl⟩
  obtain ⟨M, hM⟩ : ∃ M, M = (runsF 0 l).length := ⟨_, rfl⟩
  have hk := hid hK
  have cO := hid (fun (sa : Option Addr) (sc : Nat) (W : World) (h : Row tInt W sa l.length sc l) => S.of 0 l sa sc W h (by decide) (by decide) (by omega))
  have lc := hr.hcap
  have lm := hr.hmax
  rw [← hK] at hr cA lc ⊢
  rw [← hn, ← hm] at cA ⊢
  rw [← hn] at hn0 hn1 cO
  rw [← hM] at cO ⊢
  obtain ⟨w1, hw1⟩ : ∃ W, W = (w.alloc (.cells ([.int .i64 m, .slice ao K cap] : List Value).toArray 26)).alloc (.cells ([.slice none 0 0] : List Value).toArray 31) := ⟨_, rfl⟩
  obtain ⟨k0, hk0⟩ : ∃ k, k = w.heap.size := ⟨_, rfl⟩
  obtain ⟨k1, hk1⟩ : ∃ k, k = w.heap.size + 1 := ⟨_, rfl⟩
  have b1 : Below w.heap.size w w1 := by rw [hw1]; exact (bel_alloc w _).alloc (by simp) _
  have X0 : Box w1 k0 [.int .i64 m, .slice ao K cap] := by
    rw [hw1, hk0]
    exact (Box.new w [.int .i64 m, .slice ao K cap] _).on (bel_alloc _ _)
  have X1 : Box w1 k1 [.slice none 0 0] := by
    rw [hw1, hk1]
    have := Box.new (w.alloc (.cells ([.int .i64 m, .slice ao K cap] : List Value).toArray 26)) [.slice none 0 0] 31
    simpa using this
  have HS0 : k1 < w1.heap.size := X1.lt
  have N1 : ∀ j, 1 ≤ j → w1.cell? ⟨k1, j, none⟩ = none := fun j hj => by
    rw [hw1, hk1, show w.heap.size + 1 = (w.alloc (.cells ([.int .i64 m, .slice ao K cap] : List Value).toArray 26)).heap.size by simp, World.cell?_alloc_new]
    simp
    omega
  have NX := hid (fun (W : World) (b : Below w1.heap.size w1 W) (j : Nat) (hj : 1 ≤ j) => (show W.cell? ⟨k1, j, none⟩ = none from (b.cell HS0).trans (N1 j hj)))
  have HX := hid (fun (W : World) (b : Below w1.heap.size w1 W) => (⟨X0.on b, X1.on b, hr.on (bel_on b1 b), bel_on b1 b⟩ : Box W k0 [.int .i64 m, .slice ao K cap] ∧ Box W k1 [.slice none 0 0] ∧ Row tGp W ao K cap (curG l) ∧ Below w.heap.size w W))
  have HS := hid (show w.heap.size ≤ k1 ∧ k1 < w1.heap.size by rw [hk1, hw1]; simp)
  have B0 := hid (Below.refl w1.heap.size w1)
  have HW := hid hw1
  have HK0 := hid hk0
  have HK1 := hid hk1
  obtain ⟨i0, hi0, hz0, hz1, hz2⟩ := info_parts R14.info_int
  have HN := hid hn
  have HM := hid hm
  have x0 := X0.cell 0 _ rfl
  have xl := X0.lt
  have zm : decide (2000 < m) = false := decide_eq_false (by omega)
  have wm : IntKind.i64.wrap (m + 1) = (n : Int) := by rw [hm, show (n : Int) - 1 + 1 = (n : Int) by omega]; exact wrap_l (by unfold I64; omega)
  clear hw1 hk0 hk1 b1 X0 X1 hr hb hK hn hM hm N1 HS0
  go_enter Try.func28, Try.ntmps28
  go_upto_region 1 with fail
  rw [← HW.out, ← HK1.out, ← HK0.out]
  clear HW HK0 HK1
  go_wp2
  clear x0 xl
  go_loopw [4, 15] (fun v4 v15 wr => ∃ (V : Value) (i P : Nat), v4 = V ∧ v15 = .int .i64 (i : Int) ∧ i ≤ n ∧ Hid (P = i) ∧ Hid (wr.ownsRow w1.heap.size 3 1 V P ((l.take i).flatMap intC)) ∧ Hid (Below w1.heap.size w1 wr)) (fun _ i _ => n - (intOf i).toNat)
  case atStart => exact ⟨_, 0, 0, rfl, rfl, Nat.zero_le _, hid rfl, hid (World.ownsRow_nil _ _ _ _), B0⟩
  case round =>
    clear B0
    obtain ⟨V, i, P, rfl, rfl, hi, hP, hO, hb⟩ := hrel
    by_cases hlt : i < n
    · have kn : (i : Int) < (n : Int) := by omega
      obtain ⟨v, hv⟩ : ∃ v, l[i]? = some v := ⟨_, List.getElem?_eq_getElem (by have := HN.out; omega)⟩
      obtain ⟨Y0, _, RG, _⟩ := HX.out wr hb.out
      have cAt := cA.out (i : Int) wr RG (by unfold I64; omega)
      have ev : atL 0 l (i : Int) = some v := by
        unfold atL
        rw [if_neg (by omega), show ((i : Int) - 0).toNat = i by omega]
        exact hv
      rw [ev, show vO (some v) = v from rfl, show bO (some v) = true from rfl] at cAt
      have cAt := hid cAt
      have y0 := Y0.cell 0 _ rfl
      have y1 := Y0.cell 1 _ rfl
      have yl := Y0.lt
      have y3 : IntKind.i64.wrap ((i : Int) + 1) = (i : Int) + 1 := wrap_l (by unfold I64; omega)
      have TK := hid (show (l.take (i + 1)).flatMap intC = (l.take i).flatMap intC ++ intC v by rw [List.take_add_one, hv, List.flatMap_append]; rfl)
      have PN := hid (show P + 1 = i + 1 by rw [hP.out])
      have P3 : P < 3000 := by have := hP.out; omega
      clear ev hv Y0 RG
      go_wp2_with fail
      refine cAt.out.mono ?_
      rintro e w5 ⟨rfl, b5⟩
      have oo := owns_on hO.out b5
      have B5 := hid (bel_on hb.out b5)
      have hsz := B5.out.size
      clear cAt b5 hO hb hP y0 y1 yl
      go_wp2_with (at_builtin; refine wpList_append_own _ rfl _ _ 22 rfl w1.heap.size 3 i0 (.int .i64 0) 1 8 Try.underlying22 hi0 hz0 hz1 hz2 rfl (by decide) _ _ _ rfl (oo.alloc _) ⟨w5.heap.size, 0, none⟩ 1 1 (intC v) rfl rfl (news_at w5 (intC v) _) (by simp [intC, Value.oneCell']) (by unfold maxLen; omega) (by omega) (by simp; omega) ?_)
      intro v6 w6 hown hgrow _
      have B6 := hid ((B5.out.alloc hsz _).grown hgrow (B5.out.alloc hsz _).size (fun j hj => (oo.lt j hj).1))
      have O6 := hid (show w6.ownsRow w1.heap.size 3 1 v6 (P + 1) ((l.take (i + 1)).flatMap intC) by rw [TK.out]; exact hown)
      clear hown hgrow oo B5 TK
      go_wp2
      go_roundw
      case rel => exact ⟨v6, i + 1, P + 1, rfl, by simp, by omega, PN, O6, B6⟩
      case measure => simp [intOf]; omega
    · have zk : decide ((i : Int) < (n : Int)) = false := decide_eq_false (by omega)
      have hPT : P = n := by rw [hP.out]; omega
      have oV := hO.out
      rw [hPT, List.take_of_length_le (by rw [← HN.out]; omega), HN.out] at oV
      obtain ⟨sa, sc, e, RS⟩ := row_own (n := 1) (cells := intC) (ok := I64) (hn := fun _ => rfl) oV VB.out
      rw [← HN.out] at e RS
      have cO2 := hid (cO.out sa sc wr RS)
      subst e
      have BX := hid hb.out
      clear hb hO oV RS cO cA hP
      go_wp2_with fail
      refine cO2.out.mono ?_
      rintro e w3 ⟨⟨lo, lcp, rfl, RL⟩, b3⟩
      have B3 := bel_on BX.out b3
      obtain ⟨_, Y1, _, BW⟩ := HX.out w3 B3
      have c0 := Y1.cell 0 _ rfl
      have f0 := Y1.free 0
      have l1 := Y1.lt
      obtain ⟨wz, hwz⟩ : ∃ W, W = w3.setCell ⟨k1, 0, none⟩ (.slice lo M lcp) := ⟨_, rfl⟩
      have X9 := hid (show Box wz k1 [.slice lo M lcp] by rw [hwz]; exact Y1.set 0 _)
      have B9 := hid (show Below w.heap.size w wz by rw [hwz]; exact BW.setCell (p := ⟨k1, 0, none⟩) HS.out.1 _)
      have RZ := hid (show Row tRn wz lo M lcp (runsF 0 l) from by
        rw [hwz]
        refine Li.row_keep RL fun hne ad e => Below.heap_setCell w3 ⟨k1, 0, none⟩ _ ad.block ?_
        intro hk
        obtain ⟨r, hr⟩ : ∃ r, (runsF 0 l)[0]? = some r := ⟨_, List.getElem?_eq_getElem (List.length_pos_iff.2 hne)⟩
        obtain ⟨b, o, e2, -, -, h1, -, -⟩ := rn_at RL hr
        rw [e] at e2
        obtain rfl := Option.some.inj e2
        have hk : b = k1 := hk
        subst hk
        have := NX.out w3 B3 (o + 0 * 3 + 1) (by omega)
        rw [this] at h1
        cases h1)
      have HWZ := hid hwz
      clear hwz b3 B3 Y1 BW RL cO2 HX NX
      go_wp2
      rw [← HWZ.out]
      refine bodyPost_ret (v := .tuple #[.agg #[.slice lo M lcp], .bool true]) ?_ rfl ⟨⟨lo, lcp, rfl, RZ.out⟩, B9.out⟩
      exact results_ct (p := 2) (q := 3) rfl _ _ k1 [.slice lo M lcp] _ rfl (fun j u h => by rw [Nat.zero_add]; exact X9.out.cell j u h) Try.underlying31 rfl (by kernel_rfl)
set_option maxHeartbeats 2000000 in
set_option maxRecDepth 100000 in
theorem line_any (S : LnO) (l : List Int) (ao : Option Addr) (cap : Nat) (w : World) (hr : Row tGp w ao (curG l).length cap (curG l)) (hb : curB l = true) :
    Calls Try.prog 14 #[.agg #[.int .i64 ((l.length : Int) - 1), .slice ao (curG l).length cap]] w fun e w' => (∃ ao' cap', e = .returned (.tuple #[.agg #[.slice ao' (runsF 0 l).length cap'], .bool true]) ∧ Row tRn w' ao' (runsF 0 l).length cap' (runsF 0 l)) ∧ Below w.heap.size w w' := by
  have cN := hid (fun W (h : Row tGp W ao (curG l).length cap (curG l)) => numbers_any S l ao cap W h hb)
  have hp : Ply 0 l := ply_of (by decide) (by decide) (by have := cur_len hb; omega) (cur_i64 hb)
  have cO := hid (fun (bo : Option Addr) (bc : Nat) (W : World) (h : Row tRn W bo (runsF 0 l).length bc (runsF 0 l)) => of_any S 0 l bo bc W h hp (by have := cur_len hb; omega))
  have hB : ofB 0 l = true := by rw [ofB_0]; exact hb
  rw [hB, (of_yes hB).1, (of_yes hB).2] at cO
  have cE := hid (fun (bo : Option Addr) (bc : Nat) (W : World) (h1 : Row tGp W bo (curG l).length bc (curG l)) (h2 : Row tGp W ao (curG l).length cap (curG l)) => same_any ((l.length : Int) - 1) (curG l) bo bc ((l.length : Int) - 1) (curG l) ao cap W h1 h2)
  rw [show eqC ((l.length : Int) - 1) (curG l) ((l.length : Int) - 1) (curG l) = true by unfold eqC; rw [decide_eq_true rfl, decide_eq_true rfl]; rfl] at cE
  obtain ⟨K, hK⟩ : ∃ K, K = (curG l).length := ⟨_, rfl⟩
  obtain ⟨m, hm⟩ : ∃ m, m = (l.length : Int) - 1 := ⟨_, rfl⟩
  obtain ⟨M, hM⟩ : ∃ M, M = (runsF 0 l).length := ⟨_, rfl⟩
  have lc := hr.hcap
  have lm := hr.hmax
  rw [← hK] at hr cN cO cE lc ⊢
  rw [← hm] at cN cO cE ⊢
  rw [← hM] at cN cO ⊢
  clear hK hm hM hb hp hB
  obtain ⟨w1, hw1⟩ : ∃ W, W = (w.alloc (.cells ([.int .i64 m, .slice ao K cap] : List Value).toArray 26)).alloc (.cells ([.slice none 0 0] : List Value).toArray 31) := ⟨_, rfl⟩
  obtain ⟨k0, hk0⟩ : ∃ k, k = w.heap.size := ⟨_, rfl⟩
  obtain ⟨k1, hk1⟩ : ∃ k, k = w.heap.size + 1 := ⟨_, rfl⟩
  have b1 : Below w.heap.size w w1 := by rw [hw1]; exact (bel_alloc w _).alloc (by simp) _
  have X0 : Box w1 k0 [.int .i64 m, .slice ao K cap] := by
    rw [hw1, hk0]
    exact (Box.new w [.int .i64 m, .slice ao K cap] _).on (bel_alloc _ _)
  have X1 : Box w1 k1 [.slice none 0 0] := by
    rw [hw1, hk1]
    have := Box.new (w.alloc (.cells ([.int .i64 m, .slice ao K cap] : List Value).toArray 26)) [.slice none 0 0] 31
    simpa using this
  have HS0 : k1 < w1.heap.size := X1.lt
  have N1 : ∀ j, 1 ≤ j → w1.cell? ⟨k1, j, none⟩ = none := fun j hj => by
    rw [hw1, hk1, show w.heap.size + 1 = (w.alloc (.cells ([.int .i64 m, .slice ao K cap] : List Value).toArray 26)).heap.size by simp, World.cell?_alloc_new]
    simp
    omega
  have NX := hid (fun (W : World) (b : Below w1.heap.size w1 W) (j : Nat) (hj : 1 ≤ j) => (show W.cell? ⟨k1, j, none⟩ = none from (b.cell HS0).trans (N1 j hj)))
  have HX := hid (fun (W : World) (b : Below w1.heap.size w1 W) => (⟨X0.on b, X1.on b, hr.on (bel_on b1 b), bel_on b1 b⟩ : Box W k0 [.int .i64 m, .slice ao K cap] ∧ Box W k1 [.slice none 0 0] ∧ Row tGp W ao K cap (curG l) ∧ Below w.heap.size w W))
  have HS := hid (show w.heap.size ≤ k1 ∧ k1 < w1.heap.size by rw [hk1, hw1]; simp)
  have B0 := hid (Below.refl w1.heap.size w1)
  have HW := hid hw1
  have HK0 := hid hk0
  have HK1 := hid hk1
  have x0 := X0.cell 0 _ rfl
  have x1 := X0.cell 1 _ rfl
  have xl := X0.lt
  clear hw1 hk0 hk1 b1 X0 X1 hr N1 HS0
  go_enter Try.func14, Try.ntmps14
  go_upto_region 1 with fail
  rw [← HW.out, ← HK1.out, ← HK0.out]
  clear HW HK0 HK1
  go_wp2_with fail
  refine (cN.out w1 (HX.out w1 B0.out).2.2.1).mono ?_
  rintro e w2 ⟨⟨no, nc, rfl, RN⟩, b2⟩
  have B2 := hid b2
  obtain ⟨w3, hw3⟩ : ∃ W, W = w2.alloc (.cells #[.slice no M nc] 31) := ⟨_, rfl⟩
  obtain ⟨k3, hk3⟩ : ∃ k, k = w2.heap.size := ⟨_, rfl⟩
  have b3 : Below w2.heap.size w2 w3 := by rw [hw3]; exact bel_alloc _ _
  have X3 : Box w3 k3 [.slice no M nc] := by rw [hw3, hk3]; exact Box.new w2 [.slice no M nc] _
  have B3 := hid (bel_on B2.out b3)
  have R3 := RN.on b3
  have c0 := X3.cell 0 _ rfl
  have cl := X3.lt
  have HY := hid (fun (W : World) (b : Below w3.heap.size w3 W) => (⟨X3.on b, R3.on b⟩ : Box W k3 [.slice no M nc] ∧ Row tRn W no M nc (runsF 0 l)))
  have cO2 := hid (cO.out no nc w3 R3)
  have HW := hid hw3
  have HK := hid hk3
  clear hw3 hk3 b3 X3 R3 RN b2 cN cO x0 x1 xl
  go_upto_region 4 with fail
  rw [← HW.out, ← HK.out]
  clear HW HK
  go_wp2_with fail
  refine cO2.out.mono ?_
  rintro e w4 ⟨⟨oo, oc, rfl, RO⟩, b4⟩
  obtain ⟨w5, hw5⟩ : ∃ W, W = w4.alloc (.cells #[.int .i64 m, .slice oo K oc] 26) := ⟨_, rfl⟩
  obtain ⟨k5, hk5⟩ : ∃ k, k = w4.heap.size := ⟨_, rfl⟩
  have b5 : Below w4.heap.size w4 w5 := by rw [hw5]; exact bel_alloc _ _
  have X5 : Box w5 k5 [.int .i64 m, .slice oo K oc] := by rw [hw5, hk5]; exact Box.new w4 [.int .i64 m, .slice oo K oc] _
  have B35 := hid (bel_on b4 b5)
  have B5 := hid (bel_on B3.out B35.out)
  have R5 := RO.on b5
  have d0 := X5.cell 0 _ rfl
  have d1 := X5.cell 1 _ rfl
  have dl := X5.lt
  have x0 := (HX.out w5 B5.out).1.cell 0 _ rfl
  have x1 := (HX.out w5 B5.out).1.cell 1 _ rfl
  have xl := (HX.out w5 B5.out).1.lt
  have cE2 := hid (cE.out oo oc w5 R5 (HX.out w5 B5.out).2.2.1)
  have HW := hid hw5
  have HK := hid hk5
  clear hw5 hk5 b4 b5 X5 R5 RO cO2 cE c0 cl
  go_upto_region 5 with fail
  rw [← HW.out, ← HK.out]
  clear HW HK
  go_wp2_with fail
  refine cE2.out.mono ?_
  rintro e w6 ⟨rfl, b6⟩
  have B6 := hid (bel_on B5.out b6)
  obtain ⟨Y3, R6⟩ := HY.out w6 (bel_on B35.out b6)
  obtain ⟨_, Y1, _, BW⟩ := HX.out w6 B6.out
  have y0 := Y3.cell 0 _ rfl
  have yl := Y3.lt
  have z0 := Y1.cell 0 _ rfl
  have f0 := Y1.free 0
  have zl := Y1.lt
  obtain ⟨wz, hwz⟩ : ∃ W, W = w6.setCell ⟨k1, 0, none⟩ (.slice no M nc) := ⟨_, rfl⟩
  have X9 := hid (show Box wz k1 [.slice no M nc] by rw [hwz]; exact Y1.set 0 _)
  have B9 := hid (show Below w.heap.size w wz by rw [hwz]; exact BW.setCell (p := ⟨k1, 0, none⟩) HS.out.1 _)
  have RZ := hid (show Row tRn wz no M nc (runsF 0 l) from by
    rw [hwz]
    refine Li.row_keep R6 fun hne ad e => Below.heap_setCell w6 ⟨k1, 0, none⟩ _ ad.block ?_
    intro hk
    obtain ⟨r, hr⟩ : ∃ r, (runsF 0 l)[0]? = some r := ⟨_, List.getElem?_eq_getElem (List.length_pos_iff.2 hne)⟩
    obtain ⟨b, o, e2, -, -, h1, -, -⟩ := rn_at R6 hr
    rw [e] at e2
    obtain rfl := Option.some.inj e2
    have hk : b = k1 := hk
    subst hk
    have := NX.out w6 B6.out (o + 0 * 3 + 1) (by omega)
    rw [this] at h1
    cases h1)
  have HWZ := hid hwz
  clear hwz b6 B6 B5 B3 Y1 Y3 BW R6 HX NX HY cE2 d0 d1 dl x0 x1 xl
  go_wp2
  rw [← HWZ.out]
  refine bodyPost_ret (v := .tuple #[.agg #[.slice no M nc], .bool true]) ?_ rfl ⟨⟨no, nc, rfl, RZ.out⟩, B9.out⟩
  exact results_ct (p := 2) (q := 3) rfl _ _ k1 [.slice no M nc] _ rfl (fun j u h => by rw [Nat.zero_add]; exact X9.out.cell j u h) Try.underlying31 rfl (by kernel_rfl)
set_option maxHeartbeats 2000000 in
theorem good_any (S : LnO) (l : List Int) (ao : Option Addr) (cap : Nat) (w : World) (hr : Row tGp w ao (curG l).length cap (curG l)) (hb : curB l = true) :
    Calls Try.prog 16 #[.agg #[.int .i64 ((l.length : Int) - 1), .slice ao (curG l).length cap]] w fun e w' => e = .returned (.bool true) ∧ Below w.heap.size w w' := by
  have cL := fun W (h : Row tGp W ao (curG l).length cap (curG l)) => line_any S l ao cap W h hb
  obtain ⟨K, hK⟩ : ∃ K, K = (curG l).length := ⟨_, rfl⟩
  obtain ⟨m, hm⟩ : ∃ m, m = (l.length : Int) - 1 := ⟨_, rfl⟩
  obtain ⟨M, hM⟩ : ∃ M, M = (runsF 0 l).length := ⟨_, rfl⟩
  rw [← hK] at hr cL ⊢
  rw [← hm] at cL ⊢
  rw [← hM] at cL
  clear hK hm hb hM
  obtain ⟨w1, hw1⟩ : ∃ W, W = w.alloc (.cells ([.int .i64 m, .slice ao K cap] : List Value).toArray 26) := ⟨_, rfl⟩
  obtain ⟨k0, hk0⟩ : ∃ k, k = w.heap.size := ⟨_, rfl⟩
  have b1 : Below w.heap.size w w1 := by rw [hw1]; exact bel_alloc w _
  have X0 : Box w1 k0 [.int .i64 m, .slice ao K cap] := by rw [hw1, hk0]; exact Box.new w _ _
  have x0 := X0.cell 0 _ rfl
  have x1 := X0.cell 1 _ rfl
  have xl := X0.lt
  have B := hid b1
  have cL2 := hid (cL w1 (hr.on b1))
  have HW := hid hw1
  have HK := hid hk0
  clear hw1 hk0 X0 b1 hr cL
  go_enter Try.func16, Try.ntmps16
  go_upto_region 1 with fail
  rw [← HW.out, ← HK.out]
  clear HW HK
  go_wp2_with fail
  refine cL2.out.mono ?_
  rintro e w2 ⟨⟨no, nc, rfl, -⟩, b2⟩
  have B2 := hid (bel_on (bel_on B.out b2) (bel_alloc w2 (.cells #[.slice no M nc] 31)))
  clear b2 cL2 x0 x1 xl
  go_wp2
  go_ret
  exact ⟨rfl, B2.out⟩
/-- What package curve answers. -/
theorem cu (S : LnO) : Cu := ⟨
  fun k l ao cap w hr hp hl => of_any S k l ao cap w hr hp hl,
  fun l q ao cap w hr hb hq => at_cur l q ao cap w hr hb hq,
  fun l ao cap w hr hb => line_any S l ao cap w hr hb,
  fun l ao cap w hr hb => good_any S l ao cap w hr hb,
  fun m a ao ac m' b bo bc w ha hb => same_any m a ao ac m' b bo bc w ha hb⟩
end Go.Proofs.Ytemjmdfmcblgnaa.Cc
