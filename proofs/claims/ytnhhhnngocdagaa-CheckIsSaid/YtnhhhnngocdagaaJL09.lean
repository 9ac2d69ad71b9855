/- What the document's answers for layer 7 (poundageref07) come to: Parse, of every text. -/
import Derived.Test.YtnhhhnngocdagaaJRef7g
import Derived.Test.YtnhhhnngocdagaaJRef3f
namespace Go.Proofs.Ytnhhhnngocdagaa.R7
open Go.RowKit Go.Sort P Tl Mm Md
theorem ref_any (l : ByteArray) (w : World) : Calls Try.prog 12 #[.string l] w (PsQ w (parsed l.data.toList)) := by
  by_cases h : (lexed l.data.toList).2.1 = 0
  · have e : parsed l.data.toList = planS (lexed l.data.toList).1 := by unfold parsed; simp only; rw [if_pos h]
    rw [e]
    exact parse_good l w (lexed l.data.toList).1 (lexed l.data.toList).2.2.1 (lexed l.data.toList).2.2.2 (by rw [← h]) (lexed_fine h)
  · have e : parsed l.data.toList = (planZ, ((lexed l.data.toList).2.1 : Int), ((lexed l.data.toList).2.2.1 : Int), ((lexed l.data.toList).2.2.2 : Int)) := by unfold parsed; simp only; rw [if_neg h]
    rw [e]
    exact parse_bad l w _ _ _ _ rfl h
end Go.Proofs.Ytnhhhnngocdagaa.R7
/- The laws of layer 9: a text's plan, what the document tells, CheckIs. -/
namespace Go.Proofs.Ytnhhhnngocdagaa.L09
open Go.RowKit Go.Sort P Mm Md R6 R9 Cc
theorem results_ct {P : Program} {fn : Func} {p q : Tmp} {ty : TypeId} (h : fn.results = #[.cell p ty, .tmp q]) (tmps : Array Value) (w : World) (b : Nat) (cs : List Value) (d : TypeDesc)
    (hp : tmps.getD p undef = .pointer (some ⟨b, 0, none⟩)) (hc : w.rangeAt b 0 cs) (hu : P.underlying ty = some d) (hd : d.isRow = true) (hi : (P.info? ty).map (·.size) = some cs.length) :
    (results fn tmps).run P w = .ok (.tuple #[.agg cs.toArray, tmps.getD q undef]) w := by
  have hp' : tmps[p]?.getD undef = .pointer (some ⟨b, 0, none⟩) := by simpa using hp
  simp [results, h, hp', asAddr, run_loadVar_mid w b 0 ty cs d hc hu hd hi]
/-- Whether a text tells a plan. -/
def okT (s : ByteArray) : Bool := decide ((parsed s.data.toList).2.1 = 0) && decide (s.size ≤ 8192)
theorem pl9_of {l : List UInt8} (e : (parsed l).2.1 = 0) : Pl9 (parsed l).1 := by
  have sm := parsed_small l
  exact ⟨parsed_gd e, ⟨sm.meters, sm.fees, sm.charges⟩, fun c hc => by have := sm.parts c hc; omega⟩
theorem there_new (w : World) (cs : List Value) (t : TypeId) {n : Nat} (hn : n = cs.length) : (w.alloc (.cells cs.toArray t)).there w.heap.size 0 n := there_of (Box.new w cs t).cell (fun j => by simp) hn
theorem there_on {w w' : World} {b n : Nat} (h : w.there b 0 n) (hb : b < w.heap.size) (k : Below w.heap.size w w') : w'.there b 0 n := fun j hj => by
  obtain ⟨h1, h2⟩ := h j hj
  rw [k.cell hb, k.frozen hb]
  exact ⟨h1, h2⟩
set_option maxHeartbeats 8000000 in
set_option maxRecDepth 100000 in
theorem of_far (s : ByteArray) (w : World) :
    Calls Try.prog 6 #[.string s] w fun e w' => ∃ ma mc fa fc ca cc, e = .returned (.tuple #[.agg (planC (parsed s.data.toList).1 ma mc fa fc ca cc).toArray, .bool (okT s)]) ∧ PlanLies w' (planC (parsed s.data.toList).1 ma mc fa fc ca cc) (parsed s.data.toList).1 ma mc fa fc ca cc ∧ Below w.heap.size w w' ∧ ∀ b, b < w.heap.size → ∀ o vs, PlanLies (w'.setCells b o vs) (planC (parsed s.data.toList).1 ma mc fa fc ca cc) (parsed s.data.toList).1 ma mc fa fc ca cc := by
  obtain ⟨w1, hw1⟩ : ∃ W, W = w.alloc (.cells [.string ⟨#[]⟩, .string ⟨#[]⟩, .int .i64 0, .int .i64 0, .int .i64 0, .int .i64 0, .int .i64 0, .int .i64 0, .slice none 0 0, .slice none 0 0, .slice none 0 0, .int .i64 0, .int .i64 0].toArray 29) := ⟨_, rfl⟩
  have b1 : Below w.heap.size w w1 := by rw [hw1]; exact bel_alloc _ _
  obtain ⟨k1, hk1⟩ : ∃ k, k = w.heap.size := ⟨_, rfl⟩
  have s1 : w1.heap.size = w.heap.size + 1 := by rw [hw1]; simp
  have T1 : w1.there k1 0 13 := by rw [hw1, hk1]; exact there_new _ _ _ rfl
  have cP := R7.ref_any s w1
  obtain ⟨p, hp⟩ : ∃ p, p = (parsed s.data.toList).1 := ⟨_, rfl⟩
  obtain ⟨x, hx⟩ : ∃ x, x = (parsed s.data.toList).2.1 := ⟨_, rfl⟩
  obtain ⟨y, hy⟩ : ∃ x, x = (parsed s.data.toList).2.2.1 := ⟨_, rfl⟩
  obtain ⟨z, hz⟩ : ∃ x, x = (parsed s.data.toList).2.2.2 := ⟨_, rfl⟩
  have FI : Fits p := by rw [hp]; exact parsed_fits _
  obtain ⟨K, hK⟩ : ∃ K, K = okT s := ⟨_, rfl⟩
  have HK : Hid (K = (decide (x = 0) && decide (s.size ≤ 8192))) := hid (by rw [hK, hx]; rfl)
  unfold R7.PsQ at cP
  rw [← hp, ← hx, ← hy, ← hz] at cP
  rw [← hp, ← hK]
  have HW1 := hid hw1
  have HK1 := hid hk1
  have S1 := hid s1
  have HT1 := hid T1
  have B1 := hid b1
  clear hp hx hy hz hK hw1 hk1 s1 T1 b1
  go_enter Try.func6, Try.ntmps6
  go_upto_region 1 with fail
  rw [← HW1.out, ← HK1.out]
  go_wp2_with fail
  refine cP.mono ?_
  rintro e w2 ⟨ma, mc, fa, fc, ca, cc, hs, rfl, hl, ow, b2⟩
  obtain ⟨w3, hw3⟩ : ∃ W, W = w2.alloc (.cells [.string p.name, .string p.cur, .int .i64 p.a.y, .int .i64 p.a.m, .int .i64 p.a.d, .int .i64 p.b.y, .int .i64 p.b.m, .int .i64 p.b.d, .slice ma p.meters.length mc, .slice fa p.fees.length fc, .slice ca p.charges.length cc, .int .i64 p.line, .int .i64 p.col].toArray 29) := ⟨_, rfl⟩
  have b3 : Below w2.heap.size w2 w3 := by rw [hw3]; exact bel_alloc _ _
  have X3 : Box w3 w2.heap.size [.string p.name, .string p.cur, .int .i64 p.a.y, .int .i64 p.a.m, .int .i64 p.a.d, .int .i64 p.b.y, .int .i64 p.b.m, .int .i64 p.b.d, .slice ma p.meters.length mc, .slice fa p.fees.length fc, .slice ca p.charges.length cc, .int .i64 p.line, .int .i64 p.col] := by rw [hw3]; exact Box.new _ _ _
  have lk : k1 < w1.heap.size := by rw [S1.out, HK1.out]; omega
  have T3 := hid (there_on HT1.out lk (bel_on b2 b3))
  have RP := hid (range_of X3.cell)
  obtain ⟨w4, hw4⟩ : ∃ W, W = w3.setCells k1 0 [.string p.name, .string p.cur, .int .i64 p.a.y, .int .i64 p.a.m, .int .i64 p.a.d, .int .i64 p.b.y, .int .i64 p.b.m, .int .i64 p.b.d, .slice ma p.meters.length mc, .slice fa p.fees.length fc, .slice ca p.charges.length cc, .int .i64 p.line, .int .i64 p.col] := ⟨_, rfl⟩
  have R4 : Hid (w4.rangeAt k1 0 [.string p.name, .string p.cur, .int .i64 p.a.y, .int .i64 p.a.m, .int .i64 p.a.d, .int .i64 p.b.y, .int .i64 p.b.m, .int .i64 p.b.d, .slice ma p.meters.length mc, .slice fa p.fees.length fc, .slice ca p.charges.length cc, .int .i64 p.line, .int .i64 p.col]) := hid (by rw [hw4]; exact World.rangeAt_setCells_same _ _ _ _ T3.out)
  have BF : Hid (Below w.heap.size w w4) := hid (by rw [hw4]; exact below_setCells (by rw [HK1.out]; exact Nat.le_refl _) _ _ _ (bel_on (bel_on B1.out b2) b3))
  have LP : Hid (PlanLies w4 (planC p ma mc fa fc ca cc) p ma mc fa fc ca cc) := hid (lies_of hl FI (fun q r hr => by
    rw [hw4]
    exact owns_setCells_below lk _ _ _ (owns_on (ow.own q r hr) b3)))
  have LF : Hid (∀ b, b < w.heap.size → ∀ o vs, PlanLies (w4.setCells b o vs) (planC p ma mc fa fc ca cc) p ma mc fa fc ca cc) := hid (fun b hb o vs => lies_of hl FI (fun q r hr => by
    rw [hw4]
    exact owns_setCells_below (by rw [S1.out]; omega) _ _ _ (owns_setCells_below lk _ _ _ (owns_on (ow.own q r hr) b3))))
  have HW3 := hid hw3
  have HW4 := hid hw4
  clear hl ow b2 b3 X3 hw3 hw4 lk FI HT1 S1 B1 HW1 cP
  unfold planC
  go_upto_region 2 with (first
    | (with_reducible refine wpList_store_new (op := Oper.mk none (Op.store 29 (Operand.tmp 4) (Operand.tmp 11)) _ _ _ _) ?_ 29 (.tmp 4) (.tmp 11) ?_ w2 #[.string ⟨#[]⟩, .string ⟨#[]⟩, .int .i64 0, .int .i64 0, .int .i64 0, .int .i64 0, .int .i64 0, .int .i64 0, .slice none 0 0, .slice none 0 0, .slice none 0 0, .int .i64 0, .int .i64 0] #[.string p.name, .string p.cur, .int .i64 p.a.y, .int .i64 p.a.m, .int .i64 p.a.d, .int .i64 p.b.y, .int .i64 p.b.m, .int .i64 p.b.d, .slice ma p.meters.length mc, .slice fa p.fees.length fc, .slice ca p.charges.length cc, .int .i64 p.line, .int .i64 p.col] ?_ ?_ ?_ ?_ ?_ ?_; rfl; rfl; go_simp; go_simp; kernel_rfl; rfl; (simp [Value.oneCell']))
    | fail)
  rw [← HW3.out]
  clear HW3
  by_cases h0 : x = 0
  · by_cases h1 : s.size ≤ 8192
    · have E : Hid (K = true) := hid (by rw [HK.out, decide_eq_true h0, decide_eq_true h1]; rfl)
      have h1' : (s.size : Int) ≤ 8192 := by omega
      have g0 : (x == 0) = true := by simpa using h0
      clear h0 h1 HK
      go_wp2_with (first
        | (with_reducible refine wpList_load_mid (op := Oper.mk (some 15) (Op.load 29 (Operand.tmp 4)) _ _ _ _) ?_ 29 (.tmp 4) ?_ w2.heap.size 0 ?_ [.string p.name, .string p.cur, .int .i64 p.a.y, .int .i64 p.a.m, .int .i64 p.a.d, .int .i64 p.b.y, .int .i64 p.b.m, .int .i64 p.b.d, .slice ma p.meters.length mc, .slice fa p.fees.length fc, .slice ca p.charges.length cc, .int .i64 p.line, .int .i64 p.col] _ RP.out Try.underlying29 ?_ ?_ ?_; rfl; rfl; go_simp; rfl; kernel_rfl)
        | (with_reducible refine wpList_store_mid (op := Oper.mk none (Op.store 29 (Operand.tmp 2) (Operand.tmp 15)) _ _ _ _) ?_ 29 (.tmp 2) (.tmp 15) ?_ k1 0 #[.string p.name, .string p.cur, .int .i64 p.a.y, .int .i64 p.a.m, .int .i64 p.a.d, .int .i64 p.b.y, .int .i64 p.b.m, .int .i64 p.b.d, .slice ma p.meters.length mc, .slice fa p.fees.length fc, .slice ca p.charges.length cc, .int .i64 p.line, .int .i64 p.col] ?_ ?_ ?_ ?_ ?_ ?_; rfl; rfl; go_simp; go_simp; (simpa using T3.out); kernel_rfl; (simp [Value.oneCell']))
        | fail)
      rw [← HW4.out]
      refine bodyPost_ret (v := .tuple #[.agg #[.string p.name, .string p.cur, .int .i64 p.a.y, .int .i64 p.a.m, .int .i64 p.a.d, .int .i64 p.b.y, .int .i64 p.b.m, .int .i64 p.b.d, .slice ma p.meters.length mc, .slice fa p.fees.length fc, .slice ca p.charges.length cc, .int .i64 p.line, .int .i64 p.col], .bool true]) ?_ rfl ?_
      · exact results_ct (p := 2) (q := 3) rfl _ _ k1 [.string p.name, .string p.cur, .int .i64 p.a.y, .int .i64 p.a.m, .int .i64 p.a.d, .int .i64 p.b.y, .int .i64 p.b.m, .int .i64 p.b.d, .slice ma p.meters.length mc, .slice fa p.fees.length fc, .slice ca p.charges.length cc, .int .i64 p.line, .int .i64 p.col] _ rfl R4.out Try.underlying29 rfl (by kernel_rfl)
      exact ⟨ma, mc, fa, fc, ca, cc, by rw [E.out]; rfl, LP.out, BF.out, LF.out⟩
    · have E : Hid (K = false) := hid (by rw [HK.out, decide_eq_true h0, decide_eq_false h1]; rfl)
      have h1' : (8192 : Int) < (s.size : Int) := by omega
      have gd : decide ((s.size : Int) ≤ 8192) = false := decide_eq_false (by omega)
      have g0 : (x == 0) = true := by simpa using h0
      clear h0 h1 HK
      go_wp2_with (first
        | (with_reducible refine wpList_load_mid (op := Oper.mk (some 15) (Op.load 29 (Operand.tmp 4)) _ _ _ _) ?_ 29 (.tmp 4) ?_ w2.heap.size 0 ?_ [.string p.name, .string p.cur, .int .i64 p.a.y, .int .i64 p.a.m, .int .i64 p.a.d, .int .i64 p.b.y, .int .i64 p.b.m, .int .i64 p.b.d, .slice ma p.meters.length mc, .slice fa p.fees.length fc, .slice ca p.charges.length cc, .int .i64 p.line, .int .i64 p.col] _ RP.out Try.underlying29 ?_ ?_ ?_; rfl; rfl; go_simp; rfl; kernel_rfl)
        | (with_reducible refine wpList_store_mid (op := Oper.mk none (Op.store 29 (Operand.tmp 2) (Operand.tmp 15)) _ _ _ _) ?_ 29 (.tmp 2) (.tmp 15) ?_ k1 0 #[.string p.name, .string p.cur, .int .i64 p.a.y, .int .i64 p.a.m, .int .i64 p.a.d, .int .i64 p.b.y, .int .i64 p.b.m, .int .i64 p.b.d, .slice ma p.meters.length mc, .slice fa p.fees.length fc, .slice ca p.charges.length cc, .int .i64 p.line, .int .i64 p.col] ?_ ?_ ?_ ?_ ?_ ?_; rfl; rfl; go_simp; go_simp; (simpa using T3.out); kernel_rfl; (simp [Value.oneCell']))
        | fail)
      rw [← HW4.out]
      refine bodyPost_ret (v := .tuple #[.agg #[.string p.name, .string p.cur, .int .i64 p.a.y, .int .i64 p.a.m, .int .i64 p.a.d, .int .i64 p.b.y, .int .i64 p.b.m, .int .i64 p.b.d, .slice ma p.meters.length mc, .slice fa p.fees.length fc, .slice ca p.charges.length cc, .int .i64 p.line, .int .i64 p.col], .bool false]) ?_ rfl ?_
      · exact results_ct (p := 2) (q := 3) rfl _ _ k1 [.string p.name, .string p.cur, .int .i64 p.a.y, .int .i64 p.a.m, .int .i64 p.a.d, .int .i64 p.b.y, .int .i64 p.b.m, .int .i64 p.b.d, .slice ma p.meters.length mc, .slice fa p.fees.length fc, .slice ca p.charges.length cc, .int .i64 p.line, .int .i64 p.col] _ rfl R4.out Try.underlying29 rfl (by kernel_rfl)
      exact ⟨ma, mc, fa, fc, ca, cc, by rw [E.out]; rfl, LP.out, BF.out, LF.out⟩
  · have E : Hid (K = false) := hid (by rw [HK.out, decide_eq_false h0]; rfl)
    have g0 : (x == 0) = false := by simpa using h0
    clear h0 HK
    go_wp2_with (first
      | (with_reducible refine wpList_load_mid (op := Oper.mk (some 15) (Op.load 29 (Operand.tmp 4)) _ _ _ _) ?_ 29 (.tmp 4) ?_ w2.heap.size 0 ?_ [.string p.name, .string p.cur, .int .i64 p.a.y, .int .i64 p.a.m, .int .i64 p.a.d, .int .i64 p.b.y, .int .i64 p.b.m, .int .i64 p.b.d, .slice ma p.meters.length mc, .slice fa p.fees.length fc, .slice ca p.charges.length cc, .int .i64 p.line, .int .i64 p.col] _ RP.out Try.underlying29 ?_ ?_ ?_; rfl; rfl; go_simp; rfl; kernel_rfl)
      | (with_reducible refine wpList_store_mid (op := Oper.mk none (Op.store 29 (Operand.tmp 2) (Operand.tmp 15)) _ _ _ _) ?_ 29 (.tmp 2) (.tmp 15) ?_ k1 0 #[.string p.name, .string p.cur, .int .i64 p.a.y, .int .i64 p.a.m, .int .i64 p.a.d, .int .i64 p.b.y, .int .i64 p.b.m, .int .i64 p.b.d, .slice ma p.meters.length mc, .slice fa p.fees.length fc, .slice ca p.charges.length cc, .int .i64 p.line, .int .i64 p.col] ?_ ?_ ?_ ?_ ?_ ?_; rfl; rfl; go_simp; go_simp; (simpa using T3.out); kernel_rfl; (simp [Value.oneCell']))
      | fail)
    rw [← HW4.out]
    refine bodyPost_ret (v := .tuple #[.agg #[.string p.name, .string p.cur, .int .i64 p.a.y, .int .i64 p.a.m, .int .i64 p.a.d, .int .i64 p.b.y, .int .i64 p.b.m, .int .i64 p.b.d, .slice ma p.meters.length mc, .slice fa p.fees.length fc, .slice ca p.charges.length cc, .int .i64 p.line, .int .i64 p.col], .bool false]) ?_ rfl ?_
    · exact results_ct (p := 2) (q := 3) rfl _ _ k1 [.string p.name, .string p.cur, .int .i64 p.a.y, .int .i64 p.a.m, .int .i64 p.a.d, .int .i64 p.b.y, .int .i64 p.b.m, .int .i64 p.b.d, .slice ma p.meters.length mc, .slice fa p.fees.length fc, .slice ca p.charges.length cc, .int .i64 p.line, .int .i64 p.col] _ rfl R4.out Try.underlying29 rfl (by kernel_rfl)
    exact ⟨ma, mc, fa, fc, ca, cc, by rw [E.out]; rfl, LP.out, BF.out, LF.out⟩
theorem of_any (s : ByteArray) (w : World) :
    Calls Try.prog 6 #[.string s] w fun e w' => ∃ ma mc fa fc ca cc, e = .returned (.tuple #[.agg (planC (parsed s.data.toList).1 ma mc fa fc ca cc).toArray, .bool (okT s)]) ∧ PlanLies w' (planC (parsed s.data.toList).1 ma mc fa fc ca cc) (parsed s.data.toList).1 ma mc fa fc ca cc ∧ Below w.heap.size w w' :=
  (of_far s w).mono fun _ _ ⟨ma, mc, fa, fc, ca, cc, h1, h2, h3, _⟩ => ⟨ma, mc, fa, fc, ca, cc, h1, h2, h3⟩
def tx9a : List UInt8 := [112, 108, 97, 110, 32, 112, 32, 99, 117, 114, 114, 101, 110, 99, 121, 32, 69, 85, 82, 59, 32, 104, 111, 114, 105, 122, 111, 110, 32, 50, 48, 50, 52, 45, 48, 49, 45, 48, 49, 32, 50, 48, 50, 52, 45, 49, 50, 45, 51, 49, 59, 10, 99, 104, 97, 114, 103, 101, 32, 109, 32, 123, 32, 103, 114, 97, 100, 117, 97, 116, 101, 100, 32, 123, 32, 114, 101, 115, 116, 32, 114, 97, 116, 101, 32, 49, 59, 32, 125, 32, 114, 111, 117, 110, 100, 32, 102, 108, 111, 111, 114, 59, 32, 125]
def tx9b : List UInt8 := [112, 108, 97, 110, 32, 112, 32, 99, 117, 114, 114, 101, 110, 99, 121, 32, 69, 85, 82, 59, 32, 104, 111, 114, 105, 122, 111, 110, 32, 50, 48, 50, 52, 45, 48, 49, 45, 48, 49, 32, 50, 48, 50, 52, 45, 49, 50, 45, 51, 49, 59, 32, 109, 101, 116, 101, 114, 32, 109, 32, 117, 110, 105, 116, 32, 108, 32, 109, 97, 120, 32, 57, 59, 32, 102, 101, 101, 32, 53, 59, 10, 99, 104, 97, 114, 103, 101, 32, 109, 32, 123, 32, 103, 114, 97, 100, 117, 97, 116, 101, 100, 32, 123, 32, 114, 101, 115, 116, 32, 114, 97, 116, 101, 32, 49, 59, 32, 125, 32, 114, 111, 117, 110, 100, 32, 102, 108, 111, 111, 114, 59, 32, 125]
theorem tx9a_told : (parsed tx9a).2.1 = 0 ∧ wrongOf (parsed tx9a).1 = (5, 2, 1) := by decide +kernel
theorem tx9b_told : (parsed tx9b).2.1 = 0 ∧ wrongOf (parsed tx9b).1 = (0, 0, 0) ∧ boundOf (parsed tx9b).1 = some 14 := by decide +kernel
set_option maxHeartbeats 8000000 in
set_option maxRecDepth 100000 in
theorem alive_any (w : World) : Calls Try.prog 5 #[] w fun e w' => e = .returned (.bool true) ∧ Below w.heap.size w w' := by
  obtain ⟨S, hS⟩ : ∃ S : ByteArray, S = { data := ([112, 108, 97, 110, 32, 112, 32, 99, 117, 114, 114, 101, 110, 99, 121, 32, 69, 85, 82, 59, 32, 104, 111, 114, 105, 122, 111, 110, 32, 50, 48, 50, 52, 45, 48, 49, 45, 48, 49, 32, 50, 48, 50, 52, 45, 49, 50, 45, 51, 49, 59, 10].append [99, 104, 97, 114, 103, 101, 32, 109, 32, 123, 32, 103, 114, 97, 100, 117, 97, 116, 101, 100, 32, 123, 32, 114, 101, 115, 116, 32, 114, 97, 116, 101, 32, 49, 59, 32, 125, 32, 114, 111, 117, 110, 100, 32, 102, 108, 111, 111, 114, 59, 32, 125]).toArray } := ⟨_, rfl⟩
  obtain ⟨S2, hS2⟩ : ∃ S : ByteArray, S = { data := (([112, 108, 97, 110, 32, 112, 32, 99, 117, 114, 114, 101, 110, 99, 121, 32, 69, 85, 82, 59, 32, 104, 111, 114, 105, 122, 111, 110, 32, 50, 48, 50, 52].append [45, 48, 49, 45, 48, 49, 32, 50, 48, 50, 52, 45, 49, 50, 45, 51, 49, 59, 32, 109, 101, 116, 101, 114, 32, 109, 32, 117, 110, 105, 116, 32, 108]).append ([32, 109, 97, 120, 32, 57, 59, 32, 102, 101, 101, 32, 53, 59, 10, 99, 104, 97, 114, 103, 101, 32, 109, 32, 123, 32, 103, 114, 97, 100, 117, 97, 116].append [101, 100, 32, 123, 32, 114, 101, 115, 116, 32, 114, 97, 116, 101, 32, 49, 59, 32, 125, 32, 114, 111, 117, 110, 100, 32, 102, 108, 111, 111, 114, 59, 32, 125])).toArray } := ⟨_, rfl⟩
  have hl : S.data.toList = tx9a := by rw [hS]; rfl
  have hl2 : S2.data.toList = tx9b := by rw [hS2]; rfl
  have o1 : okT S = true := by unfold okT; rw [hl, tx9a_told.1, show S.size = 104 by rw [hS]; rfl]; rfl
  have o2 : okT S2 = true := by unfold okT; rw [hl2, tx9b_told.1, show S2.size = 133 by rw [hS2]; rfl]; rfl
  have c1 := hid (fun W => of_any S W)
  have c2 := hid (fun W => of_any S2 W)
  obtain ⟨p, hp⟩ : ∃ p, p = (parsed tx9a).1 := ⟨_, rfl⟩
  obtain ⟨q, hq⟩ : ∃ p, p = (parsed tx9b).1 := ⟨_, rfl⟩
  have Pp : Pl9 p := by rw [hp]; exact pl9_of tx9a_told.1
  have Pq : Pl9 q := by rw [hq]; exact pl9_of tx9b_told.1
  have wp : wrongOf p = (5, 2, 1) := by rw [hp]; exact tx9a_told.2
  have wq : wrongOf q = (0, 0, 0) := by rw [hq]; exact tx9b_told.2.1
  have bq : boundOf q = some 14 := by rw [hq]; exact tx9b_told.2.2
  have Cq : Chs q := chs_of Pq (wrongOf_zero.1 (by rw [wq])).2.2.2.1
  rw [hl, o1, ← hp] at c1
  rw [hl2, o2, ← hq] at c2
  unfold planC at c1 c2
  have cB := hid (fun W mq mcq fq fcq cq ccq (h : PlanLies W (planC q mq mcq fq fcq cq ccq) q mq mcq fq fcq cq ccq) => by
    have := Cc.bound_any q mq mcq fq fcq cq ccq W h Cq
    rw [bq] at this
    exact this)
  have cP := hid (fun W mq mcq fq fcq cq ccq (h : PlanLies W (planC p mq mcq fq fcq cq ccq) p mq mcq fq fcq cq ccq) => by
    have := Cc.plan_any p mq mcq fq fcq cq ccq W h Pp
    rw [wp] at this
    exact this)
  have cQ := hid (fun W mq mcq fq fcq cq ccq (h : PlanLies W (planC q mq mcq fq fcq cq ccq) q mq mcq fq fcq cq ccq) => by
    have := Cc.plan_any q mq mcq fq fcq cq ccq W h Pq
    rw [wq] at this
    exact this)
  have HS := hid hS
  have HS2 := hid hS2
  clear hl hl2 o1 o2 hp hq Pp Pq wp wq bq Cq hS hS2
  go_enter Try.func5, Try.ntmps5
  rw [← HS.out, ← HS2.out]
  clear HS HS2
  go_wp2_with fail
  refine (c1.out w).mono ?_
  rintro e w1 ⟨ma, mc, fa, fc, ca, cc, rfl, lp, b1⟩
  obtain ⟨wA, hwA⟩ : ∃ W, W = w1.alloc (.cells [.string p.name, .string p.cur, .int .i64 p.a.y, .int .i64 p.a.m, .int .i64 p.a.d, .int .i64 p.b.y, .int .i64 p.b.m, .int .i64 p.b.d, .slice ma p.meters.length mc, .slice fa p.fees.length fc, .slice ca p.charges.length cc, .int .i64 p.line, .int .i64 p.col].toArray 29) := ⟨_, rfl⟩
  have bA : Below w1.heap.size w1 wA := by rw [hwA]; exact bel_alloc _ _
  obtain ⟨kA, hkA⟩ : ∃ k, k = w1.heap.size := ⟨_, rfl⟩
  have XA : Box wA kA [.string p.name, .string p.cur, .int .i64 p.a.y, .int .i64 p.a.m, .int .i64 p.a.d, .int .i64 p.b.y, .int .i64 p.b.m, .int .i64 p.b.d, .slice ma p.meters.length mc, .slice fa p.fees.length fc, .slice ca p.charges.length cc, .int .i64 p.line, .int .i64 p.col] := by rw [hwA, hkA]; exact Box.new _ _ _
  have BA := hid (bel_on b1 bA)
  have LA := hid (lp.on bA)
  have HWA := hid hwA
  have HKA := hid hkA
  have HXA := hid XA
  clear b1 bA lp hwA hkA XA c1
  go_upto_region 2 with (first | (with_reducible refine wpList_store_new (op := Oper.mk none (Op.store 29 (Operand.tmp 1) (Operand.tmp 9)) _ _ _ _) ?_ 29 (.tmp 1) (.tmp 9) ?_ w1 #[.string ⟨#[]⟩, .string ⟨#[]⟩, .int .i64 0, .int .i64 0, .int .i64 0, .int .i64 0, .int .i64 0, .int .i64 0, .slice none 0 0, .slice none 0 0, .slice none 0 0, .int .i64 0, .int .i64 0] #[.string p.name, .string p.cur, .int .i64 p.a.y, .int .i64 p.a.m, .int .i64 p.a.d, .int .i64 p.b.y, .int .i64 p.b.m, .int .i64 p.b.d, .slice ma p.meters.length mc, .slice fa p.fees.length fc, .slice ca p.charges.length cc, .int .i64 p.line, .int .i64 p.col] ?_ ?_ ?_ ?_ ?_ ?_; rfl; rfl; go_simp; go_simp; kernel_rfl; rfl; (simp [Value.oneCell'])) | fail)
  rw [← HWA.out, ← HKA.out]
  clear HWA HKA
  go_wp2_with fail
  refine (c2.out wA).mono ?_
  rintro e w2 ⟨mq, mcq, fq, fcq, cq, ccq, rfl, lq, b2⟩
  obtain ⟨wB, hwB⟩ : ∃ W, W = w2.alloc (.cells [.string q.name, .string q.cur, .int .i64 q.a.y, .int .i64 q.a.m, .int .i64 q.a.d, .int .i64 q.b.y, .int .i64 q.b.m, .int .i64 q.b.d, .slice mq q.meters.length mcq, .slice fq q.fees.length fcq, .slice cq q.charges.length ccq, .int .i64 q.line, .int .i64 q.col].toArray 29) := ⟨_, rfl⟩
  have bB : Below w2.heap.size w2 wB := by rw [hwB]; exact bel_alloc _ _
  obtain ⟨kB, hkB⟩ : ∃ k, k = w2.heap.size := ⟨_, rfl⟩
  have XB : Box wB kB [.string q.name, .string q.cur, .int .i64 q.a.y, .int .i64 q.a.m, .int .i64 q.a.d, .int .i64 q.b.y, .int .i64 q.b.m, .int .i64 q.b.d, .slice mq q.meters.length mcq, .slice fq q.fees.length fcq, .slice cq q.charges.length ccq, .int .i64 q.line, .int .i64 q.col] := by rw [hwB, hkB]; exact Box.new _ _ _
  have X := hid (fun (W : World) (b : Below wB.heap.size wB W) => (⟨(HXA.out.on (bel_on b2 bB)).on b, XB.on b, LA.out.on (bel_on (bel_on b2 bB) b), lq.on (bel_on bB b), bel_on (bel_on BA.out (bel_on b2 bB)) b⟩ : Box W kA _ ∧ Box W kB _ ∧ PlanLies W _ p ma mc fa fc ca cc ∧ PlanLies W _ q mq mcq fq fcq cq ccq ∧ Below w.heap.size w W))
  have HWB := hid hwB
  have HKB := hid hkB
  clear b2 bB lq hwB hkB XB c2 HXA LA BA
  go_upto_region 3 with (first | (with_reducible refine wpList_store_new (op := Oper.mk none (Op.store 29 (Operand.tmp 3) (Operand.tmp 13)) _ _ _ _) ?_ 29 (.tmp 3) (.tmp 13) ?_ w2 #[.string ⟨#[]⟩, .string ⟨#[]⟩, .int .i64 0, .int .i64 0, .int .i64 0, .int .i64 0, .int .i64 0, .int .i64 0, .slice none 0 0, .slice none 0 0, .slice none 0 0, .int .i64 0, .int .i64 0] #[.string q.name, .string q.cur, .int .i64 q.a.y, .int .i64 q.a.m, .int .i64 q.a.d, .int .i64 q.b.y, .int .i64 q.b.m, .int .i64 q.b.d, .slice mq q.meters.length mcq, .slice fq q.fees.length fcq, .slice cq q.charges.length ccq, .int .i64 q.line, .int .i64 q.col] ?_ ?_ ?_ ?_ ?_ ?_; rfl; rfl; go_simp; go_simp; kernel_rfl; rfl; (simp [Value.oneCell'])) | fail)
  rw [← HWB.out, ← HKB.out]
  clear HWB HKB
  have RQ := hid (range_of (X.out wB (Below.refl _ _)).2.1.cell)
  go_wp2_with (first | (with_reducible refine wpList_load_mid (op := Oper.mk (some 16) (Op.load 29 (Operand.tmp 3)) _ _ _ _) ?_ 29 (.tmp 3) ?_ kB 0 ?_ [.string q.name, .string q.cur, .int .i64 q.a.y, .int .i64 q.a.m, .int .i64 q.a.d, .int .i64 q.b.y, .int .i64 q.b.m, .int .i64 q.b.d, .slice mq q.meters.length mcq, .slice fq q.fees.length fcq, .slice cq q.charges.length ccq, .int .i64 q.line, .int .i64 q.col] _ RQ.out Try.underlying29 ?_ ?_ ?_; rfl; rfl; go_simp; rfl; kernel_rfl) | fail)
  refine (cB.out wB mq mcq fq fcq cq ccq (X.out wB (Below.refl _ _)).2.2.2.1).mono ?_
  rintro e w3 ⟨rfl, b3⟩
  have B3 := hid b3
  clear b3 cB RQ
  have RP := hid (range_of (X.out w3 B3.out).1.cell)
  go_wp2_with (first | (with_reducible refine wpList_load_mid (op := Oper.mk (some 20) (Op.load 29 (Operand.tmp 1)) _ _ _ _) ?_ 29 (.tmp 1) ?_ kA 0 ?_ [.string p.name, .string p.cur, .int .i64 p.a.y, .int .i64 p.a.m, .int .i64 p.a.d, .int .i64 p.b.y, .int .i64 p.b.m, .int .i64 p.b.d, .slice ma p.meters.length mc, .slice fa p.fees.length fc, .slice ca p.charges.length cc, .int .i64 p.line, .int .i64 p.col] _ RP.out Try.underlying29 ?_ ?_ ?_; rfl; rfl; go_simp; rfl; kernel_rfl) | fail)
  refine (cP.out w3 ma mc fa fc ca cc (X.out w3 B3.out).2.2.1).mono ?_
  rintro e w4 ⟨rfl, b4⟩
  have B4 := hid (bel_on B3.out b4)
  clear b4 B3 cP RP
  have RQ := hid (range_of (X.out w4 B4.out).2.1.cell)
  go_wp2_with (first | ((with_reducible refine wpList_load_midg (op := Oper.mk (some 25) (Op.load 29 (Operand.tmp 3)) _ _ _ _) ?_ 29 (.tmp 3) ?_ kB 0 ?_ [.string q.name, .string q.cur, .int .i64 q.a.y, .int .i64 q.a.m, .int .i64 q.a.d, .int .i64 q.b.y, .int .i64 q.b.m, .int .i64 q.b.d, .slice mq q.meters.length mcq, .slice fq q.fees.length fcq, .slice cq q.charges.length ccq, .int .i64 q.line, .int .i64 q.col] _ RQ.out Try.underlying29 ?_ ?_ ?_); (first | (exact wantg rfl (by kernel_rfl) rfl)); rfl; go_simp; rfl; kernel_rfl) | fail)
  refine (cQ.out w4 mq mcq fq fcq cq ccq (X.out w4 B4.out).2.2.2.1).mono ?_
  rintro e w5 ⟨rfl, b5⟩
  have BF := hid (X.out _ (bel_on B4.out b5)).2.2.2.2
  clear b5 B4 cQ RQ
  go_wp2
  go_ret
  exact ⟨rfl, BF.out⟩
set_option maxHeartbeats 8000000 in
set_option maxRecDepth 100000 in
theorem is_walk (s : ByteArray) (w : World) : Calls Try.prog 3 #[.string s] w fun e w' => e = .returned (.bool true) ∧ Below w.heap.size w w' := by
  have cA := alive_any w
  have c1 := hid (fun W => of_any s W)
  obtain ⟨p, hp⟩ : ∃ p, p = (parsed s.data.toList).1 := ⟨_, rfl⟩
  obtain ⟨K, hK⟩ : ∃ K, K = okT s := ⟨_, rfl⟩
  have PL : Hid (K = true → Pl9 p) := hid (fun h => by
    rw [hp]
    rw [hK] at h
    unfold okT at h
    rw [Bool.and_eq_true, decide_eq_true_eq] at h
    exact pl9_of h.1)
  rw [← hp, ← hK] at c1
  unfold planC at c1
  clear hp hK
  go_enter Try.func3, Try.ntmps3
  go_wp2_with fail
  refine cA.mono ?_
  rintro e w0 ⟨rfl, b0⟩
  have B0 := hid b0
  clear cA b0
  go_wp2_with fail
  refine (c1.out w0).mono ?_
  rintro e w1 ⟨ma, mc, fa, fc, ca, cc, rfl, lp, b1⟩
  obtain ⟨wA, hwA⟩ : ∃ W, W = w1.alloc (.cells [.string p.name, .string p.cur, .int .i64 p.a.y, .int .i64 p.a.m, .int .i64 p.a.d, .int .i64 p.b.y, .int .i64 p.b.m, .int .i64 p.b.d, .slice ma p.meters.length mc, .slice fa p.fees.length fc, .slice ca p.charges.length cc, .int .i64 p.line, .int .i64 p.col].toArray 29) := ⟨_, rfl⟩
  have bA : Below w1.heap.size w1 wA := by rw [hwA]; exact bel_alloc _ _
  obtain ⟨kA, hkA⟩ : ∃ k, k = w1.heap.size := ⟨_, rfl⟩
  have XA : Box wA kA [.string p.name, .string p.cur, .int .i64 p.a.y, .int .i64 p.a.m, .int .i64 p.a.d, .int .i64 p.b.y, .int .i64 p.b.m, .int .i64 p.b.d, .slice ma p.meters.length mc, .slice fa p.fees.length fc, .slice ca p.charges.length cc, .int .i64 p.line, .int .i64 p.col] := by rw [hwA, hkA]; exact Box.new _ _ _
  have X := hid (fun (W : World) (b : Below wA.heap.size wA W) => (⟨XA.on b, lp.on (bel_on bA b), bel_on (bel_on B0.out (bel_on b1 bA)) b⟩ : Box W kA _ ∧ PlanLies W _ p ma mc fa fc ca cc ∧ Below w.heap.size w W))
  have HWA := hid hwA
  have HKA := hid hkA
  clear b1 bA lp hwA hkA XA c1 B0
  go_upto_region 4 with (first | (with_reducible refine wpList_store_new (op := Oper.mk none (Op.store 29 (Operand.tmp 3) (Operand.tmp 14)) _ _ _ _) ?_ 29 (.tmp 3) (.tmp 14) ?_ w1 #[.string ⟨#[]⟩, .string ⟨#[]⟩, .int .i64 0, .int .i64 0, .int .i64 0, .int .i64 0, .int .i64 0, .int .i64 0, .slice none 0 0, .slice none 0 0, .slice none 0 0, .int .i64 0, .int .i64 0] #[.string p.name, .string p.cur, .int .i64 p.a.y, .int .i64 p.a.m, .int .i64 p.a.d, .int .i64 p.b.y, .int .i64 p.b.m, .int .i64 p.b.d, .slice ma p.meters.length mc, .slice fa p.fees.length fc, .slice ca p.charges.length cc, .int .i64 p.line, .int .i64 p.col] ?_ ?_ ?_ ?_ ?_ ?_; rfl; rfl; go_simp; go_simp; kernel_rfl; rfl; (simp [Value.oneCell'])) | fail)
  rw [← HWA.out, ← HKA.out]
  clear HWA HKA
  by_cases hK : K = false
  · have BF := hid (X.out wA (Below.refl _ _)).2.2
    subst hK
    go_wp2
    go_ret
    exact ⟨rfl, BF.out⟩
  obtain rfl : K = true := by simpa using hK
  have PP := PL.out rfl
  obtain ⟨a, ha⟩ : ∃ a, a = (wrongOf p).1 := ⟨_, rfl⟩
  obtain ⟨b, hb⟩ : ∃ a, a = (wrongOf p).2.1 := ⟨_, rfl⟩
  obtain ⟨c, hc⟩ : ∃ a, a = (wrongOf p).2.2 := ⟨_, rfl⟩
  have cP := hid (fun (W : World) (bw : Below wA.heap.size wA W) => Cc.plan_any p ma mc fa fc ca cc W (X.out W bw).2.1 PP)
  have cQ := hid (fun (W : World) (bw : Below wA.heap.size wA W) => R9.plan_any p ma mc fa fc ca cc W (X.out W bw).2.1 PP)
  rw [← ha, ← hb, ← hc] at cP cQ
  clear ha hb hc PP PL hK
  have RP := hid (range_of (X.out wA (Below.refl _ _)).1.cell)
  go_wp2_with (first | (with_reducible refine wpList_load_mid (op := Oper.mk (some 18) (Op.load 29 (Operand.tmp 3)) _ _ _ _) ?_ 29 (.tmp 3) ?_ kA 0 ?_ [.string p.name, .string p.cur, .int .i64 p.a.y, .int .i64 p.a.m, .int .i64 p.a.d, .int .i64 p.b.y, .int .i64 p.b.m, .int .i64 p.b.d, .slice ma p.meters.length mc, .slice fa p.fees.length fc, .slice ca p.charges.length cc, .int .i64 p.line, .int .i64 p.col] _ RP.out Try.underlying29 ?_ ?_ ?_; rfl; rfl; go_simp; rfl; kernel_rfl) | fail)
  refine (cP.out wA (Below.refl _ _)).mono ?_
  rintro e w2 ⟨rfl, b2⟩
  obtain ⟨w3, hw3⟩ : ∃ W, W = w2.alloc (.cells #[.int .i64 a, .int .i64 b, .int .i64 c] 34) := ⟨_, rfl⟩
  obtain ⟨k3, hk3⟩ : ∃ k, k = w2.heap.size := ⟨_, rfl⟩
  have b3 : Below w2.heap.size w2 w3 := by rw [hw3]; exact bel_alloc _ _
  have X3 : Box w3 k3 [.int .i64 a, .int .i64 b, .int .i64 c] := by rw [hw3, hk3]; exact Box.new _ _ _
  have B3 := hid (bel_on b2 b3)
  have HX3 := hid X3
  have HW3 := hid hw3
  have HK3 := hid hk3
  clear b2 b3 X3 hw3 hk3 cP RP
  go_upto_region 7 with fail
  rw [← HW3.out, ← HK3.out]
  clear HW3 HK3
  have RP := hid (range_of (X.out w3 B3.out).1.cell)
  go_wp2_with (first | (with_reducible refine wpList_load_mid (op := Oper.mk (some 21) (Op.load 29 (Operand.tmp 3)) _ _ _ _) ?_ 29 (.tmp 3) ?_ kA 0 ?_ [.string p.name, .string p.cur, .int .i64 p.a.y, .int .i64 p.a.m, .int .i64 p.a.d, .int .i64 p.b.y, .int .i64 p.b.m, .int .i64 p.b.d, .slice ma p.meters.length mc, .slice fa p.fees.length fc, .slice ca p.charges.length cc, .int .i64 p.line, .int .i64 p.col] _ RP.out Try.underlying29 ?_ ?_ ?_; rfl; rfl; go_simp; rfl; kernel_rfl) | fail)
  refine (cQ.out w3 B3.out).mono ?_
  rintro e w4 ⟨rfl, b4⟩
  have Y := HX3.out.on b4
  have BF := hid (X.out _ (bel_on B3.out b4)).2.2
  have e0 := Y.cell 0 _ rfl
  have e1 := Y.cell 1 _ rfl
  have e2 := Y.cell 2 _ rfl
  clear b4 B3 cQ RP HX3 Y
  go_wp2
  go_ret
  exact ⟨rfl, BF.out⟩
end Go.Proofs.Ytnhhhnngocdagaa.L09
