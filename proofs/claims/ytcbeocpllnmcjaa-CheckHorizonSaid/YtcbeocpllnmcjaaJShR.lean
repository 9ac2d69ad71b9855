/- What the document's answers for layer 7 (poundageref07) come to: Parse, of every text. -/
import Derived.Test.YtcbeocpllnmcjaaJRef7g
import Derived.Test.YtcbeocpllnmcjaaJOwnT
import Derived.Test.YtcbeocpllnmcjaaJParK
import Derived.Lib.IndexMore
import Derived.Lib.TrimByte
import Derived.Test.YtcbeocpllnmcjaaJExact
import Derived.Test.YtcbeocpllnmcjaaJParJ
import Derived.KernelRfl
import Derived.Test.YtcbeocpllnmcjaaJMem
namespace Go.Proofs.Ytcbeocpllnmcjaa.R7
open Go.RowKit Go.Sort P Tl Mm Md
theorem ref_any (l : ByteArray) (w : World) : Calls Try.prog 12 #[.string l] w (PsQ w (parsed l.data.toList)) := by
  by_cases h : (lexed l.data.toList).2.1 = 0
  · have e : parsed l.data.toList = planS (lexed l.data.toList).1 := by unfold parsed; simp only; rw [if_pos h]
    rw [e]
    exact parse_good l w (lexed l.data.toList).1 (lexed l.data.toList).2.2.1 (lexed l.data.toList).2.2.2 (by rw [← h]) (lexed_fine h)
  · have e : parsed l.data.toList = (planZ, ((lexed l.data.toList).2.1 : Int), ((lexed l.data.toList).2.2.1 : Int), ((lexed l.data.toList).2.2.2 : Int)) := by unfold parsed; simp only; rw [if_neg h]
    rw [e]
    exact parse_bad l w _ _ _ _ rfl h
end Go.Proofs.Ytcbeocpllnmcjaa.R7
/- The laws of layer 9: a text's plan, what the document tells, CheckIs. -/
namespace Go.Proofs.Ytcbeocpllnmcjaa.L09
open Go.RowKit Go.Sort P Mm Md R6 R9 Cc
theorem results_ct {P : Program} {fn : Func} {p q : Tmp} {ty : TypeId} (h : fn.results = #[.cell p ty, .tmp q]) (tmps : Array Value) (w : World) (b : Nat) (cs : List Value) (d : TypeDesc)
    (hp : tmps.getD p undef = .pointer (some ⟨b, 0, none⟩)) (hc : w.rangeAt b 0 cs) (hu : P.underlying ty = some d) (hd : d.isRow = true) (hi : (P.info? ty).map (·.size) = some cs.length) :
    (results fn tmps).run P w = .ok (.tuple #[.agg cs.toArray, tmps.getD q undef]) w := by
  have hp' : tmps[p]?.getD undef = .pointer (some ⟨b, 0, none⟩) := by simpa using hp
  simp [results, h, hp', asAddr, run_loadVar_mid w b 0 ty cs d hc hu hd hi]
/-- Whether a text tells a plan. -/
def okT (s : ByteArray) : Bool := decide ((parsed s.data.toList).2.1 = 0) && decide (s.size ≤ 8192)
theorem pl9_of {l : List UInt8} (e : (parsed l).2.1 = 0) : Pl9 (parsed l).1 := by
  have sm := parsed_small l
  exact ⟨parsed_gd e, ⟨sm.meters, sm.fees, sm.charges⟩, fun c hc => by have := sm.parts c hc; omega⟩
theorem there_new (w : World) (cs : List Value) (t : TypeId) {n : Nat} (hn : n = cs.length) : (w.alloc (.cells cs.toArray t)).there w.heap.size 0 n := there_of (Box.new w cs t).cell (fun j => by simp) hn
theorem there_on {w w' : World} {b n : Nat} (h : w.there b 0 n) (hb : b < w.heap.size) (k : Below w.heap.size w w') : w'.there b 0 n := fun j hj => by
  obtain ⟨h1, h2⟩ := h j hj
  rw [k.cell hb, k.frozen hb]
  exact ⟨h1, h2⟩
set_option maxHeartbeats 8000000 in
set_option maxRecDepth 100000 in
theorem of_far (s : ByteArray) (w : World) :
    Calls Try.prog 6 #[.string s] w fun e w' => ∃ ma mc fa fc ca cc, e = .returned (.tuple #[.agg (planC (parsed s.data.toList).1 ma mc fa fc ca cc).toArray, .bool (okT s)]) ∧ PlanLies w' (planC (parsed s.data.toList).1 ma mc fa fc ca cc) (parsed s.data.toList).1 ma mc fa fc ca cc ∧ Below w.heap.size w w' ∧ ∀ b, b < w.heap.size → ∀ o vs, PlanLies (w'.setCells b o vs) (planC (parsed s.data.toList).1 ma mc fa fc ca cc) (parsed s.data.toList).1 ma mc fa fc ca cc := by
  obtain ⟨w1, hw1⟩ : ∃ W, W = w.alloc (.cells [.string ⟨#[]⟩, .string ⟨#[]⟩, .int .i64 0, .int .i64 0, .int .i64 0, .int .i64 0, .int .i64 0, .int .i64 0, .slice none 0 0, .slice none 0 0, .slice none 0 0, .int .i64 0, .int .i64 0].toArray 31) := ⟨_, rfl⟩
  have b1 : Below w.heap.size w w1 := by rw [hw1]; exact bel_alloc _ _
  obtain ⟨k1, hk1⟩ : ∃ k, k = w.heap.size := ⟨_, rfl⟩
  have s1 : w1.heap.size = w.heap.size + 1 := by rw [hw1]; simp
  have T1 : w1.there k1 0 13 := by rw [hw1, hk1]; exact there_new _ _ _ rfl
  have cP := R7.ref_any s w1
  obtain ⟨p, hp⟩ : ∃ p, p = (parsed s.data.toList).1 := ⟨_, rfl⟩
  obtain ⟨x, hx⟩ : ∃ x, x = (parsed s.data.toList).2.1 := ⟨_, rfl⟩
  obtain ⟨y, hy⟩ : ∃ x, x = (parsed s.data.toList).2.2.1 := ⟨_, rfl⟩
  obtain ⟨z, hz⟩ : ∃ x, x = (parsed s.data.toList).2.2.2 := ⟨_, rfl⟩
  have FI : Fits p := by rw [hp]; exact parsed_fits _
  obtain ⟨K, hK⟩ : ∃ K, K = okT s := ⟨_, rfl⟩
  have HK : Hid (K = (decide (x = 0) && decide (s.size ≤ 8192))) := hid (by rw [hK, hx]; rfl)
  unfold R7.PsQ at cP
  rw [← hp, ← hx, ← hy, ← hz] at cP
  rw [← hp, ← hK]
  have HW1 := hid hw1
  have HK1 := hid hk1
  have S1 := hid s1
  have HT1 := hid T1
  have B1 := hid b1
  clear hp hx hy hz hK hw1 hk1 s1 T1 b1
  go_enter Try.func6, Try.ntmps6
  go_upto_region 1 with fail
  rw [← HW1.out, ← HK1.out]
  go_wp2_with fail
  refine cP.mono ?_
  rintro e w2 ⟨ma, mc, fa, fc, ca, cc, hs, rfl, hl, ow, b2⟩
  obtain ⟨w3, hw3⟩ : ∃ W, W = w2.alloc (.cells [.string p.name, .string p.cur, .int .i64 p.a.y, .int .i64 p.a.m, .int .i64 p.a.d, .int .i64 p.b.y, .int .i64 p.b.m, .int .i64 p.b.d, .slice ma p.meters.length mc, .slice fa p.fees.length fc, .slice ca p.charges.length cc, .int .i64 p.line, .int .i64 p.col].toArray 31) := ⟨_, rfl⟩
  have b3 : Below w2.heap.size w2 w3 := by rw [hw3]; exact bel_alloc _ _
  have X3 : Box w3 w2.heap.size [.string p.name, .string p.cur, .int .i64 p.a.y, .int .i64 p.a.m, .int .i64 p.a.d, .int .i64 p.b.y, .int .i64 p.b.m, .int .i64 p.b.d, .slice ma p.meters.length mc, .slice fa p.fees.length fc, .slice ca p.charges.length cc, .int .i64 p.line, .int .i64 p.col] := by rw [hw3]; exact Box.new _ _ _
  have lk : k1 < w1.heap.size := by rw [S1.out, HK1.out]; omega
  have T3 := hid (there_on HT1.out lk (bel_on b2 b3))
  have RP := hid (range_of X3.cell)
  obtain ⟨w4, hw4⟩ : ∃ W, W = w3.setCells k1 0 [.string p.name, .string p.cur, .int .i64 p.a.y, .int .i64 p.a.m, .int .i64 p.a.d, .int .i64 p.b.y, .int .i64 p.b.m, .int .i64 p.b.d, .slice ma p.meters.length mc, .slice fa p.fees.length fc, .slice ca p.charges.length cc, .int .i64 p.line, .int .i64 p.col] := ⟨_, rfl⟩
  have R4 : Hid (w4.rangeAt k1 0 [.string p.name, .string p.cur, .int .i64 p.a.y, .int .i64 p.a.m, .int .i64 p.a.d, .int .i64 p.b.y, .int .i64 p.b.m, .int .i64 p.b.d, .slice ma p.meters.length mc, .slice fa p.fees.length fc, .slice ca p.charges.length cc, .int .i64 p.line, .int .i64 p.col]) := hid (by rw [hw4]; exact World.rangeAt_setCells_same _ _ _ _ T3.out)
  have BF : Hid (Below w.heap.size w w4) := hid (by rw [hw4]; exact below_setCells (by rw [HK1.out]; exact Nat.le_refl _) _ _ _ (bel_on (bel_on B1.out b2) b3))
  have LP : Hid (PlanLies w4 (planC p ma mc fa fc ca cc) p ma mc fa fc ca cc) := hid (lies_of hl FI (fun q r hr => by
    rw [hw4]
    exact owns_setCells_below lk _ _ _ (owns_on (ow.own q r hr) b3)))
  have LF : Hid (∀ b, b < w.heap.size → ∀ o vs, PlanLies (w4.setCells b o vs) (planC p ma mc fa fc ca cc) p ma mc fa fc ca cc) := hid (fun b hb o vs => lies_of hl FI (fun q r hr => by
    rw [hw4]
    exact owns_setCells_below (by rw [S1.out]; omega) _ _ _ (owns_setCells_below lk _ _ _ (owns_on (ow.own q r hr) b3))))
  have HW3 := hid hw3
  have HW4 := hid hw4
  clear hl ow b2 b3 X3 hw3 hw4 lk FI HT1 S1 B1 HW1 cP
  unfold planC
  go_upto_region 2 with (first
    | (with_reducible refine wpList_store_new (op := Oper.mk none (Op.store 31 (Operand.tmp 4) (Operand.tmp 11)) _ _ _ _) ?_ 31 (.tmp 4) (.tmp 11) ?_ w2 #[.string ⟨#[]⟩, .string ⟨#[]⟩, .int .i64 0, .int .i64 0, .int .i64 0, .int .i64 0, .int .i64 0, .int .i64 0, .slice none 0 0, .slice none 0 0, .slice none 0 0, .int .i64 0, .int .i64 0] #[.string p.name, .string p.cur, .int .i64 p.a.y, .int .i64 p.a.m, .int .i64 p.a.d, .int .i64 p.b.y, .int .i64 p.b.m, .int .i64 p.b.d, .slice ma p.meters.length mc, .slice fa p.fees.length fc, .slice ca p.charges.length cc, .int .i64 p.line, .int .i64 p.col] ?_ ?_ ?_ ?_ ?_ ?_; rfl; rfl; go_simp; go_simp; kernel_rfl; rfl; (simp [Value.oneCell']))
    | fail)
  rw [← HW3.out]
  clear HW3
  by_cases h0 : x = 0
  · by_cases h1 : s.size ≤ 8192
    · have E : Hid (K = true) := hid (by rw [HK.out, decide_eq_true h0, decide_eq_true h1]; rfl)
      have h1' : (s.size : Int) ≤ 8192 := by omega
      have g0 : (x == 0) = true := by simpa using h0
      clear h0 h1 HK
      go_wp2_with (first
        | (with_reducible refine wpList_load_mid (op := Oper.mk (some 15) (Op.load 31 (Operand.tmp 4)) _ _ _ _) ?_ 31 (.tmp 4) ?_ w2.heap.size 0 ?_ [.string p.name, .string p.cur, .int .i64 p.a.y, .int .i64 p.a.m, .int .i64 p.a.d, .int .i64 p.b.y, .int .i64 p.b.m, .int .i64 p.b.d, .slice ma p.meters.length mc, .slice fa p.fees.length fc, .slice ca p.charges.length cc, .int .i64 p.line, .int .i64 p.col] _ RP.out Try.underlying31 ?_ ?_ ?_; rfl; rfl; go_simp; rfl; kernel_rfl)
        | (with_reducible refine wpList_store_mid (op := Oper.mk none (Op.store 31 (Operand.tmp 2) (Operand.tmp 15)) _ _ _ _) ?_ 31 (.tmp 2) (.tmp 15) ?_ k1 0 #[.string p.name, .string p.cur, .int .i64 p.a.y, .int .i64 p.a.m, .int .i64 p.a.d, .int .i64 p.b.y, .int .i64 p.b.m, .int .i64 p.b.d, .slice ma p.meters.length mc, .slice fa p.fees.length fc, .slice ca p.charges.length cc, .int .i64 p.line, .int .i64 p.col] ?_ ?_ ?_ ?_ ?_ ?_; rfl; rfl; go_simp; go_simp; (simpa using T3.out); kernel_rfl; (simp [Value.oneCell']))
        | fail)
      rw [← HW4.out]
      refine bodyPost_ret (v := .tuple #[.agg #[.string p.name, .string p.cur, .int .i64 p.a.y, .int .i64 p.a.m, .int .i64 p.a.d, .int .i64 p.b.y, .int .i64 p.b.m, .int .i64 p.b.d, .slice ma p.meters.length mc, .slice fa p.fees.length fc, .slice ca p.charges.length cc, .int .i64 p.line, .int .i64 p.col], .bool true]) ?_ rfl ?_
      · exact results_ct (p := 2) (q := 3) rfl _ _ k1 [.string p.name, .string p.cur, .int .i64 p.a.y, .int .i64 p.a.m, .int .i64 p.a.d, .int .i64 p.b.y, .int .i64 p.b.m, .int .i64 p.b.d, .slice ma p.meters.length mc, .slice fa p.fees.length fc, .slice ca p.charges.length cc, .int .i64 p.line, .int .i64 p.col] _ rfl R4.out Try.underlying31 rfl (by kernel_rfl)
      exact ⟨ma, mc, fa, fc, ca, cc, by rw [E.out]; rfl, LP.out, BF.out, LF.out⟩
    · have E : Hid (K = false) := hid (by rw [HK.out, decide_eq_true h0, decide_eq_false h1]; rfl)
      have h1' : (8192 : Int) < (s.size : Int) := by omega
      have gd : decide ((s.size : Int) ≤ 8192) = false := decide_eq_false (by omega)
      have g0 : (x == 0) = true := by simpa using h0
      clear h0 h1 HK
      go_wp2_with (first
        | (with_reducible refine wpList_load_mid (op := Oper.mk (some 15) (Op.load 31 (Operand.tmp 4)) _ _ _ _) ?_ 31 (.tmp 4) ?_ w2.heap.size 0 ?_ [.string p.name, .string p.cur, .int .i64 p.a.y, .int .i64 p.a.m, .int .i64 p.a.d, .int .i64 p.b.y, .int .i64 p.b.m, .int .i64 p.b.d, .slice ma p.meters.length mc, .slice fa p.fees.length fc, .slice ca p.charges.length cc, .int .i64 p.line, .int .i64 p.col] _ RP.out Try.underlying31 ?_ ?_ ?_; rfl; rfl; go_simp; rfl; kernel_rfl)
        | (with_reducible refine wpList_store_mid (op := Oper.mk none (Op.store 31 (Operand.tmp 2) (Operand.tmp 15)) _ _ _ _) ?_ 31 (.tmp 2) (.tmp 15) ?_ k1 0 #[.string p.name, .string p.cur, .int .i64 p.a.y, .int .i64 p.a.m, .int .i64 p.a.d, .int .i64 p.b.y, .int .i64 p.b.m, .int .i64 p.b.d, .slice ma p.meters.length mc, .slice fa p.fees.length fc, .slice ca p.charges.length cc, .int .i64 p.line, .int .i64 p.col] ?_ ?_ ?_ ?_ ?_ ?_; rfl; rfl; go_simp; go_simp; (simpa using T3.out); kernel_rfl; (simp [Value.oneCell']))
        | fail)
      rw [← HW4.out]
      refine bodyPost_ret (v := .tuple #[.agg #[.string p.name, .string p.cur, .int .i64 p.a.y, .int .i64 p.a.m, .int .i64 p.a.d, .int .i64 p.b.y, .int .i64 p.b.m, .int .i64 p.b.d, .slice ma p.meters.length mc, .slice fa p.fees.length fc, .slice ca p.charges.length cc, .int .i64 p.line, .int .i64 p.col], .bool false]) ?_ rfl ?_
      · exact results_ct (p := 2) (q := 3) rfl _ _ k1 [.string p.name, .string p.cur, .int .i64 p.a.y, .int .i64 p.a.m, .int .i64 p.a.d, .int .i64 p.b.y, .int .i64 p.b.m, .int .i64 p.b.d, .slice ma p.meters.length mc, .slice fa p.fees.length fc, .slice ca p.charges.length cc, .int .i64 p.line, .int .i64 p.col] _ rfl R4.out Try.underlying31 rfl (by kernel_rfl)
      exact ⟨ma, mc, fa, fc, ca, cc, by rw [E.out]; rfl, LP.out, BF.out, LF.out⟩
  · have E : Hid (K = false) := hid (by rw [HK.out, decide_eq_false h0]; rfl)
    have g0 : (x == 0) = false := by simpa using h0
    clear h0 HK
    go_wp2_with (first
      | (with_reducible refine wpList_load_mid (op := Oper.mk (some 15) (Op.load 31 (Operand.tmp 4)) _ _ _ _) ?_ 31 (.tmp 4) ?_ w2.heap.size 0 ?_ [.string p.name, .string p.cur, .int .i64 p.a.y, .int .i64 p.a.m, .int .i64 p.a.d, .int .i64 p.b.y, .int .i64 p.b.m, .int .i64 p.b.d, .slice ma p.meters.length mc, .slice fa p.fees.length fc, .slice ca p.charges.length cc, .int .i64 p.line, .int .i64 p.col] _ RP.out Try.underlying31 ?_ ?_ ?_; rfl; rfl; go_simp; rfl; kernel_rfl)
      | (with_reducible refine wpList_store_mid (op := Oper.mk none (Op.store 31 (Operand.tmp 2) (Operand.tmp 15)) _ _ _ _) ?_ 31 (.tmp 2) (.tmp 15) ?_ k1 0 #[.string p.name, .string p.cur, .int .i64 p.a.y, .int .i64 p.a.m, .int .i64 p.a.d, .int .i64 p.b.y, .int .i64 p.b.m, .int .i64 p.b.d, .slice ma p.meters.length mc, .slice fa p.fees.length fc, .slice ca p.charges.length cc, .int .i64 p.line, .int .i64 p.col] ?_ ?_ ?_ ?_ ?_ ?_; rfl; rfl; go_simp; go_simp; (simpa using T3.out); kernel_rfl; (simp [Value.oneCell']))
      | fail)
    rw [← HW4.out]
    refine bodyPost_ret (v := .tuple #[.agg #[.string p.name, .string p.cur, .int .i64 p.a.y, .int .i64 p.a.m, .int .i64 p.a.d, .int .i64 p.b.y, .int .i64 p.b.m, .int .i64 p.b.d, .slice ma p.meters.length mc, .slice fa p.fees.length fc, .slice ca p.charges.length cc, .int .i64 p.line, .int .i64 p.col], .bool false]) ?_ rfl ?_
    · exact results_ct (p := 2) (q := 3) rfl _ _ k1 [.string p.name, .string p.cur, .int .i64 p.a.y, .int .i64 p.a.m, .int .i64 p.a.d, .int .i64 p.b.y, .int .i64 p.b.m, .int .i64 p.b.d, .slice ma p.meters.length mc, .slice fa p.fees.length fc, .slice ca p.charges.length cc, .int .i64 p.line, .int .i64 p.col] _ rfl R4.out Try.underlying31 rfl (by kernel_rfl)
    exact ⟨ma, mc, fa, fc, ca, cc, by rw [E.out]; rfl, LP.out, BF.out, LF.out⟩
theorem of_any (s : ByteArray) (w : World) :
    Calls Try.prog 6 #[.string s] w fun e w' => ∃ ma mc fa fc ca cc, e = .returned (.tuple #[.agg (planC (parsed s.data.toList).1 ma mc fa fc ca cc).toArray, .bool (okT s)]) ∧ PlanLies w' (planC (parsed s.data.toList).1 ma mc fa fc ca cc) (parsed s.data.toList).1 ma mc fa fc ca cc ∧ Below w.heap.size w w' :=
  (of_far s w).mono fun _ _ ⟨ma, mc, fa, fc, ca, cc, h1, h2, h3, _⟩ => ⟨ma, mc, fa, fc, ca, cc, h1, h2, h3⟩
def tx9a : List UInt8 := [112, 108, 97, 110, 32, 112, 32, 99, 117, 114, 114, 101, 110, 99, 121, 32, 69, 85, 82, 59, 32, 104, 111, 114, 105, 122, 111, 110, 32, 50, 48, 50, 52, 45, 48, 49, 45, 48, 49, 32, 50, 48, 50, 52, 45, 49, 50, 45, 51, 49, 59, 10, 99, 104, 97, 114, 103, 101, 32, 109, 32, 123, 32, 103, 114, 97, 100, 117, 97, 116, 101, 100, 32, 123, 32, 114, 101, 115, 116, 32, 114, 97, 116, 101, 32, 49, 59, 32, 125, 32, 114, 111, 117, 110, 100, 32, 102, 108, 111, 111, 114, 59, 32, 125]
def tx9b : List UInt8 := [112, 108, 97, 110, 32, 112, 32, 99, 117, 114, 114, 101, 110, 99, 121, 32, 69, 85, 82, 59, 32, 104, 111, 114, 105, 122, 111, 110, 32, 50, 48, 50, 52, 45, 48, 49, 45, 48, 49, 32, 50, 48, 50, 52, 45, 49, 50, 45, 51, 49, 59, 32, 109, 101, 116, 101, 114, 32, 109, 32, 117, 110, 105, 116, 32, 108, 32, 109, 97, 120, 32, 57, 59, 32, 102, 101, 101, 32, 53, 59, 10, 99, 104, 97, 114, 103, 101, 32, 109, 32, 123, 32, 103, 114, 97, 100, 117, 97, 116, 101, 100, 32, 123, 32, 114, 101, 115, 116, 32, 114, 97, 116, 101, 32, 49, 59, 32, 125, 32, 114, 111, 117, 110, 100, 32, 102, 108, 111, 111, 114, 59, 32, 125]
theorem tx9a_told : (parsed tx9a).2.1 = 0 ∧ wrongOf (parsed tx9a).1 = (5, 2, 1) := by decide +kernel
theorem tx9b_told : (parsed tx9b).2.1 = 0 ∧ wrongOf (parsed tx9b).1 = (0, 0, 0) ∧ boundOf (parsed tx9b).1 = some 14 := by decide +kernel
set_option maxHeartbeats 8000000 in
set_option maxRecDepth 100000 in
theorem alive_any (w : World) : Calls Try.prog 4 #[] w fun e w' => e = .returned (.bool true) ∧ Below w.heap.size w w' := by
  obtain ⟨S, hS⟩ : ∃ S : ByteArray, S = { data := ([112, 108, 97, 110, 32, 112, 32, 99, 117, 114, 114, 101, 110, 99, 121, 32, 69, 85, 82, 59, 32, 104, 111, 114, 105, 122, 111, 110, 32, 50, 48, 50, 52, 45, 48, 49, 45, 48, 49, 32, 50, 48, 50, 52, 45, 49, 50, 45, 51, 49, 59, 10].append [99, 104, 97, 114, 103, 101, 32, 109, 32, 123, 32, 103, 114, 97, 100, 117, 97, 116, 101, 100, 32, 123, 32, 114, 101, 115, 116, 32, 114, 97, 116, 101, 32, 49, 59, 32, 125, 32, 114, 111, 117, 110, 100, 32, 102, 108, 111, 111, 114, 59, 32, 125]).toArray } := ⟨_, rfl⟩
  obtain ⟨S2, hS2⟩ : ∃ S : ByteArray, S = { data := (([112, 108, 97, 110, 32, 112, 32, 99, 117, 114, 114, 101, 110, 99, 121, 32, 69, 85, 82, 59, 32, 104, 111, 114, 105, 122, 111, 110, 32, 50, 48, 50, 52].append [45, 48, 49, 45, 48, 49, 32, 50, 48, 50, 52, 45, 49, 50, 45, 51, 49, 59, 32, 109, 101, 116, 101, 114, 32, 109, 32, 117, 110, 105, 116, 32, 108]).append ([32, 109, 97, 120, 32, 57, 59, 32, 102, 101, 101, 32, 53, 59, 10, 99, 104, 97, 114, 103, 101, 32, 109, 32, 123, 32, 103, 114, 97, 100, 117, 97, 116].append [101, 100, 32, 123, 32, 114, 101, 115, 116, 32, 114, 97, 116, 101, 32, 49, 59, 32, 125, 32, 114, 111, 117, 110, 100, 32, 102, 108, 111, 111, 114, 59, 32, 125])).toArray } := ⟨_, rfl⟩
  have hl : S.data.toList = tx9a := by rw [hS]; rfl
  have hl2 : S2.data.toList = tx9b := by rw [hS2]; rfl
  have o1 : okT S = true := by unfold okT; rw [hl, tx9a_told.1, show S.size = 104 by rw [hS]; rfl]; rfl
  have o2 : okT S2 = true := by unfold okT; rw [hl2, tx9b_told.1, show S2.size = 133 by rw [hS2]; rfl]; rfl
  have c1 := hid (fun W => of_any S W)
  have c2 := hid (fun W => of_any S2 W)
  obtain ⟨p, hp⟩ : ∃ p, p = (parsed tx9a).1 := ⟨_, rfl⟩
  obtain ⟨q, hq⟩ : ∃ p, p = (parsed tx9b).1 := ⟨_, rfl⟩
  have Pp : Pl9 p := by rw [hp]; exact pl9_of tx9a_told.1
  have Pq : Pl9 q := by rw [hq]; exact pl9_of tx9b_told.1
  have wp : wrongOf p = (5, 2, 1) := by rw [hp]; exact tx9a_told.2
  have wq : wrongOf q = (0, 0, 0) := by rw [hq]; exact tx9b_told.2.1
  have bq : boundOf q = some 14 := by rw [hq]; exact tx9b_told.2.2
  have Cq : Chs q := chs_of Pq (wrongOf_zero.1 (by rw [wq])).2.2.2.1
  rw [hl, o1, ← hp] at c1
  rw [hl2, o2, ← hq] at c2
  unfold planC at c1 c2
  have cB := hid (fun W mq mcq fq fcq cq ccq (h : PlanLies W (planC q mq mcq fq fcq cq ccq) q mq mcq fq fcq cq ccq) => by
    have := Cc.bound_any q mq mcq fq fcq cq ccq W h Cq
    rw [bq] at this
    exact this)
  have cP := hid (fun W mq mcq fq fcq cq ccq (h : PlanLies W (planC p mq mcq fq fcq cq ccq) p mq mcq fq fcq cq ccq) => by
    have := Cc.plan_any p mq mcq fq fcq cq ccq W h Pp
    rw [wp] at this
    exact this)
  have cQ := hid (fun W mq mcq fq fcq cq ccq (h : PlanLies W (planC q mq mcq fq fcq cq ccq) q mq mcq fq fcq cq ccq) => by
    have := Cc.plan_any q mq mcq fq fcq cq ccq W h Pq
    rw [wq] at this
    exact this)
  have HS := hid hS
  have HS2 := hid hS2
  clear hl hl2 o1 o2 hp hq Pp Pq wp wq bq Cq hS hS2
  go_enter Try.func4, Try.ntmps4
  rw [← HS.out, ← HS2.out]
  clear HS HS2
  go_wp2_with fail
  refine (c1.out w).mono ?_
  rintro e w1 ⟨ma, mc, fa, fc, ca, cc, rfl, lp, b1⟩
  obtain ⟨wA, hwA⟩ : ∃ W, W = w1.alloc (.cells [.string p.name, .string p.cur, .int .i64 p.a.y, .int .i64 p.a.m, .int .i64 p.a.d, .int .i64 p.b.y, .int .i64 p.b.m, .int .i64 p.b.d, .slice ma p.meters.length mc, .slice fa p.fees.length fc, .slice ca p.charges.length cc, .int .i64 p.line, .int .i64 p.col].toArray 31) := ⟨_, rfl⟩
  have bA : Below w1.heap.size w1 wA := by rw [hwA]; exact bel_alloc _ _
  obtain ⟨kA, hkA⟩ : ∃ k, k = w1.heap.size := ⟨_, rfl⟩
  have XA : Box wA kA [.string p.name, .string p.cur, .int .i64 p.a.y, .int .i64 p.a.m, .int .i64 p.a.d, .int .i64 p.b.y, .int .i64 p.b.m, .int .i64 p.b.d, .slice ma p.meters.length mc, .slice fa p.fees.length fc, .slice ca p.charges.length cc, .int .i64 p.line, .int .i64 p.col] := by rw [hwA, hkA]; exact Box.new _ _ _
  have BA := hid (bel_on b1 bA)
  have LA := hid (lp.on bA)
  have HWA := hid hwA
  have HKA := hid hkA
  have HXA := hid XA
  clear b1 bA lp hwA hkA XA c1
  go_upto_region 2 with (first | (with_reducible refine wpList_store_new (op := Oper.mk none (Op.store 31 (Operand.tmp 1) (Operand.tmp 9)) _ _ _ _) ?_ 31 (.tmp 1) (.tmp 9) ?_ w1 #[.string ⟨#[]⟩, .string ⟨#[]⟩, .int .i64 0, .int .i64 0, .int .i64 0, .int .i64 0, .int .i64 0, .int .i64 0, .slice none 0 0, .slice none 0 0, .slice none 0 0, .int .i64 0, .int .i64 0] #[.string p.name, .string p.cur, .int .i64 p.a.y, .int .i64 p.a.m, .int .i64 p.a.d, .int .i64 p.b.y, .int .i64 p.b.m, .int .i64 p.b.d, .slice ma p.meters.length mc, .slice fa p.fees.length fc, .slice ca p.charges.length cc, .int .i64 p.line, .int .i64 p.col] ?_ ?_ ?_ ?_ ?_ ?_; rfl; rfl; go_simp; go_simp; kernel_rfl; rfl; (simp [Value.oneCell'])) | fail)
  rw [← HWA.out, ← HKA.out]
  clear HWA HKA
  go_wp2_with fail
  refine (c2.out wA).mono ?_
  rintro e w2 ⟨mq, mcq, fq, fcq, cq, ccq, rfl, lq, b2⟩
  obtain ⟨wB, hwB⟩ : ∃ W, W = w2.alloc (.cells [.string q.name, .string q.cur, .int .i64 q.a.y, .int .i64 q.a.m, .int .i64 q.a.d, .int .i64 q.b.y, .int .i64 q.b.m, .int .i64 q.b.d, .slice mq q.meters.length mcq, .slice fq q.fees.length fcq, .slice cq q.charges.length ccq, .int .i64 q.line, .int .i64 q.col].toArray 31) := ⟨_, rfl⟩
  have bB : Below w2.heap.size w2 wB := by rw [hwB]; exact bel_alloc _ _
  obtain ⟨kB, hkB⟩ : ∃ k, k = w2.heap.size := ⟨_, rfl⟩
  have XB : Box wB kB [.string q.name, .string q.cur, .int .i64 q.a.y, .int .i64 q.a.m, .int .i64 q.a.d, .int .i64 q.b.y, .int .i64 q.b.m, .int .i64 q.b.d, .slice mq q.meters.length mcq, .slice fq q.fees.length fcq, .slice cq q.charges.length ccq, .int .i64 q.line, .int .i64 q.col] := by rw [hwB, hkB]; exact Box.new _ _ _
  have X := hid (fun (W : World) (b : Below wB.heap.size wB W) => (⟨(HXA.out.on (bel_on b2 bB)).on b, XB.on b, LA.out.on (bel_on (bel_on b2 bB) b), lq.on (bel_on bB b), bel_on (bel_on BA.out (bel_on b2 bB)) b⟩ : Box W kA _ ∧ Box W kB _ ∧ PlanLies W _ p ma mc fa fc ca cc ∧ PlanLies W _ q mq mcq fq fcq cq ccq ∧ Below w.heap.size w W))
  have HWB := hid hwB
  have HKB := hid hkB
  clear b2 bB lq hwB hkB XB c2 HXA LA BA
  go_upto_region 3 with (first | (with_reducible refine wpList_store_new (op := Oper.mk none (Op.store 31 (Operand.tmp 3) (Operand.tmp 13)) _ _ _ _) ?_ 31 (.tmp 3) (.tmp 13) ?_ w2 #[.string ⟨#[]⟩, .string ⟨#[]⟩, .int .i64 0, .int .i64 0, .int .i64 0, .int .i64 0, .int .i64 0, .int .i64 0, .slice none 0 0, .slice none 0 0, .slice none 0 0, .int .i64 0, .int .i64 0] #[.string q.name, .string q.cur, .int .i64 q.a.y, .int .i64 q.a.m, .int .i64 q.a.d, .int .i64 q.b.y, .int .i64 q.b.m, .int .i64 q.b.d, .slice mq q.meters.length mcq, .slice fq q.fees.length fcq, .slice cq q.charges.length ccq, .int .i64 q.line, .int .i64 q.col] ?_ ?_ ?_ ?_ ?_ ?_; rfl; rfl; go_simp; go_simp; kernel_rfl; rfl; (simp [Value.oneCell'])) | fail)
  rw [← HWB.out, ← HKB.out]
  clear HWB HKB
  have RQ := hid (range_of (X.out wB (Below.refl _ _)).2.1.cell)
  go_wp2_with (first | (with_reducible refine wpList_load_mid (op := Oper.mk (some 16) (Op.load 31 (Operand.tmp 3)) _ _ _ _) ?_ 31 (.tmp 3) ?_ kB 0 ?_ [.string q.name, .string q.cur, .int .i64 q.a.y, .int .i64 q.a.m, .int .i64 q.a.d, .int .i64 q.b.y, .int .i64 q.b.m, .int .i64 q.b.d, .slice mq q.meters.length mcq, .slice fq q.fees.length fcq, .slice cq q.charges.length ccq, .int .i64 q.line, .int .i64 q.col] _ RQ.out Try.underlying31 ?_ ?_ ?_; rfl; rfl; go_simp; rfl; kernel_rfl) | fail)
  refine (cB.out wB mq mcq fq fcq cq ccq (X.out wB (Below.refl _ _)).2.2.2.1).mono ?_
  rintro e w3 ⟨rfl, b3⟩
  have B3 := hid b3
  clear b3 cB RQ
  have RP := hid (range_of (X.out w3 B3.out).1.cell)
  go_wp2_with (first | (with_reducible refine wpList_load_mid (op := Oper.mk (some 20) (Op.load 31 (Operand.tmp 1)) _ _ _ _) ?_ 31 (.tmp 1) ?_ kA 0 ?_ [.string p.name, .string p.cur, .int .i64 p.a.y, .int .i64 p.a.m, .int .i64 p.a.d, .int .i64 p.b.y, .int .i64 p.b.m, .int .i64 p.b.d, .slice ma p.meters.length mc, .slice fa p.fees.length fc, .slice ca p.charges.length cc, .int .i64 p.line, .int .i64 p.col] _ RP.out Try.underlying31 ?_ ?_ ?_; rfl; rfl; go_simp; rfl; kernel_rfl) | fail)
  refine (cP.out w3 ma mc fa fc ca cc (X.out w3 B3.out).2.2.1).mono ?_
  rintro e w4 ⟨rfl, b4⟩
  have B4 := hid (bel_on B3.out b4)
  clear b4 B3 cP RP
  have RQ := hid (range_of (X.out w4 B4.out).2.1.cell)
  go_wp2_with (first | ((with_reducible refine wpList_load_midg (op := Oper.mk (some 25) (Op.load 31 (Operand.tmp 3)) _ _ _ _) ?_ 31 (.tmp 3) ?_ kB 0 ?_ [.string q.name, .string q.cur, .int .i64 q.a.y, .int .i64 q.a.m, .int .i64 q.a.d, .int .i64 q.b.y, .int .i64 q.b.m, .int .i64 q.b.d, .slice mq q.meters.length mcq, .slice fq q.fees.length fcq, .slice cq q.charges.length ccq, .int .i64 q.line, .int .i64 q.col] _ RQ.out Try.underlying31 ?_ ?_ ?_); (first | (exact wantg rfl (by kernel_rfl) rfl)); rfl; go_simp; rfl; kernel_rfl) | fail)
  refine (cQ.out w4 mq mcq fq fcq cq ccq (X.out w4 B4.out).2.2.2.1).mono ?_
  rintro e w5 ⟨rfl, b5⟩
  have BF := hid (X.out _ (bel_on B4.out b5)).2.2.2.2
  clear b5 B4 cQ RQ
  go_wp2
  go_ret
  exact ⟨rfl, BF.out⟩
end Go.Proofs.Ytcbeocpllnmcjaa.L09
/- A number's text cut at its point, and a rest's digits without the noughts at their end, as plain arithmetic: no program is named here. -/
namespace Go.Proofs.Ytcbeocpllnmcjaa.P
open Go.RowKit
/-- Whether letters are of the form Whole. -/
def pl (a : List UInt8) : Bool := a.all isDg && !a.isEmpty && (decide (a.length = 1) || !(a.getD 0 0 == 48))
theorem fm_facts {l : List UInt8} (h : fm l ≠ 0) : isDg (l.getD 0 0) = true ∧ l.all isDp = true ∧ l.count 46 ≤ 1 ∧ (l.getLast? == some 46) = false ∧ oddHead l = false := by
  have h0 : isDg (l.getD 0 0) = true := by
    cases k : isDg (l.getD 0 0)
    · exact absurd (fm_first k) h
    · rfl
  have h1 : evenBody l = true := by
    cases k : evenBody l
    · exact absurd (fm_body k) h
    · rfl
  have h2 : oddHead l = false := by
    cases k : oddHead l
    · rfl
    · exact absurd (fm_head k) h
  unfold evenBody at h1
  simp only [Bool.and_eq_true, decide_eq_true_eq, Bool.not_eq_true'] at h1
  exact ⟨h0, h1.1, h1.2.1, h1.2.2, h2⟩
end Go.Proofs.Ytcbeocpllnmcjaa.P
/- A plan's text as tokens. Pure: no program is named here. -/
namespace Go.Proofs.Ytcbeocpllnmcjaa.P
open Go.RowKit Mm R6
abbrev TkL := List (Nat × List UInt8)
/-- A text's tokens, but for their places. -/
def Lx (l : List UInt8) (xs : TkL) : Prop := ∀ ln cl, (lex l ln cl).2 = none ∧ ((lex l ln cl).1.map fun t => (t.k, t.t)) = xs
theorem Lx.nil : Lx [] [(0, [])] := fun _ _ => ⟨rfl, rfl⟩
theorem gap_35 {c : UInt8} (h : isGap c = true) : (c == 35) = false := by
  unfold isGap at h
  simp only [Bool.or_eq_true, beq_iff_eq] at h
  rcases h with ((rfl | rfl) | rfl) | rfl <;> rfl
theorem Lx.gap {c : UInt8} {l : List UInt8} {xs : TkL} (hc : isGap c = true) (h : Lx l xs) : Lx (c :: l) xs := fun ln cl => by
  have hp : piece (c :: l) = 1 := by rw [piece_cons, gap_35 hc, hc]; rfl
  rw [lex_skip (by unfold skips; rw [hc, Bool.or_true]) ln cl, hp]
  exact h _ _
theorem lt_skip {c : UInt8} (h : isLt c = true) : skips c = false ∧ (c == 35) = false ∧ isGap c = false := by
  unfold isLt at h
  rw [decide_eq_true_eq] at h
  have k : ∀ x : UInt8, c.toNat ≠ x.toNat → (c == x) = false := fun x hx => by
    rw [beq_eq_false_iff_ne]; intro e; exact hx (by rw [e])
  have e1 := k 35 (by show c.toNat ≠ 35; omega)
  have e2 := k 32 (by show c.toNat ≠ 32; omega)
  have e3 := k 9 (by show c.toNat ≠ 9; omega)
  have e4 := k 10 (by show c.toNat ≠ 10; omega)
  have e5 := k 13 (by show c.toNat ≠ 13; omega)
  have g : isGap c = false := by unfold isGap; rw [e2, e3, e4, e5]; rfl
  exact ⟨by unfold skips; rw [e1, g]; rfl, e1, g⟩
theorem Lx.word {t l : List UInt8} {x : UInt8} {xs : TkL} {k : Nat} (ht : t.all isLt = true ∧ t ≠ []) (hk : kd t = k) (h0 : k ≠ 0) (hx : isLt x = false) (h : Lx (x :: l) xs) : Lx (t ++ x :: l) ((k, t) :: xs) := fun ln cl => by
  cases t with
  | nil => exact absurd rfl ht.2
  | cons c r =>
    have hc : isLt c = true ∧ r.all isLt = true := by have := ht.1; rw [List.all_cons, Bool.and_eq_true] at this; exact this
    obtain ⟨s1, s2, s3⟩ := lt_skip hc.1
    have hp : piece (c :: (r ++ x :: l)) = (c :: r).length := by
      rw [piece_cons, s2, s3, hc.1, run_whole r l hc.2 hx]; rfl
    have e1 : (c :: (r ++ x :: l)).take (piece (c :: (r ++ x :: l))) = c :: r := by
      rw [hp, ← List.cons_append, List.take_left]
    have e2 : (c :: (r ++ x :: l)).drop (piece (c :: (r ++ x :: l))) = x :: l := by
      rw [hp, ← List.cons_append, List.drop_left]
    have := lex_tok (c := c) (r := r ++ x :: l) s1 (by rw [e1, hk]; exact h0) ln cl
    rw [e1, e2] at this
    rw [List.cons_append, this]
    obtain ⟨h1, h2⟩ := h ln (cl + piece (c :: (r ++ x :: l)))
    exact ⟨h1, by rw [List.map_cons, h2, hk]⟩
theorem Lx.sign {c : UInt8} {l : List UInt8} {xs : TkL} (hc : c = 123 ∨ c = 125 ∨ c = 59) (h : Lx l xs) : Lx (c :: l) ((5, [c]) :: xs) := fun ln cl => by
  have q : skips c = false ∧ (c == 35) = false ∧ isGap c = false ∧ isLt c = false ∧ kd [c] = 5 := by rcases hc with rfl | rfl | rfl <;> decide
  obtain ⟨s1, s2, s3, s4, s5⟩ := q
  have hp : piece (c :: l) = 1 := by rw [piece_cons, s2, s3, s4]; rfl
  have := lex_tok (c := c) (r := l) s1 (by rw [hp]; show kd [c] ≠ 0; rw [s5]; decide) ln cl
  rw [hp] at this
  have e : (c :: l).take 1 = [c] := rfl
  have e2 : (c :: l).drop 1 = l := rfl
  rw [e, e2, s5] at this
  rw [this]
  obtain ⟨h1, h2⟩ := h ln (cl + 1)
  exact ⟨h1, by rw [List.map_cons, h2]⟩
theorem Lx.tabs {l : List UInt8} {xs : TkL} (h : Lx l xs) : ∀ d, Lx (List.replicate d 9 ++ l) xs
  | 0 => h
  | d + 1 => Lx.gap (by decide) (Lx.tabs h d)
theorem Lx.ln {s l : List UInt8} {xs : TkL} (d : Nat) (h : Lx (s ++ 10 :: l) xs) : Lx (ln d s ++ l) xs := by
  have := h.tabs d
  unfold P.ln
  simpa [List.append_assoc] using this
theorem words_dg : words.all (fun w => !isDg (w.getD 0 0)) = true := by decide
theorem word_no {l : List UInt8} (h : isDg (l.getD 0 0) = true) : words.contains l = false := by
  cases e : words.contains l with
  | false => rfl
  | true =>
    rw [List.contains_eq_mem, decide_eq_true_eq] at e
    have := List.all_eq_true.1 words_dg l e
    rw [h] at this
    exact absurd this (by decide)
theorem sign_no {l : List UInt8} (h : isDg (l.getD 0 0) = true) : ¬ (l = [123] ∨ l = [125] ∨ l = [59]) := by
  rintro (rfl | rfl | rfl) <;> exact absurd h (by decide)
theorem kd_num {l : List UInt8} (h : fm l ≠ 0) : kd l = 3 ∧ l.all isLt = true ∧ l ≠ [] := by
  obtain ⟨h1, _⟩ := fm_facts h
  have h2 := fm_lt h
  refine ⟨?_, h2⟩
  unfold kd
  rw [if_neg (sign_no h1), if_neg (by rintro (k | k); exact h2.2 k; rw [h2.1] at k; cases k), word_no h1, if_neg (by decide), h1, if_neg (by simp), if_pos h]
theorem kd_day {d : Day} (h : DayOk d) : kd (dayT d) = 4 ∧ (dayT d).all isLt = true ∧ dayT d ≠ [] ∧ dayOf' (dayT d) = d := by
  unfold DayOk at h
  have e : dayT d = txt d.y d.m d.d := by unfold dayT; rw [if_pos h]
  obtain ⟨g0, g1, g2, g3, g4, g5⟩ := good_small h
  have r := reads_txt h
  have lt := reads_lt r
  obtain ⟨o1, o2, o3⟩ := of_txt g0 g1 g2 g3 g4 g5
  rw [e]
  have hd : isDg ((txt d.y d.m d.d).getD 0 0) = true := by rw [txt_is]; exact isDg_dch (by omega)
  have h45 : (45 : UInt8) ∈ txt d.y d.m d.d := by unfold txt; simp
  have hp : plain (txt d.y d.m d.d) = false := by
    unfold plain
    rw [List.all_eq_false]
    exact ⟨45, h45, by decide⟩
  have hf : fm (txt d.y d.m d.d) = 0 := by
    cases Nat.eq_zero_or_pos (fm (txt d.y d.m d.d)) with
    | inl k => exact k
    | inr k =>
      have := (fm_facts (by omega : fm (txt d.y d.m d.d) ≠ 0)).2.1
      have := List.all_eq_true.1 this 45 h45
      exact absurd this (by decide)
  refine ⟨?_, lt.1, lt.2, ?_⟩
  · unfold kd
    rw [if_neg (sign_no hd), if_neg (by rintro (k | k); exact lt.2 k; rw [lt.1] at k; cases k), word_no hd, if_neg (by decide), hp, Bool.false_and, if_neg (by decide), if_neg (by rw [hf]; decide), if_pos r]
  · unfold dayOf'
    rw [if_pos r, o1, o2, o3]
theorem kd_nmb (n : Int) : kd (nmbT n) = 3 ∧ (nmbT n).all isLt = true ∧ nmbT n ≠ [] := by
  have := fm_whole (dec_digits n.toNat) (dec_ne n.toNat) (dec_oddHead n.toNat)
  exact kd_num (by unfold nmbT; rw [this]; decide)
theorem kd_dec (n : Int) (p : Nat) : kd (decT n p) = 3 ∧ (decT n p).all isLt = true ∧ decT n p ≠ [] := by
  refine kd_num ?_
  unfold decT
  rw [tx_fm]
  split <;> decide
theorem kd_name {b : ByteArray} (h : NmOk b) : kd b.data.toList = 1 ∧ b.data.toList.all isLt = true ∧ b.data.toList ≠ [] := by
  refine ⟨h.1, ?_⟩
  have k := h.1
  unfold kd at k
  split at k
  · exact absurd k (by decide)
  · split at k
    · exact absurd k (by decide)
    · rename_i h2
      rw [not_or] at h2
      exact ⟨by simpa using h2.2, h2.1⟩
theorem kd_mode {m : Int} (h : NumOk m 3) : kd (modeT m) = 2 ∧ (modeT m).all isLt = true ∧ modeT m ≠ [] := by
  obtain ⟨h1, h2⟩ := h
  rcases (show m = 0 ∨ m = 1 ∨ m = 2 ∨ m = 3 by omega) with rfl | rfl | rfl | rfl <;> exact ⟨by decide, by decide, by decide⟩
theorem kd_kind {k : Int} (h : k = 1 ∨ k = 2) : kd (kindT k) = 2 ∧ (kindT k).all isLt = true ∧ kindT k ≠ [] := by
  rcases h with rfl | rfl <;> exact ⟨by decide, by decide, by decide⟩
def smX : Nat × List UInt8 := (5, sSemi)
def winX (w : Win) : TkL := if w.has then [(2, wFrom), (4, dayT w.a), (2, wTo), (4, dayT w.b)] else []
def meterX (m : Meter) : TkL := [(2, wMeter), (1, m.name.data.toList), (2, wUnit), (1, m.unit.data.toList), (2, wMax), (3, nmbT m.max), smX]
def feeX (f : Fee) : TkL := (2, wFee) :: (3, nmbT f.amount) :: (winX f.win ++ [smX])
def tierX (t : Tier) : TkL := [(2, wUpto), (3, nmbT t.upto), (2, wRate), (3, decT t.rate 6), smX]
def restX (r : Int) : TkL := [(2, wRest), (2, wRate), (3, decT r 6), smX]
def adjX (a : Adj) : TkL := if a.kind = 1 then [(2, wPercent), (3, decT a.num 3), (2, modeT a.mode), smX] else if a.kind = 2 then [(2, wCap), (3, nmbT a.num), smX] else if a.kind = 3 then [(2, wMinimum), (3, nmbT a.num), smX] else [(2, wAdd), (3, nmbT a.num), smX]
/-- A charge's tokens, whose tiers are these, and the last one's rate that. -/
def chargeX (c : Charge) (ts : List Tier) (r : Int) : TkL :=
  (2, wCharge) :: (1, c.meter.data.toList) :: (winX c.win ++ (5, sOpen) :: ((if c.allowance = 0 then [] else [(2, wAllowance), (3, nmbT c.allowance), smX]) ++ ((if c.block = 1 then [] else [(2, wBlock), (3, nmbT c.block), smX]) ++
    (2, kindT c.kind) :: (5, sOpen) :: (ts.flatMap tierX ++ (restX r ++ (5, sShut) :: (2, wRound) :: (2, modeT c.mode) :: smX :: (c.adjusts.flatMap adjX ++ [(5, sShut)]))))))
theorem Lx.kw {t l : List UInt8} {x : UInt8} {xs : TkL} (ht : (kd t = 2 ∧ t.all isLt = true) ∧ t ≠ []) (hx : isLt x = false) (h : Lx (x :: l) xs) : Lx (t ++ x :: l) ((2, t) :: xs) := Lx.word ⟨ht.1.2, ht.2⟩ ht.1.1 (by decide) hx h
theorem Lx.num {t l : List UInt8} {x : UInt8} {xs : TkL} (ht : kd t = 3 ∧ t.all isLt = true ∧ t ≠ []) (hx : isLt x = false) (h : Lx (x :: l) xs) : Lx (t ++ x :: l) ((3, t) :: xs) := Lx.word ⟨ht.2.1, ht.2.2⟩ ht.1 (by decide) hx h
theorem Lx.nm {b : ByteArray} {l : List UInt8} {x : UInt8} {xs : TkL} (hb : NmOk b) (hx : isLt x = false) (h : Lx (x :: l) xs) : Lx (b.data.toList ++ x :: l) ((1, b.data.toList) :: xs) := Lx.word (kd_name hb).2 (kd_name hb).1 (by decide) hx h
theorem Lx.sp {l : List UInt8} {xs : TkL} (h : Lx l xs) : Lx (32 :: l) xs := Lx.gap (by decide) h
theorem Lx.semi {l : List UInt8} {xs : TkL} (h : Lx l xs) : Lx (59 :: 10 :: l) (smX :: xs) := Lx.sign (by decide) (Lx.gap (by decide) h)
theorem Lx.win {w : Win} {l : List UInt8} {y : UInt8} {xs : TkL} (hw : WinOk w) (hy : isLt y = false) (h : Lx (y :: l) xs) : ∃ x r, winT w ++ y :: l = x :: r ∧ isLt x = false ∧ Lx (x :: r) (winX w ++ xs) := by
  rcases hw with ⟨h1, h2, h3⟩ | rfl
  · have a := kd_day h2
    have b := kd_day h3
    refine ⟨32, wFrom ++ 32 :: (dayT w.a ++ 32 :: (wTo ++ 32 :: (dayT w.b ++ y :: l))), ?_, by decide, ?_⟩
    · unfold winT
      rw [h1]
      simp [bFrom, bTo, wFrom, wTo]
    · unfold winX
      rw [h1]
      exact Lx.sp (Lx.kw (by decide) (by decide) (Lx.sp (Lx.word ⟨a.2.1, a.2.2.1⟩ a.1 (by decide) (by decide) (Lx.sp (Lx.kw (by decide) (by decide) (Lx.sp (Lx.word ⟨b.2.1, b.2.2.1⟩ b.1 (by decide) hy h)))))))
  · exact ⟨y, l, rfl, hy, h⟩
theorem Lx.meter {m : Meter} {l : List UInt8} {xs : TkL} (h1 : NmOk m.name) (h2 : NmOk m.unit) (h : Lx l xs) : Lx (meterT m ++ l) (meterX m ++ xs) := by
  unfold meterT tellT
  rw [join6]
  refine Lx.ln 0 ?_
  have := Lx.kw (t := wMeter) (by decide) (by decide) (Lx.sp (Lx.nm h1 (by decide) (Lx.sp (Lx.kw (t := wUnit) (by decide) (by decide) (Lx.sp (Lx.nm h2 (by decide) (Lx.sp (Lx.kw (t := wMax) (by decide) (by decide) (Lx.sp (Lx.num (kd_nmb m.max) (by decide) (Lx.semi h)))))))))))
  simpa [List.append_assoc, meterX] using this
theorem Lx.fee {f : Fee} {l : List UInt8} {xs : TkL} (h1 : WinOk f.win) (h : Lx l xs) : Lx (feeT f ++ l) (feeX f ++ xs) := by
  unfold feeT tellT
  rw [join2]
  refine Lx.ln 0 ?_
  obtain ⟨x, r, e1, e2, e3⟩ := Lx.win h1 (by decide) (Lx.semi h)
  have := Lx.kw (t := wFee) (by decide) (by decide) (Lx.sp (Lx.num (kd_nmb f.amount) e2 e3))
  rw [← e1] at this
  simpa [List.append_assoc, feeX] using this
theorem Lx.tier {t : Tier} {l : List UInt8} {xs : TkL} (h : Lx l xs) : Lx (tierT false t ++ l) (tierX t ++ xs) := by
  unfold tierT tellT
  rw [if_neg (by decide), join4]
  refine Lx.ln 2 ?_
  have := Lx.kw (t := wUpto) (by decide) (by decide) (Lx.sp (Lx.num (kd_nmb t.upto) (by decide) (Lx.sp (Lx.kw (t := wRate) (by decide) (by decide) (Lx.sp (Lx.num (kd_dec t.rate 6) (by decide) (Lx.semi h)))))))
  simpa [List.append_assoc, tierX] using this
theorem Lx.rest {t : Tier} {l : List UInt8} {xs : TkL} (h : Lx l xs) : Lx (tierT true t ++ l) (restX t.rate ++ xs) := by
  unfold tierT tellT
  rw [if_pos rfl, join2]
  refine Lx.ln 2 ?_
  have := Lx.kw (t := wRest) (by decide) (by decide) (Lx.sp (Lx.kw (t := wRate) (by decide) (by decide) (Lx.sp (Lx.num (kd_dec t.rate 6) (by decide) (Lx.semi h)))))
  rw [show bRest = wRest ++ 32 :: wRate from rfl]
  simpa [List.append_assoc, restX] using this
theorem Lx.adj {a : Adj} {l : List UInt8} {xs : TkL} (ha : AdjOk a) (h : Lx l xs) : Lx (adjT a ++ l) (adjX a ++ xs) := by
  unfold adjT adjX tellT
  rcases ha with ⟨k, _, k3⟩ | ⟨k | k | k, _, _⟩
  · rw [if_pos k, if_pos k, join3]
    refine Lx.ln 1 ?_
    have m := kd_mode k3
    have := Lx.kw (t := wPercent) (by decide) (by decide) (Lx.sp (Lx.num (kd_dec a.num 3) (by decide) (Lx.sp (Lx.kw ⟨⟨m.1, m.2.1⟩, m.2.2⟩ (by decide) (Lx.semi h)))))
    simpa [List.append_assoc] using this
  · rw [k, if_neg (by decide), if_pos rfl, if_neg (by decide), if_pos rfl, join2]
    refine Lx.ln 1 ?_
    have := Lx.kw (t := wCap) (by decide) (by decide) (Lx.sp (Lx.num (kd_nmb a.num) (by decide) (Lx.semi h)))
    simpa [List.append_assoc] using this
  · rw [k, if_neg (by decide), if_neg (by decide), if_pos rfl, if_neg (by decide), if_neg (by decide), if_pos rfl, join2]
    refine Lx.ln 1 ?_
    have := Lx.kw (t := wMinimum) (by decide) (by decide) (Lx.sp (Lx.num (kd_nmb a.num) (by decide) (Lx.semi h)))
    simpa [List.append_assoc] using this
  · rw [k, if_neg (by decide), if_neg (by decide), if_neg (by decide), if_pos rfl, if_neg (by decide), if_neg (by decide), if_neg (by decide), join2]
    refine Lx.ln 1 ?_
    have := Lx.kw (t := wAdd) (by decide) (by decide) (Lx.sp (Lx.num (kd_nmb a.num) (by decide) (Lx.semi h)))
    simpa [List.append_assoc] using this
theorem Lx.flat {α : Type} {f : α → List UInt8} {g : α → TkL} {l : List UInt8} {xs : TkL} : ∀ (ys : List α), (∀ a ∈ ys, ∀ l xs, Lx l xs → Lx (f a ++ l) (g a ++ xs)) → Lx l xs → Lx (ys.flatMap f ++ l) (ys.flatMap g ++ xs)
  | [], _, h => h
  | a :: r, hh, h => by
    rw [List.flatMap_cons, List.flatMap_cons, List.append_assoc, List.append_assoc]
    exact hh a (List.mem_cons_self ..) _ _ (Lx.flat r (fun b hb => hh b (List.mem_cons_of_mem _ hb)) h)
theorem tiersUp_app (ts : List Tier) (z : Tier) : ∀ i, i ≤ ts.length → tiersUp (ts ++ [z]) i = (ts.take i).flatMap (tierT false)
  | 0, _ => rfl
  | i + 1, hi => by
    have ht : ts[i]? = some (ts[i]'(by omega)) := List.getElem?_eq_getElem (by omega)
    rw [tiersUp, tiersUp_app ts z i (by omega), decide_eq_false (by simp; omega), flat_take ht, List.getD_eq_getElem?_getD, List.getElem?_append_left (by omega), ht]
    rfl
theorem tiersUp_all (ts : List Tier) (r : Int) : tiersUp (ts ++ [(⟨0, r⟩ : Tier)]) (ts ++ [(⟨0, r⟩ : Tier)]).length = ts.flatMap (tierT false) ++ tierT true ⟨0, r⟩ := by
  rw [List.length_append, List.length_singleton, tiersUp, tiersUp_app ts _ ts.length (Nat.le_refl _), List.take_length, decide_eq_true (by simp), List.getD_eq_getElem?_getD, List.getElem?_append_right (Nat.le_refl _), Nat.sub_self]
  rfl
theorem Lx.opens {s l : List UInt8} {xs : TkL} {d : Nat} (h : Lx (s ++ 32 :: 123 :: 10 :: l) xs) : Lx (P.ln d (s ++ [32, 123]) ++ l) xs := by
  refine Lx.ln d ?_
  simpa [List.append_assoc] using h
theorem Lx.allow {n : Int} {l : List UInt8} {xs : TkL} (h : Lx l xs) : Lx ((if n = 0 then [] else tellT 1 [wAllowance, nmbT n]) ++ l) ((if n = 0 then [] else [(2, wAllowance), (3, nmbT n), smX]) ++ xs) := by
  by_cases g : n = 0
  · rw [if_pos g, if_pos g]
    exact h
  · rw [if_neg g, if_neg g]
    unfold tellT
    rw [join2]
    refine Lx.ln 1 ?_
    have := Lx.kw (t := wAllowance) (by decide) (by decide) (Lx.sp (Lx.num (kd_nmb n) (by decide) (Lx.semi h)))
    simpa only [List.append_assoc, List.cons_append, List.nil_append] using this
theorem Lx.blk {n : Int} {l : List UInt8} {xs : TkL} (h : Lx l xs) : Lx ((if n = 1 then [] else tellT 1 [wBlock, nmbT n]) ++ l) ((if n = 1 then [] else [(2, wBlock), (3, nmbT n), smX]) ++ xs) := by
  by_cases g : n = 1
  · rw [if_pos g, if_pos g]
    exact h
  · rw [if_neg g, if_neg g]
    unfold tellT
    rw [join2]
    refine Lx.ln 1 ?_
    have := Lx.kw (t := wBlock) (by decide) (by decide) (Lx.sp (Lx.num (kd_nmb n) (by decide) (Lx.semi h)))
    simpa only [List.append_assoc, List.cons_append, List.nil_append] using this
theorem Lx.charge {c : Charge} {ts : List Tier} {r : Int} {l : List UInt8} {xs : TkL} (hc : ChOk c) (e : c.tiers = ts ++ [⟨0, r⟩]) (h : Lx l xs) : Lx (chargeT c ++ l) (chargeX c ts r ++ xs) := by
  have m := kd_mode hc.mode
  have k := kd_kind hc.kind
  have z1 : Lx (P.ln 0 [125] ++ l) ((5, sShut) :: xs) := Lx.ln 0 (Lx.sign (by decide) (Lx.gap (by decide) h))
  have z2 := Lx.flat (f := adjT) (g := adjX) c.adjusts (fun a ha l xs h => Lx.adj (hc.adjs a ha) h) z1
  have z3 : Lx (tellT 1 [wRound, modeT c.mode] ++ (c.adjusts.flatMap adjT ++ (P.ln 0 [125] ++ l))) ((2, wRound) :: (2, modeT c.mode) :: smX :: (c.adjusts.flatMap adjX ++ (5, sShut) :: xs)) := by
    unfold tellT
    rw [join2]
    refine Lx.ln 1 ?_
    have := Lx.kw (t := wRound) (by decide) (by decide) (Lx.sp (Lx.kw ⟨⟨m.1, m.2.1⟩, m.2.2⟩ (by decide) (Lx.semi z2)))
    simpa [List.append_assoc] using this
  have z4 : Lx (P.ln 1 [125] ++ (tellT 1 [wRound, modeT c.mode] ++ (c.adjusts.flatMap adjT ++ (P.ln 0 [125] ++ l)))) _ := Lx.ln 1 (Lx.sign (by decide) (Lx.gap (by decide) z3))
  have z5 := Lx.flat (f := tierT false) (g := tierX) ts (fun a _ l xs h => Lx.tier h) (Lx.rest (t := ⟨0, r⟩) z4)
  have z6 := Lx.opens (d := 1) (Lx.kw ⟨⟨k.1, k.2.1⟩, k.2.2⟩ (by decide) (Lx.sp (Lx.sign (c := 123) (by decide) (Lx.gap (c := 10) (by decide) z5))))
  have z7 := Lx.blk (n := c.block) z6
  have z8 := Lx.allow (n := c.allowance) z7
  obtain ⟨x, q, e1, e2, e3⟩ := Lx.win hc.win (y := 32) (by decide) (Lx.sp (Lx.sign (c := 123) (by decide) (Lx.gap (c := 10) (by decide) z8)))
  have z9 := Lx.kw (t := wCharge) (by decide) (by decide) (Lx.sp (Lx.nm hc.meter e2 e3))
  rw [← e1] at z9
  have z10 := Lx.opens (d := 0) (s := wCharge ++ [32] ++ c.meter.data.toList ++ winT c.win) (by simpa only [List.append_assoc, List.cons_append, List.nil_append] using z9)
  unfold chargeT chargeX
  rw [e, tiersUp_all]
  simp only [List.append_assoc, List.cons_append, List.nil_append, sOpen, sShut] at z10 ⊢
  exact z10
end Go.Proofs.Ytcbeocpllnmcjaa.P
/- The tokens of a plan's text, read: the plan again. Pure: no program is named here. -/
namespace Go.Proofs.Ytcbeocpllnmcjaa.P
open Go.RowKit Mm R6
/-- From the next token on these stand, and nothing is wrong. -/
def At (ts : List Tok) (s : St) (xs : TkL) : Prop := s.err = 0 ∧ (ts.drop s.i).map (fun t => (t.k, t.t)) = xs
variable {ts : List Tok} {s : St}
theorem At.get {k : Nat} {l : List UInt8} {r : TkL} (h : At ts s ((k, l) :: r)) : ∃ t, ts[s.i]? = some t ∧ t.k = k ∧ t.t = l := by
  have := congrArg (·[0]?) h.2
  simp only [List.getElem?_map, List.getElem?_drop, Nat.add_zero, List.getElem?_cons_zero] at this
  obtain ⟨t, h1, h2⟩ := Option.map_eq_some_iff.1 this
  exact ⟨t, h1, congrArg Prod.fst h2, congrArg Prod.snd h2⟩
theorem At.tk {k : Nat} {l : List UInt8} {r : TkL} (h : At ts s ((k, l) :: r)) : (tk ts s).k = k ∧ (tk ts s).t = l := by
  obtain ⟨t, h1, h2, h3⟩ := h.get
  unfold P.tk
  rw [List.getD_eq_getElem?_getD, h1]
  exact ⟨h2, h3⟩
theorem At.lt {x : Nat × List UInt8} {r : TkL} (h : At ts s (x :: r)) : s.i < ts.length := by
  obtain ⟨t, h1, _⟩ := At.get (k := x.1) (l := x.2) h
  exact (List.getElem?_eq_some_iff.1 h1).1
theorem At.next {x : Nat × List UInt8} {r : TkL} (h : At ts s (x :: r)) : At ts s.next r := by
  refine ⟨h.1, ?_⟩
  have := congrArg List.tail h.2
  rw [List.tail_cons, ← List.drop_one, ← List.map_drop, List.drop_drop] at this
  exact this
theorem At.len {xs : TkL} (h : At ts s xs) : xs.length ≤ ts.length := by
  rw [← h.2, List.length_map, List.length_drop]
  omega
theorem At.on {k : Nat} {l l' : List UInt8} {r : TkL} (h : At ts s ((k, l) :: r)) (hk : k = 2 ∨ k = 5) : onW ts s l' = (l == l') := by
  unfold onW
  rw [h.tk.1, h.tk.2, decide_eq_true h.1]
  rcases hk with rfl | rfl <;> simp
theorem At.off {k : Nat} {l l' : List UInt8} {r : TkL} (h : At ts s ((k, l) :: r)) (hl : l ≠ l') : onW ts s l' = false := by
  unfold onW
  rw [h.tk.2, beq_eq_false_iff_ne.2 hl, Bool.and_false, Bool.and_false]
theorem At.wnt {k : Nat} {l : List UInt8} {r : TkL} (h : At ts s ((k, l) :: r)) (hk : k = 2 ∨ k = 5) : At ts (wnt ts s l) r := by
  unfold P.wnt
  rw [h.on hk, beq_self_eq_true, if_pos rfl]
  exact h.next
theorem At.isTk {k : Nat} {l : List UInt8} {r : TkL} (h : At ts s ((k, l) :: r)) : isTk ts s k = true := by
  unfold P.isTk
  rw [h.tk.1, decide_eq_true h.1]; simp
theorem At.tkn {k : Nat} {l : List UInt8} {r : TkL} (h : At ts s ((k, l) :: r)) : (tkn ts s k).1 = l ∧ At ts (tkn ts s k).2 r := by
  unfold P.tkn
  rw [h.isTk, if_pos rfl]
  exact ⟨h.tk.2, h.next⟩
theorem At.num {l : List UInt8} {r : TkL} {p m n : Int} (h : At ts s ((3, l) :: r)) (h1 : pN l p m = n) (h2 : pW l p m = 0) : (numS ts s p m).1 = n ∧ At ts (numS ts s p m).2 r := by
  unfold numS
  rw [h.isTk, if_pos rfl, h.tk.2, h1, h2]
  exact ⟨rfl, h.next⟩
theorem nmb_tx (n : Int) : nmbT n = tx n.toNat 0 := by
  unfold nmbT tx tail
  rw [if_pos (show fs n.toNat 0 = [] from rfl), List.append_nil, show n.toNat / 10 ^ 0 = n.toNat by simp]
theorem At.nmb {r : TkL} {n m : Int} (hn : NumOk n m) (hm : m ≤ 1000000000000) (h : At ts s ((3, nmbT n) :: r)) : (numS ts s 0 m).1 = n ∧ At ts (numS ts s 0 m).2 r := by
  have a := i64_of hn hm
  have e : ((n.toNat : Nat) : Int) = n := by omega
  have t := tx_back (n := n.toNat) (p := 0) (by decide) m (by rw [e]; exact a.2) (by rw [e]; exact hn.2)
  rw [nmb_tx] at h
  rw [e] at t
  exact h.num t.1 t.2
theorem At.dec {r : TkL} {n m : Int} {p : Nat} (hp : p ≤ 9) (hn : NumOk n m) (hm : m ≤ 1000000000000) (h : At ts s ((3, decT n p) :: r)) : (numS ts s (p : Int) m).1 = n ∧ At ts (numS ts s (p : Int) m).2 r := by
  have a := i64_of hn hm
  have e : ((n.toNat : Nat) : Int) = n := by omega
  have t := tx_back (n := n.toNat) (p := p) hp m (by rw [e]; exact a.2) (by rw [e]; exact hn.2)
  rw [e] at t
  exact h.num t.1 t.2
theorem At.day {d : Day} {r : TkL} (hd : DayOk d) (h : At ts s ((4, dayT d) :: r)) : (dayS ts s).1 = d ∧ At ts (dayS ts s).2 r := by
  obtain ⟨h1, h2⟩ := h.tkn
  exact ⟨by show dayOf' (P.tkn ts s 4).1 = d; rw [h1, (kd_day hd).2.2.2], h2⟩
theorem At.win {w : Win} {k : Nat} {l : List UInt8} {r : TkL} (hw : WinOk w) (hl : l ≠ wFrom) (h : At ts s (winX w ++ (k, l) :: r)) : (winS ts s).1 = w ∧ At ts (winS ts s).2 ((k, l) :: r) := by
  unfold winS
  rcases hw with ⟨h1, h2, h3⟩ | rfl
  · unfold winX at h
    rw [h1] at h
    have h : At ts s ((2, wFrom) :: (4, dayT w.a) :: (2, wTo) :: (4, dayT w.b) :: (k, l) :: r) := h
    rw [h.on (.inl rfl), beq_self_eq_true, if_pos rfl]
    obtain ⟨a1, a2⟩ := h.next.day h2
    obtain ⟨b1, b2⟩ := (a2.wnt (.inl rfl)).day h3
    refine ⟨?_, b2⟩
    simp only
    rw [a1, b1]
    cases w
    simp only at h1
    rw [h1]
  · have h : At ts s ((k, l) :: r) := h
    rw [h.off hl]
    exact ⟨rfl, h⟩
theorem At.opt {word l : List UInt8} {n d : Int} {k : Nat} {r : TkL} (hn : NumOk n 1000000) (hl : l ≠ word) (h : At ts s ((if n = d then [] else [(2, word), (3, nmbT n), smX]) ++ (k, l) :: r)) : (optS ts s word d).1 = n ∧ At ts (optS ts s word d).2 ((k, l) :: r) := by
  unfold optS
  by_cases g : n = d
  · rw [if_pos g] at h
    have h : At ts s ((k, l) :: r) := h
    rw [h.off hl]
    exact ⟨g.symm, h⟩
  · rw [if_neg g] at h
    have h : At ts s ((2, word) :: (3, nmbT n) :: smX :: (k, l) :: r) := h
    rw [h.on (.inl rfl), beq_self_eq_true, if_pos rfl]
    obtain ⟨a1, a2⟩ := h.next.nmb hn (by decide)
    exact ⟨a1, a2.wnt (.inr rfl)⟩
/-- Which of some words these letters are. -/
def oneP : List (List UInt8) → List UInt8 → Int → Option Int
  | [], _, _ => none
  | w :: r, l, k => if l = w then some k else oneP r l (k + 1)
theorem At.oneAt {k : Nat} {l : List UInt8} {r : TkL} (h : At ts s ((k, l) :: r)) (hk : k = 2 ∨ k = 5) : ∀ (ws : List (List UInt8)) (j : Int), oneAt ts s ws j = match oneP ws l j with | some i => (i, s.next) | none => (-1, s)
  | [], _ => rfl
  | w :: q, j => by
    unfold P.oneAt oneP
    rw [h.on hk]
    by_cases g : l = w
    · rw [if_pos g, g, beq_self_eq_true, if_pos rfl]
    · rw [if_neg g, beq_eq_false_iff_ne.2 g]
      exact At.oneAt h hk q (j + 1)
theorem At.one {k : Nat} {l : List UInt8} {r : TkL} {ws : List (List UInt8)} {i : Int} (h : At ts s ((k, l) :: r)) (hk : k = 2 ∨ k = 5) (e : oneP ws l 0 = some i) : oneS ts s ws = (i, s.next) := by
  unfold oneS
  rw [h.oneAt hk, e]
theorem At.none {k : Nat} {l : List UInt8} {r : TkL} {ws : List (List UInt8)} (h : At ts s ((k, l) :: r)) (hk : k = 2 ∨ k = 5) (e : oneP ws l 0 = Option.none) : oneS ts s ws = (-1, s) := by
  unfold oneS
  rw [h.oneAt hk, e]
theorem At.mode {m : Int} {r : TkL} (hm : NumOk m 3) (h : At ts s ((2, modeT m) :: r)) : (modeS ts s).1 = m ∧ At ts (modeS ts s).2 r := by
  have e : oneP modes (modeT m) 0 = some m := by
    obtain ⟨h1, h2⟩ := hm
    rcases (show m = 0 ∨ m = 1 ∨ m = 2 ∨ m = 3 by omega) with rfl | rfl | rfl | rfl <;> decide
  have o := h.one (.inl rfl) e
  unfold modeS
  rw [o, if_neg (by have := hm.1; show ¬ m < 0; omega)]
  exact ⟨rfl, h.next⟩
theorem At.kind {k : Int} {r : TkL} (hk : k = 1 ∨ k = 2) (h : At ts s ((2, kindT k) :: r)) : (kindS ts s).1 = k ∧ At ts (kindS ts s).2 r := by
  have e : oneP kinds (kindT k) 0 = some (k - 1) := by rcases hk with rfl | rfl <;> decide
  have o := h.one (.inl rfl) e
  unfold kindS
  simp only
  rw [o]
  refine ⟨by show 1 + (k - 1) = k; omega, ?_⟩
  rw [if_neg (by show ¬ 1 + (k - 1) = 0; omega)]
  exact h.next
theorem At.tier {t : Tier} {r : TkL} (ht : TierOk t) (h : At ts s ((3, nmbT t.upto) :: (2, wRate) :: (3, decT t.rate 6) :: smX :: r)) : (tierS ts s).1 = t ∧ At ts (tierS ts s).2 r := by
  obtain ⟨a1, a2⟩ := h.nmb ht.upto (by decide)
  obtain ⟨b1, b2⟩ := (a2.wnt (.inl rfl)).dec (p := 6) (by decide) ht.rate (by decide)
  exact ⟨by show (⟨_, _⟩ : Tier) = t; rw [a1]; show (⟨t.upto, (numS ts (P.wnt ts (numS ts s 0 1000000).2 wRate) ((6 : Nat) : Int) 1000000000000).1⟩ : Tier) = t; rw [b1], b2.wnt (.inr rfl)⟩
theorem At.tiers {r : TkL} : ∀ (xs : List Tier) (n : Nat) (s : St) (acc : List Tier), (∀ t ∈ xs, TierOk t) → xs.length < n → At ts s (xs.flatMap tierX ++ (2, wRest) :: r) → (tiersS ts n s acc).1 = acc ++ xs ∧ At ts (tiersS ts n s acc).2 ((2, wRest) :: r)
  | [], 0, _, _, _, hn, _ => absurd hn (by decide)
  | [], n + 1, s, acc, _, _, h => by
    have h : At ts s ((2, wRest) :: r) := h
    unfold tiersS
    rw [h.off (by decide)]
    exact ⟨by simp, h⟩
  | t :: q, 0, _, _, _, hn, _ => absurd hn (by simp)
  | t :: q, n + 1, s, acc, ht, hn, h => by
    rw [List.flatMap_cons, List.append_assoc] at h
    have h : At ts s ((2, wUpto) :: (3, nmbT t.upto) :: (2, wRate) :: (3, decT t.rate 6) :: smX :: (q.flatMap tierX ++ (2, wRest) :: r)) := h
    unfold tiersS
    rw [h.on (.inl rfl), beq_self_eq_true, if_pos rfl]
    obtain ⟨a1, a2⟩ := h.next.tier (ht t (List.mem_cons_self ..))
    obtain ⟨b1, b2⟩ := At.tiers q n _ (acc ++ [(tierS ts s.next).1]) (fun x hx => ht x (List.mem_cons_of_mem _ hx)) (by simpa using hn) a2
    exact ⟨by rw [b1, a1]; simp, b2⟩
theorem At.adj {a : Adj} {r : TkL} (ha : AdjOk a) (h : At ts s ((adjX a).tail ++ r)) : (adjS ts s a.kind).1 = a ∧ At ts (adjS ts s a.kind).2 r := by
  obtain ⟨k, n, m⟩ := a
  unfold adjX at h
  unfold adjS
  rcases ha with ⟨k1, k2, k3⟩ | ⟨k1, k2, k3⟩
  · simp only at k1 k2 k3
    subst k1
    have h : At ts s ((3, decT n 3) :: (2, modeT m) :: smX :: r) := h
    rw [if_pos rfl]
    obtain ⟨a1, a2⟩ := h.dec (p := 3) (by decide) k2 (by decide)
    obtain ⟨b1, b2⟩ := a2.mode k3
    refine ⟨?_, b2.wnt (.inr rfl)⟩
    show (⟨1, (numS ts s ((3 : Nat) : Int) 100000000).1, (modeS ts (numS ts s ((3 : Nat) : Int) 100000000).2).1⟩ : Adj) = _
    rw [a1, b1]
  · simp only at k1 k2 k3
    subst k3
    have h : At ts s ((3, nmbT n) :: smX :: r) := by
      rcases k1 with rfl | rfl | rfl <;> exact h
    have k0 : ¬ k = 1 := by omega
    rw [if_neg k0]
    obtain ⟨a1, a2⟩ := h.nmb k2 (by decide)
    exact ⟨by simp only; rw [a1], a2.wnt (.inr rfl)⟩
theorem adjX_head {a : Adj} (ha : AdjOk a) : ∃ w, adjX a = (2, w) :: (adjX a).tail ∧ oneP adjWords w 0 = some (a.kind - 1) := by
  unfold adjX
  rcases ha with ⟨k1, _, _⟩ | ⟨k1 | k1 | k1, _, _⟩ <;> rw [k1]
  · exact ⟨wPercent, rfl, by decide⟩
  · exact ⟨wCap, rfl, by decide⟩
  · exact ⟨wMinimum, rfl, by decide⟩
  · exact ⟨wAdd, rfl, by decide⟩
theorem At.adjs {r : TkL} : ∀ (xs : List Adj) (n : Nat) (s : St) (acc : List Adj), (∀ t ∈ xs, AdjOk t) → xs.length < n → At ts s (xs.flatMap adjX ++ (5, sShut) :: r) → (adjsS ts n s acc).1 = acc ++ xs ∧ At ts (adjsS ts n s acc).2 ((5, sShut) :: r)
  | [], 0, _, _, _, hn, _ => absurd hn (by decide)
  | [], n + 1, s, acc, _, _, h => by
    have h : At ts s ((5, sShut) :: r) := h
    have o := h.none (ws := adjWords) (.inr rfl) (by decide)
    unfold adjsS
    simp only
    rw [o, if_pos (show (1 : Int) + -1 = 0 by decide)]
    exact ⟨by simp, h⟩
  | t :: q, 0, _, _, _, hn, _ => absurd hn (by simp)
  | t :: q, n + 1, s, acc, ht, hn, h => by
    have hat := ht t (List.mem_cons_self ..)
    obtain ⟨w, e1, e2⟩ := adjX_head hat
    rw [List.flatMap_cons, List.append_assoc, e1] at h
    have h : At ts s ((2, w) :: ((adjX t).tail ++ (q.flatMap adjX ++ (5, sShut) :: r))) := h
    have o := h.one (.inl rfl) e2
    have ek : (1 : Int) + (t.kind - 1) = t.kind := by omega
    have k0 : ¬ t.kind = 0 := by rcases hat with ⟨k1, _, _⟩ | ⟨k1 | k1 | k1, _, _⟩ <;> omega
    unfold adjsS
    simp only
    rw [o]
    show (if 1 + (t.kind - 1) = 0 then _ else adjsS ts n (adjS ts s.next (1 + (t.kind - 1))).2 (acc ++ [(adjS ts s.next (1 + (t.kind - 1))).1])).1 = _ ∧ At ts (if 1 + (t.kind - 1) = 0 then _ else adjsS ts n (adjS ts s.next (1 + (t.kind - 1))).2 (acc ++ [(adjS ts s.next (1 + (t.kind - 1))).1])).2 _
    rw [ek, if_neg k0]
    obtain ⟨a1, a2⟩ := h.next.adj hat
    obtain ⟨b1, b2⟩ := At.adjs q n _ (acc ++ [(adjS ts s.next t.kind).1]) (fun x hx => ht x (List.mem_cons_of_mem _ hx)) (by simpa using hn) a2
    exact ⟨by rw [b1, a1]; simp, b2⟩
end Go.Proofs.Ytcbeocpllnmcjaa.P
