/- What the document's answers for layer 7 (poundageref07) come to: Parse, of every text. -/
import Derived.Test.YteelbdcgdkpioaaGreatDoorJRef7g
import Derived.Test.YteelbdcgdkpioaaGreatDoorJSh9
import Derived.Test.YteelbdcgdkpioaaGreatDoorJMem
import Derived.Test.YteelbdcgdkpioaaGreatDoorJPaP
import Derived.Test.YteelbdcgdkpioaaGreatDoorJRef1
import Derived.Test.YteelbdcgdkpioaaGreatDoorJDatB
import Derived.Test.YteelbdcgdkpioaaGreatDoorJRef6d
import Derived.BigQuiet
import Derived.Lib.QuietBelow
import Derived.Deep.CutBlock
import Derived.Deep.RegionHeld3
import Derived.Deep.DeepCutAuto
import Derived.Test.YteelbdcgdkpioaaGreatDoorJDecim
import Derived.Lib.OthersKept
import Derived.Laws.RangeAny
namespace Go.Proofs.YteelbdcgdkpioaaGreatDoor.R7
open Go.RowKit Go.Sort P Tl Mm Md

theorem ref_any (l : ByteArray) (w : World) : Calls Tryz.prog 9 #[.string l] w (PsQ w (parsed l.data.toList)) := by
  by_cases h : (lexed l.data.toList).2.1 = 0
  · have e : parsed l.data.toList = planS (lexed l.data.toList).1 := by unfold parsed; simp only; rw [if_pos h]
    rw [e]
    exact parse_good l w (lexed l.data.toList).1 (lexed l.data.toList).2.2.1 (lexed l.data.toList).2.2.2 (by rw [← h]) (lexed_fine h)
  · have e : parsed l.data.toList = (planZ, ((lexed l.data.toList).2.1 : Int), ((lexed l.data.toList).2.2.1 : Int), ((lexed l.data.toList).2.2.2 : Int)) := by unfold parsed; simp only; rw [if_neg h]
    rw [e]
    exact parse_bad l w _ _ _ _ rfl h
/-- What Parse answers: a plan that lies, and a fault. -/
theorem ref_lies (l : ByteArray) (w : World) : Calls Tryz.prog 9 #[.string l] w fun e w' => ∃ ma mc fa fc ca cc, e = .returned (.tuple #[.agg (planC (parsed l.data.toList).1 ma mc fa fc ca cc).toArray, .int .i64 (parsed l.data.toList).2.1, .int .i64 (parsed l.data.toList).2.2.1, .int .i64 (parsed l.data.toList).2.2.2]) ∧
    PlanLies w' (planC (parsed l.data.toList).1 ma mc fa fc ca cc) (parsed l.data.toList).1 ma mc fa fc ca cc ∧ Below w.heap.size w w' :=
  (ref_any l w).mono fun _ _ ⟨ma, mc, fa, fc, ca, cc, _, h1, h2, h3, h4⟩ => ⟨ma, mc, fa, fc, ca, cc, h1, lies_of h2 (parsed_fits _) h3.own, h4⟩
end Go.Proofs.YteelbdcgdkpioaaGreatDoor.R7
/- The laws of layer 8: alive. -/
namespace Go.Proofs.YteelbdcgdkpioaaGreatDoor.L08
open Go.RowKit Go.Sort P Mm Md Sw

def tx8 : List UInt8 := [112, 108, 97, 110, 32, 112, 32, 99, 117, 114, 114, 101, 110, 99, 121, 32, 69, 85, 82, 59, 10, 104, 111, 114, 105, 122, 111, 110, 32, 50, 48, 50, 52, 45, 48, 49, 45, 48, 49, 32] ++ [50, 48, 50, 52, 45, 49, 50, 45, 51, 49, 59, 10, 109, 101, 116, 101, 114, 32, 109, 32, 117, 110, 105, 116, 32, 108, 32, 109, 97, 120, 32, 57, 59, 10, 102, 101, 101, 32, 53, 59, 10]
set_option maxRecDepth 100000 in
theorem tx8_parsed : (parsed tx8).2 = (0, 0, 0) ∧ (parsed tx8).1.name.data.toList = [112] ∧ (parsed tx8).1.cur.data.toList = [69, 85, 82] ∧ (parsed tx8).1.a = ⟨2024, 1, 1⟩ ∧ (parsed tx8).1.b = ⟨2024, 12, 31⟩ ∧
    (parsed tx8).1.meters.map (fun m => (m.name.data.toList, m.unit.data.toList, m.max)) = [([109], [108], 9)] ∧ (parsed tx8).1.fees.map (fun f => (f.amount, f.win)) = [(5, ⟨false, ⟨0, 0, 0⟩, ⟨0, 0, 0⟩⟩)] ∧ (parsed tx8).1.charges.length = 0 := by decide +kernel
theorem tx8_text : planT (parsed tx8).1 = tx8 := by
  obtain ⟨_, h1, h2, h3, h4, h5, h6, h7⟩ := tx8_parsed
  have c := List.eq_nil_of_length_eq_zero h7
  have m : (parsed tx8).1.meters.flatMap meterT = ((parsed tx8).1.meters.map (fun m => (m.name.data.toList, m.unit.data.toList, m.max))).flatMap (fun x => tellT 0 [wMeter, x.1, wUnit, x.2.1, wMax, nmbT x.2.2]) := by rw [List.flatMap_map]; rfl
  have f : (parsed tx8).1.fees.flatMap feeT = ((parsed tx8).1.fees.map (fun f => (f.amount, f.win))).flatMap (fun x => tellT 0 [wFee, nmbT x.1 ++ winT x.2]) := by rw [List.flatMap_map]; rfl
  have n9 : nmbT 9 = [57] := by unfold nmbT; rw [dec_last (by decide)]; decide
  have n5 : nmbT 5 = [53] := by unfold nmbT; rw [dec_last (by decide)]; decide
  unfold planT headT8
  rw [m, f, h1, h2, h3, h4, h5, h6, c]
  simp only [List.flatMap_cons, List.flatMap_nil, List.append_nil]
  rw [n9, n5]
  decide +kernel
theorem wpList_load_midg {P : Program} {ops : Array Oper} {rest : List Oper} {op : Oper} {a : Act} {w : World} {Q : Exit → Act → World → Prop} (hw : Region.wanted op (yielded ops a.tmps) = true) (ty : TypeId) (x : Operand) (ho : op.op = .load ty x)
    (b o : Nat) (hx : a.eval x = .pointer (some ⟨b, o, none⟩)) (cs : List Value) (d : TypeDesc) (hc : w.rangeAt b o cs)
    (hu : P.underlying ty = some d) (hd : d.isRow = true) (hi : (P.info? ty).map (·.size) = some cs.length)
    (h : wpList P ops Q rest (a.put op.dst (.agg cs.toArray)) w) : wpList P ops Q (op :: rest) a w :=
  wpList_step fun _ hK => by simp only [hw, if_true]; exact wp_load_mid ty x ho b o hx cs d hc hu hd hi (hK _ _ h)
set_option maxHeartbeats 8000000 in
set_option maxRecDepth 100000 in
theorem alive_any (w : World) (k : Kz w) : Calls Tryz.prog 8 #[] w fun e w' => e = .returned (.bool true) ∧ Below w.heap.size w w' := by
  obtain ⟨S, hS⟩ : ∃ S : ByteArray, S = { data := ([112, 108, 97, 110, 32, 112, 32, 99, 117, 114, 114, 101, 110, 99, 121, 32, 69, 85, 82, 59, 10, 104, 111, 114, 105, 122, 111, 110, 32, 50, 48, 50, 52, 45, 48, 49, 45, 48, 49, 32].append [50, 48, 50, 52, 45, 49, 50, 45, 51, 49, 59, 10, 109, 101, 116, 101, 114, 32, 109, 32, 117, 110, 105, 116, 32, 108, 32, 109, 97, 120, 32, 57, 59, 10, 102, 101, 101, 32, 53, 59, 10]).toArray } := ⟨_, rfl⟩
  have hl : S.data.toList = tx8 := by rw [hS]; rfl
  obtain ⟨p, hp⟩ : ∃ p, p = (parsed tx8).1 := ⟨_, rfl⟩
  have cP := R7.ref_lies S w
  have e0 : (parsed tx8).2.1 = 0 := by rw [tx8_parsed.1]
  have e1 : (parsed tx8).2.2.1 = 0 := by rw [tx8_parsed.1]
  have e2 : (parsed tx8).2.2.2 = 0 := by rw [tx8_parsed.1]
  have sp : Sh p := by rw [hp]; exact parsed_sh e0
  have et : (⟨(planT p).toArray⟩ : ByteArray) = S := by rw [hp, tx8_text, ← hl]
  rw [hl, e0, e1, e2, ← hp] at cP
  have NP : Hid (∀ W ma mc fa fc ca cc, Below w.heap.size w W → PlanLies W (planC p ma mc fa fc ca cc) p ma mc fa fc ca cc → Calls Tryz.prog 12 #[.agg (planC p ma mc fa fc ca cc).toArray] W fun e w' => e = .returned (.string S) ∧ Below W.heap.size W w') := hid fun W ma mc fa fc ca cc b hl => by
    have := plan_any tx p ma mc fa fc ca cc W hl sp (k.later b)
    rw [et] at this
    exact this
  have NM : Hid (∀ W, Below w.heap.size w W → Calls Tryz.prog 10 #[.int .i64 3] W fun e w' => e = .returned (.string ⟨#[104, 97, 108, 102, 101, 118, 101, 110]⟩) ∧ w' = W) := hid fun W b => mode_any tx 3 (by unfold I64; decide) W (k.later b)
  have HS := hid hS
  clear hl hp e0 e1 e2 sp et k hS
  go_enter Tryz.func8, Tryz.ntmps8
  rw [← HS.out]
  clear HS
  go_wp2_with fail
  refine cP.mono ?_
  rintro e w1 ⟨ma, mc, fa, fc, ca, cc, rfl, lA, b1⟩
  obtain ⟨wA, hwA⟩ : ∃ W, W = w1.alloc (.cells #[.string p.name, .string p.cur, .int .i64 p.a.y, .int .i64 p.a.m, .int .i64 p.a.d, .int .i64 p.b.y, .int .i64 p.b.m, .int .i64 p.b.d, .slice ma p.meters.length mc, .slice fa p.fees.length fc, .slice ca p.charges.length cc, .int .i64 p.line, .int .i64 p.col] 29) := ⟨_, rfl⟩
  have bA : Below w1.heap.size w1 wA := by rw [hwA]; exact bel_alloc _ _
  have RA : Hid (wA.rangeAt w1.heap.size 0 [.string p.name, .string p.cur, .int .i64 p.a.y, .int .i64 p.a.m, .int .i64 p.a.d, .int .i64 p.b.y, .int .i64 p.b.m, .int .i64 p.b.d, .slice ma p.meters.length mc, .slice fa p.fees.length fc, .slice ca p.charges.length cc, .int .i64 p.line, .int .i64 p.col]) := hid (by rw [hwA]; exact range_new _ _ _)
  have NQ := hid (NP.out wA ma mc fa fc ca cc (bel_on b1 bA) (lA.on bA))
  have BW := hid (bel_on b1 bA)
  have HW := hid hwA
  clear cP lA b1 bA hwA NP
  unfold planC at NQ ⊢
  go_upto_region 3 with (first
    | (with_reducible refine wpList_store_new (op := Oper.mk none (Op.store 29 (Operand.tmp 2) (Operand.tmp 9)) _ _ _ _) ?_ 29 (.tmp 2) (.tmp 9) ?_ w1 #[.string ⟨#[]⟩, .string ⟨#[]⟩, .int .i64 0, .int .i64 0, .int .i64 0, .int .i64 0, .int .i64 0, .int .i64 0, .slice none 0 0, .slice none 0 0, .slice none 0 0, .int .i64 0, .int .i64 0] #[.string p.name, .string p.cur, .int .i64 p.a.y, .int .i64 p.a.m, .int .i64 p.a.d, .int .i64 p.b.y, .int .i64 p.b.m, .int .i64 p.b.d, .slice ma p.meters.length mc, .slice fa p.fees.length fc, .slice ca p.charges.length cc, .int .i64 p.line, .int .i64 p.col] ?_ ?_ ?_ ?_ ?_ ?_; rfl; rfl; go_simp; go_simp; kernel_rfl; rfl; (simp [Value.oneCell']))
    | fail)
  rw [← HW.out]
  clear HW
  go_wp2_with (first
    | (with_reducible refine wpList_load_mid (op := Oper.mk (some 13) (Op.load 29 (Operand.tmp 2)) _ _ _ _) ?_ 29 (.tmp 2) ?_ w1.heap.size 0 ?_ [.string p.name, .string p.cur, .int .i64 p.a.y, .int .i64 p.a.m, .int .i64 p.a.d, .int .i64 p.b.y, .int .i64 p.b.m, .int .i64 p.b.d, .slice ma p.meters.length mc, .slice fa p.fees.length fc, .slice ca p.charges.length cc, .int .i64 p.line, .int .i64 p.col] _ RA.out Tryz.underlying29 ?_ ?_ ?_; rfl; rfl; go_simp; rfl; kernel_rfl)
    | (go_at_call 12; refine NQ.out.mono ?_; rintro e w2 ⟨rfl, b2⟩; have B2 := hid (BW.out.trans (b2.mono BW.out.size)); clear b2)
    | (go_at_call 10; refine (NM.out _ B2.out).mono ?_; rintro e w3 ⟨rfl, b3⟩; subst b3))
  go_ret
  exact ⟨rfl, B2.out⟩
end Go.Proofs.YteelbdcgdkpioaaGreatDoor.L08
/- What package parse does: the reader in memory; what is passed. -/
namespace Go.Proofs.YteelbdcgdkpioaaGreatDoor.Pa
open Go.RowKit Go.Sort P Tl

theorem grown_refl (w : World) (row : Option Nat) : w.grownBy w row := ⟨rfl, rfl, rfl, Nat.le_refl _, fun _ _ _ => rfl⟩
theorem grown_trans {w w1 w2 : World} {row : Option Nat} (a : w.grownBy w1 row) (b : w1.grownBy w2 row) : w.grownBy w2 row :=
  ⟨b.os.trans a.os, b.tape.trans a.tape, b.output.trans a.output, Nat.le_trans a.size b.size, fun k hk hne => (b.block k (Nat.lt_of_lt_of_le hk a.size) hne).trans (a.block k hk hne)⟩
theorem grown_below {w w1 : World} {row : Option Nat} (a : Below w.heap.size w w1) : w.grownBy w1 row := ⟨a.os, a.tape, a.output, a.size, fun k hk _ => a.block k hk⟩
theorem grown_set (w : World) (b k : Nat) (u : Value) : w.grownBy (w.setCell ⟨b, k, none⟩ u) (some b) :=
  ⟨rfl, rfl, rfl, by simp, fun j _ hne => Below.heap_setCell w ⟨b, k, none⟩ u j (fun e => hne (by rw [e]))⟩
theorem grown_put {w w2 : World} {row : Option Nat} (h : w.grownBy w2 row) {k : Nat} (hk : w.heap.size ≤ k) (o : Nat) (u : Value) : w.grownBy (w2.setCell ⟨k, o, none⟩ u) row :=
  ⟨h.os, h.tape, h.output, by simpa using h.size, fun j hj hne => (Below.heap_setCell w2 ⟨k, o, none⟩ u j (by show j ≠ k; omega)).trans (h.block j hj hne)⟩
/-- The modes' words stand as the program's text lays them. -/
def Md (w : World) : Prop := ∀ j l, modes[j]? = some l → w.cell? ⟨2, j, none⟩ = some (.string ⟨l.toArray⟩)
/-- What the reader asks of the world's variables. -/
def Ky (w : World) : Prop := Dc.Mx w ∧ Md w
theorem Ky.blocks {w w' : World} (h : Ky w) (h1 : w'.heap[3]? = w.heap[3]?) (h2 : w'.heap[2]? = w.heap[2]?) : Ky w' := by
  obtain ⟨⟨m, hm⟩, hd⟩ := h
  exact ⟨⟨m, (World.cell?_of_block h1).trans hm⟩, fun j l hj => (World.cell?_of_block h2).trans (hd j l hj)⟩
theorem Ky.lt {w : World} (h : Ky w) : 3 < w.heap.size ∧ 2 < w.heap.size := by
  obtain ⟨⟨m, hm⟩, hd⟩ := h
  exact ⟨World.block_lt_of_cell? w _ hm, World.block_lt_of_cell? w _ (hd 0 _ rfl)⟩
theorem Ky.later {w w' : World} (h : Ky w) (b : Below w.heap.size w w') : Ky w' := h.blocks (b.block _ h.lt.1) (b.block _ h.lt.2)
/-- The reader in memory: its block, and the tokens'. -/
structure Rd (w : World) (b tb cap : Nat) (ts : List Tok) (s : St) : Prop where
  lt : b < w.heap.size
  c0 : w.cell? ⟨b, 0, none⟩ = some (.slice (some ⟨tb, vw ts s * 4, none⟩) (ts.length - vw ts s) (cap - vw ts s))
  c1 : w.cell? ⟨b, 1, none⟩ = some (.int .i64 s.err)
  c2 : w.cell? ⟨b, 2, none⟩ = some (.int .i64 s.ln)
  c3 : w.cell? ⟨b, 3, none⟩ = some (.int .i64 s.cl)
  fr : ∀ j, w.frozen? ⟨b, j, none⟩ = false
  tlt : tb < b
  tok : ∀ j t, ts[j]? = some t → w.cell? ⟨tb, j * 4, none⟩ = some (.int .i64 t.k) ∧ w.cell? ⟨tb, j * 4 + 1, none⟩ = some (.string ⟨t.t.toArray⟩) ∧ w.cell? ⟨tb, j * 4 + 2, none⟩ = some (.int .i64 t.ln) ∧ w.cell? ⟨tb, j * 4 + 3, none⟩ = some (.int .i64 t.cl)
  cnt : ts.length ≤ 100000
  room : ts.length ≤ cap ∧ cap ≤ 9223372036854775807
  str : ∀ t ∈ ts, t.t.length ≤ 1000000
  knd : Knd ts
  ok : Ok ts s
  z : s.err = 0 → s.ln = 0 ∧ s.cl = 0
  ky : Ky w
  far : 3 < b ∧ 2 < b
section
variable {w w' : World} {b tb cap : Nat} {ts : List Tok} {s s' : St}
theorem Rd.of_grown (h : Rd w b tb cap ts s) (hg : w.grownBy w' (some b)) (ok : Ok ts s') (z : s'.err = 0 → s'.ln = 0 ∧ s'.cl = 0)
    (c0 : w'.cell? ⟨b, 0, none⟩ = some (.slice (some ⟨tb, vw ts s' * 4, none⟩) (ts.length - vw ts s') (cap - vw ts s'))) (c1 : w'.cell? ⟨b, 1, none⟩ = some (.int .i64 s'.err)) (c2 : w'.cell? ⟨b, 2, none⟩ = some (.int .i64 s'.ln))
    (c3 : w'.cell? ⟨b, 3, none⟩ = some (.int .i64 s'.cl)) (fr : ∀ j, w'.frozen? ⟨b, j, none⟩ = false) : Rd w' b tb cap ts s' := by
  have l1 := h.tlt
  have l2 := h.lt
  have hb : w'.heap[tb]? = w.heap[tb]? := hg.block tb (by omega) (fun e => by have := Option.some.inj e; omega)
  have hc : ∀ o, w'.cell? ⟨tb, o, none⟩ = w.cell? ⟨tb, o, none⟩ := fun o => World.cell?_of_block hb
  exact ⟨Nat.lt_of_lt_of_le h.lt hg.size, c0, c1, c2, c3, fr, h.tlt, fun j t hj => by rw [hc, hc, hc, hc]; exact h.tok j t hj, h.cnt, h.room, h.str, h.knd, ok, z,
    h.ky.blocks (hg.block _ h.ky.lt.1 (fun e => by have := Option.some.inj e; have := h.far.1; omega)) (hg.block _ h.ky.lt.2 (fun e => by have := Option.some.inj e; have := h.far.2; omega)), h.far⟩
/-- Where blocks behind the reader's are written, or new ones made. -/
theorem Rd.other {row : Option Nat} (h : Rd w b tb cap ts s) (hg : w.grownBy w' row) (h1 : ∀ k, row = some k → b < k) : Rd w' b tb cap ts s := by
  have nb : ∀ k, k ≤ b → some k ≠ row := fun k hk e => by have := h1 k e.symm; omega
  have e := hg.block b h.lt (nb b (Nat.le_refl _))
  have hc : ∀ o, w'.cell? ⟨b, o, none⟩ = w.cell? ⟨b, o, none⟩ := fun o => World.cell?_of_block e
  have hf : ∀ o, w'.frozen? ⟨b, o, none⟩ = w.frozen? ⟨b, o, none⟩ := fun o => World.frozen?_of_block e
  have l1 := h.tlt
  have l2 := h.lt
  have e2 := hg.block tb (by omega) (nb tb (by omega))
  have hc2 : ∀ o, w'.cell? ⟨tb, o, none⟩ = w.cell? ⟨tb, o, none⟩ := fun o => World.cell?_of_block e2
  exact ⟨Nat.lt_of_lt_of_le h.lt hg.size, by rw [hc]; exact h.c0, by rw [hc]; exact h.c1, by rw [hc]; exact h.c2, by rw [hc]; exact h.c3, fun j => by rw [hf]; exact h.fr j, h.tlt,
    fun j t hj => by rw [hc2, hc2, hc2, hc2]; exact h.tok j t hj, h.cnt, h.room, h.str, h.knd, h.ok, h.z,
    h.ky.blocks (hg.block _ h.ky.lt.1 (nb _ (Nat.le_of_lt h.far.1))) (hg.block _ h.ky.lt.2 (nb _ (Nat.le_of_lt h.far.2))), h.far⟩
theorem Rd.on (h : Rd w b tb cap ts s) (hb : Below w.heap.size w w') : Rd w' b tb cap ts s := h.other (row := none) (grown_below hb) (fun _ e => by cases e)
theorem Rd.aside (h : Rd w b tb cap ts s) {k : Nat} (hk : b < k) (o : Nat) (u : Value) : Rd (w.setCell ⟨k, o, none⟩ u) b tb cap ts s :=
  h.other (grown_set _ _ _ _) (fun j e => by have := Option.some.inj e; omega)
theorem Rd.far' (h : Rd w' b tb cap ts s) (hb : b < w.heap.size) {k : Nat} (hk : w.heap.size ≤ k) (o : Nat) (u : Value) : Rd (w'.setCell ⟨k, o, none⟩ u) b tb cap ts s := h.aside (by omega) o u
/-- The token that comes next. -/
theorem Rd.at (h : Rd w b tb cap ts s) : w.cell? ⟨tb, vw ts s * 4, none⟩ = some (.int .i64 (vk ts s).k) ∧ w.cell? ⟨tb, vw ts s * 4 + 1, none⟩ = some (.string ⟨(vk ts s).t.toArray⟩) ∧ w.cell? ⟨tb, vw ts s * 4 + 2, none⟩ = some (.int .i64 (vk ts s).ln) ∧ w.cell? ⟨tb, vw ts s * 4 + 3, none⟩ = some (.int .i64 (vk ts s).cl) := h.tok _ _ (vk_at h.ok)
theorem Rd.str_at (h : Rd w b tb cap ts s) : (vk ts s).t.length ≤ 1000000 := h.str _ (List.mem_of_getElem? (vk_at h.ok))
/-- One more token is over. -/
theorem Rd.step (h : Rd w b tb cap ts s) (e : s.err = 0) (ok : Ok ts s.next) : Rd (w.setCell ⟨b, 0, none⟩ (.slice (some ⟨tb, s.i * 4 + 4, none⟩) (ts.length - s.i - 1) (cap - s.i - 1))) b tb cap ts s.next := by
  have c0 := h.c0
  have c1 := h.c1
  have c2 := h.c2
  have c3 := h.c3
  have hl := h.lt
  have e1 : vw ts s.next = s.i + 1 := vw_ok (s := s.next) e
  refine h.of_grown (grown_set _ _ _ _) ok h.z ?_ ?_ ?_ ?_ ?_
  · rw [e1, show (s.i + 1) * 4 = s.i * 4 + 4 by omega, show ts.length - (s.i + 1) = ts.length - s.i - 1 by omega, show cap - (s.i + 1) = cap - s.i - 1 by omega]
    go_simp
  · show _ = some (Value.int .i64 s.err); go_simp
  · show _ = some (Value.int .i64 s.ln); go_simp
  · show _ = some (Value.int .i64 s.cl); go_simp
  · intro j; simpa using h.fr j
/-- Something is wrong: what comes next is told, and the end alone is left. -/
theorem Rd.refused (h : Rd w b tb cap ts s) (e : s.err = 0) {x : Int} (hx : x ≠ 0) (hw : w.grownBy w' (some b)) (c0 : w'.cell? ⟨b, 0, none⟩ = some (.slice (some ⟨tb, (ts.length - 1) * 4, none⟩) 1 (cap - (ts.length - 1))))
    (c1 : w'.cell? ⟨b, 1, none⟩ = some (.int .i64 x)) (c2 : w'.cell? ⟨b, 2, none⟩ = some (.int .i64 (tk ts s).ln)) (c3 : w'.cell? ⟨b, 3, none⟩ = some (.int .i64 (tk ts s).cl)) (fr : ∀ j, w'.frozen? ⟨b, j, none⟩ = false) : Rd w' b tb cap ts (wrg ts s x) := by
  have e1 : wrg ts s x = { s with err := x, ln := (tk ts s).ln, cl := (tk ts s).cl } := if_pos e
  have e2 : vw ts (wrg ts s x) = ts.length - 1 := vw_bad (by rw [e1]; exact hx)
  have hl := h.ok.lt
  refine h.of_grown hw (h.ok.wrg x) (fun c => absurd (by rw [e1] at c; exact c) hx) ?_ ?_ ?_ ?_ fr
  · rw [e2, c0, show ts.length - (ts.length - 1) = 1 by omega]
  · rw [e1]; exact c1
  · rw [e1]; exact c2
  · rw [e1]; exact c3
/-- Behind a fault it does not matter how many tokens are over. -/
theorem Rd.behind (h : Rd w b tb cap ts s) (e : ¬ s.err = 0) (ok : Ok ts s.next) : Rd w b tb cap ts s.next := by
  have e1 : vw ts s.next = vw ts s := (vw_bad (s := s.next) e).trans (vw_bad e).symm
  refine h.of_grown (grown_refl _ _) ok h.z ?_ h.c1 h.c2 h.c3 h.fr
  rw [e1]; exact h.c0
end
theorem pass_any (b tb cap : Nat) (ts : List Tok) (s : St) (w : World) (h : Rd w b tb cap ts s) (e : s.err = 0) (ok : Ok ts s.next) :
    Calls Tryz.prog 89 #[.pointer (some ⟨b, 0, none⟩)] w fun x w' => x = .returned (.tuple #[]) ∧ Rd w' b tb cap ts s.next ∧ w.grownBy w' (some b) := by
  have H := hid h
  have hb := h.lt
  have c0 := h.c0
  rw [vw_ok e] at c0
  have f0 := h.fr 0
  have i1 := ok.lt
  have i2 : s.i + 1 < ts.length := i1
  have r1 := h.room.1
  have HE := hid e
  have HO := hid ok
  have hc1 : 1 ≤ ts.length - s.i := by omega
  have hc2 : ¬ cap - s.i = 1 := by omega
  clear h e ok i1
  go_enter Tryz.func89, Tryz.ntmps89
  go_wp2
  go_end0
  exact ⟨rfl, H.out.step HE.out HO.out, grown_set _ _ _ _⟩
end Go.Proofs.YteelbdcgdkpioaaGreatDoor.Pa
/- What package parse does: what is refused. -/
namespace Go.Proofs.YteelbdcgdkpioaaGreatDoor.Pa
open Go.RowKit Go.Sort P Tl

set_option maxHeartbeats 1000000 in
theorem refuse_any (b tb cap : Nat) (ts : List Tok) (s : St) (x : Int) (hx : x ≠ 0) (w : World) (h : Rd w b tb cap ts s) :
    Calls Tryz.prog 88 #[.pointer (some ⟨b, 0, none⟩), .int .i64 x] w fun e w' => e = .returned (.tuple #[]) ∧ Rd w' b tb cap ts (wrg ts s x) ∧ w.grownBy w' (some b) := by
  have H := hid h
  have hb := h.lt
  have c1 := h.c1
  have c2 := h.c2
  have c3 := h.c3
  by_cases h0 : s.err = 0
  · rw [h0] at c1
    rw [(h.z h0).1] at c2
    rw [(h.z h0).2] at c3
    have HX := hid hx
    have HE := hid h0
    have c0 := h.c0
    rw [vw_ok h0] at c0
    have i1 := h.ok.lt
    have r1 := h.room.1
    have hc1 : 1 ≤ ts.length - s.i := by omega
    have hcn := h.cnt
    obtain ⟨a0, a1, a2, a3⟩ := h.at
    rw [vw_ok h0, vk_ok h0] at a2 a3
    clear hx h0 h a0 a1
    go_enter Tryz.func88, Tryz.ntmps88
    go_upto_region 1 with fail
    have k0 := cell_regrown c0
    have k2 := cell_regrown a2
    have k3 := cell_regrown a3
    refine region_tail_below 19 (by kernel_rfl) (by kernel_rfl) ?_
    simp only [List.take_succ_cons, List.take_zero, List.drop_succ_cons, List.drop_zero]
    repeat (go_big_quiet_step (fail))
    refine wpQuiet_nil ?_
    intro _ hw'
    obtain ⟨⟨dq, osq⟩, hw''⟩ := hw'
    subst hw''
    obtain ⟨w1, hw1⟩ : ∃ w1, w1 = grow (redrawn w dq) osq := ⟨_, rfl⟩
    have b1 : Below w.heap.size w w1 := by rw [hw1]; exact below_regrown w dq osq
    rw [← hw1]
    have q0 := c0
    clear k0 k2 k3 a2 a3 c0 c1 c2 c3 hb
    have c0 : w1.cell? ⟨b, 0, none⟩ = _ := (b1.cell H.out.lt).trans q0
    have c1 : w1.cell? ⟨b, 1, none⟩ = _ := (b1.cell H.out.lt).trans H.out.c1
    have c2 : w1.cell? ⟨b, 2, none⟩ = _ := (b1.cell H.out.lt).trans H.out.c2
    have c3 : w1.cell? ⟨b, 3, none⟩ = _ := (b1.cell H.out.lt).trans H.out.c3
    have hb : b < w1.heap.size := Nat.lt_of_lt_of_le H.out.lt b1.size
    have fr : ∀ j, w1.frozen? ⟨b, j, none⟩ = false := fun j => (b1.frozen H.out.lt).trans (H.out.fr j)
    have f1 := fr 1
    have f2 := fr 2
    have f3 := fr 3
    have HB1 := hid b1
    have FR := hid fr
    clear q0 hw1 b1 fr
    go_wp2
    obtain ⟨w2, hw2⟩ : ∃ w2, w2 = ((w1.setCell ⟨b, 1, none⟩ (.int .i64 x)).setCell ⟨b, 2, none⟩ (.int .i64 (tk ts s).ln)).setCell ⟨b, 3, none⟩ (.int .i64 (tk ts s).cl) := ⟨_, rfl⟩
    rw [← hw2]
    have e0 : w2.cell? ⟨b, 0, none⟩ = some (.slice (some ⟨tb, s.i * 4, none⟩) (ts.length - s.i) (cap - s.i)) := by rw [hw2]; go_simp
    have e1 : w2.cell? ⟨b, 1, none⟩ = some (.int .i64 x) := by rw [hw2]; go_simp
    have e2 : w2.cell? ⟨b, 2, none⟩ = some (.int .i64 (tk ts s).ln) := by rw [hw2]; go_simp
    have e3 : w2.cell? ⟨b, 3, none⟩ = some (.int .i64 (tk ts s).cl) := by rw [hw2]; go_simp
    have fr : ∀ j, w2.frozen? ⟨b, j, none⟩ = false := fun j => by rw [hw2]; simpa using FR.out j
    have g2 : w.grownBy w2 (some b) := by rw [hw2]; exact grown_trans (grown_below HB1.out) (grown_trans (grown_set _ _ _ _) (grown_trans (grown_set _ _ _ _) (grown_set _ _ _ _)))
    have hb2 : b < w2.heap.size := Nat.lt_of_lt_of_le H.out.lt g2.size
    have E1 := hid e1
    have E2 := hid e2
    have E3 := hid e3
    have HF := hid fr
    have G2 := hid g2
    have k0 := cell_regrown e0
    clear c0 c1 c2 c3 f1 f2 f3 hb hw2 FR e1 e2 e3 fr g2
    refine region_tail_below 14 (by kernel_rfl) (by kernel_rfl) ?_
    simp only [List.take_succ_cons, List.take_zero, List.drop_succ_cons, List.drop_zero]
    repeat (go_big_quiet_step (fail))
    refine wpQuiet_nil ?_
    intro _ hw'
    obtain ⟨⟨dq, osq⟩, hw''⟩ := hw'
    subst hw''
    obtain ⟨w3, hw3⟩ : ∃ w3, w3 = grow (redrawn w2 dq) osq := ⟨_, rfl⟩
    have b3 : Below w2.heap.size w2 w3 := by rw [hw3]; exact below_regrown w2 dq osq
    rw [← hw3]
    have hb3 : b < w3.heap.size := Nat.lt_of_lt_of_le hb2 b3.size
    have f0 : w3.frozen? ⟨b, 0, none⟩ = false := (b3.frozen hb2).trans (HF.out 0)
    have c0 : w3.cell? ⟨b, 0, none⟩ = _ := (b3.cell hb2).trans e0
    have HB3 := hid b3
    have HB := hid hb2
    clear hw3 b3 hb2 k0
    go_wp2
    go_end0
    have g3 : w.grownBy (w3.setCell ⟨b, 0, none⟩ (.slice (some ⟨tb, s.i * 4 + (ts.length - s.i - 1) * 4, none⟩) (ts.length - s.i - (ts.length - s.i - 1)) (cap - s.i - (ts.length - s.i - 1)))) (some b) := grown_trans G2.out (grown_trans (grown_below HB3.out) (grown_set _ _ _ _))
    refine ⟨rfl, H.out.refused HE.out HX.out g3 ?_ ?_ ?_ ?_ ?_, g3⟩
    · rw [show s.i * 4 + (ts.length - s.i - 1) * 4 = (ts.length - 1) * 4 by omega, show ts.length - s.i - (ts.length - s.i - 1) = 1 by omega, show cap - s.i - (ts.length - s.i - 1) = cap - (ts.length - 1) by omega]
      go_simp
    · have d : w3.cell? ⟨b, 1, none⟩ = _ := (HB3.out.cell HB.out).trans E1.out
      go_simp
    · have d : w3.cell? ⟨b, 2, none⟩ = _ := (HB3.out.cell HB.out).trans E2.out
      go_simp
    · have d : w3.cell? ⟨b, 3, none⟩ = _ := (HB3.out.cell HB.out).trans E3.out
      go_simp
    · intro j
      have d : w3.frozen? ⟨b, j, none⟩ = false := (HB3.out.frozen HB.out).trans (HF.out j)
      simpa using d
  · have he : wrg ts s x = s := by unfold wrg; rw [if_neg h0]
    rw [he]
    have z : (s.err == 0) = false := by simpa using h0
    clear he h h0 hx
    go_enter Tryz.func88, Tryz.ntmps88
    go_wp2
    (try simp only [Exit.inBlock, Exit.then]); refine bodyPost_ret (results_none rfl _ _ _) rfl ?_
    exact ⟨rfl, H.out, grown_refl _ _⟩
end Go.Proofs.YteelbdcgdkpioaaGreatDoor.Pa
/- What package date does: reading a day's text. -/
namespace Go.Proofs.YteelbdcgdkpioaaGreatDoor.Dt
open Go.RowKit Go.Sort P

/-- What 'number' answers. -/
def nv (l : List UInt8) : Int := if l.all isD then (val l : Int) else 0
theorem take_byte (s : ByteArray) (i : Nat) (h : i < s.size) : s.data.toList.take (i + 1) = s.data.toList.take i ++ [s[i]'h] := by
  have hl : i < s.data.toList.length := by simpa using h
  rw [← at_byte s i h, List.take_add_one, List.getElem?_eq_getElem hl]
  rfl
/-- What the range over a text hands over: a digit is that digit; any other byte gives no digit. -/
theorem rune_of (s : ByteArray) (i : Nat) (h : i < s.size) : (isD (s[i]'h) = true ∧ Utf8.decode s i = ((s[i]'h).toNat, 1)) ∨ (isD (s[i]'h) = false ∧ ((Utf8.decode s i).1 < 48 ∨ 57 < (Utf8.decode s i).1)) := by
  by_cases ha : (s[i]'h).toNat < 128
  · have e := decode_ascii s i h ha
    by_cases hd : isD (s[i]'h) = true
    · exact .inl ⟨hd, e⟩
    · refine .inr ⟨by simpa using hd, ?_⟩
      unfold isD at hd
      rw [decide_eq_true_eq] at hd
      rw [e]
      show (s[i]'h).toNat < 48 ∨ 57 < (s[i]'h).toNat
      omega
  · have e := (decode_high s i h (by omega)).1
    refine .inr ⟨?_, .inr (by omega)⟩
    unfold isD
    rw [decide_eq_false_iff_not]
    omega
theorem not_all (s : ByteArray) (i : Nat) (h : i < s.size) (hb : isD (s[i]'h) = false) : s.data.toList.all isD = false := by
  rw [Bool.eq_false_iff]
  intro k
  rw [List.all_eq_true] at k
  have hl : i < s.data.toList.length := by simpa using h
  have := k _ (List.getElem_mem hl)
  rw [at_byte s i h, hb] at this
  cases this
theorem number_any (s : ByteArray) (w : World) (hs : s.size ≤ 4) :
    Calls Tryz.prog 121 #[.string s] w fun e w' => e = .returned (.tuple #[.int .i64 (nv s.data.toList), .bool (s.data.toList.all isD)]) ∧ Below w.heap.size w w' := by
  obtain ⟨A, hA⟩ : ∃ A : Bool, A = s.data.toList.all isD := ⟨_, rfl⟩
  obtain ⟨V, hV⟩ : ∃ V : Int, V = nv s.data.toList := ⟨_, rfl⟩
  rw [← hA, ← hV]
  replace hA := hid hA
  replace hV := hid hV
  go_enter Tryz.func121, Tryz.ntmps121
  go_wp2
  go_loopw [4] (fun n wr => ∃ (pos : Nat) (v : Int), n = .int .i64 v ∧ v = (val (s.data.toList.take pos) : Int) ∧ val (s.data.toList.take pos) < 10 ^ pos ∧ pos ≤ s.size ∧ (s.data.toList.take pos).all isD = true ∧ wr.heap[w.heap.size]? = some (.stringIter s pos) ∧ Below w.heap.size w wr) (fun _ wr => s.size - wr.iterPos w.heap.size)
  case atStart => exact ⟨0, 0, rfl, rfl, by simp [val], Nat.zero_le _, rfl, World.iter_heap w s 0, (Below.refl _ _).alloc (Nat.le_refl _) _⟩
  case round =>
    obtain ⟨pos, v, rfl, hv, hlt, hp0, hall, hit, hbw⟩ := hrel
    have hp4 : 10 ^ pos ≤ 10 ^ 4 := Nat.pow_le_pow_right (by decide) (by omega)
    by_cases hp : pos < s.size
    · have hb2 := Lib.below_iterAt hbw (k := w.heap.size) (Nat.le_refl _) s
      rcases rune_of s pos hp with ⟨hd, he⟩ | ⟨hd, he⟩
      · have hnx : ∀ ty, (Instr.next (.pointer (some ⟨w.heap.size, 0, none⟩)) true ty).run Tryz.prog wr = _ := fun ty => Lib.run_next_any_at wr w.heap.size s pos ty hit hp
        rw [he] at hnx
        have hit2 := Lib.iterAt_heap wr w.heap.size s pos (pos + 1) hit
        have hb3 := hb2 (pos + 1)
        have hd' := hd
        unfold isD at hd'
        rw [decide_eq_true_eq] at hd'
        have hk := take_byte s pos hp
        have hsn : val (s.data.toList.take (pos + 1)) = 10 * val (s.data.toList.take pos) + ((s[pos]'hp).toNat - 48) := by rw [hk, val_snoc]
        have hal : (s.data.toList.take (pos + 1)).all isD = true := by rw [hk, List.all_append, hall]; simpa using hd
        obtain ⟨x, hx⟩ : ∃ x : Int, x = ((s[pos]'hp).toNat : Int) := ⟨_, rfl⟩
        have hx0 : 48 ≤ x := by omega
        have hx1 : x ≤ 57 := by omega
        have hv0 : 0 ≤ v := by omega
        have hv1 : v ≤ 10000 := by omega
        have hfin : 10 * v + (x - 48) = (val (s.data.toList.take (pos + 1)) : Int) := by omega
        have hl2 : val (s.data.toList.take (pos + 1)) < 10 ^ (pos + 1) := by rw [Nat.pow_succ]; omega
        simp only [← hx] at hnx
        have Hfin := hid hfin
        clear hfin hsn hk hd hd' he hx hv hlt hall hp4
        go_wp2
        go_roundw
        case rel => exact ⟨pos + 1, _, rfl, Hfin.out, hl2, by omega, hal, hit2, hb3⟩
        case measure =>
          simp only [World.iterPos, hit2, hit]
          omega
      · have hna := not_all s pos hp hd
        have hnv : nv s.data.toList = 0 := by unfold nv; rw [hna]; rfl
        have hr := decode_le s pos
        have hb3 := hb2 (pos + (Utf8.decode s pos).2)
        have hnx : ∀ ty, (Instr.next (.pointer (some ⟨w.heap.size, 0, none⟩)) true ty).run Tryz.prog wr = _ := fun ty => Lib.run_next_any_at wr w.heap.size s pos ty hit hp
        obtain ⟨x, hx⟩ : ∃ x : Int, x = ((Utf8.decode s pos).1 : Int) := ⟨_, rfl⟩
        obtain ⟨W2, hW2⟩ : ∃ W2, W2 = wr.iterAt w.heap.size s (pos + (Utf8.decode s pos).2) := ⟨_, rfl⟩
        rw [← hx, ← hW2] at hnx
        rw [← hW2] at hb3
        have hx1 : x < 48 ∨ 57 < x := by omega
        have Hna := hid hna
        have Hnv := hid hnv
        clear hna hnv he hd hx hW2 hr hv hlt hall
        rcases hx1 with hx1 | hx1
        · go_wp2
          go_ret2
          exact ⟨ret_2 (vi (Hnv.out.symm.trans hV.out.symm)) (congrArg Value.bool (Hna.out.symm.trans hA.out.symm)), hb3⟩
        · have hx2 : ¬ x < 48 := by omega
          go_wp2
          go_ret2
          exact ⟨ret_2 (vi (Hnv.out.symm.trans hV.out.symm)) (congrArg Value.bool (Hna.out.symm.trans hA.out.symm)), hb3⟩
    · have hnx : ∀ ty, (Instr.next (.pointer (some ⟨w.heap.size, 0, none⟩)) true ty).run Tryz.prog wr = _ := fun ty => Lib.run_next_end_at wr w.heap.size s pos ty hit hp
      have e : s.data.toList.take pos = s.data.toList := List.take_of_length_le (by show s.size ≤ _; omega)
      rw [e] at hall hv
      have hnv : nv s.data.toList = v := by unfold nv; rw [hall, hv]; rfl
      have Hna := hid hall
      have Hnv := hid hnv
      clear hall hnv hv hlt e
      go_wp2
      go_ret2
      exact ⟨ret_2 (vi (Hnv.out.symm.trans hV.out.symm)) (congrArg Value.bool (Hna.out.symm.trans hA.out.symm)), hbw⟩
theorem parts_len (s : ByteArray) (w : World) (h : s.size ≠ 10) :
    Calls Tryz.prog 120 #[.string s] w fun e w' => e = .returned (.tuple #[.agg #[.string ⟨#[]⟩, .string ⟨#[]⟩, .string ⟨#[]⟩], .bool false]) ∧ Below w.heap.size w w' := by
  have h1 : ((s.size : Int) != 10) = true := by simp; omega
  go_enter Tryz.func120, Tryz.ntmps120
  go_wp2
  exact bodyPost_ret (v := .tuple #[.agg #[.string ⟨#[]⟩, .string ⟨#[]⟩, .string ⟨#[]⟩], .bool false]) (by simp [results, Tryz.results120, go_sem]) rfl ⟨rfl, (Below.refl _ _).alloc (Nat.le_refl _) _⟩
theorem parts_four (s : ByteArray) (w : World) (h : s.size = 10) (h4 : ¬ ((s[4]'(by omega)).toNat : Int) = 45) :
    Calls Tryz.prog 120 #[.string s] w fun e w' => e = .returned (.tuple #[.agg #[.string ⟨#[]⟩, .string ⟨#[]⟩, .string ⟨#[]⟩], .bool false]) ∧ Below w.heap.size w w' := by
  have h1 : ((s.size : Int)) = 10 := by omega
  go_enter Tryz.func120, Tryz.ntmps120
  go_wp2
  exact bodyPost_ret (v := .tuple #[.agg #[.string ⟨#[]⟩, .string ⟨#[]⟩, .string ⟨#[]⟩], .bool false]) (by simp [results, Tryz.results120, go_sem]) rfl ⟨rfl, (Below.refl _ _).alloc (Nat.le_refl _) _⟩
theorem parts_seven (s : ByteArray) (w : World) (h : s.size = 10) (h4 : ((s[4]'(by omega)).toNat : Int) = 45) (h7 : ¬ ((s[7]'(by omega)).toNat : Int) = 45) :
    Calls Tryz.prog 120 #[.string s] w fun e w' => e = .returned (.tuple #[.agg #[.string ⟨#[]⟩, .string ⟨#[]⟩, .string ⟨#[]⟩], .bool false]) ∧ Below w.heap.size w w' := by
  have h1 : ((s.size : Int)) = 10 := by omega
  have h8 : (((s[7]'(by omega)).toNat : Int) != 45) = true := by simpa using h7
  go_enter Tryz.func120, Tryz.ntmps120
  go_wp2
  exact bodyPost_ret (v := .tuple #[.agg #[.string ⟨#[]⟩, .string ⟨#[]⟩, .string ⟨#[]⟩], .bool false]) (by simp [results, Tryz.results120, go_sem]) rfl ⟨rfl, (Below.refl _ _).alloc (Nat.le_refl _) _⟩
theorem parts_yes (s : ByteArray) (w : World) (h : s.size = 10) (h4 : ((s[4]'(by omega)).toNat : Int) = 45) (h7 : ((s[7]'(by omega)).toNat : Int) = 45) :
    Calls Tryz.prog 120 #[.string s] w fun e w' => e = .returned (.tuple #[.agg #[.string (s.extract 0 4), .string (s.extract 5 7), .string (s.extract 8 10)], .bool true]) ∧ Below w.heap.size w w' := by
  have h1 : ((s.size : Int)) = 10 := by omega
  have h8 : (((s[7]'(by omega)).toNat : Int) != 45) = false := by simpa using h7
  go_enter Tryz.func120, Tryz.ntmps120
  go_wp2
  go_region
  go_wp2
  exact bodyPost_ret (v := .tuple #[.agg #[.string (s.extract 0 4), .string (s.extract 5 7), .string (s.extract 8 10)], .bool true]) (by simp [results, Tryz.results120, go_sem]) rfl ⟨rfl, ((Below.refl _ _).alloc (Nat.le_refl _) _).drew⟩
end Go.Proofs.YteelbdcgdkpioaaGreatDoor.Dt
/- What package date does: Parse. -/
namespace Go.Proofs.YteelbdcgdkpioaaGreatDoor.Dt
open Go.RowKit Go.Sort P

theorem parse_bad (s : ByteArray) (w : World)
    (hp : ∀ W, Calls Tryz.prog 120 #[.string s] W fun e w' => e = .returned (.tuple #[.agg #[.string ⟨#[]⟩, .string ⟨#[]⟩, .string ⟨#[]⟩], .bool false]) ∧ Below W.heap.size W w') :
    Calls Tryz.prog 91 #[.string s] w fun e w' => e = .returned (.tuple #[dv 0 0 0, .bool false]) ∧ Below w.heap.size w w' := by
  go_enter Tryz.func91, Tryz.ntmps91
  go_wp2_with (go_at_call 120; refine (hp _).mono ?_; rintro e w1 ⟨rfl, b1⟩; have M := Lies3.later b1 rfl; obtain ⟨l, c0, c1, c2, f0, f1, f2⟩ := M; have bw := (box3 b1).2.2.2.2; clear b1)
  exact bodyPost_ret (v := .tuple #[.agg #[.int .i64 0, .int .i64 0, .int .i64 0], .bool false]) (by simp [results, Tryz.results91, go_sem, *]) rfl
    ⟨rfl, (((bw.setCell (Nat.le_refl _) _).setCell (Nat.le_refl _) _).setCell (Nat.le_refl _) _).alloc (by simp; omega) _⟩
theorem ix0 (T0 T1 T2 : ByteArray) (W : World) : (Instr.index 157 (.agg #[.string T0, .string T1, .string T2]) (.int .i64 0)).run Tryz.prog W = .ok (.string T0) W := by kernel_rfl
theorem ix1 (T0 T1 T2 : ByteArray) (W : World) : (Instr.index 157 (.agg #[.string T0, .string T1, .string T2]) (.int .i64 1)).run Tryz.prog W = .ok (.string T1) W := by kernel_rfl
theorem ix2 (T0 T1 T2 : ByteArray) (W : World) : (Instr.index 157 (.agg #[.string T0, .string T1, .string T2]) (.int .i64 2)).run Tryz.prog W = .ok (.string T2) W := by kernel_rfl
theorem parse_walk (s T0 T1 T2 : ByteArray) (n0 n1 n2 : Int) (d0 d1 d2 : Bool) (G : Ending) (w : World)
    (hp : ∀ W, Calls Tryz.prog 120 #[.string s] W fun e w' => e = .returned (.tuple #[.agg #[.string T0, .string T1, .string T2], .bool true]) ∧ Below W.heap.size W w')
    (cn0 : ∀ W, Calls Tryz.prog 121 #[.string T0] W fun e w' => e = .returned (.tuple #[.int .i64 n0, .bool d0]) ∧ Below W.heap.size W w')
    (cn1 : ∀ W, Calls Tryz.prog 121 #[.string T1] W fun e w' => e = .returned (.tuple #[.int .i64 n1, .bool d1]) ∧ Below W.heap.size W w')
    (cn2 : ∀ W, Calls Tryz.prog 121 #[.string T2] W fun e w' => e = .returned (.tuple #[.int .i64 n2, .bool d2]) ∧ Below W.heap.size W w')
    (hN : Hid ((d0 && d1 && d2 && good n0 n1 n2) = false → .returned (.tuple #[dv 0 0 0, .bool false]) = G))
    (hY : Hid ((d0 && d1 && d2 && good n0 n1 n2) = true → .returned (.tuple #[dv n0 n1 n2, .bool true]) = G)) :
    Calls Tryz.prog 91 #[.string s] w fun e w' => e = G ∧ Below w.heap.size w w' := by
  have i0 := ix0 T0 T1 T2
  have i1 := ix1 T0 T1 T2
  have i2 := ix2 T0 T1 T2
  go_enter Tryz.func91, Tryz.ntmps91
  go_wp2_with (go_at_call 120; refine (hp _).mono ?_; rintro e w1 ⟨rfl, b1⟩; have M := Lies3.later b1 rfl; obtain ⟨l, c0, c1, c2, f0, f1, f2⟩ := M; have bw := (box3 b1).2.2.2.2; clear b1)
  have hbig : w.heap.size ≠ w1.heap.size + 1 := by omega
  have hbig' : w1.heap.size + 1 ≠ w.heap.size := by omega
  go_loopw [19] (fun i wr => ∃ i' x0 x1 x2 : Int, i = .int .i64 i' ∧ 0 ≤ i' ∧ i' ≤ 3 ∧ Lies3 wr w.heap.size (.int .i64 0) (.int .i64 0) (.int .i64 0) ∧
    Lies3 wr (w1.heap.size + 1) (.int .i64 x0) (.int .i64 x1) (.int .i64 x2) ∧ Below w.heap.size w wr ∧ (0 < i' → x0 = n0 ∧ d0 = true) ∧ (1 < i' → x1 = n1 ∧ d1 = true) ∧ (2 < i' → x2 = n2 ∧ d2 = true)) (fun i _ => (3 - intOf i).toNat)
  case atStart =>
    refine ⟨0, 0, 0, 0, rfl, by omega, by omega, ?_, ?_, ?_, by omega, by omega, by omega⟩
    · exact (Lies3.mk l c0 c1 c2 f0 f1 f2).alloc _ |>.alloc _
    · exact Lies3.new (by simp)
    · exact (bw.alloc (Nat.le_of_lt l) _).alloc (by simp; omega) _
  case round =>
    obtain ⟨i', x0, x1, x2, rfl, hi0, hi3, LA, LB, hbw, e0, e1, e2⟩ := hrel
    have hi : i' = 0 ∨ i' = 1 ∨ i' = 2 ∨ i' = 3 := by omega
    clear c0 c1 c2 f0 f1 f2
    rcases hi with rfl | rfl | rfl | rfl
    · clear e0 e1 e2
      cases d0
      · have hG := hid (hN.out (by simp))
        clear hN hY
        go_wp2_with (go_at_call 121; refine (cn0 _).mono ?_; rintro e w2 ⟨rfl, b2⟩; have LA2 := LA.on b2; have LB2 := LB.on b2; have bw2 := hbw.trans (b2.mono hbw.size); obtain ⟨l2, c0, c1, c2, f0, f1, f2⟩ := LA2; obtain ⟨l3, c0', c1', c2', f0', f1', f2'⟩ := LB2; clear LA LB hbw b2)
        exact bodyPost_ret (v := .tuple #[.agg #[.int .i64 0, .int .i64 0, .int .i64 0], .bool false]) (by simp [results, Tryz.results91, go_sem, *]) rfl
          ⟨hG.out, (((bw2.setCell (by simp; omega) _).setCell (Nat.le_refl _) _).setCell (Nat.le_refl _) _).setCell (Nat.le_refl _) _⟩
      · go_wp2_with (go_at_call 121; refine (cn0 _).mono ?_; rintro e w2 ⟨rfl, b2⟩; have LA2 := LA.on b2; have LB2 := LB.on b2; have bw2 := hbw.trans (b2.mono hbw.size); obtain ⟨l2, c0, c1, c2, f0, f1, f2⟩ := LA2; obtain ⟨l3, c0', c1', c2', f0', f1', f2'⟩ := LB2; clear LA LB hbw b2)
        have LA3 := (Lies3.mk l2 c0 c1 c2 f0 f1 f2).other (j := w1.heap.size + 1) (o := 0) hbig (.int .i64 n0)
        have LB3 := (Lies3.mk l3 c0' c1' c2' f0' f1' f2').set0 (.int .i64 n0)
        have bw3 := bw2.setCell (p := ⟨w1.heap.size + 1, 0, none⟩) (by show w.heap.size ≤ w1.heap.size + 1; omega) (.int .i64 n0)
        clear c0 c1 c2 f0 f1 f2 c0' c1' c2' f0' f1' f2'
        go_roundw
        case rel => exact ⟨1, n0, x1, x2, rfl, by omega, by omega, LA3, LB3, bw3, by simp, by omega, by omega⟩
        case measure => simp [intOf]
    · obtain ⟨rfl, rfl⟩ := e0 (by omega)
      clear e0 e1 e2
      cases d1
      · have hG := hid (hN.out (by simp))
        clear hN hY
        go_wp2_with (go_at_call 121; refine (cn1 _).mono ?_; rintro e w2 ⟨rfl, b2⟩; have LA2 := LA.on b2; have LB2 := LB.on b2; have bw2 := hbw.trans (b2.mono hbw.size); obtain ⟨l2, c0, c1, c2, f0, f1, f2⟩ := LA2; obtain ⟨l3, c0', c1', c2', f0', f1', f2'⟩ := LB2; clear LA LB hbw b2)
        exact bodyPost_ret (v := .tuple #[.agg #[.int .i64 0, .int .i64 0, .int .i64 0], .bool false]) (by simp [results, Tryz.results91, go_sem, *]) rfl
          ⟨hG.out, (((bw2.setCell (by simp; omega) _).setCell (Nat.le_refl _) _).setCell (Nat.le_refl _) _).setCell (Nat.le_refl _) _⟩
      · go_wp2_with (go_at_call 121; refine (cn1 _).mono ?_; rintro e w2 ⟨rfl, b2⟩; have LA2 := LA.on b2; have LB2 := LB.on b2; have bw2 := hbw.trans (b2.mono hbw.size); obtain ⟨l2, c0, c1, c2, f0, f1, f2⟩ := LA2; obtain ⟨l3, c0', c1', c2', f0', f1', f2'⟩ := LB2; clear LA LB hbw b2)
        have LA3 := (Lies3.mk l2 c0 c1 c2 f0 f1 f2).other (j := w1.heap.size + 1) (o := 1) hbig (.int .i64 n1)
        have LB3 := (Lies3.mk l3 c0' c1' c2' f0' f1' f2').set1 (.int .i64 n1)
        have bw3 := bw2.setCell (p := ⟨w1.heap.size + 1, 1, none⟩) (by show w.heap.size ≤ w1.heap.size + 1; omega) (.int .i64 n1)
        clear c0 c1 c2 f0 f1 f2 c0' c1' c2' f0' f1' f2'
        go_roundw
        case rel => exact ⟨2, _, n1, x2, rfl, by omega, by omega, LA3, LB3, bw3, by simp, by simp, by omega⟩
        case measure => simp [intOf]
    · obtain ⟨rfl, rfl⟩ := e0 (by omega)
      obtain ⟨rfl, rfl⟩ := e1 (by omega)
      clear e0 e1 e2
      cases d2
      · have hG := hid (hN.out (by simp))
        clear hN hY
        go_wp2_with (go_at_call 121; refine (cn2 _).mono ?_; rintro e w2 ⟨rfl, b2⟩; have LA2 := LA.on b2; have LB2 := LB.on b2; have bw2 := hbw.trans (b2.mono hbw.size); obtain ⟨l2, c0, c1, c2, f0, f1, f2⟩ := LA2; obtain ⟨l3, c0', c1', c2', f0', f1', f2'⟩ := LB2; clear LA LB hbw b2)
        exact bodyPost_ret (v := .tuple #[.agg #[.int .i64 0, .int .i64 0, .int .i64 0], .bool false]) (by simp [results, Tryz.results91, go_sem, *]) rfl
          ⟨hG.out, (((bw2.setCell (by simp; omega) _).setCell (Nat.le_refl _) _).setCell (Nat.le_refl _) _).setCell (Nat.le_refl _) _⟩
      · go_wp2_with (go_at_call 121; refine (cn2 _).mono ?_; rintro e w2 ⟨rfl, b2⟩; have LA2 := LA.on b2; have LB2 := LB.on b2; have bw2 := hbw.trans (b2.mono hbw.size); obtain ⟨l2, c0, c1, c2, f0, f1, f2⟩ := LA2; obtain ⟨l3, c0', c1', c2', f0', f1', f2'⟩ := LB2; clear LA LB hbw b2)
        have LA3 := (Lies3.mk l2 c0 c1 c2 f0 f1 f2).other (j := w1.heap.size + 1) (o := 2) hbig (.int .i64 n2)
        have LB3 := (Lies3.mk l3 c0' c1' c2' f0' f1' f2').set2 (.int .i64 n2)
        have bw3 := bw2.setCell (p := ⟨w1.heap.size + 1, 2, none⟩) (by show w.heap.size ≤ w1.heap.size + 1; omega) (.int .i64 n2)
        clear c0 c1 c2 f0 f1 f2 c0' c1' c2' f0' f1' f2'
        go_roundw
        case rel => exact ⟨3, _, _, n2, rfl, by omega, by omega, LA3, LB3, bw3, by simp, by simp, by simp⟩
        case measure => simp [intOf]
    · obtain ⟨rfl, rfl⟩ := e0 (by omega)
      obtain ⟨rfl, rfl⟩ := e1 (by omega)
      obtain ⟨rfl, rfl⟩ := e2 (by omega)
      have cG : ∀ W, Calls Tryz.prog 46 #[.agg #[.int .i64 x0, .int .i64 x1, .int .i64 x2]] W fun e w' => e = .returned (.bool (good x0 x1 x2)) ∧ Below W.heap.size W w' := fun W => good_any x0 x1 x2 W
      obtain ⟨l3, c0', c1', c2', f0', f1', f2'⟩ := LB
      have LA1 := fun o => LA.alloc o
      cases hg : good x0 x1 x2
      · rw [hg] at cG hN
        have hG := hid (hN.out (by simp))
        clear hN hY e0 e1 e2 hg
        go_wp2_with (go_at_call 46; refine (cG _).mono ?_; rintro e w2 ⟨rfl, b2⟩; have LA2 := (LA1 _).on b2; have bw2 := hbw.trans ((box3 b2).2.2.2.2.mono hbw.size); obtain ⟨l2, c0, c1, c2, f0, f1, f2⟩ := LA2; clear LA LA1 hbw b2)
        exact bodyPost_ret (v := .tuple #[.agg #[.int .i64 0, .int .i64 0, .int .i64 0], .bool false]) (by simp [results, Tryz.results91, go_sem, *]) rfl
          ⟨hG.out, ((bw2.setCell (Nat.le_refl _) _).setCell (Nat.le_refl _) _).setCell (Nat.le_refl _) _⟩
      · rw [hg] at cG hY
        have hG := hid (hY.out (by simp))
        clear hN hY e0 e1 e2 hg
        go_wp2_with (go_at_call 46; refine (cG _).mono ?_; rintro e w2 ⟨rfl, b2⟩; have LA2 := (LA1 _).on b2; have LC := Lies3.later b2 rfl; have bw2 := hbw.trans ((box3 b2).2.2.2.2.mono hbw.size); obtain ⟨l2, c0, c1, c2, f0, f1, f2⟩ := LA2; obtain ⟨l4, k0, k1, k2, q0, q1, q2⟩ := LC; clear LA LA1 hbw b2)
        exact bodyPost_ret (v := .tuple #[.agg #[.int .i64 x0, .int .i64 x1, .int .i64 x2], .bool true]) (by simp [results, Tryz.results91, go_sem, *]) rfl
          ⟨hG.out, ((bw2.setCell (Nat.le_refl _) _).setCell (Nat.le_refl _) _).setCell (Nat.le_refl _) _⟩
end Go.Proofs.YteelbdcgdkpioaaGreatDoor.Dt
