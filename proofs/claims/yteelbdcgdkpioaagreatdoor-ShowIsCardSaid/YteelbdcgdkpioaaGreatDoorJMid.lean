/- Package show, walked: charges; what the packages below answer. -/
import Derived.Test.YteelbdcgdkpioaaGreatDoorJSh7
import Derived.Test.YteelbdcgdkpioaaGreatDoorJDecim
import Derived.Test.YteelbdcgdkpioaaGreatDoorJDecim4
import Derived.Test.YteelbdcgdkpioaaGreatDoorJShT
import Derived.Deep.MidRow
import Derived.Deep.WholeRow
import Derived.Deep.Onto
import Derived.Deep.Quiet
import Derived.Laws.OwnMore
namespace Go.Proofs.YteelbdcgdkpioaaGreatDoor.Sw
open Go.RowKit Go.Sort P Mm

/-- What show asks of the world's variables. -/
def Kz (w : World) : Prop := Dc.K w ∧ ∀ j l, modes[j]? = some l → w.cell? ⟨0, j, none⟩ = some (.string ⟨l.toArray⟩)
theorem Kz.later {w w' : World} (h : Kz w) (b : Below w.heap.size w w') : Kz w' :=
  ⟨h.1.later b, fun j l hj => (b.cell (World.block_lt_of_cell? w _ (h.2 j l hj))).trans (h.2 j l hj)⟩
theorem tx : Tx Kz where
  keep := fun h b => h.later b
  itoa := fun n w k h0 h1 => Dc.itoa_any n w h0 h1 k.1.2
  dec := fun n p w k h0 h1 h2 h3 => Dc.text_yes n p w k.1 h0 h1 h2 h3
  day := fun d w k => by
    unfold dayT
    cases hg : good d.y d.m d.d with
    | false => exact Dt.text_no d.y d.m d.d w hg
    | true => exact Dt.text_yes d.y d.m d.d w hg k.1.2
  word := fun k j l h => k.2 j l h
section
variable {K : World → Prop} (T : Tx K)
include T
set_option maxHeartbeats 8000000 in
set_option maxRecDepth 100000 in
theorem charge_any {w0 w : World} {k : Nat} {l : List UInt8} (c : Charge) (ta : Option Addr) (tc : Nat) (aa : Option Addr) (ac : Nat) (hc : ChargeLies w0 (chargeC c ta tc aa ac) c ta tc aa ac) (sc : ShT c) (h : Ow w0 w k l 0) (hK : K w0) (hl : l.length + 200000000 ≤ 140737488355328) :
    Calls Tryz.prog 29 #[.pointer (some ⟨k, 0, none⟩), .agg (chargeC c ta tc aa ac).toArray] w fun e w' => e = .returned (.tuple #[]) ∧ Ow w0 w' k (l ++ chargeT c) 0 ∧ Kp w0.heap.size k w w' := by
  obtain ⟨Y, hY⟩ : ∃ S : ByteArray, S = ⟨(winT c.win).toArray⟩ := ⟨_, rfl⟩
  have zY : Y.size ≤ 30 := by rw [hY, ba_size]; exact winT_len _
  have zN := sc.name
  have hd : ((⟨#[99, 104, 97, 114, 103, 101, 32]⟩ : ByteArray) ++ c.meter ++ Y).data.toList = wCharge ++ [32] ++ c.meter.data.toList ++ winT c.win := by rw [hY]; simp [wCharge]
  have zd : ((⟨#[99, 104, 97, 114, 103, 101, 32]⟩ : ByteArray) ++ c.meter ++ Y).size = 7 + c.meter.size + Y.size := by rw [ByteArray.size_append, ByteArray.size_append]; rfl
  have NW : Hid (∀ W, Below w0.heap.size w0 W → Calls Tryz.prog 28 #[.agg #[.bool c.win.has, .int .i64 c.win.a.y, .int .i64 c.win.a.m, .int .i64 c.win.a.d, .int .i64 c.win.b.y, .int .i64 c.win.b.m, .int .i64 c.win.b.d]] W fun e w' => e = .returned (.string Y) ∧ Below W.heap.size W w') := hid fun W b => by rw [hY]; exact window_any T c.win W (T.keep hK b)
  obtain ⟨w1, hw1⟩ : ∃ W, W = w.alloc (.cells #[.pointer (some ⟨k, 0, none⟩)] 101) := ⟨_, rfl⟩
  have b1 : Below w.heap.size w w1 := by rw [hw1]; exact bel_alloc _ _
  have e1 : w1.heap.size = w.heap.size + 1 := by rw [hw1]; simp
  have hb1 : w1.heap[w.heap.size]? = some (.cells #[.pointer (some ⟨k, 0, none⟩)] 101 (0, 0)) := by rw [hw1]; exact aC_heap _ _ _
  obtain ⟨w2, hw2⟩ : ∃ W, W = w1.alloc (.cells (chargeC c ta tc aa ac).toArray 52) := ⟨_, rfl⟩
  have b2 : Below w1.heap.size w1 w2 := by rw [hw2]; exact bel_alloc _ _
  have hb2 : w2.heap[w.heap.size + 1]? = some (.cells (chargeC c ta tc aa ac).toArray 52 (0, 0)) := by rw [hw2, ← e1]; exact aC_heap _ _ _
  have hk := h.wr.lt
  have bs : Bs w2 k w.heap.size (w.heap.size + 1) (chargeC c ta tc aa ac) := ⟨(b2.block _ (by omega)).trans hb1, hb2, by omega, by omega⟩
  have O2 := hid (h.on (bel_on b1 b2))
  have K2 := hid (Kp.of (B := w0.heap.size) (k := k) (bel_on b1 b2) h.wr.size)
  have eW : w2 = (w.alloc (.cells #[.pointer (some ⟨k, 0, none⟩)] 101)).alloc (.cells (chargeC c ta tc aa ac).toArray 52) := by rw [hw2, hw1]
  have NB : Hid (∀ W L, Ow w0 W k L 0 → Bs W k w.heap.size (w.heap.size + 1) (chargeC c ta tc aa ac) → L.length + 200000000 ≤ 140737488355328 → Calls Tryz.prog 49 #[.pointer (some ⟨k, 0, none⟩), .string ((⟨#[99, 104, 97, 114, 103, 101, 32]⟩ : ByteArray) ++ c.meter ++ Y), .func (.func 50) #[] #[.pointer (some ⟨w.heap.size + 1, 0, none⟩), .pointer (some ⟨w.heap.size, 0, none⟩)]] W fun e w' => e = .returned (.tuple #[]) ∧ Ow w0 w' k (L ++ chargeT c) 0 ∧ Kp w0.heap.size k W w') := hid fun W L o b hl => by
    have := brace_charge (X := withinT c) ((⟨#[99, 104, 97, 114, 103, 101, 32]⟩ : ByteArray) ++ c.meter ++ Y) w.heap.size (w.heap.size + 1) (chargeC c ta tc aa ac) o b (by rw [zd]; omega) (withinT_len sc) (by omega) (fun W' L' o' b' hl' => within_charge T c ta tc aa ac w.heap.size (w.heap.size + 1) hc sc o' b' hK hl')
    rw [hd] at this
    rw [chargeT_eq]
    rw [show wCharge ++ [32] ++ c.meter.data.toList ++ winT c.win ++ [32, 123] = (wCharge ++ [32] ++ c.meter.data.toList ++ winT c.win) ++ [32, 123] from rfl]
    exact this
  have KS : Hid (∀ w', Kp w0.heap.size k w2 w' → w'.cell? ⟨w.heap.size, 0, none⟩ = some (.pointer (some ⟨k, 0, none⟩)) ∧ w'.cell? ⟨w.heap.size + 1, 0, none⟩ = some (.string c.meter) ∧ w'.cell? ⟨w.heap.size + 1, 1, none⟩ = some (.bool c.win.has) ∧ w'.cell? ⟨w.heap.size + 1, 2, none⟩ = some (.int .i64 c.win.a.y) ∧ w'.cell? ⟨w.heap.size + 1, 3, none⟩ = some (.int .i64 c.win.a.m) ∧ w'.cell? ⟨w.heap.size + 1, 4, none⟩ = some (.int .i64 c.win.a.d) ∧ w'.cell? ⟨w.heap.size + 1, 5, none⟩ = some (.int .i64 c.win.b.y) ∧ w'.cell? ⟨w.heap.size + 1, 6, none⟩ = some (.int .i64 c.win.b.m) ∧ w'.cell? ⟨w.heap.size + 1, 7, none⟩ = some (.int .i64 c.win.b.d) ∧ Kp w0.heap.size k w2 w') := hid fun w' g =>
    ⟨(bs.kp g).w, (bs.kp g).c 0 rfl, (bs.kp g).c 1 rfl, (bs.kp g).c 2 rfl, (bs.kp g).c 3 rfl, (bs.kp g).c 4 rfl, (bs.kp g).c 5 rfl, (bs.kp g).c 6 rfl, (bs.kp g).c 7 rfl, g⟩
  have BS : Hid (∀ w', Kp w0.heap.size k w2 w' → Bs w' k w.heap.size (w.heap.size + 1) (chargeC c ta tc aa ac)) := hid fun w' g => bs.kp g
  have HW := hid eW
  clear hY hd zd hw1 b1 e1 hb1 hw2 b2 hb2 bs h eW hc sc hK T
  unfold chargeC at HW ⊢
  have s1 : ¬ (9223372036854775807 < 7 + c.meter.size) := by omega
  have s2 : ¬ (9223372036854775807 < 7 + c.meter.size + Y.size) := by omega
  go_enter Tryz.func29, Tryz.ntmps29
  go_upto_region 1 with fail
  rw [← HW.out]
  clear HW
  have OO := hid (O2.out.on (Below.drew (Below.refl _ _)))
  have KK : Hid (Kp w0.heap.size k w2 w2.drew) := hid (Kp.of (Below.drew (Below.refl _ _)) O2.out.wr.size)
  clear O2
  go_region_held_law (fun w' => w'.cell? ⟨w.heap.size, 0, none⟩ = some (.pointer (some ⟨k, 0, none⟩)) ∧ w'.cell? ⟨w.heap.size + 1, 0, none⟩ = some (.string c.meter) ∧ w'.cell? ⟨w.heap.size + 1, 1, none⟩ = some (.bool c.win.has) ∧ w'.cell? ⟨w.heap.size + 1, 2, none⟩ = some (.int .i64 c.win.a.y) ∧ w'.cell? ⟨w.heap.size + 1, 3, none⟩ = some (.int .i64 c.win.a.m) ∧ w'.cell? ⟨w.heap.size + 1, 4, none⟩ = some (.int .i64 c.win.a.d) ∧ w'.cell? ⟨w.heap.size + 1, 5, none⟩ = some (.int .i64 c.win.b.y) ∧ w'.cell? ⟨w.heap.size + 1, 6, none⟩ = some (.int .i64 c.win.b.m) ∧ w'.cell? ⟨w.heap.size + 1, 7, none⟩ = some (.int .i64 c.win.b.d) ∧ Kp w0.heap.size k w2 w')
    ((first | (refine KS.out _ ?_; exact KK.out)))
    (first
      | (go_at_call 28
         refine (NW.out _ OO.out.bel).mono ?_
         rintro e w' ⟨rfl, b⟩
         replace KK := hid (KK.out.trans (Kp.of b OO.out.wr.size))
         replace OO := hid (OO.out.on b)
         clear b)
      | (go_at_call 49
         refine (NB.out _ _ OO.out (BS.out _ KK.out) hl).mono ?_
         rintro e w' ⟨rfl, q, kp⟩
         replace OO := hid q
         replace KK := hid (KK.out.trans kp)
         clear q kp))
  all_goals
    go_wp2
    go_end0
    exact ⟨rfl, OO.out, K2.out.trans KK.out⟩
end
end Go.Proofs.YteelbdcgdkpioaaGreatDoor.Sw
/- Many cells at once: structs loaded and stored whole, rows that are written in the middle, a struct result in a cell. No function of the program is named here. -/
namespace Go.Proofs.YteelbdcgdkpioaaGreatDoor.Md
open Go.RowKit Mm

theorem cell1 {w : World} {a : List Value} {t : TypeId} {j : Nat} {v : Value} (h : a[j]? = some v) : (w.alloc (.cells a.toArray t)).cell? ⟨w.heap.size, j, none⟩ = some v := by
  rw [World.cell?_alloc_new]
  simpa using h
/-- A struct goes into the block that was made last. -/
theorem wpList_store_new {P : Program} {ops : Array Oper} {rest : List Oper} {op : Oper} {a : Act} {Q : Exit → Act → World → Prop} (hgd : op.guard = none) (ty : TypeId) (x y : Operand) (ho : op.op = .store ty x y)
    (W : World) (z cs : Array Value) (hx : a.eval x = .pointer (some ⟨W.heap.size, 0, none⟩)) (hy : a.eval y = .agg cs) (hi : (P.info? ty).map (·.size) = some cs.size) (hz : z.size = cs.size) (h1 : cs.all (·.oneCell') = true)
    (h : wpList P ops Q rest (a.put op.dst undef) (W.alloc (.cells cs ty))) : wpList P ops Q (op :: rest) a (W.alloc (.cells z ty)) :=
  wpList_plain hgd fun K hK => by
    have := hK _ _ h
    unfold Oper.wp execOp
    simp only [ho, hx, hy, Sem.run_bind, run_storeAt_new W ty z cs hi hz h1, Result.andThen_ok]
    exact this
theorem range_new (W : World) (cs : List Value) (t : TypeId) : (W.alloc (.cells cs.toArray t)).rangeAt W.heap.size 0 cs := fun j v h => by
  rw [Nat.zero_add]
  exact cell1 h
def setAt {α : Type} (xs : List α) : Nat → List α → List α
  | _, [] => xs
  | o, v :: r => setAt (xs.set o v) (o + 1) r
theorem setAt_mid {α : Type} : ∀ (vs A B C : List α), B.length = vs.length → setAt (A ++ B ++ C) A.length vs = A ++ vs ++ C
  | [], A, B, C, h => by
    obtain rfl : B = [] := List.eq_nil_of_length_eq_zero h
    rfl
  | v :: r, A, [], C, h => by cases h
  | v :: r, A, b :: B, C, h => by
    have ih := setAt_mid r (A ++ [v]) B C (by simpa using h)
    rw [setAt]
    have e : (A ++ b :: B ++ C).set A.length v = A ++ [v] ++ B ++ C := by
      rw [List.append_assoc, List.set_append_right _ _ (Nat.le_refl _), Nat.sub_self, List.cons_append, List.set_cons_zero]
      simp
    rw [e]
    have e2 : (A ++ [v]).length = A.length + 1 := by simp
    rw [e2] at ih
    rw [ih]
    simp
theorem owns_setCells {e : TypeId} {base size n cap g : Nat} : ∀ (vs : List Value) (o : Nat) (w : World) (xs : List Value), w.ownsRow base e size (.slice (some ⟨g, 0, none⟩) n cap) n xs →
    (w.setCells g o vs).ownsRow base e size (.slice (some ⟨g, 0, none⟩) n cap) n (setAt xs o vs) ∧ w.grownBy (w.setCells g o vs) (some g)
  | [], _, w, _, h => ⟨h, rfl, rfl, rfl, Nat.le_refl _, fun _ _ _ => rfl⟩
  | v :: r, o, w, xs, h => by
    obtain ⟨h1, h2⟩ := h.stored o v
    obtain ⟨h3, h4⟩ := owns_setCells r (o + 1) (w.setCell ⟨g, o, none⟩ v) (xs.set o v) h1
    exact ⟨h3, ⟨h4.os.trans h2.os, h4.tape.trans h2.tape, h4.output.trans h2.output, Nat.le_trans h2.size h4.size, fun k hk hne => (h4.block k (Nat.lt_of_lt_of_le hk h2.size) hne).trans (h2.block k hk hne)⟩⟩
theorem there_own {w : World} {e : TypeId} {base size n cap g o k : Nat} {xs : List Value} (h : w.ownsRow base e size (.slice (some ⟨g, 0, none⟩) n cap) n xs) (ho : o + k ≤ n * size) : w.there g o k := fun j hj => by
  refine ⟨?_, h.frozenAt _⟩
  rw [h.cellAt _ (by omega), List.getElem?_eq_getElem (by rw [h.1]; omega)]
  rfl
theorem below_setCells {B : Nat} {a : World} {b : Nat} (hb : B ≤ b) : ∀ (vs : List Value) (o : Nat) (w : World), Below B a w → Below B a (w.setCells b o vs)
  | [], _, _, h => h
  | v :: r, o, _, h => below_setCells hb r (o + 1) _ (h.setCell hb v)
theorem owns_setCells_below {base : Nat} {e : TypeId} {size : Nat} {v : Value} {n : Nat} {xs : List Value} {b : Nat} (hb : b < base) : ∀ (vs : List Value) (o : Nat) (w : World), w.ownsRow base e size v n xs → (w.setCells b o vs).ownsRow base e size v n xs
  | [], _, _, h => h
  | u :: r, o, _, h => owns_setCells_below hb r (o + 1) _ (ownsRow_setCell_below h hb u)
/-- A struct result in a cell. -/
theorem results_mid {P : Program} {fn : Func} {p : Tmp} {ty : TypeId} (h : fn.results = #[.cell p ty]) (tmps : Array Value) (w : World) (b : Nat) (cs : List Value) (d : TypeDesc)
    (hp : tmps.getD p undef = .pointer (some ⟨b, 0, none⟩)) (hc : w.rangeAt b 0 cs) (hu : P.underlying ty = some d) (hd : d.isRow = true) (hi : (P.info? ty).map (·.size) = some cs.length) :
    (results fn tmps).run P w = .ok (.agg cs.toArray) w := by
  have hp' : tmps[p]?.getD undef = .pointer (some ⟨b, 0, none⟩) := by simpa using hp
  simp [results, h, hp', asAddr, run_loadVar_mid w b 0 ty cs d hc hu hd hi]
theorem range_of {w : World} {b : Nat} {cs : List Value} (h : ∀ j v, cs[j]? = some v → w.cell? ⟨b, j, none⟩ = some v) : w.rangeAt b 0 cs := fun j v hv => by rw [Nat.zero_add]; exact h j v hv
theorem there_of {w : World} {b : Nat} {cs : List Value} (h : ∀ j v, cs[j]? = some v → w.cell? ⟨b, j, none⟩ = some v) (f : ∀ j, w.frozen? ⟨b, j, none⟩ = false) {n : Nat} (hn : n = cs.length) : w.there b 0 n := fun j hj => by
  subst hn
  rw [Nat.zero_add]
  exact ⟨by rw [h j _ (List.getElem?_eq_getElem hj)]; rfl, f j⟩
theorem setCell_self {w : World} {b o : Nat} {v : Value} (h : w.cell? ⟨b, o, none⟩ = some v) : w.setCell ⟨b, o, none⟩ v = w := by
  have e : (w.setCell ⟨b, o, none⟩ v).heap = w.heap := by
    apply Array.ext_getElem?
    intro i
    by_cases hi : i = b
    · subst hi
      unfold World.cell? at h
      unfold World.setCell
      simp only [Array.getElem?_modify, if_true]
      cases hb : w.heap[i]? with
      | none => rfl
      | some x =>
        rw [hb] at h
        cases x with
        | cells cs t fr =>
          simp at h
          obtain ⟨hl, rfl⟩ := Array.getElem?_eq_some_iff.1 h
          simp only [Option.map_some, Option.some.injEq, Obj.cells.injEq, and_true, Option.isSome_none, Bool.false_eq_true, if_false]
          apply Array.ext_getElem?
          intro j
          rw [Array.getElem?_setIfInBounds]
          by_cases hj : o = j
          · subst hj
            rw [if_pos rfl, if_pos hl, h]
          · rw [if_neg hj]
        | _ => simp at h
    · exact Below.heap_setCell w ⟨b, o, none⟩ v i hi
  unfold World.setCell at e ⊢
  cases w
  simp_all
theorem setCells_self {b : Nat} : ∀ (vs : List Value) (o : Nat) {w : World}, w.rangeAt b o vs → w.setCells b o vs = w
  | [], _, _, _ => rfl
  | v :: r, o, w, h => by
    have h0 := h 0 v rfl
    rw [Nat.add_zero] at h0
    rw [World.setCells, setCell_self h0]
    exact setCells_self r (o + 1) (fun j u hj => by
      have := h (j + 1) u (by simpa using hj)
      rwa [show o + (j + 1) = o + 1 + j by omega] at this)
/-- What lies there already is stored once more: nothing is otherwise. -/
theorem quiet_store {P : Program} {o : Oper} {a : Act} {C : World → Prop} {K : Act → Prop} (ty : TypeId) (x y : Operand) (ho : o.op = .store ty x y) (b i : Nat) (cells : Array Value) (hx : a.eval x = .pointer (some ⟨b, i, none⟩)) (hy : a.eval y = .agg cells)
    (hC : ∀ w, C w → w.rangeAt b i cells.toList ∧ w.there b i cells.size) (hi : (P.info? ty).map (·.size) = some cells.size) (h1 : cells.all (·.oneCell') = true) (h : K (a.put o.dst undef)) : o.quiet P a C K :=
  ⟨undef, fun w hw => by
    obtain ⟨k1, k2⟩ := hC w hw
    unfold Oper.quietAt execOp
    simp only [ho, hx, hy, Sem.run_bind, run_storeAt_mid w b i ty cells k2 hi h1, Result.andThen_ok]
    exact ⟨setCells_self _ _ k1, rfl⟩, h⟩
end Go.Proofs.YteelbdcgdkpioaaGreatDoor.Md
