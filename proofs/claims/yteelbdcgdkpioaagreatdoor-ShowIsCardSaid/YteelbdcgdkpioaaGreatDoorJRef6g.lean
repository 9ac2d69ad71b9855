/- What the document's answers for layer 6 (poundageref06) come to: Same. -/
import Derived.Test.YteelbdcgdkpioaaGreatDoorJRef6f
namespace Go.Proofs.YteelbdcgdkpioaaGreatDoor.R6
open Go.RowKit Go.Sort P Mm Tl

/-- What is played: rows that aren't great. -/
structure Small (p : Plan) : Prop where
  meters : p.meters.length ≤ 20000
  fees : p.fees.length ≤ 20000
  charges : p.charges.length ≤ 20000
  parts : ∀ c ∈ p.charges, c.tiers.length ≤ 20000 ∧ c.adjusts.length ≤ 20000
theorem small_of {p : Plan} (h : great p = false) : Small p := by
  unfold great headGreat at h
  simp only [Bool.or_eq_false_iff, decide_eq_false_iff_not, Nat.not_lt] at h
  obtain ⟨⟨⟨⟨⟨⟨h1, h2⟩, h3⟩, _⟩, _⟩, _⟩, h4⟩ := h
  refine ⟨by omega, by omega, by omega, fun c hc => ?_⟩
  rw [List.any_eq_false] at h4
  have := h4 c hc
  unfold chargeGreat at this
  simp only [Bool.or_eq_true, decide_eq_true_eq, not_or, Nat.not_lt] at this
  exact ⟨by have := this.1.1; omega, by have := this.1.2; omega⟩
/-- Texts that a plan's row holds are as long as a text can be. -/
theorem row_len {p : Plan} (h : Small p) : (row p).length ≤ 10000000000 := by
  have hm : (p.meters.flatMap rM).length = p.meters.length * 3 := flat_len (f := rM) (n := 3) (fun _ => rfl) _
  have hf : (p.fees.flatMap rF).length = p.fees.length * 8 := flat_len (f := rF) (n := 8) (fun _ => rfl) _
  have hc : ∀ l : List Charge, (∀ c ∈ l, c.tiers.length ≤ 20000 ∧ c.adjusts.length ≤ 20000) → (l.flatMap rC).length ≤ l.length * 100014 := by
    intro l
    induction l with
    | nil => intro _; simp
    | cons c r ih =>
      intro hl
      have h1 := hl c (.head _)
      have h2 := ih fun x hx => hl x (.tail _ hx)
      have ht : (c.tiers.flatMap rT).length = c.tiers.length * 2 := flat_len (f := rT) (n := 2) (fun _ => rfl) _
      have ha : (c.adjusts.flatMap rA).length = c.adjusts.length * 3 := flat_len (f := rA) (n := 3) (fun _ => rfl) _
      have h3 : (rC c).length = 14 + c.tiers.length * 2 + c.adjusts.length * 3 := by
        unfold rC rCh
        simp only [List.length_append, ht, ha]
        rfl
      rw [List.flatMap_cons, List.length_append, h3, List.length_cons, Nat.succ_mul]
      omega
  have hc2 := hc p.charges h.parts
  have h1 := h.meters
  have h2 := h.fees
  have h3 := h.charges
  unfold row rHead
  simp only [List.length_append, hm, hf]
  show 2 + 7 + 3 + _ + _ + _ ≤ _
  omega
theorem strs_row {l : List ByteArray} {w : World} {base : Nat} {v : Value} (h : w.ownsRow base 9 1 v l.length (strs l)) : ∃ ao cap, v = .slice ao l.length cap ∧ Row tS w ao l.length cap l :=
  row_own (cells := fun s => [.string s]) (ok := fun _ => True) (hn := fun _ => rfl) h (fun _ _ => trivial)
/-- Row's answer as a slice that holds texts. -/
theorem row_slice (p : Plan) (ma : Option Addr) (mc : Nat) (fa : Option Addr) (fc : Nat) (ca : Option Addr) (cc : Nat) (w : World) (hp : PlanLies w (planC p ma mc fa fc ca cc) p ma mc fa fc ca cc) (hs : Small p) :
    Calls Tryz.prog 37 #[.agg (planC p ma mc fa fc ca cc).toArray] w fun e w' => ∃ ao cap, e = .returned (.slice ao (row p).length cap) ∧ Row tS w' ao (row p).length cap (row p) ∧ Below w.heap.size w w' :=
  (row_any p ma mc fa fc ca cc w hp hs.meters hs.fees hs.charges hs.parts).mono fun _ _ ⟨v, h1, h2, h3⟩ => by
    obtain ⟨ao, cap, e, h4⟩ := strs_row h2
    subst e
    exact ⟨ao, cap, h1, h4, h3⟩
theorem box13 {w : World} {cs : List Value} {t : TypeId} {j : Nat} {u : Value} (h : cs[j]? = some u) : (w.alloc (.cells cs.toArray t)).cell? ⟨w.heap.size, j, none⟩ = some u := by
  rw [World.cell?_alloc_new]
  simpa using h
set_option maxHeartbeats 4000000 in
set_option maxRecDepth 100000 in
theorem same_any (p q : Plan) (ma : Option Addr) (mc : Nat) (fa : Option Addr) (fc : Nat) (ca : Option Addr) (cc : Nat) (ma' : Option Addr) (mc' : Nat) (fa' : Option Addr) (fc' : Nat) (ca' : Option Addr) (cc' : Nat) (w : World)
    (hp : PlanLies w (planC p ma mc fa fc ca cc) p ma mc fa fc ca cc) (hq : PlanLies w (planC q ma' mc' fa' fc' ca' cc') q ma' mc' fa' fc' ca' cc') (sp : Small p) (sq : Small q) :
    Calls Tryz.prog 15 #[.agg (planC p ma mc fa fc ca cc).toArray, .agg (planC q ma' mc' fa' fc' ca' cc').toArray] w fun e w' => e = .returned (.bool (decide (row p = row q))) ∧ Below w.heap.size w w' := by
  have rP := fun W (hb : Below w.heap.size w W) => row_slice p ma mc fa fc ca cc W (hp.on hb) sp
  have rQ := fun W (hb : Below w.heap.size w W) => row_slice q ma' mc' fa' fc' ca' cc' W (hq.on hb) sq
  have hl := row_len sp
  obtain ⟨R, hR⟩ : ∃ R : Bool, R = decide (row p = row q) := ⟨_, rfl⟩
  have cT := fun aa ca ab cb W hx hy => texts_any aa (row p).length ca ab (row q).length cb (row p) (row q) W hx hy hl
  rw [← hR] at cT ⊢
  obtain ⟨xs, hxs⟩ : ∃ xs, xs = row p := ⟨_, rfl⟩
  obtain ⟨ys, hys⟩ : ∃ ys, ys = row q := ⟨_, rfl⟩
  rw [← hxs, ← hys] at cT
  simp only [← hxs] at rP
  simp only [← hys] at rQ
  clear hxs hys hl hR hp hq sp sq
  obtain ⟨w1, hw1⟩ : ∃ w1, w1 = w.alloc (.cells (planC p ma mc fa fc ca cc).toArray 29) := ⟨_, rfl⟩
  obtain ⟨w2, hw2⟩ : ∃ w2, w2 = w1.alloc (.cells (planC q ma' mc' fa' fc' ca' cc').toArray 29) := ⟨_, rfl⟩
  have b1 : Below w.heap.size w w1 := by rw [hw1]; exact bel_alloc _ _
  have b12 : Below w1.heap.size w1 w2 := by rw [hw2]; exact bel_alloc _ _
  have s1 := hid (show w1.heap.size = w.heap.size + 1 by rw [hw1]; simp)
  have cp : ∀ (j : Nat) (u : Value), (planC p ma mc fa fc ca cc)[j]? = some u → ∀ W, Below w2.heap.size w2 W → W.cell? ⟨w.heap.size, j, none⟩ = some u := fun j u h W hb => by
    rw [hb.cell (by show w.heap.size < w2.heap.size; have := b12.size; rw [s1.out] at this; omega), b12.cell (by show w.heap.size < w1.heap.size; rw [s1.out]; omega), hw1]
    exact box13 h
  have cq : ∀ (j : Nat) (u : Value), (planC q ma' mc' fa' fc' ca' cc')[j]? = some u → ∀ W, Below w2.heap.size w2 W → W.cell? ⟨w.heap.size + 1, j, none⟩ = some u := fun j u h W hb => by
    rw [hb.cell (by show w.heap.size + 1 < w2.heap.size; rw [hw2]; simp [s1.out]), ← s1.out, hw2]
    exact box13 h
  have B2 := hid (bel_on b1 b12)
  have HW1 := hid hw1
  have HW2 := hid hw2
  have CP := hid cp
  have CQ := hid cq
  have lt1 := hid (show w.heap.size + 1 < w2.heap.size by rw [hw2]; simp [s1.out])
  clear hw1 hw2 b1 b12 cp cq
  unfold planC at HW1 HW2 rP rQ ⊢
  go_enter Tryz.func15, Tryz.ntmps15
  go_wp2_with fail
  rw [← HW1.out, ← HW2.out]
  have K : Hid (∀ w', Below w2.heap.size w2 w' → w'.cell? ⟨w.heap.size, 0, none⟩ = some (.string p.name) ∧ w'.cell? ⟨w.heap.size, 1, none⟩ = some (.string p.cur) ∧ w'.cell? ⟨w.heap.size, 2, none⟩ = some (.int .i64 p.a.y) ∧ w'.cell? ⟨w.heap.size, 3, none⟩ = some (.int .i64 p.a.m) ∧ w'.cell? ⟨w.heap.size, 4, none⟩ = some (.int .i64 p.a.d) ∧ w'.cell? ⟨w.heap.size, 5, none⟩ = some (.int .i64 p.b.y) ∧ w'.cell? ⟨w.heap.size, 6, none⟩ = some (.int .i64 p.b.m) ∧ w'.cell? ⟨w.heap.size, 7, none⟩ = some (.int .i64 p.b.d) ∧ w'.cell? ⟨w.heap.size, 8, none⟩ = some (.slice ma p.meters.length mc) ∧ w'.cell? ⟨w.heap.size, 9, none⟩ = some (.slice fa p.fees.length fc) ∧ w'.cell? ⟨w.heap.size, 10, none⟩ = some (.slice ca p.charges.length cc) ∧ w'.cell? ⟨w.heap.size, 11, none⟩ = some (.int .i64 p.line) ∧ w'.cell? ⟨w.heap.size, 12, none⟩ = some (.int .i64 p.col) ∧ w'.cell? ⟨w.heap.size + 1, 0, none⟩ = some (.string q.name) ∧ w'.cell? ⟨w.heap.size + 1, 1, none⟩ = some (.string q.cur) ∧ w'.cell? ⟨w.heap.size + 1, 2, none⟩ = some (.int .i64 q.a.y) ∧ w'.cell? ⟨w.heap.size + 1, 3, none⟩ = some (.int .i64 q.a.m) ∧ w'.cell? ⟨w.heap.size + 1, 4, none⟩ = some (.int .i64 q.a.d) ∧ w'.cell? ⟨w.heap.size + 1, 5, none⟩ = some (.int .i64 q.b.y) ∧ w'.cell? ⟨w.heap.size + 1, 6, none⟩ = some (.int .i64 q.b.m) ∧ w'.cell? ⟨w.heap.size + 1, 7, none⟩ = some (.int .i64 q.b.d) ∧ w'.cell? ⟨w.heap.size + 1, 8, none⟩ = some (.slice ma' q.meters.length mc') ∧ w'.cell? ⟨w.heap.size + 1, 9, none⟩ = some (.slice fa' q.fees.length fc') ∧ w'.cell? ⟨w.heap.size + 1, 10, none⟩ = some (.slice ca' q.charges.length cc') ∧ w'.cell? ⟨w.heap.size + 1, 11, none⟩ = some (.int .i64 q.line) ∧ w'.cell? ⟨w.heap.size + 1, 12, none⟩ = some (.int .i64 q.col) ∧ Below w2.heap.size w2 w') := hid fun w' h => ⟨CP.out 0 _ rfl w' h, CP.out 1 _ rfl w' h, CP.out 2 _ rfl w' h, CP.out 3 _ rfl w' h, CP.out 4 _ rfl w' h, CP.out 5 _ rfl w' h, CP.out 6 _ rfl w' h, CP.out 7 _ rfl w' h, CP.out 8 _ rfl w' h, CP.out 9 _ rfl w' h, CP.out 10 _ rfl w' h, CP.out 11 _ rfl w' h, CP.out 12 _ rfl w' h, CQ.out 0 _ rfl w' h, CQ.out 1 _ rfl w' h, CQ.out 2 _ rfl w' h, CQ.out 3 _ rfl w' h, CQ.out 4 _ rfl w' h, CQ.out 5 _ rfl w' h, CQ.out 6 _ rfl w' h, CQ.out 7 _ rfl w' h, CQ.out 8 _ rfl w' h, CQ.out 9 _ rfl w' h, CQ.out 10 _ rfl w' h, CQ.out 11 _ rfl w' h, CQ.out 12 _ rfl w' h, h⟩
  have BB := hid ((Below.refl w2.heap.size w2).drew)
  clear HW1 HW2 s1 CP CQ
  go_region_held_law (fun w' => w'.cell? ⟨w.heap.size, 0, none⟩ = some (.string p.name) ∧ w'.cell? ⟨w.heap.size, 1, none⟩ = some (.string p.cur) ∧ w'.cell? ⟨w.heap.size, 2, none⟩ = some (.int .i64 p.a.y) ∧ w'.cell? ⟨w.heap.size, 3, none⟩ = some (.int .i64 p.a.m) ∧ w'.cell? ⟨w.heap.size, 4, none⟩ = some (.int .i64 p.a.d) ∧ w'.cell? ⟨w.heap.size, 5, none⟩ = some (.int .i64 p.b.y) ∧ w'.cell? ⟨w.heap.size, 6, none⟩ = some (.int .i64 p.b.m) ∧ w'.cell? ⟨w.heap.size, 7, none⟩ = some (.int .i64 p.b.d) ∧ w'.cell? ⟨w.heap.size, 8, none⟩ = some (.slice ma p.meters.length mc) ∧ w'.cell? ⟨w.heap.size, 9, none⟩ = some (.slice fa p.fees.length fc) ∧ w'.cell? ⟨w.heap.size, 10, none⟩ = some (.slice ca p.charges.length cc) ∧ w'.cell? ⟨w.heap.size, 11, none⟩ = some (.int .i64 p.line) ∧ w'.cell? ⟨w.heap.size, 12, none⟩ = some (.int .i64 p.col) ∧ w'.cell? ⟨w.heap.size + 1, 0, none⟩ = some (.string q.name) ∧ w'.cell? ⟨w.heap.size + 1, 1, none⟩ = some (.string q.cur) ∧ w'.cell? ⟨w.heap.size + 1, 2, none⟩ = some (.int .i64 q.a.y) ∧ w'.cell? ⟨w.heap.size + 1, 3, none⟩ = some (.int .i64 q.a.m) ∧ w'.cell? ⟨w.heap.size + 1, 4, none⟩ = some (.int .i64 q.a.d) ∧ w'.cell? ⟨w.heap.size + 1, 5, none⟩ = some (.int .i64 q.b.y) ∧ w'.cell? ⟨w.heap.size + 1, 6, none⟩ = some (.int .i64 q.b.m) ∧ w'.cell? ⟨w.heap.size + 1, 7, none⟩ = some (.int .i64 q.b.d) ∧ w'.cell? ⟨w.heap.size + 1, 8, none⟩ = some (.slice ma' q.meters.length mc') ∧ w'.cell? ⟨w.heap.size + 1, 9, none⟩ = some (.slice fa' q.fees.length fc') ∧ w'.cell? ⟨w.heap.size + 1, 10, none⟩ = some (.slice ca' q.charges.length cc') ∧ w'.cell? ⟨w.heap.size + 1, 11, none⟩ = some (.int .i64 q.line) ∧ w'.cell? ⟨w.heap.size + 1, 12, none⟩ = some (.int .i64 q.col) ∧ Below w2.heap.size w2 w')
    ((refine K.out _ ?_; exact BB.out))
    (first
      | (go_at_call_of 37 (Value.agg #[.string p.name, .string p.cur, .int .i64 p.a.y, .int .i64 p.a.m, .int .i64 p.a.d, .int .i64 p.b.y, .int .i64 p.b.m, .int .i64 p.b.d, .slice ma p.meters.length mc, .slice fa p.fees.length fc, .slice ca p.charges.length cc, .int .i64 p.line, .int .i64 p.col])
         refine (rP _ (bel_on B2.out BB.out)).mono ?_
         rintro e w' ⟨a1, c1, rfl, h1, b⟩
         replace BB := hid (BB.out.trans (b.mono BB.out.size))
         have H1 := hid h1
         clear b h1)
      | (go_at_call 37
         refine (rQ _ (bel_on B2.out BB.out)).mono ?_
         rintro e w' ⟨a2, c2, rfl, h2, b⟩
         replace BB := hid (BB.out.trans (b.mono BB.out.size))
         replace H1 := hid (H1.out.on b)
         have H2 := hid h2
         clear b h2)
      | (go_at_call 36
         refine (cT _ _ _ _ _ H1.out H2.out).mono ?_
         rintro e w' ⟨rfl, b⟩
         replace BB := hid (BB.out.trans (b.mono BB.out.size))
         clear b))
  go_wp2
  go_ret
  exact ⟨rfl, bel_on B2.out BB.out⟩
end Go.Proofs.YteelbdcgdkpioaaGreatDoor.R6
